import PyProof.Rows.All
import Wide.All
import OpenK.AllK
import Wide.FinOn
import HandS.ForMost
import HandS.SetKeys
import HandS.Strs
import HandS.Wide
import HandS.IsInst
import HandS.Evl
import HandS.Codes
import HandS.Walk
import HandS.TupAny
import HandS.Style
import HandS.TupLe
import HandS.Deep
import HandS.DictEq
import PyProof.EqKinds
import KE.GoesMore
import HandS.Iter
import PyProof.EnumMake
import PyProof.NeKinds
import HandS.More
import HandS.Zip
import HandS.FStr
import HandS.StrMore
import HandS.WordsExc
import HandS.ExcOwn
import HandS.TryOnly
import HandS.ExcInit
import HandS.ExcField
import HandS.ExcIs
import HandS.ExcValue
import KE.KExcIs
import HandS.Lambda
import PyProof.ReprRoads
import HandS.EndTab
import HandS.EndOwn
import KE.KNestM
import HandS.TupMul
import PySem.Challenge.RW_loanpairs_k04_errors_of_words
set_option Elab.async false
set_option linter.all false
set_option maxRecDepth 100000
namespace Lp
open PySem PySem.Spec PyProof.Rows L2

/-! ### the members of a list, each once -/
section
variable {α : Type} [DecidableEq α]
def dstep (acc : List α) (k : α) : List α := if k ∈ acc then acc else acc ++ [k]
def dist (ks : List α) : List α := ks.foldl dstep []
theorem dist_snoc (ks : List α) (k : α) : dist (ks ++ [k]) = dstep (dist ks) k := by
  unfold dist
  rw [List.foldl_append]
  rfl
theorem dstep_mem {acc : List α} {k j : α} : j ∈ dstep acc k ↔ j ∈ acc ∨ j = k := by
  unfold dstep
  by_cases h : k ∈ acc
  · rw [if_pos h]
    constructor
    · exact .inl
    · rintro (z | rfl)
      · exact z
      · exact h
  · rw [if_neg h, List.mem_append, List.mem_singleton]
theorem foldl_dstep_mem (j : α) : ∀ (ks acc : List α), j ∈ ks.foldl dstep acc ↔ j ∈ acc ∨ j ∈ ks
  | [], acc => by simp
  | k :: r, acc => by
    show j ∈ r.foldl dstep (dstep acc k) ↔ _
    rw [foldl_dstep_mem j r, dstep_mem, List.mem_cons, or_assoc]
theorem dist_mem {ks : List α} {j : α} : j ∈ dist ks ↔ j ∈ ks := by
  unfold dist
  rw [foldl_dstep_mem]
  simp
theorem foldl_dstep_le : ∀ (ks acc : List α), (ks.foldl dstep acc).length ≤ acc.length + ks.length
  | [], acc => by simp
  | k :: r, acc => by
    have ih := foldl_dstep_le r (dstep acc k)
    have h : (dstep acc k).length ≤ acc.length + 1 := by
      unfold dstep
      split
      · omega
      · rw [List.length_append, List.length_singleton]
        omega
    show (r.foldl dstep (dstep acc k)).length ≤ _
    rw [List.length_cons]
    omega
theorem dist_le (ks : List α) : (dist ks).length ≤ ks.length := by
  have h := foldl_dstep_le ks []
  unfold dist
  simpa using h
theorem foldl_dstep_eq : ∀ (ks acc : List α), (ks.foldl dstep acc).length = acc.length + ks.length ↔ (∀ k ∈ ks, k ∉ acc) ∧ ks.Nodup
  | [], acc => by simp
  | k :: r, acc => by
    show (r.foldl dstep (dstep acc k)).length = _ ↔ _
    rw [List.length_cons, List.nodup_cons]
    have le := foldl_dstep_le r (dstep acc k)
    by_cases h : k ∈ acc
    · have e : dstep acc k = acc := if_pos h
      rw [e] at le ⊢
      constructor
      · intro z
        omega
      · rintro ⟨z, _⟩
        exact absurd h (z k List.mem_cons_self)
    · have e : dstep acc k = acc ++ [k] := if_neg h
      rw [e, show acc.length + (r.length + 1) = (acc ++ [k]).length + r.length by rw [List.length_append, List.length_singleton]; omega, foldl_dstep_eq r (acc ++ [k])]
      constructor
      · rintro ⟨z1, z2⟩
        refine ⟨fun j hj => ?_, ?_, z2⟩
        · rcases List.mem_cons.mp hj with rfl | hj
          · exact h
          · exact fun q => z1 j hj (List.mem_append_left _ q)
        · exact fun q => z1 k q (List.mem_append_right _ (List.mem_singleton.mpr rfl))
      · rintro ⟨z1, z2, z3⟩
        refine ⟨fun j hj q => ?_, z3⟩
        rcases List.mem_append.mp q with q | q
        · exact z1 j (List.mem_cons_of_mem _ hj) q
        · rw [List.mem_singleton] at q
          subst q
          exact z2 hj
theorem dist_eq (ks : List α) : (dist ks).length = ks.length ↔ ks.Nodup := by
  have h := foldl_dstep_eq ks []
  simp only [List.length_nil, Nat.zero_add] at h
  unfold dist
  rw [h]
  simp
end

/-! ### set(xs) of a list or tuple of ints and texts -/
instance (priority := 5000) keyBeq : BEq Key := instBEqOfDecidableEq
section
variable {P : Program} {w : World} {A : Around} {R : Result → Shared → Prop} {I : Addr} {fp wr : List Addr} {G : Array GenState → Array GenState → Prop} {n : Nat} {Pv : Nat → Value → Prop} {St : Nat → Shared → Prop}
/-- what the set at c is to hold when the keys of ks have been added -/
abbrev SetHas (P : Program) (w : World) (h : Heap) (c : Addr) (ks : List Key) : Prop := h.SetOf (mixKind P w) c (fun j => decide (j ∈ ks)) (dist ks).length
theorem SetHas.moved {h h' : Heap} {c : Addr} {ks : List Key} (z : SetHas P w h c ks) (k : ∀ o, h.get? c = some o → h'.get? c = some o) : SetHas P w h' c ks := by
  obtain ⟨o, es, ep, t, ho, q⟩ := z
  exact ⟨o, es, ep, t, k o ho, q⟩
theorem loopKeys (W : WalksS P w A.in1 I fp wr G n Pv St) {c : Addr} (out : c ∉ fp) (ks : List Key) (len : ks.length = n) (few : n + 1 < scanBound)
    (hval : ∀ i v, Pv i v → ∃ k, ks[i]? = some k ∧ RelV (kV k) v) :
    ∀ (m i : Nat) (s : Shared), i + m = n → St i s → SetHas P w s.heap c (ks.take i) →
      (∀ z, Moved (c :: wr) G s z → SetHas P w z.heap c ks → R (.ok (.ret .none)) z) →
      codeAny (model P w) A (.builtin "set.update.loop" ⟨[.ref c, .ref I], []⟩) R s := by
  have outw : c ∉ wr := fun q => out (W.sub _ q)
  have wide : ∀ q ∈ wr, q ∈ c :: wr := fun q hq => List.mem_cons_of_mem _ hq
  intro m
  induction m with
  | zero =>
    intro i s him hst hold fin
    obtain rfl : i = n := by omega
    refine codeAny_builtin PyProof.Rows.F.entry_set_update_loop (?_ : _)
    rw [Around.under_plainId PyProof.Rows.F.plain_set_update_loop (_ : _)]
    show wpAny _ A.in1 (pyNext (Value.ref I) >>= _) _ _ s
    refine wpAny_bind (W.done s _ _ hst fun z mv => ?_)
    show wpAny _ A.in1 (ret (Value.none)) _ _ z
    have al : ks.take i = ks := List.take_of_length_le (by omega)
    rw [al] at hold
    exact wpAny_pure (fin z (mv.mono wide) (hold.moved fun o e => mv.heap c o outw e))
  | succ m ih =>
    intro i s him hst hold fin
    have below : i < n := by omega
    refine codeAny_builtin PyProof.Rows.F.entry_set_update_loop (?_ : _)
    rw [Around.under_plainId PyProof.Rows.F.plain_set_update_loop (_ : _)]
    show wpAny _ A.in1 (pyNext (Value.ref I) >>= _) _ _ s
    refine wpAny_bind (W.item i s _ _ below hst fun v z pv hst2 mv => ?_)
    obtain ⟨k, hk, rk⟩ := hval i v pv
    have hold2 : SetHas P w z.heap c (ks.take i) := hold.moved fun o e => mv.heap c o outw e
    show wpAny _ A.in1 (holding [v] (setAdd c v) >>= _) _ _ z
    refine wpAny_bind (wpAny_holding (?_ : _))
    unfold setAdd
    refine wpAny_holding (?_ : _)
    refine wpAny_bind ((mixKind P w).pyHash (k := k) (kV_is rk) (?_ : _))
    have room : (dist (ks.take i)).length + 1 < scanBound := by
      have a := dist_le (ks.take i)
      rw [List.length_take] at a
      omega
    refine wpAny_setAddHashed_of (knd := mixKind P w) (s := { z with toks := z.toks + 1 }) (kV_is rk) (key_scan rk) hold2 room fun h' same hold3 => ?_
    have next : SetHas P w h' c (ks.take (i + 1)) := by
      have e : ks.take (i + 1) = ks.take i ++ [k] := by
        rw [List.take_add_one, hk]
        rfl
      rw [e]
      refine SetOf_congr hold3 (fun j => (?_ : _)) (?_ : _)
      · rw [← Bool.decide_or]
        exact decide_eq_decide.mpr (by rw [List.mem_append, List.mem_singleton])
      · rw [dist_snoc]
        unfold dstep
        by_cases q : k ∈ ks.take i
        · rw [if_pos (decide_eq_true q), if_pos (dist_mem.mpr q)]
        · rw [if_neg (fun b => q (of_decide_eq_true b)), if_neg (fun b => q (dist_mem.mp b)), List.length_append, List.length_singleton]
    refine wpAny_pure ⟨plainId_quiet PyProof.Rows.F.plain_set_update_loop _, ih (i + 1) _ (by omega) (W.frame _ z _ _ hst2 (Nat.le_succ _) fun q hq o e => ?_) next fun y mv2 hold4 => ?_⟩
    · rw [same.2 q (fun z : q = c => out (z ▸ hq))]
      exact e
    · refine fin y (Moved.trans W.gtrans ((mv.mono wide).then_heap (Nat.le_succ _) fun q o hq e => ?_) mv2) hold4
      rw [same.2 q (fun z : q = c => hq (z ▸ List.mem_cons_self))]
      exact e
end
section
variable {P : Program} {w : World} {A : Around} {E : Value → Shared → Prop} {s : Shared}
/-- a set as it begins -/
abbrev noSet (led : Bool) : Obj := { cls := .type "set", dict := none, data := .set #[] 0 (.fresh 0 0 led) }

set_option maxHeartbeats 3200000 in
theorem set_of_list {l : Addr} {vs : List Value} {ks : List Key} {Q : Value → Shared → Prop} (calm : A.handled = none) (at_ : s.heap.IsList l vs.toArray)
    (rel : Vals (ks.map kV) vs) (few : ks.length + 1 < scanBound)
    (q : ∀ (h' : Heap) (tk : Nat), SetHas P w h' s.heap.objs.size ks → (∀ b o, s.heap.get? b = some o → h'.get? b = some o) → Q (.ref s.heap.objs.size) { s with heap := h', toks := tk }) :
    wpAny (model P w) A (call (.type "set") [.ref l]) Q E s := by
  have len : vs.toArray.size = ks.length := by
    rw [List.size_toArray, ← rel.length, List.length_map]
  obtain ⟨_, _, mro⟩ := PySem.F.called_set.mro
  have f1 := PySem.F.called_set.made
  have f2 := PySem.F.called_set.sub
  refine wpAny_call (codeAny_of_tree (?_ : _))
  show wpAny _ _ (callAny (Value.type "set") _) _ _ _
  refine wpAny_pure ⟨Code.quiet_builtin (_ : _) (by decide +kernel), codeAny_builtin PySem.F.entry_type_call (?_ : _)⟩
  rw [Around.under_plain (weight_type_call_type "set" [Value.ref l] []) rfl]
  have f3 := PySem.F.called_set.notType
  have f4 := PySem.F.called_set.canCreate
  have f5 := PySem.F.typeCall_set_1 (Value.ref l)
  repeat (any_goals (first | assumption | wp_step))
  refine codeAny_mono (code_set_new_1 (Value.ref l) (E := E) (Q₁ := fun r z => ∃ led : Bool, r = .ref s.heap.objs.size ∧ z = { s with heap := s.heap.push (noSet led) }) fun led => ⟨led, rfl, rfl⟩) fun r z hr => ?_
  cases r with
  | error e => exact hr
  | ok fl =>
    cases fl with
    | ret obj =>
      obtain ⟨led, rfl, rfl⟩ := hr
      have g0 : (s.heap.push (noSet led)).get? s.heap.objs.size = some (noSet led) := Heap.get?_push_size _ rfl
      have ty : Shared.TypeIs { s with heap := s.heap.push (noSet led) } (.ref s.heap.objs.size) "set" := ⟨_, g0, rfl⟩
      have f6 := PySem.F.called_set.init.lookup
      have f7 := PySem.F.called_set.init.bind (Value.ref s.heap.objs.size)
      repeat (any_goals (first | assumption | wp_step))
      refine codeAny_mono (codeAny_call_builtin (R := wants (fun r z => r = .none ∧ ∃ h' tk, z = { s with heap := h', toks := tk } ∧ SetHas P w h' s.heap.objs.size ks ∧
        (∀ b o, s.heap.get? b = some o → h'.get? b = some o)) E) PySem.F.called_set.init.plain PySem.F.entry_set_init (check_set_init_1 ty (?_ : _))) fun r2 z2 hr2 => ?_
      · obtain ⟨⟨oc, od, odt, osl⟩, ho, hc, nl, hd⟩ := at_
        simp only at hc hd
        subst hc
        subst hd
        have ho' : (s.heap.push (noSet led)).get? l = some { cls := .type "list", dict := od, data := .seq vs.toArray nl, slots := osl } := Heap.get?_push_of_some _ ho
        have f8 := PySem.F.sub_list_set
        have f9 := PySem.F.sub_list_frozenset
        have nd : (Value.type "list" == Value.type "dict") = false := by decide +kernel
        have at1 : (s.heap.push (noSet led)).IsList l vs.toArray := ⟨_, ho', rfl, nl, rfl⟩
        have nsd : noSet led = { cls := .type "set", dict := none, data := .set #[] 0 (.fresh 0 0 led) } := rfl
        unfold Builtin.«set.__init__» noKeywords Builtin.Frozenset.updateFrom
        generalize hPI : pyIter = PI
        wp_walk
        subst hPI
        refine wpAny_pyIter_list at1 (?_ : _)
        refine wpAny_bind (wpAny_runValue (?_ : _))
        have lo : l < s.heap.objs.size := Heap.lt_size ho
        have calm3 : A.in1.in1.in1.handled = none := by
          simp [calm]
        have apart : l ≠ (s.heap.push (noSet led)).objs.size := by
          rw [Heap.size_push]
          exact Nat.ne_of_lt (Nat.lt_succ_of_lt lo)
        have out : s.heap.objs.size ∉ [(s.heap.push (noSet led)).objs.size, l] := by
          rw [Heap.size_push]
          simp only [List.mem_cons, List.not_mem_nil, or_false, not_or]
          exact ⟨Nat.ne_of_lt (Nat.lt_succ_self _), (Nat.ne_of_lt lo).symm⟩
        refine loopKeys ((Walks.list calm3 _ l apart vs.toArray).toS) out ks len.symm (by omega) (fun i v hv => ?hv) vs.toArray.size 0 _ (by omega) ⟨⟨_, Heap.get?_push_size _ rfl, rfl, rfl⟩, (at1.push _)⟩ ?h0 ?h1
        case hv =>
          have hv2 : vs[i]? = some v := by simpa using hv
          cases e : ks[i]? with
          | none =>
            have b1 : ks.length ≤ i := List.getElem?_eq_none_iff.mp e
            have b2 := (List.getElem?_eq_some_iff.mp hv2).1
            rw [List.size_toArray] at len
            omega
          | some k =>
            obtain ⟨u, hu, ru⟩ := rel.get (i := i) (x := kV k) (by rw [List.getElem?_map, e] <;> rfl)
            rw [hv2] at hu
            cases hu
            exact ⟨k, rfl, ru⟩
        case h0 =>
          have gi : ((s.heap.push (noSet led)).push { cls := .type "list_iterator", data := .fields #[.ref l, .int 0 0] }).get? s.heap.objs.size = some (noSet led) := Heap.get?_push_of_some _ g0
          exact (setObjOf_fresh (knd := mixKind P w) led).setOf gi (by unfold scanBound; omega)
        case h1 =>
          intro z mv hold
          obtain ⟨h', g', d', tk', os'⟩ := z
          obtain rfl : g' = s.gens := mv.gens
          obtain rfl : d' = s.drawn := mv.drawn
          obtain rfl : os' = s.os := mv.os
          show wpAny _ _ _ _ _ _
          refine wpAny_pure (?_ : _)
          show wpAny _ _ (ret (Value.none)) _ _ _
          refine wpAny_pure ⟨rfl, h', tk', rfl, hold, fun b o e => ?_⟩
          have lb : b < s.heap.objs.size := Heap.lt_size e
          have e2 : ((s.heap.push (noSet led)).push { cls := .type "list_iterator", data := .fields #[.ref l, .int 0 0] }).get? b = some o := Heap.get?_push_of_some _ (Heap.get?_push_of_some _ e)
          refine mv.heap b o (?_ : _) e2
          rw [Heap.size_push]
          simp only [List.mem_cons, List.not_mem_nil, or_false, not_or]
          exact ⟨Nat.ne_of_lt lb, Nat.ne_of_lt (Nat.lt_succ_of_lt lb)⟩
      · cases r2 with
        | error e => exact hr2
        | ok fl2 =>
          cases fl2 with
          | ret r =>
            obtain ⟨rfl, h', tk, rfl, hold, keep⟩ := hr2
            repeat (any_goals (first | assumption | wp_step))
            exact q _ _ hold keep
          | _ => exact hr2.elim
    | _ => exact hr.elim

set_option maxHeartbeats 3200000 in
theorem set_of_tuple {l : Addr} {vs : List Value} {ks : List Key} {Q : Value → Shared → Prop} (calm : A.handled = none) (at_ : s.heap.IsTuple l vs.toArray)
    (rel : Vals (ks.map kV) vs) (few : ks.length + 1 < scanBound)
    (q : ∀ (h' : Heap) (tk : Nat), SetHas P w h' s.heap.objs.size ks → (∀ b o, s.heap.get? b = some o → h'.get? b = some o) → Q (.ref s.heap.objs.size) { s with heap := h', toks := tk }) :
    wpAny (model P w) A (call (.type "set") [.ref l]) Q E s := by
  have len : vs.toArray.size = ks.length := by
    rw [List.size_toArray, ← rel.length, List.length_map]
  obtain ⟨_, _, mro⟩ := PySem.F.called_set.mro
  have f1 := PySem.F.called_set.made
  have f2 := PySem.F.called_set.sub
  refine wpAny_call (codeAny_of_tree (?_ : _))
  show wpAny _ _ (callAny (Value.type "set") _) _ _ _
  refine wpAny_pure ⟨Code.quiet_builtin (_ : _) (by decide +kernel), codeAny_builtin PySem.F.entry_type_call (?_ : _)⟩
  rw [Around.under_plain (weight_type_call_type "set" [Value.ref l] []) rfl]
  have f3 := PySem.F.called_set.notType
  have f4 := PySem.F.called_set.canCreate
  have f5 := PySem.F.typeCall_set_1 (Value.ref l)
  repeat (any_goals (first | assumption | wp_step))
  refine codeAny_mono (code_set_new_1 (Value.ref l) (E := E) (Q₁ := fun r z => ∃ led : Bool, r = .ref s.heap.objs.size ∧ z = { s with heap := s.heap.push (noSet led) }) fun led => ⟨led, rfl, rfl⟩) fun r z hr => ?_
  cases r with
  | error e => exact hr
  | ok fl =>
    cases fl with
    | ret obj =>
      obtain ⟨led, rfl, rfl⟩ := hr
      have g0 : (s.heap.push (noSet led)).get? s.heap.objs.size = some (noSet led) := Heap.get?_push_size _ rfl
      have ty : Shared.TypeIs { s with heap := s.heap.push (noSet led) } (.ref s.heap.objs.size) "set" := ⟨_, g0, rfl⟩
      have f6 := PySem.F.called_set.init.lookup
      have f7 := PySem.F.called_set.init.bind (Value.ref s.heap.objs.size)
      repeat (any_goals (first | assumption | wp_step))
      refine codeAny_mono (codeAny_call_builtin (R := wants (fun r z => r = .none ∧ ∃ h' tk, z = { s with heap := h', toks := tk } ∧ SetHas P w h' s.heap.objs.size ks ∧
        (∀ b o, s.heap.get? b = some o → h'.get? b = some o)) E) PySem.F.called_set.init.plain PySem.F.entry_set_init (check_set_init_1 ty (?_ : _))) fun r2 z2 hr2 => ?_
      · obtain ⟨⟨oc, od, odt, osl⟩, ho, hc, nl, hd⟩ := at_
        simp only at hc hd
        subst hc
        subst hd
        have ho' : (s.heap.push (noSet led)).get? l = some { cls := .type "tuple", dict := od, data := .seq vs.toArray nl, slots := osl } := Heap.get?_push_of_some _ ho
        have f8 := PySem.F.sub_tuple_set
        have f9 := PySem.F.sub_tuple_frozenset
        have nd : (Value.type "tuple" == Value.type "dict") = false := by decide +kernel
        have at1 : (s.heap.push (noSet led)).IsTuple l vs.toArray := ⟨_, ho', rfl, nl, rfl⟩
        have nsd : noSet led = { cls := .type "set", dict := none, data := .set #[] 0 (.fresh 0 0 led) } := rfl
        unfold Builtin.«set.__init__» noKeywords Builtin.Frozenset.updateFrom
        generalize hPI : pyIter = PI
        wp_walk
        subst hPI
        refine wpAny_pyIter_tuple at1 (?_ : _)
        refine wpAny_bind (wpAny_runValue (?_ : _))
        have lo : l < s.heap.objs.size := Heap.lt_size ho
        have calm3 : A.in1.in1.in1.handled = none := by
          simp [calm]
        have apart : l ≠ (s.heap.push (noSet led)).objs.size := by
          rw [Heap.size_push]
          exact Nat.ne_of_lt (Nat.lt_succ_of_lt lo)
        have out : s.heap.objs.size ∉ [(s.heap.push (noSet led)).objs.size, l] := by
          rw [Heap.size_push]
          simp only [List.mem_cons, List.not_mem_nil, or_false, not_or]
          exact ⟨Nat.ne_of_lt (Nat.lt_succ_self _), (Nat.ne_of_lt lo).symm⟩
        refine loopKeys ((Walks.tuple calm3 _ l apart vs.toArray).toS) out ks len.symm (by omega) (fun i v hv => ?hv) vs.toArray.size 0 _ (by omega) ⟨⟨_, Heap.get?_push_size _ rfl, rfl, rfl⟩, (at1.push _)⟩ ?h0 ?h1
        case hv =>
          have hv2 : vs[i]? = some v := by simpa using hv
          cases e : ks[i]? with
          | none =>
            have b1 : ks.length ≤ i := List.getElem?_eq_none_iff.mp e
            have b2 := (List.getElem?_eq_some_iff.mp hv2).1
            rw [List.size_toArray] at len
            omega
          | some k =>
            obtain ⟨u, hu, ru⟩ := rel.get (i := i) (x := kV k) (by rw [List.getElem?_map, e] <;> rfl)
            rw [hv2] at hu
            cases hu
            exact ⟨k, rfl, ru⟩
        case h0 =>
          have gi : ((s.heap.push (noSet led)).push { cls := .type "tuple_iterator", data := .fields #[.ref l, .int 0 0] }).get? s.heap.objs.size = some (noSet led) := Heap.get?_push_of_some _ g0
          exact (setObjOf_fresh (knd := mixKind P w) led).setOf gi (by unfold scanBound; omega)
        case h1 =>
          intro z mv hold
          obtain ⟨h', g', d', tk', os'⟩ := z
          obtain rfl : g' = s.gens := mv.gens
          obtain rfl : d' = s.drawn := mv.drawn
          obtain rfl : os' = s.os := mv.os
          show wpAny _ _ _ _ _ _
          refine wpAny_pure (?_ : _)
          show wpAny _ _ (ret (Value.none)) _ _ _
          refine wpAny_pure ⟨rfl, h', tk', rfl, hold, fun b o e => ?_⟩
          have lb : b < s.heap.objs.size := Heap.lt_size e
          have e2 : ((s.heap.push (noSet led)).push { cls := .type "tuple_iterator", data := .fields #[.ref l, .int 0 0] }).get? b = some o := Heap.get?_push_of_some _ (Heap.get?_push_of_some _ e)
          refine mv.heap b o (?_ : _) e2
          rw [Heap.size_push]
          simp only [List.mem_cons, List.not_mem_nil, or_false, not_or]
          exact ⟨Nat.ne_of_lt lb, Nat.ne_of_lt (Nat.lt_succ_of_lt lb)⟩
      · cases r2 with
        | error e => exact hr2
        | ok fl2 =>
          cases fl2 with
          | ret r =>
            obtain ⟨rfl, h', tk, rfl, hold, keep⟩ := hr2
            repeat (any_goals (first | assumption | wp_step))
            exact q _ _ hold keep
          | _ => exact hr2.elim
    | _ => exact hr.elim

end
section
variable {X : Cx}
/-- set(xs): xs a list or tuple of ints and texts -/
def rSetOfK (K : PySem.W.Frag) (P : Program) (w : World) : List V → Hp → VK → Prop := fun vs H Q => ∃ (l : Addr) (ks : List Key), vs = [V.ref l] ∧ (SqL K H l (ks.map kV) ∨ SqT K H l (ks.map kV)) ∧ ks.length ≤ 4000 ∧
  ∀ p, H p = none → Q (.ref p) (upd H p (SetK P w p (fun j => decide (j ∈ ks)) (dist ks).length))
theorem cr_setOfK (hc : X.calm = true) : CallR X (.type "set") (rSetOfK X.K X.prog X.w) := by
  intro pins s σ H vs us Q I r h
  obtain ⟨l, ks, rfl, sq, few, q⟩ := h
  rw [Vals.ref1 r]
  have few2 : ks.length + 1 < scanBound := by
    unfold scanBound
    omega
  have fin : ∀ (h' : Heap) (tk : Nat), SetHas X.prog X.w h' s.heap.objs.size ks → (∀ b o, s.heap.get? b = some o → h'.get? b = some o) →
      ∃ y H2, Inv X pins σ H2 { s with heap := h', toks := tk } ∧ RelV y (.ref s.heap.objs.size) ∧ Q y H2 := fun h' tk hold keep =>
    ⟨.ref s.heap.objs.size, _, I.laid (t' := tk) keep (Nat.le_refl _) (setK_new hold), rfl, q _ (I.hok.fresh (Nat.le_refl _))⟩
  rcases sq with sq | sq
  · obtain ⟨its, rv, pl, _⟩ := I.list sq
    exact set_of_list (I.ok.hd hc) pl.isList rv few2 fin
  · obtain ⟨its, rv, pl, _⟩ := I.tuple sq
    exact set_of_tuple (I.ok.hd hc) pl rv few2 fin
/-- len of a set of ints and texts -/
theorem call_lenK : CallR X (.builtin "len") (fun vs H Q => ∃ (a : Addr) (S : Key → Bool) (n : Nat), vs = [V.ref a] ∧ H a = some (SetK X.prog X.w a S n) ∧ Q (.int n) H) := by
  intro pins s σ H vs us Q I r h
  obtain ⟨a, S, n, rfl, ha, q⟩ := h
  rw [Vals.ref1 r]
  obtain ⟨o, es, ep, t, ho, hex, hd, _, _, few, hf, hn⟩ := setK_get I ha
  unfold scanBound at few
  refine call_len_set ho hex hd hf (by omega) ⟨.int n, H, I.tok _, ⟨_, by rw [hn]⟩, q⟩
end
end Lp

namespace Lp
open PySem PySem.Spec PyProof.Rows L2

/-! ### further operators -/
def CPowW (i j : Int) : Prop := 0 ≤ j ∧ (Builtin.Int.intBits i : Int) * j ≤ 2 ^ 27
section
variable {X : Cx}
theorem op_powW : OpR X (binaryOp .Pow) (rI CPowW fun i j => .int (i ^ j.toNat)) := opI fun _ _ _ _ _ _ _ hc q => pow_int hc.1 hc.2 q
/-- a text k times -/
def txtRep (z : Str) (k : Nat) : Str := ⟨((List.replicate k z.cps.toList).flatten).toArray⟩
theorem txtRep_list (z : Str) (k : Nat) : (txtRep z k).cps.toList = (List.replicate k z.cps.toList).flatten := rfl
theorem fold_app (a : Array Nat) : ∀ (k : Nat) (acc : Array Nat), ((List.replicate k a).foldl (· ++ ·) acc).toList = acc.toList ++ (List.replicate k a.toList).flatten
  | 0, acc => by simp
  | k + 1, acc => by
    rw [List.replicate_succ, List.foldl_cons, fold_app a k (acc ++ a), List.replicate_succ, List.flatten_cons, Array.toList_append, List.append_assoc]
theorem op_repS : OpR X (binaryOp .Mult) (fun x y H Q => ∃ (z : Str) (k : Nat), x = .str z ∧ y = .int (k : Int) ∧ 2 ≤ k ∧ k ≤ 100000 ∧ 0 < z.length ∧ z.length * k ≤ 100000 ∧ Q (.str (txtRep z k)) H) := by
  intro pins s σ H x y v u Q I rx ry h
  obtain ⟨z, k, rfl, rfl, h2, hk, h0, hz, q⟩ := h
  obtain ⟨t, rfl⟩ := rx
  obtain ⟨t', rfl⟩ := ry
  have e1 : ¬ ((k : Int) < 1) := by omega
  have e2 : ((k : Int) == 1 || z.length == 0) = false := by
    rw [Bool.or_eq_false_iff]
    exact ⟨beq_eq_false_iff_ne.mpr (by omega), beq_eq_false_iff_ne.mpr (by omega)⟩
  refine PySem.P.mul_str ?_ (fun _ _ => ?_) (fun _ _ => ?_) ?_
  · rw [Bool.or_eq_false_iff]
    exact ⟨decide_eq_false (by omega), decide_eq_false (by omega)⟩
  · have a : (2 ^ 63 - 1 : Int) / k ≥ (2 ^ 63 - 1 : Int) / 100000 := by
      rw [ge_iff_le, Int.le_ediv_iff_mul_le (by omega), show (2 ^ 63 - 1 : Int) / 100000 = 92233720368547 by decide]
      omega
    have b : (2 ^ 63 - 1 : Int) / 100000 = 92233720368547 := by decide
    have c : z.length ≤ z.length * k := Nat.le_mul_of_pos_right _ (by omega)
    omega
  · show Builtin.Str.tooLong _ = false
    unfold Builtin.Str.tooLong
    have := sizeLine_eq
    exact decide_eq_false (by rw [Int.toNat_natCast]; omega)
  · rw [if_neg e1, if_neg (by rw [e2]; exact Bool.false_ne_true)]
    have e3 : (⟨(List.replicate (k : Int).toNat z.cps).foldl (· ++ ·) #[]⟩ : Str) = txtRep z k := by
      unfold txtRep
      congr 1
      apply Array.ext'
      rw [fold_app]
      simp
    rw [e3]
    dsimp only [Made.post]
    refine ⟨?_, .str (txtRep z k), H, I.tok _, ⟨_, rfl⟩, q⟩
    have e4 : (txtRep z k).length = k * z.length := by
      show (txtRep z k).cps.size = k * z.cps.size
      rw [← Array.length_toList, txtRep_list]
      simp only [List.length_flatten, List.map_replicate, List.sum_replicate_nat, Array.length_toList]
    rw [e4, Nat.mul_comm, sizeLine_eq]
    omega
end

/-! ### what stays, the bag -/
/-- all that is tracked stays, but at b -/
def Keep (b : Addr) (H H' : Hp) : Prop := ∀ a o, a ≠ b → H a = some o → H' a = some o
theorem Keep.refl (b : Addr) (H : Hp) : Keep b H H := fun _ _ _ h => h
theorem Keep.trans {b : Addr} {H H1 H2 : Hp} (k : Keep b H H1) (l : Keep b H1 H2) : Keep b H H2 := fun a o n h => l a o n (k a o n h)
theorem Keep.of {b : Addr} {H H' : Hp} (s : Same H H') : Keep b H H' := fun a o _ h => s a o h
theorem Keep.upd {b : Addr} {H : Hp} {o : HO} : Keep b H (upd H b o) := fun a u n h => by
  rw [upd_ne n]
  exact h
theorem same_upd {H : Hp} {p : Addr} {o : HO} (h : H p = none) : Same H (upd H p o) := fun b x e => by
  rw [upd_ne (ne_of_none e h)]
  exact e
theorem keep_new {b : Addr} {H : Hp} {p : Addr} {o : HO} (h : H p = none) : Keep b H (L2.upd H p o) := .of (same_upd h)
theorem Keep.snoc {b : Addr} {H H1 : Hp} {p : Addr} {o : HO} (k : Keep b H H1) (h : H1 p = none) : Keep b H (L2.upd H1 p o) := k.trans (keep_new h)
theorem same_snoc {H H1 : Hp} {p : Addr} {o : HO} (k : Same H H1) (h : H1 p = none) : Same H (L2.upd H1 p o) := k.trans (same_upd h)
/-- what was not there may change -/
theorem same_put {H : Hp} {p : Addr} {o : HO} {H1 : Hp} (k : Same H H1) (h : H p = none) : Same H (L2.upd H1 p o) := fun a u e => by
  rw [upd_ne (ne_of_none e h)]
  exact k a u e
theorem keep_put {b : Addr} {H : Hp} {p : Addr} {o : HO} {H1 : Hp} (k : Keep b H H1) (h : H p = none) : Keep b H (L2.upd H1 p o) := fun a u n e => by
  rw [upd_ne (ne_of_none e h)]
  exact k a u n e
theorem sqT_same {K : PySem.W.Frag} {H H' : Hp} {a : Addr} {xs : List V} (e : Same H H') (h : SqT K H a xs) : SqT K H' a xs := by
  rcases h with (h | ⟨o, h⟩) | h
  · exact .inl (.inl (e _ _ h))
  · exact .inl (.inr ⟨o, e _ _ h⟩)
  · exact .inr h
theorem sqL_keep {K : PySem.W.Frag} {b : Addr} {H H' : Hp} {a : Addr} {xs : List V} (e : Keep b H H') (n : a ≠ b) (h : SqL K H a xs) : SqL K H' a xs := by
  rcases h with (h | ⟨o, h⟩) | h
  · exact .inl (.inl (e _ _ n h))
  · exact .inl (.inr ⟨o, e _ _ n h⟩)
  · exact .inr h
theorem sqT_keep {K : PySem.W.Frag} {b : Addr} {H H' : Hp} {a : Addr} {xs : List V} (e : Keep b H H') (n : a ≠ b) (h : SqT K H a xs) : SqT K H' a xs := by
  rcases h with (h | ⟨o, h⟩) | h
  · exact .inl (.inl (e _ _ n h))
  · exact .inl (.inr ⟨o, e _ _ n h⟩)
  · exact .inr h
/-- a bag at b, out of which at most n rolls were drawn behind its number's end -/
def Bag (H : Hp) (b : Addr) (n : Nat) : Prop := ∃ x y z : Int, H b = some (.lst [.int x, .int y, .int z]) ∧ 0 ≤ z ∧ z ≤ n
theorem Bag.mono {H : Hp} {b : Addr} {n m : Nat} (g : Bag H b n) (h : n ≤ m) : Bag H b m := by
  obtain ⟨x, y, z, h1, h2, h3⟩ := g
  exact ⟨x, y, z, h1, h2, by omega⟩
theorem Bag.same {H H' : Hp} {b : Addr} {n : Nat} (g : Bag H b n) (k : Same H H') : Bag H' b n := by
  obtain ⟨x, y, z, h1, h2⟩ := g
  exact ⟨x, y, z, k _ _ h1, h2⟩
theorem Bag.put {H : Hp} {b p : Addr} {n : Nat} {o : HO} (g : Bag H b n) (h : b ≠ p) : Bag (upd H p o) b n := by
  obtain ⟨x, y, z, h1, h2⟩ := g
  exact ⟨x, y, z, by rw [upd_ne h]; exact h1, h2⟩
theorem Bag.new {H : Hp} {b p : Addr} {n : Nat} {o : HO} (g : Bag H b n) (h : H p = none) : Bag (upd H p o) b n := g.same (same_upd h)
theorem Bag.ne {H : Hp} {b p : Addr} {n : Nat} (g : Bag H b n) (h : H p = none) : b ≠ p := by
  obtain ⟨x, y, z, h1, _⟩ := g
  exact ne_of_none h1 h
/-- a list of texts is no bag -/
theorem Bag.strs {H : Hp} {b a : Addr} {n : Nat} {zs : List Str} (g : Bag H b n) (h : H a = some (.lst (zs.map V.str))) : a ≠ b := by
  obtain ⟨x, y, z, h1, _⟩ := g
  refine ne_of h h1 fun e => ?_
  cases zs with
  | nil => cases e
  | cons s r => cases e
theorem Bag.tup {H : Hp} {b a : Addr} {n : Nat} {xs : List V} (g : Bag H b n) (h : H a = some (.tup xs)) : a ≠ b := by
  obtain ⟨x, y, z, h1, _⟩ := g
  exact ne_of h h1 fun e => nomatch e
theorem Bag.dk {H : Hp} {b a : Addr} {n : Nat} {xs : List (Key × V)} (g : Bag H b n) (h : H a = some (.dK xs)) : a ≠ b := by
  obtain ⟨x, y, z, h1, _⟩ := g
  exact ne_of h h1 fun e => nomatch e
/-- most rolls that a bag may have given -/
def bagMost : Nat := 1000000000
/-! ### a def by its name -/
abbrev Cal (P : Program) (w : World) (K : PySem.W.Frag) (mg : Str → Option Value) (base : Heap) (k : Nat) (x : Str) (sp : Sp) : Prop := C8.Cal P w K mg base k x sp []
theorem mkCal {P : Program} {w : World} {K : PySem.W.Frag} {mg : Str → Option Value} {base : Heap} {k : Nat} {x : Str} {st : Stmt} {sp : Sp} {f : Addr} {fd : FuncData} {ps : List Str}
    (h : FnOk P w K mg base CX0 k f fd ps sp) (F : Fun K x x st f fd) (b : Binds K fd ps []) (g : mg x = some (.ref f)) : Cal P w K mg base k x sp := ⟨f, fd, ps, [], h, g, F.kp, b, .nil⟩
/-! ### rules with the written part named, for use within a comprehension -/
section
variable {X : Cx} {K : PySem.W.Frag}
theorem in_K (h : X.K = K) : OpR X (compareOp .In) (rIn K false) := h ▸ op_in_seq
theorem notIn_K (h : X.K = K) : OpR X (compareOp .NotIn) (rIn K true) := h ▸ op_notIn_seq
theorem ixL_K (h : X.K = K) : IxR X (rIxL K) := h ▸ ix_list
theorem ixT_K (h : X.K = K) : IxR X (rIxT K) := h ▸ ix_tup
theorem slL_K (h : X.K = K) : SlR X (rSlL K) := h ▸ sl_list
theorem len_K (h : X.K = K) : CallR X (.builtin "len") (fun xs H Q => ∃ p ys, xs = [.ref p] ∧ (SqL K H p ys ∨ SqT K H p ys) ∧ Q (.int ys.length) H) := h ▸ call_len_seq
theorem eqD_K (h : X.K = K) (hu : X.A.units + 64 < cLine) : OpR X (compareOp .Eq) (rEqD K) := h ▸ op_eqD hu
theorem neD_K (h : X.K = K) (hu : X.A.units + 64 < cLine) : OpR X (compareOp .NotEq) (rNeD K) := h ▸ op_neD hu
theorem isi_K (h : X.K = K) : CallR X (.builtin "isinstance") (rIsi K) := h ▸ call_isi
theorem all_K (h : X.K = K) (hc : X.calm = true) : CallR X (.builtin "all") (rAll K) := h ▸ cr_all hc
end
end Lp

namespace Lp
open PySem PySem.Spec PyProof.Rows L2

/-! ### texts as lists of codes -/
abbrev cs (z : Str) : List Nat := z.cps.toList
theorem cs_len (z : Str) : z.length = (cs z).length := by
  show z.cps.size = _
  rw [Array.length_toList]
theorem cs_ext {x y : Str} (h : cs x = cs y) : x = y := by
  cases x
  cases y
  congr 1
  exact Array.ext' h
theorem cs_iff {x y : Str} : x = y ↔ cs x = cs y := ⟨fun h => by rw [h], cs_ext⟩
theorem cs_app (x y : Str) : cs (x ++ y) = cs x ++ cs y := by
  show (x.cps ++ y.cps).toList = _
  rw [Array.toList_append]
theorem cs_one (c : Nat) : cs ⟨#[c]⟩ = [c] := rfl
theorem cs_mk (l : List Nat) : cs ⟨l.toArray⟩ = l := rfl
theorem cs_rep (z : Str) (k : Nat) : cs (txtRep z k) = (List.replicate k (cs z)).flatten := rfl
theorem fold_join (a : Array Nat) : ∀ (ys : List Str) (acc : Array Nat), (ys.foldl (fun acc p => acc ++ (Str.ofString "").cps ++ p.cps) acc).toList = acc.toList ++ (ys.map cs).flatten
  | [], acc => by simp
  | y :: r, acc => by
    rw [List.foldl_cons, fold_join a r, List.map_cons, List.flatten_cons, ← List.append_assoc]
    congr 1
    rw [Array.toList_append, Array.toList_append]
    show acc.toList ++ [] ++ _ = _
    rw [List.append_nil]
theorem cs_join (ys : List Str) : cs (Txt.join (Str.ofString "") ys) = (ys.map cs).flatten := by
  cases ys with
  | nil => rfl
  | cons y r =>
    show (r.foldl (fun acc p => acc ++ (Str.ofString "").cps ++ p.cps) y.cps).toList = _
    rw [fold_join #[], List.map_cons, List.flatten_cons]
theorem join_ones (ws : List Nat) : cs (Txt.join (Str.ofString "") (ws.map fun c => ⟨#[c]⟩)) = ws := by
  rw [cs_join, List.map_map]
  induction ws with
  | nil => rfl
  | cons c r ih =>
    rw [List.map_cons, List.flatten_cons, ih]
    rfl
theorem ones_sum (ws : List Nat) : ((ws.map fun c => (⟨#[c]⟩ : Str)).map (·.length)).sum = ws.length := by
  induction ws with
  | nil => rfl
  | cons c r ih =>
    rw [List.map_cons, List.map_cons, List.sum_cons, ih, List.length_cons]
    show 1 + r.length = _
    omega
theorem one_inj {a b : Nat} (h : (⟨#[a]⟩ : Str) = ⟨#[b]⟩) : a = b := by
  have e := congrArg cs h
  rw [cs_one, cs_one] at e
  exact List.cons.inj e |>.1

/-! ### names -/
def lettersL : List Nat := cs (Str.ofString "abcdefghijklmnopqrstuvwxyz")
def keywordsL : List Str := ["call", "copy", "def", "drop", "fields", "full", "lend", "look", "move", "new", "own", "put", "return", "skip", "take", "touch"]
/-- the document's names -/
def isName (z : Str) : Bool := decide (1 ≤ z.length) && decide (z.length ≤ 8) && !decide (z ∈ keywordsL) && (cs z).all fun c => decide (c ∈ lettersL)
/-- the document's fields -/
def FieldsOk (zs : List Str) : Prop := 1 ≤ zs.length ∧ zs.length ≤ 4 ∧ (∀ z ∈ zs, isName z = true) ∧ zs.Nodup
instance (zs : List Str) : Decidable (FieldsOk zs) := by
  unfold FieldsOk
  infer_instance
/-- the six letters of drawn words, the ten at their ends -/
def sixL : List Nat := cs (Str.ofString "abcxyz")
def endsL : List Nat := cs (Str.ofString "abcdghij")
def WordOk (z : Str) : Prop := 1 ≤ z.length ∧ z.length ≤ 7 ∧ ∀ c ∈ cs z, c ∈ sixL
/-- a drawn name: a front of drawn letters, of one to seven, and the letter that belongs to its turn -/
def NameOk (t : Nat) (z : Str) : Prop := ∃ front : List Nat, ∃ c, cs z = front ++ [c] ∧ 2 ≤ front.length ∧ front.length ≤ 7 ∧ (∀ d ∈ front, d ∈ sixL) ∧ endsL[t]? = some c
def looksDrawn (l : List Nat) : Bool := decide (3 ≤ l.length) && (l.dropLast.all fun c => decide (c ∈ sixL)) && (match l.getLast? with | some c => decide (c ∈ endsL) | none => false)
theorem six_letters : ∀ c ∈ sixL, c ∈ lettersL := by decide +kernel
theorem ends_letters : ∀ c ∈ endsL, c ∈ lettersL := by decide +kernel
theorem keywords_look : ∀ k ∈ keywordsL, looksDrawn (cs k) = false := by decide +kernel
theorem NameOk.looks {t : Nat} {z : Str} (h : NameOk t z) : looksDrawn (cs z) = true := by
  obtain ⟨f, c, e, h1, h2, h3, h4⟩ := h
  have hc : c ∈ endsL := List.mem_of_getElem? h4
  unfold looksDrawn
  rw [e, List.dropLast_concat, List.getLast?_concat, List.length_append, List.length_singleton]
  simp only [Bool.and_eq_true, decide_eq_true_eq, List.all_eq_true]
  exact ⟨⟨by omega, h3⟩, hc⟩
theorem NameOk.name {t : Nat} {z : Str} (h : NameOk t z) : isName z = true := by
  have look := h.looks
  obtain ⟨f, c, e, h1, h2, h3, h4⟩ := h
  have hc : c ∈ endsL := List.mem_of_getElem? h4
  have hl : z.length = f.length + 1 := by
    rw [cs_len, e, List.length_append, List.length_singleton]
  unfold isName
  simp only [Bool.and_eq_true, decide_eq_true_eq, Bool.not_eq_true', decide_eq_false_iff_not, List.all_eq_true]
  refine ⟨⟨⟨by omega, by omega⟩, fun hk => ?_⟩, fun d hd => ?_⟩
  · have q := keywords_look z hk
    rw [q] at look
    cases look
  · rw [e, List.mem_append, List.mem_singleton] at hd
    rcases hd with hd | rfl
    · exact six_letters d (h3 d hd)
    · exact ends_letters d hc
theorem ends_nodup : endsL.Nodup := by decide +kernel
theorem NameOk.inj {t u : Nat} {z : Str} (h : NameOk t z) (k : NameOk u z) : t = u := by
  obtain ⟨f, c, e, _, _, _, h4⟩ := h
  obtain ⟨f', c', e', _, _, _, k4⟩ := k
  rw [e] at e'
  have ec : c = c' := by
    have q := congrArg List.getLast? e'
    rw [List.getLast?_concat, List.getLast?_concat] at q
    exact Option.some.inj q
  subst ec
  exact nd_ix ends_nodup h4 k4
/-- the names of several turns -/
def NamesOk (zs : List Str) : Prop := ∀ i z, zs[i]? = some z → NameOk i z
theorem NamesOk.nodup {zs : List Str} (h : NamesOk zs) : zs.Nodup := by
  refine List.pairwise_iff_getElem.mpr fun i j hi hj hij e => ?_
  have a := List.getElem?_eq_getElem hj
  have b := h j _ a
  have c := h i _ (List.getElem?_eq_getElem hi)
  rw [e] at c
  exact absurd (c.inj b) (by omega)
theorem NamesOk.names {zs : List Str} (h : NamesOk zs) {z : Str} (m : z ∈ zs) : isName z = true := by
  obtain ⟨i, hi⟩ := List.mem_iff_getElem?.mp m
  exact (h i z hi).name
theorem NamesOk.snoc {zs : List Str} {z : Str} (h : NamesOk zs) (k : NameOk zs.length z) : NamesOk (zs ++ [z]) := fun i y e => by
  rw [List.getElem?_append] at e
  split at e
  · exact h i y e
  · rename_i hi
    rw [List.getElem?_singleton] at e
    split at e
    · cases e
      have : i = zs.length := by omega
      exact this ▸ k
    · cases e
end Lp

namespace Lp
open PySem PySem.Spec PyProof.Rows L2

/-! ### comprehensions whose turns leave all that stood -/
section
variable {J : It} {n : Nat} {G : Hp → Prop} {Y : Nat → Hp → V → Hp → Prop} {g : TG} {tt : TT} {te : TE} {vs : List Nat} {σ : L2.St} {H1 : Hp} {D : Addr} {Qd : Hp → Prop}
theorem lc_gen (w : Walk J n G Y) (r : Nat → List V) (r0 : r 0 = []) (rl : ∀ i, i < n → (r i).length ≤ 100000) (nD : H1 D = none) (hG : ∀ H', Same H1 H' → G H')
    (hs : ∀ (i : Nat) (x : V) (H2 H3 : Hp) (Ky : V → Hp → Prop) (Kn : Hp → Prop), i < n → Same H1 H2 → Y i H2 x H3 → (∀ y H4, Same H2 H4 → r (i + 1) = r i ++ [y] → Ky y H4) → (∀ H4, Same H2 H4 → r (i + 1) = r i → Kn H4) →
      g x (wipe σ vs) H3 fun σ2 H4 => wipe σ2 vs = wipe σ vs ∧ tt σ2 H4 fun b H5 => if b = true then te σ2 H5 Ky else Kn H5)
    (hd : ∀ H', Same H1 H' → H' D = some (.lst (r n)) → Qd H') :
    ∃ W : Nat → Nat → Hp → Prop, (∃ m, W 0 m (upd H1 D (.lst []))) ∧ ∀ i m H, W i m H →
      (J.stop i H ∧ Qd H) ∨ (J.go i H ∧ ∃ Nx : Hp → Prop, (∀ H', Nx H' → ∃ m', m' < m ∧ W (i + 1) m' H') ∧ ∀ x H', J.yld i H x H' → g x (wipe σ vs) H' fun σ2 H2 => wipe σ2 vs = wipe σ vs ∧ tt σ2 H2 fun b H3 =>
        if b = true then te σ2 H3 fun y H4 => ∃ acc, H4 D = some (.lst acc) ∧ acc.length < sizeLine ∧ Nx (upd H4 D (.lst (acc ++ [y]))) else Nx H3) := by
  refine lc_it w (fun i H' => Same H1 H' ∧ H' D = some (.lst (r i))) ⟨same_upd nD, by rw [upd_same, r0]⟩ (fun i H' _ p => hG H' p.1) (fun i x H2 H3 hi p y => ?_) (fun H' p => hd H' p.1 p.2)
  obtain ⟨sm, hD⟩ := p
  refine hs i x H2 H3 _ _ hi sm y (fun v H4 s4 e => ⟨r i, s4 D _ hD, Nat.lt_of_le_of_lt (rl i hi) (by decide), same_put (sm.trans s4) nD, ?_⟩) (fun H4 s4 e => ⟨sm.trans s4, ?_⟩)
  · rw [upd_same, e]
  · rw [e]
    exact s4 D _ hD
/-- over values that are known: f tells which give, v what -/
theorem lc_vals {vals : List V} (w : Walk J vals.length G (YAt vals)) (f : V → Bool) (v : V → V) (few : vals.length ≤ 100000) (nD : H1 D = none) (hG : ∀ H', Same H1 H' → G H')
    (hs : ∀ (x : V) (H2 : Hp) (Ky : V → Hp → Prop) (Kn : Hp → Prop), x ∈ vals → Same H1 H2 → (∀ H4, Same H2 H4 → f x = true → Ky (v x) H4) → (∀ H4, Same H2 H4 → f x = false → Kn H4) →
      g x (wipe σ vs) H2 fun σ2 H4 => wipe σ2 vs = wipe σ vs ∧ tt σ2 H4 fun b H5 => if b = true then te σ2 H5 Ky else Kn H5)
    (hd : ∀ H', Same H1 H' → H' D = some (.lst ((vals.filter f).map v)) → Qd H') :
    ∃ W : Nat → Nat → Hp → Prop, (∃ m, W 0 m (upd H1 D (.lst []))) ∧ ∀ i m H, W i m H →
      (J.stop i H ∧ Qd H) ∨ (J.go i H ∧ ∃ Nx : Hp → Prop, (∀ H', Nx H' → ∃ m', m' < m ∧ W (i + 1) m' H') ∧ ∀ x H', J.yld i H x H' → g x (wipe σ vs) H' fun σ2 H2 => wipe σ2 vs = wipe σ vs ∧ tt σ2 H2 fun b H3 =>
        if b = true then te σ2 H3 fun y H4 => ∃ acc, H4 D = some (.lst acc) ∧ acc.length < sizeLine ∧ Nx (upd H4 D (.lst (acc ++ [y]))) else Nx H3) := by
  refine lc_gen w (fun i => ((vals.take i).filter f).map v) rfl (fun i hi => ?_) nD hG (fun i x H2 H3 Ky Kn hi sm y k1 k0 => ?_) (fun H' sm e => hd H' sm ?_)
  · rw [List.length_map]
    have := List.length_filter_le f (vals.take i)
    rw [List.length_take] at this
    omega
  · obtain ⟨rfl, hx⟩ := y
    have tk : vals.take (i + 1) = vals.take i ++ [x] := by
      rw [List.take_add_one, hx]
      rfl
    refine hs x H3 Ky Kn (List.mem_of_getElem? hx) sm (fun H4 s4 e => k1 _ H4 s4 ?_) (fun H4 s4 e => k0 H4 s4 ?_)
    · show ((vals.take (i + 1)).filter f).map v = _
      rw [tk, List.filter_append, List.map_append, List.filter_cons, if_pos e]
      rfl
    · show ((vals.take (i + 1)).filter f).map v = _
      rw [tk, List.filter_append, List.map_append, List.filter_cons, if_neg (by rw [e]; exact Bool.false_ne_true)]
      show _ ++ [] = _
      rw [List.append_nil]
  · rw [e]
    show some (HO.lst (((vals.take vals.length).filter f).map v)) = _
    rw [List.take_length]
end
/-- the signs of a text, as values -/
def signs (z : Str) : List V := (cs z).map fun c => .str ⟨#[c]⟩
theorem signs_len (z : Str) : (signs z).length = (cs z).length := List.length_map _
theorem walk_signs {z : Str} : Walk (Its z) (signs z).length (fun _ => True) (YAt (signs z)) := by
  have w := walk_str (z := z)
  have e : z.cps.size = (signs z).length := by
    rw [signs_len, Array.length_toList]
  rw [e] at w
  refine w.mono (fun _ h => h) fun i H x H' hi _ y => ⟨y.1, ?_⟩
  obtain ⟨c, hc, rfl⟩ := y.2
  unfold signs
  rw [List.getElem?_map, Array.getElem?_toList, hc]
  rfl
/-- the numbers of a range, as values -/
def upto (n : Nat) : List V := (List.range n).map fun i : Nat => V.int (i : Int)
theorem upto_len (n : Nat) : (upto n).length = n := by
  unfold upto
  rw [List.length_map, List.length_range]
theorem walk_upto {n : Nat} : Walk (Itr 0 n) (upto n).length (fun _ => True) (YAt (upto n)) := by
  have w := walk_range (lo := 0) (n := n)
  rw [upto_len]
  refine w.mono (fun _ h => h) fun i H x H' hi _ y => ⟨y.1, ?_⟩
  rw [y.2]
  show (upto n)[i]? = some (V.int ((0 : Int) + (i : Int)))
  rw [Int.zero_add]
  unfold upto
  rw [List.getElem?_map, List.getElem?_range hi]
  rfl
end Lp
namespace Lp
open PySem PySem.Spec PyProof.Rows L2
/-! ### plain data -/
def Dat (H : Hp) : V → Prop
  | .non => True
  | .bl _ => True
  | .int _ => True
  | .str z => z.length ≤ 100000
  | .ref a => (∃ xs, H a = some (.lst xs)) ∨ (∃ xs, H a = some (.tup xs)) ∨ ∃ kvs, H a = some (.dK kvs)
  | _ => False
def nameV : V → Bool
  | .str z => isName z
  | _ => false
theorem Dat.same {H H' : Hp} {v : V} (k : Same H H') (d : Dat H v) : Dat H' v := by
  cases v with
  | ref a =>
    rcases d with ⟨xs, e⟩ | ⟨xs, e⟩ | ⟨xs, e⟩
    · exact .inl ⟨xs, k _ _ e⟩
    · exact .inr (.inl ⟨xs, k _ _ e⟩)
    · exact .inr (.inr ⟨xs, k _ _ e⟩)
  | _ => exact d
theorem dat_not_str {K : PySem.W.Frag} {H : Hp} {v : V} (d : Dat H v) (h : ¬ ∃ z, v = .str z) : ∃ t, TyX K H v (.type t) ∧ PySem.W.kitOne K (.type t) (.type "str") = some false := by
  cases v with
  | non => exact ⟨_, .base .non, kit_ty (by decide +kernel)⟩
  | bl b => exact ⟨_, .base (.bl b), kit_ty (by decide +kernel)⟩
  | int i => exact ⟨_, .base (.int i), kit_ty (by decide +kernel)⟩
  | str z => exact absurd ⟨z, rfl⟩ h
  | ref a =>
    rcases d with ⟨xs, e⟩ | ⟨xs, e⟩ | ⟨xs, e⟩
    · exact ⟨_, .base (.lst e), kit_ty (by decide +kernel)⟩
    · exact ⟨_, .base (.tup e), kit_ty (by decide +kernel)⟩
    · exact ⟨_, .base (.dK e), kit_ty (by decide +kernel)⟩
  | byt b => exact False.elim d
  | flt b => exact False.elim d
  | ty n => exact False.elim d
theorem dat_not_tup {K : PySem.W.Frag} {H : Hp} {v : V} (d : Dat H v) (h : ¬ ∃ a xs, v = .ref a ∧ H a = some (.tup xs)) : ∃ t, TyX K H v (.type t) ∧ PySem.W.kitOne K (.type t) (.type "tuple") = some false := by
  cases v with
  | non => exact ⟨_, .base .non, kit_ty (by decide +kernel)⟩
  | bl b => exact ⟨_, .base (.bl b), kit_ty (by decide +kernel)⟩
  | int i => exact ⟨_, .base (.int i), kit_ty (by decide +kernel)⟩
  | str z => exact ⟨_, .base (.str z), kit_ty (by decide +kernel)⟩
  | ref a =>
    rcases d with ⟨xs, e⟩ | ⟨xs, e⟩ | ⟨xs, e⟩
    · exact ⟨_, .base (.lst e), kit_ty (by decide +kernel)⟩
    · exact absurd ⟨a, xs, rfl, e⟩ h
    · exact ⟨_, .base (.dK e), kit_ty (by decide +kernel)⟩
  | byt b => exact False.elim d
  | flt b => exact False.elim d
  | ty n => exact False.elim d
/-- in, of a text among texts -/
theorem inV_strs (z : Str) (ks : List Str) : inV (.str z) (ks.map V.str) = decide (z ∈ ks) := by
  unfold inV
  rw [List.any_map]
  induction ks with
  | nil => rfl
  | cons k r ih =>
    rw [List.any_cons, ih]
    show ((k == z) || decide (z ∈ r)) = decide (z ∈ k :: r)
    by_cases e : k = z
    · subst e
      simp
    · have e2 : (k == z) = false := beq_eq_false_iff_ne.mpr e
      rw [e2, Bool.false_or]
      exact decide_eq_decide.mpr ⟨fun h => List.mem_cons_of_mem _ h, fun h => (List.mem_cons.mp h).resolve_left fun q => e q.symm⟩
theorem bools_all {xs : List V} {f : V → Bool} : ((xs.filter fun _ => true).map fun x => V.bl (f x)) = (xs.map f).map V.bl := by
  rw [List.filter_eq_self.mpr fun _ _ => rfl, List.map_map]
  rfl
theorem strs_all_flat (zs : List Str) : (zs.map V.str).all flatV = true := by
  rw [List.all_map]
  exact List.all_eq_true.mpr fun _ _ => rfl
def letterV : V → Bool
  | .str y => (cs y).all fun c => decide (c ∈ lettersL)
  | _ => false
theorem letterV_one (c : Nat) : letterV (.str ⟨#[c]⟩) = decide (c ∈ lettersL) := by
  show (cs ⟨#[c]⟩).all (fun c => decide (c ∈ lettersL)) = _
  rw [cs_one]
  simp
theorem letters_all (z : Str) : ((signs z).map letterV).all id = (cs z).all fun c => decide (c ∈ lettersL) := by
  unfold signs
  rw [List.map_map, List.all_map]
  congr 1
  funext c
  exact letterV_one c
/-- whether values are different names -/
def DiffOk (xs : List V) : Prop := ∃ zs : List Str, xs = zs.map V.str ∧ (∀ z ∈ zs, isName z = true) ∧ zs.Nodup
theorem all_names : ∀ {xs : List V}, (xs.map nameV).all id = true → ∃ zs : List Str, xs = zs.map V.str ∧ ∀ z ∈ zs, isName z = true
  | [], _ => ⟨[], rfl, fun _ h => nomatch h⟩
  | x :: r, h => by
    rw [List.map_cons, List.all_cons, Bool.and_eq_true] at h
    obtain ⟨zs, rfl, hz⟩ := all_names h.2
    cases x with
    | str z =>
      refine ⟨z :: zs, rfl, fun y hy => ?_⟩
      rcases List.mem_cons.mp hy with rfl | hy
      · exact h.1
      · exact hz y hy
    | _ => exact absurd (show false = true from h.1) Bool.false_ne_true
theorem names_all {zs : List Str} (h : ∀ z ∈ zs, isName z = true) : ((zs.map V.str).map nameV).all id = true := by
  rw [List.map_map, List.all_map]
  exact List.all_eq_true.mpr fun z hz => h z hz
theorem strs_inj : ∀ {a b : List Str}, a.map V.str = b.map V.str → a = b
  | [], [], _ => rfl
  | [], _ :: _, h => nomatch h
  | _ :: _, [], h => nomatch h
  | x :: r, y :: t, h => by
    rw [List.map_cons, List.map_cons] at h
    injection h with h1 h2
    injection h1 with h1
    rw [h1, strs_inj h2]
theorem nodup_inr {zs : List Str} : (zs.map (Sum.inr : Str → Key)).Nodup ↔ zs.Nodup := by
  unfold List.Nodup
  rw [List.pairwise_map]
  constructor
  · exact fun h => h.imp fun n e => n (congrArg _ e)
  · exact fun h => h.imp fun n e => n (Sum.inr.inj e)
end Lp

namespace Lp
open PySem PySem.Spec PyProof.Rows L2

/-! ### == of lists of texts, of lists of truths -/
def lowS (z : Str) : Prop := ∀ c ∈ cs z, c < 1114112
theorem lowS.ok {z : Str} (h : lowS z) : PyData.strOk z = true := by
  unfold PyData.strOk
  rw [Array.all_eq_true']
  intro c hc
  exact decide_eq_true (h c (Array.mem_toList_iff.mpr hc))
theorem letters_low : ∀ c ∈ lettersL, c < 1114112 := by decide +kernel
theorem name_low {z : Str} (h : isName z = true) : lowS z := by
  unfold isName at h
  simp only [Bool.and_eq_true, List.all_eq_true, decide_eq_true_eq] at h
  exact fun c hc => letters_low c (h.2 c hc)
theorem dp_strs {K : PySem.W.Frag} {H : Hp} : ∀ zs : List Str, DpAll K H (zs.map V.str) (zs.map PyData.str)
  | [] => .nil
  | z :: r => .cons (.str z) (dp_strs r)
theorem dp_bools {K : PySem.W.Frag} {H : Hp} : ∀ zs : List Bool, DpAll K H (zs.map V.bl) (zs.map PyData.bool)
  | [] => .nil
  | z :: r => .cons (.bl z) (dp_bools r)
theorem lay_strs : ∀ {zs : List Str}, (∀ z ∈ zs, lowS z) → PyData.canLayAll0 (zs.map PyData.str) = true ∧ PyData.depthAll (zs.map PyData.str) = 0
  | [], _ => ⟨rfl, rfl⟩
  | z :: r, h => by
    have ih := lay_strs (zs := r) fun y hy => h y (List.mem_cons_of_mem _ hy)
    have hz := (h z List.mem_cons_self).ok
    rw [List.map_cons]
    refine ⟨?_, ?_⟩
    · show (PyData.canLay0 (.str z) && PyData.canLayAll0 _) = true
      rw [ih.1, Bool.and_true]
      exact hz
    · show max (PyData.depth (.str z)) (PyData.depthAll _) = 0
      rw [ih.2]
      rfl
theorem lay_bools : ∀ (zs : List Bool), PyData.canLayAll0 (zs.map PyData.bool) = true ∧ PyData.depthAll (zs.map PyData.bool) = 0
  | [] => ⟨rfl, rfl⟩
  | z :: r => by
    have ih := lay_bools r
    rw [List.map_cons]
    refine ⟨?_, ?_⟩
    · show (PyData.canLay0 (.bool z) && PyData.canLayAll0 _) = true
      rw [ih.1, Bool.and_true]
      rfl
    · show max (PyData.depth (.bool z)) (PyData.depthAll _) = 0
      rw [ih.2]
      rfl
theorem shaped_of {ds : List PyData} (h : PyData.canLayAll0 ds = true ∧ PyData.depthAll ds = 0) : SeqAt.shaped (.list ds) = true ∧ SeqAt.shaped (.tuple ds) = true := by
  constructor
  · show (PyData.canLayAll0 ds && decide (PyData.depthAll ds + 1 ≤ 64)) = true
    rw [h.1, h.2]
    rfl
  · show (PyData.canLayAll0 ds && decide (PyData.depthAll ds + 1 ≤ 64)) = true
    rw [h.1, h.2]
    rfl
theorem eqv_strs : ∀ (zs ws : List Str), PyData.eqvAll (zs.map PyData.str) (ws.map PyData.str) = decide (zs = ws)
  | [], [] => rfl
  | [], _ :: _ => rfl
  | _ :: _, [] => rfl
  | x :: r, y :: t => by
    show (PyData.eqv (.str x) (.str y) && PyData.eqvAll (r.map PyData.str) (t.map PyData.str)) = _
    rw [eqv_strs r t]
    show ((x == y) && decide (r = t)) = _
    by_cases e : x = y
    · subst e
      rw [beq_self_eq_true, Bool.true_and]
      exact decide_eq_decide.mpr ⟨fun h => by rw [h], fun h => (List.cons.inj h).2⟩
    · rw [beq_eq_false_iff_ne.mpr e, Bool.false_and]
      exact (decide_eq_false fun h => e (List.cons.inj h).1).symm
theorem eqv_bools : ∀ (zs ws : List Bool), PyData.eqvAll (zs.map PyData.bool) (ws.map PyData.bool) = decide (zs = ws)
  | [], [] => rfl
  | [], _ :: _ => rfl
  | _ :: _, [] => rfl
  | x :: r, y :: t => by
    show (PyData.eqv (.bool x) (.bool y) && PyData.eqvAll (r.map PyData.bool) (t.map PyData.bool)) = _
    rw [eqv_bools r t]
    show ((x == y) && decide (r = t)) = _
    by_cases e : x = y
    · subst e
      rw [beq_self_eq_true, Bool.true_and]
      exact decide_eq_decide.mpr ⟨fun h => by rw [h], fun h => (List.cons.inj h).2⟩
    · rw [beq_eq_false_iff_ne.mpr e, Bool.false_and]
      exact (decide_eq_false fun h => e (List.cons.inj h).1).symm
section
variable {K : PySem.W.Frag} {H : Hp} {a b : Addr} {Q : VK}
theorem eq_strsL {zs ws : List Str} (ha : SqL K H a (zs.map V.str)) (hb : SqL K H b (ws.map V.str)) (la : ∀ z ∈ zs, lowS z) (lb : ∀ z ∈ ws, lowS z) (q : Q (.bl (decide (zs = ws))) H) : rEqD K (.ref a) (.ref b) H Q :=
  ⟨_, _, .lst ha (dp_strs zs), .lst hb (dp_strs ws), (shaped_of (lay_strs la)).1, (shaped_of (lay_strs lb)).1, by rw [show PyData.eqv (.list (zs.map PyData.str)) (.list (ws.map PyData.str)) = _ from eqv_strs zs ws]; exact q⟩
theorem ne_strsL {zs ws : List Str} (ha : SqL K H a (zs.map V.str)) (hb : SqL K H b (ws.map V.str)) (la : ∀ z ∈ zs, lowS z) (lb : ∀ z ∈ ws, lowS z) (q : Q (.bl (!decide (zs = ws))) H) : rNeD K (.ref a) (.ref b) H Q :=
  ⟨_, _, .lst ha (dp_strs zs), .lst hb (dp_strs ws), (shaped_of (lay_strs la)).1, (shaped_of (lay_strs lb)).1, by rw [show PyData.eqv (.list (zs.map PyData.str)) (.list (ws.map PyData.str)) = _ from eqv_strs zs ws]; exact q⟩
theorem eq_boolsL {zs ws : List Bool} (ha : SqL K H a (zs.map V.bl)) (hb : SqL K H b (ws.map V.bl)) (q : Q (.bl (decide (zs = ws))) H) : rEqD K (.ref a) (.ref b) H Q :=
  ⟨_, _, .lst ha (dp_bools zs), .lst hb (dp_bools ws), (shaped_of (lay_bools zs)).1, (shaped_of (lay_bools ws)).1, by rw [show PyData.eqv (.list (zs.map PyData.bool)) (.list (ws.map PyData.bool)) = _ from eqv_bools zs ws]; exact q⟩
theorem ne_boolsL {zs ws : List Bool} (ha : SqL K H a (zs.map V.bl)) (hb : SqL K H b (ws.map V.bl)) (q : Q (.bl (!decide (zs = ws))) H) : rNeD K (.ref a) (.ref b) H Q :=
  ⟨_, _, .lst ha (dp_bools zs), .lst hb (dp_bools ws), (shaped_of (lay_bools zs)).1, (shaped_of (lay_bools ws)).1, by rw [show PyData.eqv (.list (zs.map PyData.bool)) (.list (ws.map PyData.bool)) = _ from eqv_bools zs ws]; exact q⟩
end
end Lp
namespace Lp
open PySem PySem.Spec PyProof.Rows L2
/-- zs[:i] -/
theorem cut_to (zs : List Str) (i : Nat) : cutV (zs.map V.str) none (some (i : Int)) = (zs.take i).map V.str := by
  unfold cutV
  rw [HT.sIx_none, HT.sIx_nat, List.drop_zero, Nat.sub_zero, List.map_take, Nat.min_def]
  split
  · rfl
  · rw [List.take_length, List.take_of_length_le (by omega)]
end Lp
namespace Lp
open PySem PySem.Spec PyProof.Rows L2
theorem cut_strs (zs : List Str) (lo hi : Option Int) : ∃ ws : List Str, cutV (zs.map V.str) lo hi = ws.map V.str ∧ (∀ w ∈ ws, w ∈ zs) ∧ ws.length ≤ zs.length := by
  refine ⟨(zs.drop (HT.sIx (zs.map V.str).length 0 lo)).take (HT.sIx (zs.map V.str).length (zs.map V.str).length hi - HT.sIx (zs.map V.str).length 0 lo), ?_, fun w hw => List.mem_of_mem_drop (List.mem_of_mem_take hw), ?_⟩
  · unfold cutV
    rw [List.map_take, List.map_drop]
  · rw [List.length_take, List.length_drop]
    omega
end Lp

namespace Lp
open PySem PySem.Spec PyProof.Rows L2

/-! ### t[::-1] of a tuple -/
section
variable {prog : Program} {w : World} {A : Around} {E : Value → Shared → Prop} {s : Shared}
theorem apply_back {sl : Addr} {vk : Value} {n : Nat} {Q : Int × Int × Nat → Shared → Prop} (here : s.heap.IsSliceOf sl .none .none vk) (pk : IsPart vk (some (-1))) (q : Q (((n : Nat) : Int) - 1, -1, n) s) :
    wpAny (model prog w) A (Builtin.Slice.sliceApplied (.ref sl) (pure (n : Int))) Q E s := by
  obtain ⟨o, ho, _, hd⟩ := here
  unfold Builtin.Slice.sliceApplied Builtin.Slice.sliceFields
  refine wpAny_bind (wpAny_bind (wpAny_field ho hd (x := .none) rfl (wpAny_bind (wpAny_field ho hd (x := .none) rfl (wpAny_bind (wpAny_field ho hd (x := vk) rfl (wpAny_pure (?_ : _))))))))
  refine wpAny_bind (HT.slicePart_ pk (?_ : _))
  show wpAny _ _ (if ((-1 : Int) == 0) = true then _ else _) _ _ s
  rw [if_neg (by decide)]
  refine wpAny_bind (HT.slicePart_ .none (wpAny_bind (HT.slicePart_ .none (wpAny_bind (wpAny_pure (?_ : _))))))
  have places : Builtin.Slice.slicePlaces ((n : Int) - 1) (-1) (-1) = n := by
    unfold Builtin.Slice.slicePlaces
    rw [if_neg (by decide)]
    by_cases h : (n : Int) - 1 > -1
    · rw [if_pos h, show (- -1 : Int) = 1 by decide, Int.ediv_one]
      omega
    · rw [if_neg h]
      show (0 : Int).toNat = n
      omega
  show wpAny _ _ (pure ((n : Int) - 1, (-1 : Int), Builtin.Slice.slicePlaces ((n : Int) - 1) (-1) (-1))) _ _ s
  rw [places]
  exact wpAny_pure q
theorem pick_back (xs : Array Value) : ((List.range xs.size).filterMap fun (m : Nat) => xs[((xs.size : Int) - 1 + (m : Int) * -1).toNat]?).toArray = xs.toList.reverse.toArray := by
  have e1 : (List.range xs.size).filterMap (fun (m : Nat) => xs[((xs.size : Int) - 1 + (m : Int) * -1).toNat]?) = ((List.range xs.size).map fun k => xs.size - 1 - k).filterMap (xs[·]?) := by
    rw [List.filterMap_map]
    congr 1
    funext m
    have e2 : ((xs.size : Int) - 1 + (m : Int) * -1).toNat = xs.size - 1 - m := by omega
    rw [e2]
    rfl
  rw [e1, PySem.W.krv_range, List.filterMap_reverse, PySem.W.krv_all]
theorem item_back {t sl : Addr} {items : Array Value} {vk : Value} {Q : Value → Shared → Prop} (ht : IsTup s.heap t items) (here : s.heap.IsSliceOf sl .none .none vk) (pk : IsPart vk (some (-1))) (small : items.size ≤ sizeLine)
    (q : Q (.ref s.heap.objs.size) { s with heap := s.heap.push { cls := .type "tuple", data := .seq items.toList.reverse.toArray } }) : wpAny (model prog w) A (getItem (.ref t) (.ref sl)) Q E s := by
  obtain ⟨o, ho, hc, _⟩ := id here
  have ty : s.TypeIs (.ref sl) "slice" := ⟨o, ho, hc⟩
  have fits : sizeOk (.seq items.toList.reverse.toArray) := by
    show items.toList.reverse.toArray.size ≤ sizeLine
    rw [List.size_toArray, List.length_reverse, Array.length_toList]
    exact small
  unfold getItem
  refine wpAny_holding (?_ : _)
  refine wpAny_bind (wpAny_sequenceKey ht.typeIs (by decide) (?_ : _))
  refine wpAny_bind (wpAny_callSpecial?_slot (name := Str.ofString "__getitem__") ht.typeIs PyProof.Rows.slot_tuple_getitem (wpAny_call_entry PyProof.Rows.slot_tuple_getitem ht.typeIs entry_tuple_getitem (?_ : _) (args_tuple_getitem _ _)))
  show wpAny _ _ (Builtin.Tuple.tupleItemsOf (Value.ref t) >>= _) _ _ s
  refine wpAny_bind (tupleItemsOf_ ht (?_ : _))
  refine wpAny_bind (wpAny_typeOf ty (?_ : _))
  rw [if_pos (by decide)]
  refine wpAny_bind (apply_back here pk (?_ : _))
  show wpAny _ _ (if (((items.size : Int) - 1) == 0 && (-1 : Int) == 1 && items.size == items.size) = true then _ else _) _ _ s
  rw [if_neg (by simp), pick_back]
  first
    | exact wpAny_bind (m := Builtin.Tuple.tupleExact _) (wpAny_newObj_type (wpAny_pure ⟨_, rfl, wpAny_pure q⟩) fits)
    | exact wpAny_bind (m := Builtin.Tuple.tupleExact _) (wpAny_newObj_type (wpAny_bind (wpAny_pure (wpAny_pure ⟨_, rfl, wpAny_pure q⟩))) fits)
    | exact wpAny_bind (wpAny_bind (m := Builtin.Tuple.tupleExact _) (wpAny_newObj_type (wpAny_pure (wpAny_pure ⟨_, rfl, wpAny_pure q⟩)) fits))
    | exact wpAny_bind (wpAny_bind (m := Builtin.Tuple.tupleExact _) (wpAny_newObj_type (wpAny_pure ⟨_, rfl, wpAny_pure q⟩) fits))
end
section
variable {X : Cx}
def tRevT (K : PySem.W.Frag) (te : TE) : TE := fun σ H Q => te σ H fun x H1 => ∃ a xs, x = .ref a ∧ SqT K H1 a xs ∧ ∀ p, H1 p = none → Q (.ref p) (upd H1 p (.tup xs.reverse))
theorem pe_revT {e : Expr} {te : TE} {k : Nat} {p1 p2 p3 pos : Pos} (he : PE X e te) : PE X (.Subscript e (.Slice none none (some (.UnaryOp .USub (.Constant (.int 1) k p1) p2)) p3) pos) (tRevT X.K te) := by
  refine ⟨fun pins s σ H Q I h => ?_⟩
  refine Subscript_ (thn (he.run pins s σ H _ I h) fun v s1 ⟨x, H1, I1, r1, q1⟩ => ?_)
  obtain ⟨a, xs, rfl, hx, q⟩ := q1
  cases r1
  have back : PO X (some (.UnaryOp .USub (.Constant (.int 1) k p1) p2)) (tPart (tUn (rU fun i => .int (-i)) (tC (.int 1)))) := po_some (pe_un un_neg pe_int)
  refine wpAny_Slice (thn (po_none.run pins s1 σ H1 (fun o H2 => o = none ∧ H2 = H1) I1 ⟨rfl, rfl⟩) fun vl s2 ⟨l, H2, I2, pl, el, e2⟩ => (?_ : _))
  subst el
  subst e2
  refine thn (po_none.run pins s2 σ H2 (fun o H3 => o = none ∧ H3 = H2) I2 ⟨rfl, rfl⟩) fun vu s3 ⟨u, H3, I3, pu, eu, e3⟩ => (?_ : _)
  subst eu
  subst e3
  refine thn (back.run pins s3 σ H3 (fun o H4 => o = some (-1) ∧ H4 = H3) I3 ⟨1, rfl, -1, rfl, rfl, rfl⟩) fun vs s4 ⟨o, H4, I4, ps, eo, e4⟩ => (?_ : _)
  subst eo
  subst e4
  cases pl
  cases pu
  have I5 : Inv X pins σ H4 { s4 with heap := s4.heap.push { cls := .type "slice", data := .fields #[.none, .none, vs] } } := I4.kept (t' := s4.toks) fun b ob z => Heap.get?_push_of_some _ z
  obtain ⟨its, r, ht, hz⟩ := I5.tuple hx
  have len := r.length
  show wpAny (model X.prog X.w) X.A (subscriptTail e (.Slice none none (some (.UnaryOp .USub (.Constant (.int 1) k p1) p2)) p3) (.ref a) (.ref s4.heap.objs.size)) (EP X pins σ Q) X.xe
    { s4 with heap := s4.heap.push { cls := .type "slice", data := .fields #[.none, .none, vs] } }
  refine tail_any (ops := [.ref a, .ref s4.heap.objs.size]) ht.typeIs PyProof.Rows.slot_tuple_getitem.lookup (?_ : _) (by with_unfolding_all rfl)
  refine item_back ht (Heap.IsSliceOf.new _ .none .none vs) ps (by rw [List.size_toArray]; omega) (?_ : _)
  refine ⟨.ref _, _, I5.laid (t' := s4.toks) (o := .tup xs.reverse) (fun b ob z => Heap.get?_push_of_some _ z) (Nat.le_refl _) (?_ : _), rfl, q _ (I5.hok.fresh (Nat.le_refl _))⟩
  exact ⟨by rw [List.length_reverse]; exact hz, its.reverse, r.reverse, ⟨_, Heap.get?_push_size _ rfl, rfl, 0, by simp⟩⟩
end
end Lp

namespace Lp
open PySem PySem.Spec PyProof.Rows L2

/-! ### texts of ASCII signs, of at most n -/
def Asc (n : Nat) (z : Str) : Prop := z.length ≤ n ∧ ∀ c ∈ cs z, c < 128
theorem Asc.mono {n m : Nat} {z : Str} (h : Asc n z) (k : n ≤ m) : Asc m z := ⟨Nat.le_trans h.1 k, h.2⟩
theorem Asc.low {n : Nat} {z : Str} (h : Asc n z) : lowS z := fun c hc => Nat.lt_trans (h.2 c hc) (by decide)
theorem Asc.cut {n : Nat} {z : Str} (h : Asc n z) (lo hi : Option Int) : Asc n (cutS z lo hi) := by
  refine ⟨Nat.le_trans (cutS_length z lo hi) h.1, fun c hc => ?_⟩
  unfold cutS at hc
  rw [cs_mk] at hc
  exact h.2 c (List.mem_of_mem_drop (List.mem_of_mem_take hc))
theorem Asc.app {n m : Nat} {x y : Str} (h : Asc n x) (k : Asc m y) : Asc (n + m) (x ++ y) := by
  refine ⟨?_, fun c hc => ?_⟩
  · have a := h.1
    have b := k.1
    rw [cs_len] at a b ⊢
    rw [cs_app, List.length_append]
    omega
  · rw [cs_app] at hc
    rcases List.mem_append.mp hc with hc | hc
    · exact h.2 c hc
    · exact k.2 c hc
theorem Asc.rep {n : Nat} {z : Str} (h : Asc n z) (k : Nat) : Asc (k * n) (txtRep z k) := by
  refine ⟨?_, fun c hc => ?_⟩
  · have a := h.1
    rw [cs_len] at a ⊢
    rw [cs_rep]
    simp only [List.length_flatten, List.map_replicate, List.sum_replicate_nat]
    exact Nat.mul_le_mul_left k a
  · rw [cs_rep] at hc
    obtain ⟨l, hl, hc⟩ := List.mem_flatten.mp hc
    rw [(List.mem_replicate.mp hl).2] at hc
    exact h.2 c hc
/-- a text backward -/
def revS (z : Str) : Str := ⟨(cs z).reverse.toArray⟩
theorem cs_revS (z : Str) : cs (revS z) = (cs z).reverse := rfl
theorem Asc.rev {n : Nat} {z : Str} (h : Asc n z) : Asc n (revS z) := by
  refine ⟨?_, fun c hc => h.2 c (List.mem_reverse.mp hc)⟩
  have a := h.1
  rw [cs_len] at a ⊢
  rw [cs_revS, List.length_reverse]
  exact a
theorem up1_low : ∀ c, c < 128 → up1 c < 128 := by decide +kernel
theorem Asc.up {n : Nat} {z : Str} (h : Asc n z) : Asc n (Txt.upper z) := by
  rw [upper_ascii h.2]
  refine ⟨?_, fun c hc => ?_⟩
  · show (z.cps.map up1).size ≤ n
    rw [Array.size_map]
    exact h.1
  · have hc : c ∈ (z.cps.map up1).toList := hc
    rw [Array.toList_map] at hc
    obtain ⟨d, hd, rfl⟩ := List.mem_map.mp hc
    exact up1_low d (h.2 d hd)
theorem Asc.one {c : Nat} (h : c < 128) : Asc 1 ⟨#[c]⟩ := ⟨Nat.le_refl _, fun d hd => by
  rw [cs_one, List.mem_singleton] at hd
  exact hd ▸ h⟩
theorem letters_asc : ∀ c ∈ lettersL, c < 128 := by decide +kernel
theorem name_size {z : Str} (h : isName z = true) : 1 ≤ z.length ∧ z.length ≤ 8 := by
  unfold isName at h
  simp only [Bool.and_eq_true, decide_eq_true_eq] at h
  exact ⟨h.1.1.1, h.1.1.2⟩
theorem name_asc {z : Str} (h : isName z = true) : Asc 8 z := by
  refine ⟨(name_size h).2, ?_⟩
  unfold isName at h
  simp only [Bool.and_eq_true, List.all_eq_true, decide_eq_true_eq] at h
  exact fun c hc => letters_asc c (h.2 c hc)
/-- a written text -/
theorem asc_by {n : Nat} {z : Str} (h : (decide (z.length ≤ n) && (cs z).all fun c => decide (c < 128)) = true) : Asc n z := by
  rw [Bool.and_eq_true, List.all_eq_true] at h
  exact ⟨of_decide_eq_true h.1, fun c hc => of_decide_eq_true (h.2 c hc)⟩

/-! ### s[::-1] of a text -/
section
variable {X : Cx}
theorem back_revS (z : Str) (u : Tok) : Txt.sliceBy z none none (-1, u) = revS z := by
  apply cs_ext
  rw [cs_revS]
  show (Txt.sliceBy z none none (-1, u)).cps.toList = _
  rw [step_rev_list]
  apply List.ext_getElem
  · rw [List.length_map, List.length_range, List.length_reverse, cs_len]
  · intro i h1 h2
    rw [List.getElem_map, List.getElem_range, List.getElem_reverse]
    have lt : i < (cs z).length := by
      rw [List.length_reverse] at h2
      exact h2
    have b : z.length - 1 - i < z.cps.size := by
      have := cs_len z
      have e : z.cps.size = z.length := rfl
      omega
    rw [← Array.getElem_eq_getD 0 (h := b), ← Array.getElem_toList]
    congr 1
def tRevS (te : TE) : TE := fun σ H Q => te σ H fun x H1 => ∃ z, x = .str z ∧ z.length ≤ sizeLine ∧ Q (.str (revS z)) H1
theorem pe_revS {e : Expr} {te : TE} {k : Nat} {p1 p2 p3 pos : Pos} (he : PE X e te) : PE X (.Subscript e (.Slice none none (some (.UnaryOp .USub (.Constant (.int 1) k p1) p2)) p3) pos) (tRevS te) := by
  refine ⟨fun pins s σ H Q I h => ?_⟩
  refine Subscript_ (thn (he.run pins s σ H _ I h) fun v s1 ⟨x, H1, I1, r1, q1⟩ => ?_)
  obtain ⟨z, rfl, small, q⟩ := q1
  obtain ⟨t, rfl⟩ := r1
  have back : PO X (some (.UnaryOp .USub (.Constant (.int 1) k p1) p2)) (tPart (tUn (rU fun i => .int (-i)) (tC (.int 1)))) := po_some (pe_un un_neg pe_int)
  refine wpAny_Slice (thn (po_none.run pins s1 σ H1 (fun o H2 => o = none ∧ H2 = H1) I1 ⟨rfl, rfl⟩) fun vl s2 ⟨l, H2, I2, pl, el, e2⟩ => (?_ : _))
  subst el
  subst e2
  refine thn (po_none.run pins s2 σ H2 (fun o H3 => o = none ∧ H3 = H2) I2 ⟨rfl, rfl⟩) fun vu s3 ⟨u, H3, I3, pu, eu, e3⟩ => (?_ : _)
  subst eu
  subst e3
  refine thn (back.run pins s3 σ H3 (fun o H4 => o = some (-1) ∧ H4 = H3) I3 ⟨1, rfl, -1, rfl, rfl, rfl⟩) fun vs s4 ⟨o, H4, I4, ps, eo, e4⟩ => (?_ : _)
  subst eo
  subst e4
  cases pl
  cases pu
  obtain ⟨uk, rfl⟩ : ∃ uk, vs = .int (-1) uk := by
    cases ps
    exact ⟨_, rfl⟩
  have I5 : Inv X pins σ H4 { s4 with heap := s4.heap.push { cls := .type "slice", data := .fields #[.none, .none, .int (-1) uk] } } := I4.kept (t' := s4.toks) fun b ob y => Heap.get?_push_of_some _ y
  show wpAny (model X.prog X.w) X.A (subscriptTail e (.Slice none none (some (.UnaryOp .USub (.Constant (.int 1) k p1) p2)) p3) (.str z t) (.ref s4.heap.objs.size)) (EP X pins σ Q) X.xe
    { s4 with heap := s4.heap.push { cls := .type "slice", data := .fields #[.none, .none, .int (-1) uk] } }
  refine tail_any (ops := [.ref s4.heap.objs.size, .str z t]) (typeIs_str _ _ _) PySem.F.slot_str_getitem.lookup (?_ : _) (by with_unfolding_all rfl)
  refine wpAny_getItem_str_slice (l := none) (u := none) (st := some (-1, uk)) ⟨_, Heap.get?_push_size _ rfl, rfl, rfl⟩ rfl (?_ : _)
  refine post_val_or_str ⟨Nat.le_trans (Txt.sliceBy_le z _ _ (-1, uk) (show (-1 : Int) ≠ 0 by decide)) small, fun t' c => ?_⟩
  refine ⟨.str (revS z), H4, I5.tok c, ⟨t', ?_⟩, q⟩
  rw [← back_revS z uk]
  rfl
end
end Lp

namespace Lp
open PySem PySem.Spec PyProof.Rows L2

/-! ### a word between blanks in the row of keywords -/
def rowS : Str := " call copy def drop fields full lend look move new own put return skip take touch "
def cutL (i n : Nat) : List Nat := ((cs rowS).drop i).take (n + 2)
theorem row_cuts : ((List.range 90).all fun i => (List.range 9).all fun n => !(decide ((cutL i n).length = n + 2) && decide ((cutL i n).head? = some 32) && decide ((cutL i n).getLast? = some 32) &&
    (((cutL i n).drop 1).take n).all (fun c => decide (c ≠ 32)) && decide (1 ≤ n)) || decide ((((cutL i n).drop 1).take n) ∈ keywordsL.map cs)) = true := by decide +kernel
theorem row_has : (keywordsL.all fun k => (List.range 90).any fun i => decide (cutL i k.length = 32 :: cs k ++ [32])) = true := by decide +kernel
theorem row_len : rowS.length = 82 := by decide +kernel
theorem sub_cut (y : Str) (i : Nat) : Builtin.Str.subAt rowS y i = true ↔ ((cs rowS).drop i).take y.length = cs y := by
  unfold Builtin.Str.subAt
  rw [beq_iff_eq, ← Array.toList_inj, Array.toList_extract]
  show List.take (i + y.length - i) (List.drop i (cs rowS)) = cs y ↔ _
  rw [Nat.add_sub_cancel_left]
theorem blank_cs (z : Str) : cs (Str.ofString " " ++ z ++ Str.ofString " ") = 32 :: cs z ++ [32] := by
  rw [cs_app, cs_app]
  rfl
theorem blank_len (z : Str) : (Str.ofString " " ++ z ++ Str.ofString " ").length = z.length + 2 := by
  rw [cs_len, blank_cs, cs_len, List.length_append, List.length_cons]
  rfl
theorem kw_row {z : Str} (h1 : 1 ≤ z.length) (h8 : z.length ≤ 8) (hl : ∀ c ∈ cs z, c ≠ 32) :
    (!(Builtin.Str.occurrences rowS (Str.ofString " " ++ z ++ Str.ofString " ") 0 rowS.length 1).isEmpty) = decide (z ∈ keywordsL) := by
  have key : (!(Builtin.Str.occurrences rowS (Str.ofString " " ++ z ++ Str.ofString " ") 0 rowS.length 1).isEmpty) = true ↔ z ∈ keywordsL := by
    rw [StrLaws.found_iff]
    simp only [sub_cut, blank_len, blank_cs]
    constructor
    · rintro ⟨i, hi, e⟩
      rw [row_len] at hi
      have a := List.all_eq_true.mp (List.all_eq_true.mp row_cuts i (List.mem_range.mpr (by omega))) z.length (List.mem_range.mpr (by omega))
      have e2 : cutL i z.length = 32 :: cs z ++ [32] := e
      rw [e2] at a
      have e3 : ((32 :: cs z ++ [32]).drop 1).take z.length = cs z := by
        show (cs z ++ [32]).take z.length = cs z
        rw [cs_len, List.take_left]
      rw [e3] at a
      have c1 : decide ((32 :: cs z ++ [32]).length = z.length + 2) = true := decide_eq_true (by rw [List.length_append, List.length_cons, cs_len]; rfl)
      have c2 : decide ((32 :: cs z ++ [32]).head? = some 32) = true := decide_eq_true rfl
      have c3 : decide ((32 :: cs z ++ [32]).getLast? = some 32) = true := decide_eq_true (List.getLast?_concat)
      have c4 : (cs z).all (fun c => decide (c ≠ 32)) = true := List.all_eq_true.mpr fun c hc => decide_eq_true (hl c hc)
      rw [c1, c2, c3, c4, decide_eq_true h1] at a
      have m : cs z ∈ keywordsL.map cs := of_decide_eq_true (by simpa using a)
      obtain ⟨k, hk, ek⟩ := List.mem_map.mp m
      rw [← cs_ext ek]
      exact hk
    · intro hk
      obtain ⟨i, hi, e⟩ := List.any_eq_true.mp (List.all_eq_true.mp row_has z hk)
      have e := of_decide_eq_true e
      refine ⟨i, ?_, e⟩
      have l := congrArg List.length e
      unfold cutL at l
      rw [List.length_take, List.length_drop, List.length_append, List.length_cons, ← cs_len, ← cs_len, row_len] at l
      rw [row_len]
      simp at l
      omega
  cases hb : (!(Builtin.Str.occurrences rowS (Str.ofString " " ++ z ++ Str.ofString " ") 0 rowS.length 1).isEmpty) with
  | true => exact (decide_eq_true (key.mp hb)).symm
  | false =>
    refine (decide_eq_false fun h => ?_).symm
    rw [key.mpr h] at hb
    cases hb
theorem letters_are : lettersL = (List.range 26).map (· + 97) := by decide +kernel
theorem letter_iff (c : Nat) : c ∈ lettersL ↔ 97 ≤ c ∧ c ≤ 122 := by
  rw [letters_are, List.mem_map]
  constructor
  · rintro ⟨i, hi, rfl⟩
    have := List.mem_range.mp hi
    omega
  · intro h
    exact ⟨c - 97, List.mem_range.mpr (by omega), by omega⟩
theorem one_lt (c d : Nat) : decide ((⟨#[c]⟩ : Str).cps.toList < (⟨#[d]⟩ : Str).cps.toList) = decide (c < d) := by
  refine decide_eq_decide.mpr ?_
  show [c] < [d] ↔ c < d
  rw [List.cons_lt_cons_iff]
  constructor
  · rintro (h | ⟨_, h⟩)
    · exact h
    · exact absurd h (List.not_lt_nil _)
  · exact .inl
end Lp

namespace Lp
open PySem PySem.Spec PyProof.Rows L2

/-! ### comprehensions over values that stand for something -/
section
variable {J : It} {G : Hp → Prop} {g : TG} {tt : TT} {te : TE} {vs : List Nat} {σ : L2.St} {H1 : Hp} {D : Addr} {Qd : Hp → Prop} {α : Type}
theorem lc_src {src : List α} (val : α → V) (w : Walk J (src.map val).length G (YAt (src.map val))) (f : α → Bool) (v : α → V) (few : src.length ≤ 100000) (nD : H1 D = none) (hG : ∀ H', Same H1 H' → G H')
    (hs : ∀ (x : α) (H2 : Hp) (Ky : V → Hp → Prop) (Kn : Hp → Prop), x ∈ src → Same H1 H2 → (∀ H4, Same H2 H4 → f x = true → Ky (v x) H4) → (∀ H4, Same H2 H4 → f x = false → Kn H4) →
      g (val x) (wipe σ vs) H2 fun σ2 H4 => wipe σ2 vs = wipe σ vs ∧ tt σ2 H4 fun b H5 => if b = true then te σ2 H5 Ky else Kn H5)
    (hd : ∀ H', Same H1 H' → H' D = some (.lst ((src.filter f).map v)) → Qd H') :
    ∃ W : Nat → Nat → Hp → Prop, (∃ m, W 0 m (upd H1 D (.lst []))) ∧ ∀ i m H, W i m H →
      (J.stop i H ∧ Qd H) ∨ (J.go i H ∧ ∃ Nx : Hp → Prop, (∀ H', Nx H' → ∃ m', m' < m ∧ W (i + 1) m' H') ∧ ∀ x H', J.yld i H x H' → g x (wipe σ vs) H' fun σ2 H2 => wipe σ2 vs = wipe σ vs ∧ tt σ2 H2 fun b H3 =>
        if b = true then te σ2 H3 fun y H4 => ∃ acc, H4 D = some (.lst acc) ∧ acc.length < sizeLine ∧ Nx (upd H4 D (.lst (acc ++ [y]))) else Nx H3) := by
  refine lc_gen w (fun i => ((src.take i).filter f).map v) rfl (fun i hi => ?_) nD hG (fun i x H2 H3 Ky Kn hi sm y k1 k0 => ?_) (fun H' sm e => hd H' sm ?_)
  · rw [List.length_map]
    have := List.length_filter_le f (src.take i)
    rw [List.length_take] at this
    omega
  · obtain ⟨rfl, hx⟩ := y
    rw [List.getElem?_map] at hx
    obtain ⟨u, hu, rfl⟩ := Option.map_eq_some_iff.mp hx
    have tk : src.take (i + 1) = src.take i ++ [u] := by
      rw [List.take_add_one, hu]
      rfl
    refine hs u H3 Ky Kn (List.mem_of_getElem? hu) sm (fun H4 s4 e => k1 _ H4 s4 ?_) (fun H4 s4 e => k0 H4 s4 ?_)
    · show ((src.take (i + 1)).filter f).map v = _
      rw [tk, List.filter_append, List.map_append, List.filter_cons, if_pos e]
      rfl
    · show ((src.take (i + 1)).filter f).map v = _
      rw [tk, List.filter_append, List.map_append, List.filter_cons, if_neg (by rw [e]; exact Bool.false_ne_true)]
      show _ ++ [] = _
      rw [List.append_nil]
  · rw [e]
    show some (HO.lst (((src.take (src.map val).length).filter f).map v)) = _
    rw [List.length_map, List.take_length]
end

/-! ### lists of pairs of texts -/
/-- pairs as they stand in a heap -/
abbrev PairL := List (Addr × Str × Str)
def PairsAt (H : Hp) (ps : PairL) : Prop := ∀ q ∈ ps, H q.1 = some (.tup [.str q.2.1, .str q.2.2])
theorem PairsAt.same {H H' : Hp} {ps : PairL} (h : PairsAt H ps) (k : Same H H') : PairsAt H' ps := fun q hq => k _ _ (h q hq)
def refs (ps : PairL) : List V := ps.map fun q => V.ref q.1
def dat2 (p : Str × Str) : PyData := .tuple [.str p.1, .str p.2]
theorem dp_pair {K : PySem.W.Frag} {H : Hp} {q : Addr × Str × Str} (h : H q.1 = some (.tup [.str q.2.1, .str q.2.2])) : Dp K H (.ref q.1) (dat2 q.2) := .tup (.inl (.inl h)) (.cons (.str _) (.cons (.str _) .nil))
theorem dp_pairs {K : PySem.W.Frag} {H : Hp} : ∀ {ps : PairL}, PairsAt H ps → DpAll K H (refs ps) (ps.map fun q => dat2 q.2)
  | [], _ => .nil
  | q :: r, h => .cons (dp_pair (h q List.mem_cons_self)) (dp_pairs fun u hu => h u (List.mem_cons_of_mem _ hu))
theorem lay_pair {p : Str × Str} (h1 : lowS p.1) (h2 : lowS p.2) : PyData.canLay0 (dat2 p) = true ∧ PyData.depth (dat2 p) = 1 := by
  have a : PyData.strOk p.1 = true := h1.ok
  have b : PyData.strOk p.2 = true := h2.ok
  constructor
  · show (PyData.strOk p.1 && (PyData.strOk p.2 && true)) = true
    rw [a, b]
    rfl
  · rfl
theorem lay_pairs : ∀ {ps : List (Str × Str)}, (∀ p ∈ ps, lowS p.1 ∧ lowS p.2) → PyData.canLayAll0 (ps.map dat2) = true ∧ PyData.depthAll (ps.map dat2) ≤ 1
  | [], _ => ⟨rfl, Nat.zero_le _⟩
  | p :: r, h => by
    have ih := lay_pairs (ps := r) fun y hy => h y (List.mem_cons_of_mem _ hy)
    have hp := lay_pair (h p List.mem_cons_self).1 (h p List.mem_cons_self).2
    rw [List.map_cons]
    refine ⟨?_, ?_⟩
    · show (PyData.canLay0 (dat2 p) && PyData.canLayAll0 _) = true
      rw [ih.1, hp.1]
      rfl
    · show max (PyData.depth (dat2 p)) (PyData.depthAll _) ≤ 1
      rw [hp.2]
      omega
theorem shaped_pairs {ps : List (Str × Str)} (h : ∀ p ∈ ps, lowS p.1 ∧ lowS p.2) : SeqAt.shaped (.list (ps.map dat2)) = true := by
  have l := lay_pairs h
  show (PyData.canLayAll0 (ps.map dat2) && decide (PyData.depthAll (ps.map dat2) + 1 ≤ 64)) = true
  rw [l.1, Bool.true_and]
  exact decide_eq_true (by omega)
theorem shaped_pair {p : Str × Str} (h1 : lowS p.1) (h2 : lowS p.2) : SeqAt.shaped (dat2 p) = true := by
  have l := lay_pair h1 h2
  unfold SeqAt.shaped
  rw [l.1, l.2]
  rfl
theorem eqv_pair (p q : Str × Str) : PyData.eqv (dat2 p) (dat2 q) = decide (p = q) := by
  show ((p.1 == q.1) && ((p.2 == q.2) && true)) = _
  obtain ⟨a, b⟩ := p
  obtain ⟨c, d⟩ := q
  rw [Bool.and_true]
  by_cases h1 : a = c
  · by_cases h2 : b = d
    · subst h1
      subst h2
      simp
    · have : ((a, b) : Str × Str) ≠ (c, d) := fun e => h2 (Prod.mk.inj e).2
      rw [decide_eq_false this, show (b == d) = false from beq_eq_false_iff_ne.mpr h2, Bool.and_false]
  · have : ((a, b) : Str × Str) ≠ (c, d) := fun e => h1 (Prod.mk.inj e).1
    rw [decide_eq_false this, show (a == c) = false from beq_eq_false_iff_ne.mpr h1, Bool.false_and]
theorem any_pair (ps : List (Str × Str)) (p : Str × Str) : ((ps.map dat2).any fun z => PyData.eqv z (dat2 p)) = decide (p ∈ ps) := by
  rw [List.any_map]
  induction ps with
  | nil => rfl
  | cons q r ih =>
    rw [List.any_cons, ih]
    show (PyData.eqv (dat2 q) (dat2 p) || decide (p ∈ r)) = _
    rw [eqv_pair]
    by_cases e : q = p
    · subst e
      simp
    · rw [decide_eq_false e, Bool.false_or]
      exact decide_eq_decide.mpr ⟨fun h => List.mem_cons_of_mem _ h, fun h => (List.mem_cons.mp h).resolve_left fun z => e z.symm⟩
section
variable {X : Cx} {K : PySem.W.Frag}
theorem inD_K (h : X.K = K) (hu : X.A.units + 65 < cLine) : OpR X (compareOp .In) (rInD K) := h ▸ op_inD hu
theorem pair_in {H : Hp} {Q : VK} {a : Addr} {x y : Str} {l : Addr} {ps : PairL} (ha : H a = some (.tup [.str x, .str y])) (hl : H l = some (.lst (refs ps))) (hp : PairsAt H ps) (low : ∀ p ∈ ps.map (·.2), lowS p.1 ∧ lowS p.2) (lx : lowS x) (ly : lowS y)
    (q : Q (.bl (decide ((x, y) ∈ ps.map (·.2)))) H) : rInD K (.ref a) (.ref l) H Q := by
  have e : (ps.map fun q => dat2 q.2) = (ps.map (·.2)).map dat2 := by rw [List.map_map]; rfl
  refine ⟨dat2 (x, y), ps.map fun q => dat2 q.2, dp_pair (q := (a, x, y)) ha, .lst (.inl (.inl hl)) (dp_pairs hp), shaped_pair (p := (x, y)) lx ly, ?_, ?_⟩
  · rw [e]
    exact shaped_pairs low
  · rw [e, any_pair]
    exact q
/-- a list of pairs beside [] -/
theorem ne_pairs_nil {H : Hp} {Q : VK} {l m : Addr} {ps : PairL} (hl : H l = some (.lst (refs ps))) (hp : PairsAt H ps) (low : ∀ p ∈ ps.map (·.2), lowS p.1 ∧ lowS p.2) (hm : H m = some (.lst [])) (q : Q (.bl (!decide (ps = []))) H) : rNeD K (.ref l) (.ref m) H Q := by
  have e : (ps.map fun q => dat2 q.2) = (ps.map (·.2)).map dat2 := by rw [List.map_map]; rfl
  refine ⟨.list (ps.map fun q => dat2 q.2), .list [], .lst (.inl (.inl hl)) (dp_pairs hp), .lst (.inl (.inl hm)) .nil, ?_, rfl, ?_⟩
  · rw [e]
    exact shaped_pairs low
  · cases ps with
    | nil => exact q
    | cons p r => exact q
end
/-- names[a:b], of numbers that are none below 0 -/
theorem cut_mid (zs : List Str) (a b : Nat) : cutV (zs.map V.str) (some (a : Int)) (some (b : Int)) = ((zs.take b).drop a).map V.str := by
  unfold cutV
  rw [HT.sIx_nat, HT.sIx_nat, List.length_map, ← List.map_drop, ← List.map_take]
  congr 1
  rw [List.drop_take]
  by_cases ha : a ≤ zs.length
  · rw [Nat.min_eq_left ha]
    by_cases hb : b ≤ zs.length
    · rw [Nat.min_eq_left hb]
    · rw [Nat.min_eq_right (Nat.le_of_lt (Nat.lt_of_not_le hb)), List.take_of_length_le (by rw [List.length_drop]; exact Nat.le_refl _), List.take_of_length_le (by rw [List.length_drop]; omega)]
  · rw [Nat.min_eq_right (Nat.le_of_lt (Nat.lt_of_not_le ha)), List.drop_eq_nil_of_le (Nat.le_refl _), List.drop_eq_nil_of_le (Nat.le_of_lt (Nat.lt_of_not_le ha)), List.take_nil, List.take_nil]
theorem cut_from (zs : List Str) (a : Nat) : cutV (zs.map V.str) (some (a : Int)) none = (zs.drop a).map V.str := by
  unfold cutV
  rw [HT.sIx_nat, HT.sIx_none, List.length_map, ← List.map_drop, ← List.map_take]
  congr 1
  by_cases ha : a ≤ zs.length
  · rw [Nat.min_eq_left ha, List.take_of_length_le (by rw [List.length_drop]; omega)]
  · rw [Nat.min_eq_right (by omega), List.drop_eq_nil_of_le (by omega), List.drop_eq_nil_of_le (by omega), List.take_nil]
end Lp

namespace Lp
open PySem PySem.Spec PyProof.Rows L2

/-! ### == of a text and a dict -/
section
variable {prog : Program} {w : World} {A : Around} {s : Shared}
open PySem.SeqAt AutoSeq1
theorem dict_declines_str {l : Addr} {o : Obj} (ho : s.heap.get? l = some o) (hc : o.cls = .type "dict") (b : Str) (u : Tok) {E Q : Value → Shared → Prop} (hq : Q .notImplemented s) : wpAny (model prog w) A (call (.builtin "dict.__eq__") [.ref l, .str b u]) Q E s := by
  have ty : s.TypeIs (.ref l) "dict" := ⟨o, ho, hc⟩
  refine wpAny_call_entry PySem.F.slot_dict_eq ty PySem.F.entry_dict_eq ?_ (PySem.F.args_dict_eq_2 _ _)
  show wpAny _ _ (Builtin.Dict.dictSlotArgs "__eq__" ⟨[.ref l, .str b u], []⟩ >>= _) _ _ s
  refine wpAny_bind ?_
  unfold Builtin.Dict.dictSlotArgs
  refine wpAny_bind (wpAny_notOrdered_dict ty ?_)
  show wpAny _ _ (pure (Value.ref l, Value.str b u)) _ _ s
  refine wpAny_pure ?_
  refine wpAny_bind (wpAny_isInstance (T := "str") (typeIs_str s b u) PySem.F.sub_str_dict ?_)
  simp only [Bool.not_false, if_true]
  refine wpAny_bind (wpAny_rule (wpAny_bind (wpAny_pure (wpAny_pure ⟨_, rfl, ?_⟩))))
  exact hq
theorem str_declines_dict (b : Str) (u : Tok) (l : Addr) (c : Value) (es : Array DictEntry) (ep : Nat) (dd : Option Addr) (sl : Array (Option Value)) :
    Meets (Builtin.«str.__eq__» ⟨[.str b u, .ref l], []⟩) (fun _ R s => s.heap.get? l = some { cls := c, dict := dd, data := .dict es ep, slots := sl } ∧ R (.ok (.ret .notImplemented)) s) :=
  .of_wp fun prog w A R s h => by obtain ⟨hp, g, d, tk, os⟩ := s; obtain ⟨hl, h⟩ := h; wp_walk using wpAny_loadPart' hl, wpAny_load hl; exact ⟨_, rfl, h⟩
/-- an object that is a dict -/
def IsDct (h : Heap) (l : Addr) : Prop := ∃ (dd : Option Addr) (sl : Array (Option Value)) (es : Array DictEntry) (ep : Nat), h.get? l = some { cls := .type "dict", dict := dd, data := .dict es ep, slots := sl }
theorem rc_dict_str {l : Addr} (b : Str) (u : Tok) (hl : IsDct s.heap l) (hu : A.units < cLine) : RcAt A s (.ref l) (.str b u) false := fun prog w E Q h => by
  obtain ⟨dd, sl, es, ep, ho⟩ := hl
  exact rc_eq_decline_or (k := false) ⟨_, ho, rfl⟩ (typeIs_str s b u) (by decide) PySem.F.sub_str_dict PySem.F.slot_dict_eq PySem.F.slot_str_eq_refl
    (fun _ hq => dict_declines_str ho rfl b u hq)
    (fun _ hq => call_meets PySem.F.slot_str_eq_refl (typeIs_str s b u) PySem.F.entry_str_eq (PySem.F.args_str_eq_2 _ _) (str_declines_dict b u l (.type "dict") es ep dd sl) ⟨ho, hq⟩)
    (fun _ hq => wpAny_of_eq (rfl : isSame (.ref l) (.str b u) = pure false) hq) (.inr hu) h
theorem eq_dict_str {l : Addr} (b : Str) (u : Tok) (hl : IsDct s.heap l) (hu : A.units < cLine) : EqAt A s (.ref l) (.str b u) false := fun prog w E Q h => by
  unfold eqBool
  refine wpAny_holding ?_
  refine wpAny_ite_split (fun hab => absurd (eq_of_beq hab) nofun) (fun _ => ?_)
  exact wpAny_bind (rc_dict_str b u hl hu prog w E _ (wpAny_truthy_bool h))
theorem rc_str_dict {l : Addr} (b : Str) (u : Tok) (hl : IsDct s.heap l) (hu : A.units < cLine) : RcAt A s (.str b u) (.ref l) false := fun prog w E Q h => by
  obtain ⟨dd, sl, es, ep, ho⟩ := hl
  exact rc_eq_decline_or (k := false) (typeIs_str s b u) ⟨_, ho, rfl⟩ (by decide) PySem.F.sub_dict_str PySem.F.slot_str_eq PySem.F.slot_dict_eq_refl
    (fun _ hq => call_meets PySem.F.slot_str_eq (typeIs_str s b u) PySem.F.entry_str_eq (PySem.F.args_str_eq_2 _ _) (str_declines_dict b u l (.type "dict") es ep dd sl) ⟨ho, hq⟩)
    (fun _ hq => dict_declines_str ho rfl b u hq)
    (fun _ hq => wpAny_of_eq (rfl : isSame (.str b u) (.ref l) = pure false) hq) (.inr hu) h
theorem eq_str_dict {l : Addr} (b : Str) (u : Tok) (hl : IsDct s.heap l) (hu : A.units < cLine) : EqAt A s (.str b u) (.ref l) false := fun prog w E Q h => by
  unfold eqBool
  refine wpAny_holding ?_
  refine wpAny_ite_split (fun hab => absurd (eq_of_beq hab) nofun) (fun _ => ?_)
  exact wpAny_bind (rc_str_dict b u hl hu prog w E _ (wpAny_truthy_bool h))
end

/-! ### == and in of any data and texts -/
/-- a value of some kind that == knows -/
def DatX (K : PySem.W.Frag) (H : Hp) : V → Prop
  | .non => True
  | .bl _ => True
  | .int _ => True
  | .str _ => True
  | .ref a => (∃ xs, SqL K H a xs) ∨ (∃ xs, SqT K H a xs) ∨ ∃ kvs, H a = some (.dK kvs)
  | _ => False
section
variable {X : Cx} {pins : List (Addr × Obj)} {σ : L2.St} {H : Hp} {s : Shared}
theorem dct_of (I : Inv X pins σ H s) {a : Addr} {kvs : List (Key × V)} (e : H a = some (.dK kvs)) : IsDct s.heap a := by
  obtain ⟨_, _, vs, _, o, es, ep, ho, ⟨h1, h2, h3⟩, hd, _⟩ := (show ObjOk X.prog X.w H s.heap a (.dK kvs) from I.hok a _ e)
  obtain ⟨cls, dd, data, sl⟩ := o
  simp only at h1 h2 h3 hd
  subst h1 h2 h3 hd
  exact ⟨_, _, es, ep, ho⟩
open PySem.SeqAt in
theorem datX_eqs (I : Inv X pins σ H s) {A : Around} {x : V} {v : Value} (d : DatX X.K H x) (r : RelV x v) (b : Str) (u : Tok) (hu : A.units < cLine) :
    RcAt A s v (.str b u) (decide (x = .str b)) ∧ EqAt A s (.str b u) v (decide (x = .str b)) := by
  cases x with
  | non =>
    cases r
    exact ⟨.none_str b u, .str_none b u⟩
  | bl c =>
    cases r
    exact ⟨.bool_str c b u, .str_bool b u c⟩
  | int i =>
    obtain ⟨t, rfl⟩ := r
    exact ⟨.int_str i t b u, .str_int b u i t⟩
  | str z =>
    obtain ⟨t, rfl⟩ := r
    have e1 : decide (V.str z = V.str b) = (z == b) := dec_str
    have e2 : decide (V.str z = V.str b) = (b == z) := by rw [e1, Bool.eq_iff_iff, beq_iff_eq, beq_iff_eq, eq_comm]
    exact ⟨by rw [e1]; exact .str_str z t b u, by rw [e2]; exact .str_str b u z t⟩
  | ref a =>
    cases r
    rcases d with ⟨xs, h⟩ | ⟨xs, h⟩ | ⟨kvs, h⟩
    · obtain ⟨its, _, p, _⟩ := I.list h
      exact ⟨.list_str b u p.isList hu, .str_list b u p.isList hu⟩
    · obtain ⟨its, _, p, _⟩ := I.tuple h
      exact ⟨.tuple_str b u p hu, .str_tuple b u p hu⟩
    · exact ⟨rc_dict_str b u (dct_of I h) hu, eq_str_dict b u (dct_of I h) hu⟩
  | byt b => exact False.elim d
  | flt b => exact False.elim d
  | ty n => exact False.elim d
def rEqS (K : PySem.W.Frag) : R2 := fun x y H Q => ∃ b : Str, y = .str b ∧ DatX K H x ∧ Q (.bl (decide (x = .str b))) H
theorem op_eqS (hu : X.A.units < cLine) : OpR X (compareOp .Eq) (rEqS X.K) := by
  intro pins s σ H x y v u Q I rx ry h
  obtain ⟨b, rfl, d, q⟩ := h
  obtain ⟨t, rfl⟩ := ry
  exact (datX_eqs I d rx b t hu).1 _ _ _ _ ⟨.bl _, H, I, rfl, q⟩
def inTxt (x : V) (zs : List Str) : Bool := zs.any fun z => decide (x = .str z)
theorem inTxt_str (z : Str) (zs : List Str) : inTxt (.str z) zs = decide (z ∈ zs) := by
  unfold inTxt
  induction zs with
  | nil => rfl
  | cons y r ih =>
    rw [List.any_cons, ih]
    by_cases e : z = y
    · subst e
      simp
    · rw [decide_eq_false (fun h => e (V.str.inj h)), Bool.false_or]
      exact decide_eq_decide.mpr ⟨fun h => List.mem_cons_of_mem _ h, fun h => (List.mem_cons.mp h).resolve_left e⟩
theorem inTxt_other {x : V} (h : ∀ z, x ≠ .str z) (zs : List Str) : inTxt x zs = false := by
  unfold inTxt
  rw [List.any_eq_false]
  intro z _ e
  exact h z (of_decide_eq_true e)
def txtE (x : V) : Value → Bool
  | .str b _ => decide (x = .str b)
  | _ => false
theorem vals_txt : ∀ {zs : List Str} {its : List Value}, Vals (zs.map V.str) its → (∀ y ∈ its, ∃ z t, y = .str z t) ∧ ∀ x, its.any (txtE x) = inTxt x zs
  | [], its, h => by
    cases h
    exact ⟨fun _ h => (nomatch h), fun _ => rfl⟩
  | z :: r, its, h => by
    rw [List.map_cons] at h
    cases h with
    | cons h1 h2 =>
      obtain ⟨t, rfl⟩ := h1
      obtain ⟨k1, k2⟩ := vals_txt h2
      refine ⟨fun y hy => ?_, fun x => ?_⟩
      · rcases List.mem_cons.mp hy with rfl | hy
        · exact ⟨z, t, rfl⟩
        · exact k1 y hy
      · rw [List.any_cons, k2 x]
        rfl
def rInS (K : PySem.W.Frag) : R2 := fun x y H Q => ∃ (a : Addr) (zs : List Str), y = .ref a ∧ SqT K H a (zs.map V.str) ∧ DatX K H x ∧ Q (.bl (inTxt x zs)) H
theorem op_inS (hu : X.A.units + 1 < cLine) : OpR X (compareOp .In) (rInS X.K) := by
  intro pins s σ H x y v u Q I rx ry h
  obtain ⟨a, zs, rfl, ht, d, q⟩ := h
  obtain rfl : u = Value.ref a := ry
  obtain ⟨its, r, p, _⟩ := I.tuple ht
  obtain ⟨k1, k2⟩ := vals_txt r
  refine SeqAt.in_tupleAt (txtE x) p (fun y hy => ?_) ⟨.bl (inTxt x zs), H, I, ?_, q⟩
  · obtain ⟨z, t, rfl⟩ := k1 y (by simpa using hy)
    exact (datX_eqs I (A := X.A.in1) d rx z t hu).2
  · show Value.bool (its.toArray.any (txtE x)) = Value.bool _
    rw [List.any_toArray, k2]
theorem eqS_K {K : PySem.W.Frag} (h : X.K = K) (hu : X.A.units < cLine) : OpR X (compareOp .Eq) (rEqS K) := h ▸ op_eqS hu
theorem inS_K {K : PySem.W.Frag} (h : X.K = K) (hu : X.A.units + 1 < cLine) : OpR X (compareOp .In) (rInS K) := h ▸ op_inS hu
end
end Lp

namespace Lp
open PySem PySem.Spec PyProof.Rows L2
open AutoSeq1 (wpAny_loadPart')
set_option maxHeartbeats 1000000 in
theorem meets_enum_newT (l : Addr) (items : Array Value) (n : Nat) (dct : Option Addr) (sl : Array (Option Value)) :
    Meets (Builtin.«enumerate.__new__» ⟨[.type "enumerate", .ref l], []⟩) (fun _ R s => s.heap.get? l = some { cls := .type "tuple", dict := dct, data := .seq items n, slots := sl } ∧
      R (.ok (.ret (.ref (s.heap.push { cls := .type "tuple_iterator", data := .fields #[.ref l, .int 0 0] }).objs.size)))
        { s with heap := (s.heap.push { cls := .type "tuple_iterator", data := .fields #[.ref l, .int 0 0] }).push { cls := .type "enumerate", data := .fields #[.none, .bool false, .ref s.heap.objs.size, rawInt 0, .none, .none] } }) :=
  .of_wp fun prog w A R s h => by
    obtain ⟨hp, g, d, tk, os⟩ := s; obtain ⟨hl, h⟩ := h
    have hsub := sub_enumerate
    have hL : Heap.IsTuple (Shared.heap ⟨hp, g, d, tk, os⟩) l items := ⟨_, hl, rfl, n, rfl⟩
    wp_walk using wpAny_loadPart' hl
    refine wpAny_stack_any fun st => wpAny_pure ?_
    split
    · rename_i c _ _ _ _ _
      cases (c == Value.type "enumerate")
      · wp_walk using wpAny_loadPart' hl, wpAny_pyIter_tuple hL
        exact ⟨_, rfl, h⟩
      · wp_walk using wpAny_loadPart' hl, wpAny_pyIter_tuple hL
        exact ⟨_, rfl, h⟩
    · wp_walk using wpAny_loadPart' hl, wpAny_pyIter_tuple hL
      exact ⟨_, rfl, h⟩
section
variable {prog : Program} {w : World} {A : Around} {E : Value → Shared → Prop} {s : Shared}
theorem call_enum_tuple {l : Addr} {items : Array Value} {Q : Value → Shared → Prop} (hL : s.heap.IsTuple l items)
    (h : ∀ h', IsEnum h' (s.heap.objs.size + 1) s.heap.objs.size 0 .none → h'.IsTupleIter s.heap.objs.size l 0 → h'.objs.size = s.heap.objs.size + 2 →
      (∀ b o, s.heap.get? b = some o → h'.get? b = some o) → Q (.ref (s.heap.objs.size + 1)) { s with heap := h' }) :
    wpAny (model prog w) A (call (.type "enumerate") [.ref l]) Q E s := by
  obtain ⟨⟨c, dct, dt, sl⟩, hl, hc, n, hd⟩ := hL
  replace hc : c = .type "tuple" := hc
  replace hd : dt = .seq items n := hd
  subst hc hd
  refine callType_new F.called_enumerate (by decide) (F.typeCall_enumerate_1 _) (F.newCall_enumerate_1 _) (fun obj => F.args_object_init_2 obj _) F.entry_enumerate_new
    (meets_enum_newT l items n dct sl) ⟨hl, ?_⟩
  have hz : (s.heap.push { cls := .type "tuple_iterator", data := .fields #[.ref l, .int 0 0] }).objs.size = s.heap.objs.size + 1 := Heap.size_push ..
  show _ ∧ _
  rw [hz]
  have he : IsEnum ((s.heap.push { cls := .type "tuple_iterator", data := .fields #[.ref l, .int 0 0] }).push
      { cls := .type "enumerate", data := .fields #[.none, .bool false, .ref s.heap.objs.size, rawInt 0, .none, .none] }) (s.heap.objs.size + 1) s.heap.objs.size 0 .none := by
    have := Heap.get?_push_size (s.heap.push { cls := .type "tuple_iterator", data := .fields #[.ref l, .int 0 0] })
      (o := { cls := .type "enumerate", data := .fields #[.none, .bool false, .ref s.heap.objs.size, rawInt 0, .none, .none] }) rfl
    rw [hz] at this; exact this
  refine ⟨⟨_, he, rfl⟩, h _ he ⟨_, Heap.get?_push_of_some _ (Heap.get?_push_size _ rfl), rfl, rfl⟩ (by rw [Heap.size_push, hz]) fun b o x => Heap.get?_push_of_some _ (Heap.get?_push_of_some _ x)⟩
end
section
variable {prog : Program} {w : World} {A : Around} {E : Value → Shared → Prop} {s : Shared}
theorem next_enum_tupEnd {e it l : Addr} {i : Nat} {items : Array Value} {old : Value} {Q : Option Value → Shared → Prop} (hh : A.handled = none)
    (he : IsEnum s.heap e it i old) (hit : s.heap.IsTupleIter it l i) (hl : s.heap.IsTuple l items) (hx : items[i]? = none)
    (hQ : ∀ h', Heap.ExtBut it s.heap h' → Q none { s with heap := h' }) : wpAny (model prog w) A (pyNext (.ref e)) Q E s := by
  have hT : s.TypeIs (.ref e) "enumerate" := ⟨_, he, rfl⟩
  unfold pyNext
  refine wpAny_bind (wpAny_attempt (wpAny_callSpecial?_slot (name := Str.ofString "__next__") hT F.slot_enumerate_next
    (wpAny_call_entry F.slot_enumerate_next hT F.entry_enumerate_next ?_ (F.args_enumerate_next_1 _))))
  show wpAny _ _ (field (.ref e) 2 >>= _) _ _ _
  refine wpAny_bind (wpAny_field he rfl (x := .ref it) rfl ?_)
  refine wpAny_bind (wpAny_nextOf_tuple_end hh hit hl hx fun h' x he' hx' => ?_)
  obtain ⟨o, ho, hc⟩ := hx'
  refine wpAny_bind (wpAny_isInstance (T := "StopIteration") (b := true) ⟨o, ho, hc⟩ isSubtype_stop ?_)
  exact wpAny_pure (hQ _ he')
end
/-- the tuple at a, each item in a new pair with its number -/
def Itu (K : PySem.W.Frag) (a : Addr) : It :=
  ⟨fun i H => ∃ (xs : List V) (x : V), SqT K H a xs ∧ xs[i]? = some x, fun i H v H' => ∃ T x, v = .ref T ∧ H T = none ∧ H' = upd H T (.tup [.int (i : Nat), x]) ∧ ∀ xs, SqT K H a xs → xs[i]? = some x, fun i H => ∃ xs : List V, SqT K H a xs ∧ xs.length ≤ i⟩
theorem turn_enumT {P : Program} {w : World} {K : PySem.W.Frag} {elts : List Expr} {kk : Nat} {tpos : Pos} (a e it : Addr) :
    Turn P w K (.Tuple elts kk tpos) (Itu K a) [e, it] e (fun i h => (∃ old, IsEnum h e it ((i : Nat) : Int) old) ∧ h.IsTupleIter it a i ∧ e ≠ it ∧ a ≠ it ∧ e ≠ a) where
  mem := by simp
  obj := fun i h st b hb => by
    obtain ⟨⟨old, he⟩, ⟨o, ho, hc, hd⟩, _⟩ := st
    have e' : b = e ∨ b = it := by simpa using hb
    rcases e' with z | z
    · rw [z]; exact ⟨_, he, fun v q => nomatch q⟩
    · rw [z]; exact ⟨o, ho, fun v q => by rw [hd] at q; cases q⟩
  keep := fun i h h' st k => let ⟨⟨old, he⟩, hi, hne⟩ := st; ⟨⟨old, k e (by simp) _ he⟩, hi.at fun o q => k it (by simp) o q, hne⟩
  item := by
    intro X hP hw hK hc i pins s σ H E I hf st hg
    subst hP hw hK
    obtain ⟨⟨old, he⟩, hit, hne, hat, hea⟩ := st
    obtain ⟨xs, x, hq, hx⟩ := hg
    obtain ⟨its, rv, p, hz⟩ := I.tuple hq
    obtain ⟨u, hu, ru⟩ := rv.get hx
    have hel : e < s.heap.objs.size := Heap.lt_size he
    have hil : it < s.heap.objs.size := by obtain ⟨_, q, _⟩ := hit; exact Heap.lt_size q
    have hu' : its.toArray[i]? = some u := by simpa using hu
    have D := PySem.Draws.tuple (prog := X.prog) (w := X.w) (A := X.A.in1) (I.ok.hd hc) it a hat its.toArray
    refine wpAny_pyNext_enum_itemD D he ⟨hit, p⟩ (Array.getElem?_eq_some_iff.mp hu').1 hne (by simp [hne, hea]) fun x' h' tk px ho hit' hT hsz hk => ?_
    have ex : x' = u := by
      rw [hu'] at px
      exact (Option.some.inj px).symm
    subst ex
    refine ⟨_, rfl, wpAny_letOwnedTupleGo_enum (s := { s with heap := h', toks := tk + 1 }) ho fun h'' he' sb => ?_⟩
    have hT2 : h''.get? s.heap.objs.size = some { cls := .type "tuple", data := .seq #[.int i tk, x'] } := (sb.2 _ (Nat.ne_of_gt hel)).trans hT
    have new : ObjOk X.prog X.w (upd H s.heap.objs.size (.tup [.int (i : Nat), x])) h'' s.heap.objs.size (.tup [.int (i : Nat), x]) :=
      ⟨by show 2 ≤ sizeLine; decide, [.int i tk, x'], .cons ⟨_, rfl⟩ (.cons ru .nil), ⟨_, hT2, rfl, _, rfl⟩⟩
    have I1 : Inv X pins σ (upd H s.heap.objs.size (.tup [.int (i : Nat), x])) { s with heap := h'', toks := tk + 1 } :=
      I.turnedNew (ch := [e, it]) (fun b ob hb q => (sb.2 b (fun z => hb (by simp [z]))).trans (hk b ob (fun z => hb (by simp [z])) (fun z => hb (by simp [z])) q)) hf (Nat.le_refl _) new
    refine ⟨.ref s.heap.objs.size, _, I1, rfl, ⟨_, x, rfl, I.hok.fresh (Nat.le_refl _), rfl, fun ys hy => by rw [I.tuple_inj hy hq]; exact hx⟩, ⟨⟨x', ?_⟩, hit'.1.at fun o q => (sb.2 it (Ne.symm hne)).trans q, hne, hat, hea⟩, fun b hb => ?_⟩
    · have e1 : ((i + 1 : Nat) : Int) = (i : Int) + 1 := by omega
      rw [e1]; exact he'
    · have hb' : b < s.heap.objs.size := by
        have e' : b = e ∨ b = it := by simpa using hb
        rcases e' with z | z
        · rw [z]; exact hel
        · rw [z]; exact hil
      rw [upd_ne (Nat.ne_of_lt hb')]
      exact (hf b hb).1
  done := by
    intro X hP hw hK hc i pins s σ H E I hf st hg
    subst hP hw hK
    obtain ⟨⟨old, he⟩, hit, hne, hat, hea⟩ := st
    obtain ⟨xs, hq, hx⟩ := hg
    obtain ⟨its, rv, p, hz⟩ := I.tuple hq
    obtain ⟨f0, f1, f2, f3, f4, f5⟩ := hf it (by simp)
    have hl := rv.length
    exact next_enum_tupEnd (I.ok.hd hc) he hit (show s.heap.IsTuple a its.toArray from p) (by simp; omega) fun h' eb => ⟨rfl, I.turned (t' := s.toks) (fun b o hb q => eb b o hb q) f0 f1 f3 f4 f5⟩
  self := fun A i s Q E st h => let ⟨⟨_, he⟩, _⟩ := st; wpAny_pyIter_enum he h
def iEnumT (K : PySem.W.Frag) (ta : TA) : TI := fun σ H R => ta σ H fun vs H1 => ∃ a xs, vs = [.ref a] ∧ SqT K H1 a xs ∧ R (Itu K a) H1
theorem pi_enumT {X : Cx} {e : Expr} {ta : TA} {p pos tpos : Pos} {elts : List Expr} {kk : Nat} (hg : Gl X "enumerate") (hm : X.mg "enumerate" = none) (ha : PA X [e] ta) (hs : starEach [e] X.env = [(false, eval e X.env)] := by rfl) :
    PI X (.Tuple elts kk tpos) (.Call (.Name "enumerate" p) [e] [] pos) (iEnumT X.K ta) := by
  refine ⟨fun pins s σ H R I h => ?_⟩
  refine Call_ (ld_blt I hg hm boot_enumerate (PyProof.Rows.callWith_type1 (thn (ha.run pos pins s σ H _ I h) fun us s1 ⟨vs, H1, I1, r1, q1⟩ => ?_) hs rfl))
  obtain ⟨a, xs, ex, hq, q⟩ := q1
  subst ex
  cases r1 with
  | cons r rr =>
    cases rr
    cases r
    obtain ⟨its, rv, p', hz⟩ := I1.tuple hq
    refine call_enum_tuple (show s1.heap.IsTuple a its.toArray from p') fun h' he hit hsz hk => wpAny_pyIter_enum he ?_
    have I2 : Inv X pins σ H1 { s1 with heap := h' } := I1.kept (t' := s1.toks) hk
    have ha : a < s1.heap.objs.size := by
      obtain ⟨o, ho, _⟩ := id p'
      exact Heap.lt_size ho
    refine ⟨s1.heap.objs.size + 1, [s1.heap.objs.size + 1, s1.heap.objs.size], _, _, H1, rfl, I2, turn_enumT a (s1.heap.objs.size + 1) s1.heap.objs.size, ⟨⟨.none, he⟩, hit, Nat.succ_ne_self _, Nat.ne_of_lt ha, Nat.ne_of_gt (Nat.lt_succ_of_lt ha)⟩, fun b hb => ?_, q⟩
    have e' : b = s1.heap.objs.size + 1 ∨ b = s1.heap.objs.size := by simpa using hb
    have hle : s1.heap.objs.size ≤ b := by
      rcases e' with z | z
      · rw [z]; exact Nat.le_add_right _ _
      · rw [z]; exact Nat.le_refl _
    exact I1.fpOk hle (I1.hok.fresh hle)
/-- a walk over a tuple's items with their numbers -/
theorem walk_enumT {K : PySem.W.Frag} {a : Addr} {xs : List V} : Walk (Itu K a) xs.length (fun H => SqT K H a xs) (fun i H v H' => ∃ T x, v = .ref T ∧ H T = none ∧ H' = upd H T (.tup [.int (i : Nat), x]) ∧ xs[i]? = some x) :=
  ⟨fun i _ hi q => ⟨xs, xs[i], q, by simp [hi]⟩, fun _ q => ⟨xs, q, Nat.le_refl _⟩, fun i H x H' _ q y => by obtain ⟨T, v, e1, e2, e3, e4⟩ := y; exact ⟨T, v, e1, e2, e3, e4 xs q⟩⟩
end Lp

namespace Lp
open PySem PySem.Spec PyProof.Rows L2
/-! ### == of anything and what is empty -/
section
variable {X : Cx}
def isNil (xs : List V) : Bool := xs.isEmpty
def rEqNilL (K : PySem.W.Frag) : R2 := fun x y H Q => ∃ (a b : Addr) (xs : List V), x = .ref a ∧ y = .ref b ∧ SqL K H a xs ∧ SqL K H b [] ∧ Q (.bl xs.isEmpty) H
def rNeNilL (K : PySem.W.Frag) : R2 := fun x y H Q => ∃ (a b : Addr) (xs : List V), x = .ref a ∧ y = .ref b ∧ SqL K H a xs ∧ SqL K H b [] ∧ Q (.bl (!xs.isEmpty)) H
def rEqNilT (K : PySem.W.Frag) : R2 := fun x y H Q => ∃ (a b : Addr) (xs : List V), x = .ref a ∧ y = .ref b ∧ SqT K H a xs ∧ SqT K H b [] ∧ Q (.bl xs.isEmpty) H
theorem op_eqNilL (hu : X.A.units < cLine) : OpR X (compareOp .Eq) (rEqNilL X.K) := by
  intro pins s σ H x y v u Q I rx ry h
  obtain ⟨a, b, xs, rfl, rfl, ha, hb, q⟩ := h
  obtain rfl : v = Value.ref a := rx
  obtain rfl : u = Value.ref b := ry
  obtain ⟨us, r1, p1, _⟩ := I.list ha
  obtain ⟨ws, r2, p2, _⟩ := I.list hb
  cases r2
  cases r1 with
  | nil => exact SeqAt.RcAt.lists (e := fun _ => true) p1.isList p2.isList rfl hu (fun j h1 _ => absurd h1 (Nat.not_lt_zero j)) _ _ _ _ ⟨.bl _, H, I, rfl, q⟩
  | cons h1 h2 => exact SeqAt.RcAt.lists_lengths p1.isList p2.isList (by simp) hu _ _ _ _ ⟨.bl _, H, I, rfl, q⟩
theorem op_neNilL (hu : X.A.units < cLine) : OpR X (compareOp .NotEq) (rNeNilL X.K) := by
  intro pins s σ H x y v u Q I rx ry h
  obtain ⟨a, b, xs, rfl, rfl, ha, hb, q⟩ := h
  obtain rfl : v = Value.ref a := rx
  obtain rfl : u = Value.ref b := ry
  obtain ⟨us, r1, p1, _⟩ := I.list ha
  obtain ⟨ws, r2, p2, _⟩ := I.list hb
  cases r2
  cases r1 with
  | nil => exact SeqAt.RcNeAt.lists (e := fun _ => true) p1.isList p2.isList rfl hu (fun j h1 _ => absurd h1 (Nat.not_lt_zero j)) _ _ _ _ ⟨.bl _, H, I, rfl, q⟩
  | cons h1 h2 => exact SeqAt.RcNeAt.lists_lengths p1.isList p2.isList (by simp) hu _ _ _ _ ⟨.bl _, H, I, rfl, q⟩
theorem op_eqNilT (hu : X.A.units < cLine) : OpR X (compareOp .Eq) (rEqNilT X.K) := by
  intro pins s σ H x y v u Q I rx ry h
  obtain ⟨a, b, xs, rfl, rfl, ha, hb, q⟩ := h
  obtain rfl : v = Value.ref a := rx
  obtain rfl : u = Value.ref b := ry
  obtain ⟨us, r1, p1, _⟩ := I.tuple ha
  obtain ⟨ws, r2, p2, _⟩ := I.tuple hb
  cases r2
  refine SeqAt.RcAt.tuples (e := fun _ => true) (show s.heap.IsTuple a us.toArray from p1) (show s.heap.IsTuple b ([] : List Value).toArray from p2) hu (fun j _ h2 => absurd h2 (Nat.not_lt_zero j)) _ _ _ _ ⟨.bl xs.isEmpty, H, I, ?_, q⟩
  cases r1 with
  | nil => rfl
  | cons h1 h2 =>
    show Value.bool _ = Value.bool false
    simp
end
end Lp

namespace Lp
open PySem PySem.Spec PyProof.Rows L2
/-! ### d.get(e), d a written dict with text keys -/
def tGetK (K : PySem.W.Frag) (d : Addr) (te : TE) : TE := fun σ H Q => te σ H fun y H1 => ∃ (z : Str) (r : Option Value) (v0 : V), y = .str z ∧ PySem.W.nsIn K d z = some r ∧ RelV v0 (r.getD .none) ∧ Q v0 H1
theorem pe_getK {X : Cx} {d : Addr} {es : Array DictEntry} {n : Nat} {o e : Expr} {te : TE} {apos cpos : Pos} (D : KDict X.K X.w d es n) (ho : PE X o (tC (.ref d))) (he : PE X e te)
    (hbase : attributeBase o "get" X.env (eval o X.env) = eval o X.env := by rfl)
    (hfew : ((backTo cpos (starEach [e] X.env)).all (fun x => !x.1) && (backToKw cpos (keywordEach [] X.env)).all (fun x => x.1.isSome)
      && decide (([e] : List Expr).length + ([] : List Keyword).length + (if ([] : List Keyword).isEmpty then 0 else 1) < 30)) = true := by rfl)
    (hline : (apos.endLine == cpos.line) = true := by rfl) (hs : starEach [e] X.env = (false, eval e X.env) :: starEach [] X.env := by rfl) (hplain : (backTo cpos (starEach [] X.env)).any (·.1) = false := by rfl) :
    PE X (.Call (.Attribute o "get" apos) [e] [] cpos) (tGetK X.K d te) := by
  refine ⟨fun pins s σ H Q I h => ?_⟩
  refine wpAny_Call_method_late hbase hfew hline rfl (thn (ho.run pins s σ H (fun x H1 => x = .ref d ∧ H1 = H) I ⟨rfl, rfl⟩) fun v s1 ⟨x, H1, I1, r1, ex, eH⟩ => ?_)
  subst ex eH
  obtain rfl : v = Value.ref d := r1
  have m := PySem.W.mapOf_K (prog := X.prog) (w := X.w) I1.kIn D.at_ D.lit
  refine ⟨"dict", "dict.get", PySem.F.plainAttrs_dict, PySem.F.slot_dict_get, PySem.F.type_dict_get, m.typeIs, fun a ea => ?_, ?_⟩
  · cases ea
    exact ⟨_, I1.kIn d _ D.at_, rfl⟩
  have hA := (pa_cons (hs := hs) he pa_nil).run cpos pins s1 σ H1 (fun xs H2 => match xs with | [y] => ∃ (z : Str) (r : Option Value) (v0 : V), y = .str z ∧ PySem.W.nsIn X.K d z = some r ∧ RelV v0 (r.getD .none) ∧ Q v0 H2 | _ => False) I1 h
  · rw [hs] at hA ⊢
    refine Calls.callWith_builtin (by show (false || (backTo cpos (starEach [] X.env)).any (·.1)) = false; rw [hplain] <;> rfl) (Calls.evalArgs_plain ?_)
    refine thn hA fun us s2 ⟨vs, H2, I2, r2, hm⟩ => ?_
    obtain ⟨y, rfl⟩ : ∃ y, vs = [y] := by
      match vs, hm with
      | [y], _ => exact ⟨y, rfl⟩
    obtain ⟨z, r, v0, rfl, hn, rv, q⟩ := hm
    cases r2 with
    | cons h1 h2 =>
      cases h2
      obtain ⟨t, rfl⟩ := h1
      have m2 := PySem.W.mapOf_K (prog := X.prog) (w := X.w) I2.kIn D.at_ D.lit
      refine call_meetsIn PySem.F.slot_dict_get m2.typeIs PySem.F.entry_dict_get (PySem.F.args_dict_get_2 _ _) (meets_dict_get (strKind X.prog X.w) d (strKind_is X.prog X.w z t) D.low) ⟨_, m2, ?_⟩
      rw [PySem.W.find_K D.at_ hn]
      exact ⟨v0, H2, I2.tok _, rv, q⟩
end Lp

namespace Lp
open PySem PySem.Spec PyProof.Rows L2
/-! ### values of texts and tuples; all else -/
inductive Dt where
  | txt (z : Str)
  | tup (ds : List Dt)
  | oth
mutual
/-- what a value stands for -/
inductive Rep (H : Hp) : V → Dt → Prop
  | txt {z : Str} : z.length ≤ 100000 → Rep H (.str z) (.txt z)
  | tup {a : Addr} {xs : List V} {ds : List Dt} : H a = some (.tup xs) → xs.length ≤ 1000 → RepAll H xs ds → Rep H (.ref a) (.tup ds)
  | non : Rep H .non .oth
  | bl {b : Bool} : Rep H (.bl b) .oth
  | int {i : Int} : Rep H (.int i) .oth
  | lst {a : Addr} {xs : List V} : H a = some (.lst xs) → Rep H (.ref a) .oth
  | dct {a : Addr} {xs : List (Key × V)} : H a = some (.dK xs) → Rep H (.ref a) .oth
inductive RepAll (H : Hp) : List V → List Dt → Prop
  | nil : RepAll H [] []
  | cons {v : V} {vs : List V} {d : Dt} {ds : List Dt} : Rep H v d → RepAll H vs ds → RepAll H (v :: vs) (d :: ds)
end
mutual
theorem Rep.same {H H' : Hp} (k : Same H H') : ∀ (d : Dt) (v : V), Rep H v d → Rep H' v d
  | .txt z, v, h => by
    cases h with
    | txt l => exact .txt l
  | .tup ds, v, h => by
    cases h with
    | tup e l r => exact .tup (k _ _ e) l (RepAll.same k ds _ r)
  | .oth, v, h => by
    cases h with
    | non => exact .non
    | bl => exact .bl
    | int => exact .int
    | lst e => exact .lst (k _ _ e)
    | dct e => exact .dct (k _ _ e)
theorem RepAll.same {H H' : Hp} (k : Same H H') : ∀ (ds : List Dt) (vs : List V), RepAll H vs ds → RepAll H' vs ds
  | [], vs, h => by
    cases h
    exact .nil
  | d :: ds, vs, h => by
    cases h with
    | cons h1 h2 => exact .cons (Rep.same k d _ h1) (RepAll.same k ds _ h2)
end
theorem Rep.dat {H : Hp} {v : V} {d : Dt} (h : Rep H v d) : Dat H v := by
  cases h with
  | txt l => exact l
  | tup e _ _ => exact .inr (.inl ⟨_, e⟩)
  | non => exact True.intro
  | bl => exact True.intro
  | int => exact True.intro
  | lst e => exact .inl ⟨_, e⟩
  | dct e => exact .inr (.inr ⟨_, e⟩)
theorem RepAll.length {H : Hp} : ∀ {xs : List V} {ds : List Dt}, RepAll H xs ds → xs.length = ds.length
  | [], [], _ => rfl
  | _ :: _, _ :: _, .cons _ t => by rw [List.length_cons, List.length_cons, RepAll.length t]
theorem RepAll.at {H : Hp} : ∀ {xs : List V} {ds : List Dt} {i : Nat} {x : V}, RepAll H xs ds → xs[i]? = some x → ∃ d, ds[i]? = some d ∧ Rep H x d
  | _ :: _, _ :: _, 0, _, .cons h _, e => by
    cases e
    exact ⟨_, rfl, h⟩
  | _ :: _, _ :: _, i + 1, _, .cons _ t, e => RepAll.at (i := i) t e
theorem RepAll.drop {H : Hp} : ∀ {xs : List V} {ds : List Dt} (n : Nat), RepAll H xs ds → RepAll H (xs.drop n) (ds.drop n)
  | _, _, 0, h => h
  | [], [], _ + 1, _ => .nil
  | _ :: _, _ :: _, n + 1, .cons _ t => RepAll.drop n t
theorem RepAll.take {H : Hp} : ∀ {xs : List V} {ds : List Dt} (n : Nat), RepAll H xs ds → RepAll H (xs.take n) (ds.take n)
  | _, _, 0, _ => .nil
  | [], [], _ + 1, _ => .nil
  | _ :: _, _ :: _, n + 1, .cons h t => .cons h (RepAll.take n t)
theorem RepAll.app {H : Hp} : ∀ {xs ys : List V} {ds es : List Dt}, RepAll H xs ds → RepAll H ys es → RepAll H (xs ++ ys) (ds ++ es)
  | [], _, [], _, _, k => k
  | _ :: _, _, _ :: _, _, .cons h t, k => .cons h (RepAll.app t k)
theorem RepAll.mem {H : Hp} {x : V} : ∀ {xs : List V} {ds : List Dt}, RepAll H xs ds → x ∈ xs → ∃ d ∈ ds, Rep H x d
  | _ :: _, _ :: _, .cons h t, e => by
    rcases List.mem_cons.mp e with rfl | e
    · exact ⟨_, List.mem_cons_self, h⟩
    · obtain ⟨d, hd, r⟩ := RepAll.mem t e
      exact ⟨d, List.mem_cons_of_mem _ hd, r⟩
/-! ### the form of a step -/
def nameD : Dt → Bool | .txt z => isName z | _ => false
def openD : Dt → Bool | .txt z => decide (z = Str.ofString "") || isName z | _ => false
def wayD : Dt → Bool | .txt z => decide (z = Str.ofString "full" ∨ z = Str.ofString "look") | _ => false
def stepRoles : List (Str × List Str) :=
  [("new", ["variable"]), ("copy", ["variable", "variable", "part"]), ("take", ["variable", "variable", "part"]), ("put", ["variable", "part", "variable"]), ("lend", ["variable", "variable", "part"]), ("move", ["variable", "variable"]),
    ("touch", ["variable", "part", "way"]), ("drop", ["variable"]), ("call", ["target", "function", "arguments"]), ("skip", []), ("return", ["target"])]
def argRoles : List (Str × List Str) := [("lend", ["variable", "part"]), ("move", ["variable"])]
/-- a role that is no list of arguments -/
def flatRole (role : Str) (d : Dt) : Bool :=
  if role = Str.ofString "way" then wayD d else if role = Str.ofString "part" ∨ role = Str.ofString "target" then openD d else nameD d
def allRoles (f : Str → Dt → Bool) (roles : Option (List Str)) (ds : List Dt) : Bool := match roles with
  | none => false
  | some rs => decide (ds.length = rs.length + 1) && ((ds.drop 1).zip rs).all fun p => f p.2 p.1
/-- the word that a tuple begins with -/
def wordD : Dt → Option (Str × List Dt)
  | .tup (.txt z :: r) => some (z, .txt z :: r)
  | _ => none
def argD (d : Dt) : Bool := match wordD d with
  | none => false
  | some (z, ds) => allRoles flatRole (argRoles.lookup z) ds
def argsD : Dt → Bool
  | .tup ds => decide (ds.length ≤ 3) && ds.all argD
  | _ => false
def fullRole (role : Str) (d : Dt) : Bool := if role = Str.ofString "arguments" then argsD d else flatRole role d
/-- whether it has the roles of a step -/
def rolesD (d : Dt) : Bool := match wordD d with
  | none => false
  | some (z, ds) => allRoles fullRole (stepRoles.lookup z) ds
end Lp

namespace Lp
open PySem PySem.Spec PyProof.Rows L2
/-! ### a written dict from words to tuples of words -/
def WrTup (K : PySem.W.Frag) (a : Addr) (xs : List V) : Prop := ∃ (o : Obj) (its : Array Value) (n : Nat), K.lookup a = some o ∧ o.cls = .type "tuple" ∧ o.data = .seq its n ∧ its.size ≤ sizeLine ∧ Vals xs its.toList
/-- the entries of the table, in its order -/
inductive Entries (K : PySem.W.Frag) : List (Str × List Str) → List DictEntry → Prop
  | nil : Entries K [] []
  | cons {p : Str × List Str} {r : List (Str × List Str)} {e : DictEntry} {es : List DictEntry} : (∃ t, e.key = .str p.1 t) → (∃ a, e.val = .ref a ∧ WrTup K a (p.2.map V.str)) → Entries K r es → Entries K (p :: r) (e :: es)
structure RolesAt (K : PySem.W.Frag) (w : World) (d : Addr) (table : List (Str × List Str)) : Prop where
  ex : ∃ es n, KDict K w d es n ∧ Entries K table es.toList
theorem Entries.keys {K : PySem.W.Frag} : ∀ {table : List (Str × List Str)} {es : List DictEntry}, Entries K table es → es.any (·.refKey) = false
  | _, _, .nil => rfl
  | _, _, .cons (e := e) ⟨t, h⟩ _ k => by
    rw [List.any_cons, k.keys, Bool.or_false]
    unfold DictEntry.refKey
    rw [h]
theorem Entries.find {K : PySem.W.Frag} (z : Str) : ∀ {table : List (Str × List Str)} {es : List DictEntry}, Entries K table es →
    (∀ rs, table.lookup z = some rs → ∃ e a, es.find? (·.key.isStr z) = some e ∧ e.val = .ref a ∧ WrTup K a (rs.map V.str)) ∧ (table.lookup z = none → es.find? (·.key.isStr z) = none)
  | _, _, .nil => ⟨fun _ h => (nomatch h), fun _ => rfl⟩
  | _, _, .cons (p := p) (e := e) ⟨t, h⟩ ⟨a, hv, wr⟩ k => by
    obtain ⟨f1, f2⟩ := k.find z
    have hk : e.key.isStr z = (p.1 == z) := by rw [h]; rfl
    obtain ⟨x, rs0⟩ := p
    rw [List.lookup_cons, List.find?_cons, hk]
    by_cases q : x = z
    · subst q
      rw [beq_self_eq_true]
      refine ⟨fun rs hr => ?_, fun hn => nomatch hn⟩
      cases hr
      exact ⟨e, a, rfl, hv, wr⟩
    · have q1 : (x == z) = false := beq_eq_false_iff_ne.mpr q
      have q2 : (z == x) = false := beq_eq_false_iff_ne.mpr fun h => q h.symm
      rw [show ((x, rs0).1 == z) = false from q1, q2]
      exact ⟨f1, f2⟩
theorem RolesAt.get {K : PySem.W.Frag} {w : World} {d : Addr} {table : List (Str × List Str)} (T : RolesAt K w d table) (z : Str) :
    (∀ rs, table.lookup z = some rs → ∃ a, PySem.W.nsIn K d z = some (some (.ref a)) ∧ WrTup K a (rs.map V.str)) ∧ (table.lookup z = none → PySem.W.nsIn K d z = some none) := by
  obtain ⟨es, n, D, en⟩ := T.ex
  obtain ⟨f1, f2⟩ := en.find z
  have ns : PySem.W.nsIn K d z = (match es.toList.find? (·.key.isStr z) with
      | some e => some (some e.val)
      | none => if es.toList.any (·.refKey) then none else some none) := by
    unfold PySem.W.nsIn
    rw [D.at_]
    rfl
  constructor
  · intro rs h
    obtain ⟨e, a, h1, h2, h3⟩ := f1 rs h
    exact ⟨a, by rw [ns, h1]; show some (some e.val) = _; rw [h2], h3⟩
  · intro h
    rw [ns, f2 h]
    show (if es.toList.any (·.refKey) = true then none else some none) = _
    rw [en.keys]
    rfl
end Lp

namespace Lp
open PySem PySem.Spec PyProof.Rows L2
/-! ### the forms of steps -/
inductive ArgF where
  | lend (a p : Str)
  | move (a : Str)
inductive StepF where
  | new (x : Str)
  | copy (x a p : Str)
  | take (x a p : Str)
  | put (a p y : Str)
  | lend (r a p : Str)
  | move (x y : Str)
  | touch (a p way : Str)
  | drop (x : Str)
  | call (r g : Str) (args : List ArgF)
  | skip
  | ret (y : Str)
def txs (zs : List Str) : Dt := .tup (zs.map .txt)
def ArgF.dt : ArgF → Dt
  | .lend a p => txs ["lend", a, p]
  | .move a => txs ["move", a]
def StepF.dt : StepF → Dt
  | .new x => txs ["new", x]
  | .copy x a p => txs ["copy", x, a, p]
  | .take x a p => txs ["take", x, a, p]
  | .put a p y => txs ["put", a, p, y]
  | .lend r a p => txs ["lend", r, a, p]
  | .move x y => txs ["move", x, y]
  | .touch a p way => txs ["touch", a, p, way]
  | .drop x => txs ["drop", x]
  | .call r g args => .tup [.txt "call", .txt r, .txt g, .tup (args.map ArgF.dt)]
  | .skip => txs ["skip"]
  | .ret y => txs ["return", y]
/-- empty or a name -/
def openS (z : Str) : Bool := decide (z = Str.ofString "") || isName z
def wayS (z : Str) : Bool := decide (z = Str.ofString "full" ∨ z = Str.ofString "look")
def ArgF.ok : ArgF → Bool
  | .lend a p => isName a && openS p
  | .move a => isName a
def StepF.ok : StepF → Bool
  | .new x => isName x
  | .copy x a p => isName x && isName a && openS p
  | .take x a p => isName x && isName a && openS p
  | .put a p y => isName a && openS p && isName y
  | .lend r a p => isName r && isName a && openS p
  | .move x y => isName x && isName y
  | .touch a p way => isName a && openS p && wayS way
  | .drop x => isName x
  | .call r g args => openS r && isName g && decide (args.length ≤ 3) && args.all ArgF.ok
  | .skip => true
  | .ret y => openS y
theorem nameD_inv {d : Dt} (h : nameD d = true) : ∃ z, d = .txt z ∧ isName z = true := by
  cases d with
  | txt z => exact ⟨z, rfl, h⟩
  | _ => exact absurd h Bool.false_ne_true
theorem openD_inv {d : Dt} (h : openD d = true) : ∃ z, d = .txt z ∧ openS z = true := by
  cases d with
  | txt z => exact ⟨z, rfl, h⟩
  | _ => exact absurd h Bool.false_ne_true
theorem wayD_inv {d : Dt} (h : wayD d = true) : ∃ z, d = .txt z ∧ wayS z = true := by
  cases d with
  | txt z => exact ⟨z, rfl, h⟩
  | _ => exact absurd h Bool.false_ne_true
theorem word_inv {d : Dt} {z : Str} {ds : List Dt} (h : wordD d = some (z, ds)) : d = .tup ds ∧ ∃ r, ds = .txt z :: r := by
  unfold wordD at h
  split at h
  · cases h
    exact ⟨rfl, _, rfl⟩
  · cases h
theorem flat_var (d : Dt) : flatRole (Str.ofString "variable") d = nameD d := by
  unfold flatRole
  rw [if_neg (by decide), if_neg (by decide)]
theorem flat_fun (d : Dt) : flatRole (Str.ofString "function") d = nameD d := by
  unfold flatRole
  rw [if_neg (by decide), if_neg (by decide)]
theorem flat_part (d : Dt) : flatRole (Str.ofString "part") d = openD d := by
  unfold flatRole
  rw [if_neg (by decide), if_pos (.inl rfl)]
theorem flat_target (d : Dt) : flatRole (Str.ofString "target") d = openD d := by
  unfold flatRole
  rw [if_neg (by decide), if_pos (.inr rfl)]
theorem flat_way (d : Dt) : flatRole (Str.ofString "way") d = wayD d := by
  unfold flatRole
  rw [if_pos rfl]
theorem full_of {role : Str} (h : role ≠ Str.ofString "arguments") (d : Dt) : fullRole role d = flatRole role d := if_neg h
theorem full_args (d : Dt) : fullRole (Str.ofString "arguments") d = argsD d := if_pos rfl
theorem len1 {α : Type} {l : List α} (h : l.length = 1) : ∃ x, l = [x] := by
  match l, h with
  | [x], _ => exact ⟨x, rfl⟩
theorem len2 {α : Type} {l : List α} (h : l.length = 2) : ∃ x y, l = [x, y] := by
  match l, h with
  | [x, y], _ => exact ⟨x, y, rfl⟩
theorem len3 {α : Type} {l : List α} (h : l.length = 3) : ∃ x y z, l = [x, y, z] := by
  match l, h with
  | [x, y, z], _ => exact ⟨x, y, z, rfl⟩
theorem look_of {t : List (Str × List Str)} {z : Str} {rs : List Str} (h : t.lookup z = some rs) : (z, rs) ∈ t := by
  induction t with
  | nil => cases h
  | cons p t ih =>
    obtain ⟨x, r⟩ := p
    rw [List.lookup_cons] at h
    by_cases e : z = x
    · subst e
      rw [beq_self_eq_true] at h
      cases h
      exact List.mem_cons_self
    · rw [beq_eq_false_iff_ne.mpr e] at h
      exact List.mem_cons_of_mem _ (ih h)
theorem arg_inv {d : Dt} (h : argD d = true) : ∃ f : ArgF, d = f.dt ∧ f.ok = true := by
  unfold argD at h
  cases e : wordD d with
  | none => rw [e] at h; cases h
  | some p =>
    obtain ⟨z, ds⟩ := p
    rw [e] at h
    obtain ⟨rfl, r, rfl⟩ := word_inv e
    have h : allRoles flatRole (argRoles.lookup z) (.txt z :: r) = true := h
    cases el : argRoles.lookup z with
    | none => rw [el] at h; cases h
    | some rs =>
      rw [el] at h
      have hm := look_of el
      have h : (decide ((Dt.txt z :: r).length = rs.length + 1) && (r.zip rs).all fun p => flatRole p.2 p.1) = true := h
      rw [Bool.and_eq_true, decide_eq_true_eq, List.length_cons] at h
      obtain ⟨hl, ha⟩ := h
      simp only [argRoles, List.mem_cons, List.not_mem_nil, or_false, Prod.mk.injEq] at hm
      rcases hm with ⟨rfl, rfl⟩ | ⟨rfl, rfl⟩
      · obtain ⟨d1, d2, rfl⟩ := len2 (show r.length = 2 from Nat.succ.inj hl)
        simp only [List.zip_cons_cons, List.zip_nil_right, List.all_cons, List.all_nil, Bool.and_true, Bool.and_eq_true] at ha
        obtain ⟨a, rfl, h1⟩ := nameD_inv ((flat_var d1).symm.trans ha.1)
        obtain ⟨p, rfl, h2⟩ := openD_inv ((flat_part d2).symm.trans ha.2)
        exact ⟨.lend a p, rfl, by show (isName a && openS p) = true; rw [h1, h2]; rfl⟩
      · obtain ⟨d1, rfl⟩ := len1 (show r.length = 1 from Nat.succ.inj hl)
        simp only [List.zip_cons_cons, List.zip_nil_right, List.all_cons, List.all_nil, Bool.and_true] at ha
        obtain ⟨a, rfl, h1⟩ := nameD_inv ((flat_var d1).symm.trans ha)
        exact ⟨.move a, rfl, h1⟩
theorem args_inv : ∀ {ds : List Dt}, ds.all argD = true → ∃ fs : List ArgF, ds = fs.map ArgF.dt ∧ fs.all ArgF.ok = true
  | [], _ => ⟨[], rfl, rfl⟩
  | d :: r, h => by
    rw [List.all_cons, Bool.and_eq_true] at h
    obtain ⟨f, rfl, hf⟩ := arg_inv h.1
    obtain ⟨fs, rfl, hfs⟩ := args_inv h.2
    exact ⟨f :: fs, rfl, by rw [List.all_cons, hf, hfs]; rfl⟩
theorem roles_inv {d : Dt} (h : rolesD d = true) : ∃ f : StepF, d = f.dt ∧ f.ok = true := by
  unfold rolesD at h
  cases e : wordD d with
  | none => rw [e] at h; cases h
  | some p =>
    obtain ⟨z, ds⟩ := p
    rw [e] at h
    obtain ⟨rfl, r, rfl⟩ := word_inv e
    have h : allRoles fullRole (stepRoles.lookup z) (.txt z :: r) = true := h
    cases el : stepRoles.lookup z with
    | none => rw [el] at h; cases h
    | some rs =>
      rw [el] at h
      have hm := look_of el
      have h : (decide ((Dt.txt z :: r).length = rs.length + 1) && (r.zip rs).all fun p => fullRole p.2 p.1) = true := h
      rw [Bool.and_eq_true, decide_eq_true_eq, List.length_cons] at h
      obtain ⟨hl, ha⟩ := h
      have fv : ∀ d, fullRole (Str.ofString "variable") d = nameD d := fun d => (full_of (by decide) d).trans (flat_var d)
      have fg : ∀ d, fullRole (Str.ofString "function") d = nameD d := fun d => (full_of (by decide) d).trans (flat_fun d)
      have fp : ∀ d, fullRole (Str.ofString "part") d = openD d := fun d => (full_of (by decide) d).trans (flat_part d)
      have ft : ∀ d, fullRole (Str.ofString "target") d = openD d := fun d => (full_of (by decide) d).trans (flat_target d)
      have fw : ∀ d, fullRole (Str.ofString "way") d = wayD d := fun d => (full_of (by decide) d).trans (flat_way d)
      simp only [stepRoles, List.mem_cons, List.not_mem_nil, or_false, Prod.mk.injEq] at hm
      rcases hm with ⟨rfl, rfl⟩ | ⟨rfl, rfl⟩ | ⟨rfl, rfl⟩ | ⟨rfl, rfl⟩ | ⟨rfl, rfl⟩ | ⟨rfl, rfl⟩ | ⟨rfl, rfl⟩ | ⟨rfl, rfl⟩ | ⟨rfl, rfl⟩ | ⟨rfl, rfl⟩ | ⟨rfl, rfl⟩
      · obtain ⟨d1, rfl⟩ := len1 (show r.length = 1 from Nat.succ.inj hl)
        simp only [List.zip_cons_cons, List.zip_nil_right, List.all_cons, List.all_nil, Bool.and_true] at ha
        obtain ⟨x, rfl, h1⟩ := nameD_inv ((fv d1).symm.trans ha)
        exact ⟨.new x, rfl, h1⟩
      · obtain ⟨d1, d2, d3, rfl⟩ := len3 (show r.length = 3 from Nat.succ.inj hl)
        simp only [List.zip_cons_cons, List.zip_nil_right, List.all_cons, List.all_nil, Bool.and_true, Bool.and_eq_true] at ha
        obtain ⟨x, rfl, h1⟩ := nameD_inv ((fv d1).symm.trans ha.1)
        obtain ⟨y, rfl, h2⟩ := nameD_inv ((fv d2).symm.trans ha.2.1)
        obtain ⟨q, rfl, h3⟩ := openD_inv ((fp d3).symm.trans ha.2.2)
        exact ⟨.copy x y q, rfl, by show (isName x && isName y && openS q) = true; rw [h1, h2, h3]; rfl⟩
      · obtain ⟨d1, d2, d3, rfl⟩ := len3 (show r.length = 3 from Nat.succ.inj hl)
        simp only [List.zip_cons_cons, List.zip_nil_right, List.all_cons, List.all_nil, Bool.and_true, Bool.and_eq_true] at ha
        obtain ⟨x, rfl, h1⟩ := nameD_inv ((fv d1).symm.trans ha.1)
        obtain ⟨y, rfl, h2⟩ := nameD_inv ((fv d2).symm.trans ha.2.1)
        obtain ⟨q, rfl, h3⟩ := openD_inv ((fp d3).symm.trans ha.2.2)
        exact ⟨.take x y q, rfl, by show (isName x && isName y && openS q) = true; rw [h1, h2, h3]; rfl⟩
      · obtain ⟨d1, d2, d3, rfl⟩ := len3 (show r.length = 3 from Nat.succ.inj hl)
        simp only [List.zip_cons_cons, List.zip_nil_right, List.all_cons, List.all_nil, Bool.and_true, Bool.and_eq_true] at ha
        obtain ⟨x, rfl, h1⟩ := nameD_inv ((fv d1).symm.trans ha.1)
        obtain ⟨q, rfl, h2⟩ := openD_inv ((fp d2).symm.trans ha.2.1)
        obtain ⟨y, rfl, h3⟩ := nameD_inv ((fv d3).symm.trans ha.2.2)
        exact ⟨.put x q y, rfl, by show (isName x && openS q && isName y) = true; rw [h1, h2, h3]; rfl⟩
      · obtain ⟨d1, d2, d3, rfl⟩ := len3 (show r.length = 3 from Nat.succ.inj hl)
        simp only [List.zip_cons_cons, List.zip_nil_right, List.all_cons, List.all_nil, Bool.and_true, Bool.and_eq_true] at ha
        obtain ⟨x, rfl, h1⟩ := nameD_inv ((fv d1).symm.trans ha.1)
        obtain ⟨y, rfl, h2⟩ := nameD_inv ((fv d2).symm.trans ha.2.1)
        obtain ⟨q, rfl, h3⟩ := openD_inv ((fp d3).symm.trans ha.2.2)
        exact ⟨.lend x y q, rfl, by show (isName x && isName y && openS q) = true; rw [h1, h2, h3]; rfl⟩
      · obtain ⟨d1, d2, rfl⟩ := len2 (show r.length = 2 from Nat.succ.inj hl)
        simp only [List.zip_cons_cons, List.zip_nil_right, List.all_cons, List.all_nil, Bool.and_true, Bool.and_eq_true] at ha
        obtain ⟨x, rfl, h1⟩ := nameD_inv ((fv d1).symm.trans ha.1)
        obtain ⟨y, rfl, h2⟩ := nameD_inv ((fv d2).symm.trans ha.2)
        exact ⟨.move x y, rfl, by show (isName x && isName y) = true; rw [h1, h2]; rfl⟩
      · obtain ⟨d1, d2, d3, rfl⟩ := len3 (show r.length = 3 from Nat.succ.inj hl)
        simp only [List.zip_cons_cons, List.zip_nil_right, List.all_cons, List.all_nil, Bool.and_true, Bool.and_eq_true] at ha
        obtain ⟨x, rfl, h1⟩ := nameD_inv ((fv d1).symm.trans ha.1)
        obtain ⟨q, rfl, h2⟩ := openD_inv ((fp d2).symm.trans ha.2.1)
        obtain ⟨y, rfl, h3⟩ := wayD_inv ((fw d3).symm.trans ha.2.2)
        exact ⟨.touch x q y, rfl, by show (isName x && openS q && wayS y) = true; rw [h1, h2, h3]; rfl⟩
      · obtain ⟨d1, rfl⟩ := len1 (show r.length = 1 from Nat.succ.inj hl)
        simp only [List.zip_cons_cons, List.zip_nil_right, List.all_cons, List.all_nil, Bool.and_true] at ha
        obtain ⟨x, rfl, h1⟩ := nameD_inv ((fv d1).symm.trans ha)
        exact ⟨.drop x, rfl, h1⟩
      · obtain ⟨d1, d2, d3, rfl⟩ := len3 (show r.length = 3 from Nat.succ.inj hl)
        simp only [List.zip_cons_cons, List.zip_nil_right, List.all_cons, List.all_nil, Bool.and_true, Bool.and_eq_true] at ha
        obtain ⟨x, rfl, h1⟩ := openD_inv ((ft d1).symm.trans ha.1)
        obtain ⟨g, rfl, h2⟩ := nameD_inv ((fg d2).symm.trans ha.2.1)
        have h3 := (full_args d3).symm.trans ha.2.2
        cases d3 with
        | tup ds =>
          have h3 : (decide (ds.length ≤ 3) && ds.all argD) = true := h3
          rw [Bool.and_eq_true, decide_eq_true_eq] at h3
          obtain ⟨fs, rfl, hfs⟩ := args_inv h3.2
          rw [List.length_map] at h3
          exact ⟨.call x g fs, rfl, by show (openS x && isName g && decide (fs.length ≤ 3) && fs.all ArgF.ok) = true; rw [h1, h2, hfs, decide_eq_true h3.1]; rfl⟩
        | _ => cases h3
      · obtain rfl : r = [] := List.length_eq_zero_iff.mp (Nat.succ.inj hl)
        exact ⟨.skip, rfl, rfl⟩
      · obtain ⟨d1, rfl⟩ := len1 (show r.length = 1 from Nat.succ.inj hl)
        simp only [List.zip_cons_cons, List.zip_nil_right, List.all_cons, List.all_nil, Bool.and_true] at ha
        obtain ⟨x, rfl, h1⟩ := openD_inv ((ft d1).symm.trans ha)
        exact ⟨.ret x, rfl, h1⟩
theorem full_var (d : Dt) : fullRole (Str.ofString "variable") d = nameD d := (full_of (by decide) d).trans (flat_var d)
theorem full_fun (d : Dt) : fullRole (Str.ofString "function") d = nameD d := (full_of (by decide) d).trans (flat_fun d)
theorem full_part (d : Dt) : fullRole (Str.ofString "part") d = openD d := (full_of (by decide) d).trans (flat_part d)
theorem full_target (d : Dt) : fullRole (Str.ofString "target") d = openD d := (full_of (by decide) d).trans (flat_target d)
theorem full_way (d : Dt) : fullRole (Str.ofString "way") d = wayD d := (full_of (by decide) d).trans (flat_way d)
theorem arg_of {f : ArgF} (ok : f.ok = true) : argD f.dt = true := by
  cases f with
  | lend a p =>
    have e : argD (ArgF.lend a p).dt = (flatRole (Str.ofString "variable") (.txt a) && (flatRole (Str.ofString "part") (.txt p) && true)) := rfl
    have ok : (isName a && openS p) = true := ok
    rw [e, flat_var, flat_part, Bool.and_true]
    exact ok
  | move a =>
    have e : argD (ArgF.move a).dt = (flatRole (Str.ofString "variable") (.txt a) && true) := rfl
    rw [e, flat_var, Bool.and_true]
    exact ok
theorem roles_of {f : StepF} (ok : f.ok = true) : rolesD f.dt = true := by
  cases f with
  | new x =>
    have e : rolesD (StepF.new x).dt = (fullRole (Str.ofString "variable") (.txt x) && true) := rfl
    rw [e, full_var, Bool.and_true]
    exact ok
  | copy x a p =>
    have e : rolesD (StepF.copy x a p).dt = (fullRole (Str.ofString "variable") (.txt x) && (fullRole (Str.ofString "variable") (.txt a) && (fullRole (Str.ofString "part") (.txt p) && true))) := rfl
    have ok : (isName x && isName a && openS p) = true := ok
    rw [e, full_var, full_var, full_part, Bool.and_true, ← Bool.and_assoc]
    exact ok
  | take x a p =>
    have e : rolesD (StepF.take x a p).dt = (fullRole (Str.ofString "variable") (.txt x) && (fullRole (Str.ofString "variable") (.txt a) && (fullRole (Str.ofString "part") (.txt p) && true))) := rfl
    have ok : (isName x && isName a && openS p) = true := ok
    rw [e, full_var, full_var, full_part, Bool.and_true, ← Bool.and_assoc]
    exact ok
  | put a p y =>
    have e : rolesD (StepF.put a p y).dt = (fullRole (Str.ofString "variable") (.txt a) && (fullRole (Str.ofString "part") (.txt p) && (fullRole (Str.ofString "variable") (.txt y) && true))) := rfl
    have ok : (isName a && openS p && isName y) = true := ok
    rw [e, full_var, full_var, full_part, Bool.and_true, ← Bool.and_assoc]
    exact ok
  | lend r a p =>
    have e : rolesD (StepF.lend r a p).dt = (fullRole (Str.ofString "variable") (.txt r) && (fullRole (Str.ofString "variable") (.txt a) && (fullRole (Str.ofString "part") (.txt p) && true))) := rfl
    have ok : (isName r && isName a && openS p) = true := ok
    rw [e, full_var, full_var, full_part, Bool.and_true, ← Bool.and_assoc]
    exact ok
  | move x y =>
    have e : rolesD (StepF.move x y).dt = (fullRole (Str.ofString "variable") (.txt x) && (fullRole (Str.ofString "variable") (.txt y) && true)) := rfl
    rw [e, full_var, full_var, Bool.and_true]
    exact ok
  | touch a p way =>
    have e : rolesD (StepF.touch a p way).dt = (fullRole (Str.ofString "variable") (.txt a) && (fullRole (Str.ofString "part") (.txt p) && (fullRole (Str.ofString "way") (.txt way) && true))) := rfl
    have ok : (isName a && openS p && wayS way) = true := ok
    rw [e, full_var, full_part, full_way, Bool.and_true, ← Bool.and_assoc]
    exact ok
  | drop x =>
    have e : rolesD (StepF.drop x).dt = (fullRole (Str.ofString "variable") (.txt x) && true) := rfl
    rw [e, full_var, Bool.and_true]
    exact ok
  | call r g args =>
    have e : rolesD (StepF.call r g args).dt = (fullRole (Str.ofString "target") (.txt r) && (fullRole (Str.ofString "function") (.txt g) && (fullRole (Str.ofString "arguments") (.tup (args.map ArgF.dt)) && true))) := rfl
    have ok : (openS r && isName g && decide (args.length ≤ 3) && args.all ArgF.ok) = true := ok
    have e2 : argsD (.tup (args.map ArgF.dt)) = (decide ((args.map ArgF.dt).length ≤ 3) && (args.map ArgF.dt).all argD) := rfl
    simp only [Bool.and_eq_true] at ok
    have e3 : (args.map ArgF.dt).all argD = true := by
      rw [List.all_map, List.all_eq_true]
      exact fun x hx => arg_of (List.all_eq_true.mp ok.2 x hx)
    rw [e, full_target, full_fun, full_args, e2, e3, List.length_map, ok.1.2, Bool.and_true, Bool.and_true, Bool.and_true]
    show (openS r && isName g) = true
    rw [ok.1.1.1, ok.1.1.2]
    rfl
  | skip => rfl
  | ret y =>
    have e : rolesD (StepF.ret y).dt = (fullRole (Str.ofString "target") (.txt y) && true) := rfl
    rw [e, full_target, Bool.and_true]
    exact ok
/-! ### a value is of one form alone -/
def ofArg : Dt → Option ArgF
  | .tup [.txt w, .txt a, .txt p] => if w = Str.ofString "lend" then some (.lend a p) else none
  | .tup [.txt w, .txt a] => if w = Str.ofString "move" then some (.move a) else none
  | _ => none
theorem ofArg_dt (f : ArgF) : ofArg f.dt = some f := by
  cases f <;> rfl
def ofArgs : List Dt → Option (List ArgF)
  | [] => some []
  | d :: r => match ofArg d, ofArgs r with
    | some f, some fs => some (f :: fs)
    | _, _ => none
theorem ofArgs_dt : ∀ fs : List ArgF, ofArgs (fs.map ArgF.dt) = some fs
  | [] => rfl
  | f :: r => by
    rw [List.map_cons]
    show (match ofArg f.dt, ofArgs (r.map ArgF.dt) with | some f, some fs => some (f :: fs) | _, _ => none) = _
    rw [ofArg_dt, ofArgs_dt r]
def ofDt : Dt → Option StepF
  | .tup [.txt w, .txt x, .txt y, .txt z] => if w = Str.ofString "copy" then some (.copy x y z) else if w = Str.ofString "take" then some (.take x y z) else if w = Str.ofString "put" then some (.put x y z) else
      if w = Str.ofString "lend" then some (.lend x y z) else if w = Str.ofString "touch" then some (.touch x y z) else none
  | .tup [.txt _, .txt r, .txt g, .tup ds] => (ofArgs ds).map (.call r g)
  | .tup [.txt _, .txt x, .txt y] => some (.move x y)
  | .tup [.txt w, .txt x] => if w = Str.ofString "new" then some (.new x) else if w = Str.ofString "drop" then some (.drop x) else some (.ret x)
  | .tup [.txt _] => some .skip
  | _ => none
theorem ofDt_dt (f : StepF) : ofDt f.dt = some f := by
  cases f with
  | call r g args =>
    show (ofArgs (args.map ArgF.dt)).map (StepF.call r g) = _
    rw [ofArgs_dt]
    rfl
  | _ => rfl
theorem dt_inj {f g : StepF} (h : f.dt = g.dt) : f = g := by
  have e := ofDt_dt f
  rw [h, ofDt_dt g] at e
  exact (Option.some.inj e).symm
/-! ### variables, texts -/
def ArgF.var : ArgF → Str | .lend a _ => a | .move a => a
/-- the variables of a step, in order, without those that lack -/
def StepF.vars : StepF → List Str
  | .new x => [x]
  | .copy x a _ => [x, a]
  | .take x a _ => [x, a]
  | .put a _ y => [a, y]
  | .lend r a _ => [r, a]
  | .move x y => [x, y]
  | .touch a _ _ => [a]
  | .drop x => [x]
  | .call r _ args => (r :: args.map ArgF.var).filter fun z => !decide (z = Str.ofString "")
  | .skip => []
  | .ret y => [y].filter fun z => !decide (z = Str.ofString "")
/-- whether variables may be told twice -/
def StepF.free : StepF → Bool
  | .lend _ _ _ => true
  | .call _ _ _ => true
  | _ => false
def StepF.good (f : StepF) : Bool := f.ok && (f.free || decide f.vars.Nodup)
def placeS (name part : Str) : Str := if part = Str.ofString "" then name else name ++ Str.ofString "." ++ part
def ArgF.text : ArgF → Str
  | .lend a p => Str.ofString "lend " ++ placeS a p
  | .move a => Str.ofString "move " ++ a
def StepF.text : StepF → Str
  | .new x => Str.ofString "new " ++ x
  | .copy x a p => Str.ofString "copy " ++ x ++ Str.ofString " = " ++ placeS a p
  | .take x a p => Str.ofString "take " ++ x ++ Str.ofString " = " ++ placeS a p
  | .put a p y => Str.ofString "put " ++ placeS a p ++ Str.ofString " = " ++ y
  | .lend r a p => Str.ofString "lend " ++ r ++ Str.ofString " = " ++ placeS a p
  | .move x y => Str.ofString "move " ++ x ++ Str.ofString " = " ++ y
  | .touch a p way => Str.ofString "touch " ++ placeS a p ++ Str.ofString " " ++ way
  | .drop x => Str.ofString "drop " ++ x
  | .call r g args => Str.ofString "call " ++ (if r = Str.ofString "" then Str.ofString "" else r ++ Str.ofString " = ") ++ g ++ Str.ofString "(" ++ Txt.join (Str.ofString ", ") (args.map ArgF.text) ++ Str.ofString ")"
  | .skip => Str.ofString "skip"
  | .ret y => if y = Str.ofString "" then Str.ofString "return" else Str.ofString "return " ++ y
end Lp

namespace Lp
open PySem PySem.Spec PyProof.Rows L2
theorem len_cat (x y : Str) : (x ++ y).length = x.length + y.length := by rw [cs_len, cs_app, List.length_append, ← cs_len, ← cs_len]
theorem empty_cat (x : Str) : Str.empty ++ x = x := cs_ext (by rw [cs_app]; rfl)
theorem cat_assoc (x y z : Str) : (x ++ y) ++ z = x ++ (y ++ z) := cs_ext (by rw [cs_app, cs_app, cs_app, cs_app, List.append_assoc])
theorem openS_len {z : Str} (h : openS z = true) : z.length ≤ 8 := by
  unfold openS at h
  rw [Bool.or_eq_true, decide_eq_true_eq] at h
  rcases h with rfl | h
  · exact Nat.zero_le _
  · exact (name_size h).2
theorem place_len {a p : Str} (ha : a.length ≤ 8) (hp : p.length ≤ 8) : (placeS a p).length ≤ 17 := by
  unfold placeS
  split
  · omega
  · rw [len_cat, len_cat, show (Str.ofString ".").length = 1 from rfl]
    omega
end Lp

namespace Lp
open PySem PySem.Spec PyProof.Rows L2
/-! ### rpartition -/
section
variable {X : Cx}
theorem mt_rpartition : MtR X "str.rpartition" (fun x xs H Q => ∃ a b, x = .str a ∧ xs = [.str b] ∧ (b.length == 0) = false ∧ a.length ≤ sizeLine ∧
    ∀ p, H p = none → Q (.ref p) (upd H p (.tup [.str (Txt.rpartition a b).1, .str (Txt.rpartition a b).2.1, .str (Txt.rpartition a b).2.2]))) := by
  intro pins s σ H x xs v us Q I rx rs h
  obtain ⟨a, b, rfl, rfl, hb, hz, h⟩ := h
  obtain ⟨t, rfl⟩ := rx
  cases rs with
  | cons r1 rs =>
    cases rs
    obtain ⟨u, rfl⟩ := r1
    refine call_meets F.slot_str_rpartition (typeIs_str _ _ _) F.entry_str_rpartition (F.args_str_rpartition_2 _ _) (meets_str_rpartition a b t u hb hz) ?_
    unfold Txt.rpartition at h
    revert h
    cases Builtin.Str.lastOccurrence a b 0 a.length with
    | none => intro h; exact laid_parts I h
    | some i => intro h; exact laid_parts I h
variable {o e : Expr} {to te : TE}
theorem pe_rpartition {apos pos : Pos} (ho : PE X o to) (he : PE X e te) (hs : starEach [e] X.env = [(false, eval e X.env)] := by rfl) (hbase : attributeBase o "rpartition" X.env (eval o X.env) = eval o X.env := by rfl) (hline : (apos.endLine == pos.line) = true := by rfl) :
    PE X (.Call (.Attribute o "rpartition" apos) [e] [] pos) (tM1 (fun x xs H Q => ∃ a b, x = .str a ∧ xs = [.str b] ∧ (b.length == 0) = false ∧ a.length ≤ sizeLine ∧
      ∀ p, H p = none → Q (.ref p) (upd H p (.tup [.str (Txt.rpartition a b).1, .str (Txt.rpartition a b).2.1, .str (Txt.rpartition a b).2.2]))) to te) :=
  pe_m1 F.slot_str_rpartition F.type_str_rpartition mt_rpartition ho he hs hbase hline
theorem pe_removesuffix {apos pos : Pos} (ho : PE X o to) (he : PE X e te) (hs : starEach [e] X.env = [(false, eval e X.env)] := by rfl) (hbase : attributeBase o "removesuffix" X.env (eval o X.env) = eval o X.env := by rfl) (hline : (apos.endLine == pos.line) = true := by rfl) :
    PE X (.Call (.Attribute o "removesuffix" apos) [e] [] pos) (tM1 (fun x xs H Q => ∃ a b, x = .str a ∧ xs = [.str b] ∧ a.length ≤ sizeLine ∧ Q (.str (Txt.removesuffix a b)) H) to te) :=
  pe_m1 F.slot_str_removesuffix F.type_str_removesuffix mt_removesuffix ho he hs hbase hline
end
/-! ### the guess at a text -/
def gPlace (z : Str) : List Str := [(Txt.partition z (Str.ofString ".")).1, (Txt.partition z (Str.ofString ".")).2.2]
def gArgW (w r : Str) : List Str := if w = Str.ofString "move" then [w, r] else w :: gPlace r
def gArg (z : Str) : List Str := gArgW (Txt.partition z (Str.ofString " ")).1 (Txt.partition z (Str.ofString " ")).2.2
def gTold (b : Str) : List Str := if b = Str.ofString ")" then [] else Txt.split (Txt.removesuffix b (Str.ofString ")")) (Str.ofString ", ")
def gCallW (fr bk : Str) : Dt := .tup [.txt (Str.ofString "call"), .txt (Txt.rpartition fr (Str.ofString " = ")).1, .txt (Txt.rpartition fr (Str.ofString " = ")).2.2, .tup ((gTold bk).map fun z => txs (gArg z))]
def gCall (z : Str) : Dt := gCallW (Txt.partition z (Str.ofString "(")).1 (Txt.partition z (Str.ofString "(")).2.2
def gEq (w r : Str) : List Str := w :: (Txt.partition r (Str.ofString " = ")).1 :: gPlace (Txt.partition r (Str.ofString " = ")).2.2
def gPut (w r : Str) : List Str := w :: gPlace (Txt.partition r (Str.ofString " = ")).1 ++ [(Txt.partition r (Str.ofString " = ")).2.2]
def gMove (w r : Str) : List Str := [w, (Txt.partition r (Str.ofString " = ")).1, (Txt.partition r (Str.ofString " = ")).2.2]
def gTouch (w r : Str) : List Str := w :: gPlace (Txt.partition r (Str.ofString " ")).1 ++ [(Txt.partition r (Str.ofString " ")).2.2]
def gWord (w r : Str) : Dt :=
  if w = Str.ofString "skip" then txs ["skip"]
  else if w ∈ [Str.ofString "copy", Str.ofString "lend", Str.ofString "take"] then txs (gEq w r)
  else if w = Str.ofString "put" then txs (gPut w r)
  else if w = Str.ofString "move" then txs (gMove w r)
  else if w = Str.ofString "touch" then txs (gTouch w r)
  else if w = Str.ofString "call" then gCall r
  else txs [w, r]
def gStep (z : Str) : Dt := gWord (Txt.partition z (Str.ofString " ")).1 (Txt.partition z (Str.ofString " ")).2.2
/-! ### signs that are not in a text -/
theorem name_signs {z : Str} (h : isName z = true) : ∀ c ∈ cs z, c ∈ lettersL := by
  unfold isName at h
  rw [Bool.and_eq_true, List.all_eq_true] at h
  exact fun c hc => of_decide_eq_true (h.2 c hc)
theorem open_signs {z : Str} (h : openS z = true) : ∀ c ∈ cs z, c ∈ lettersL := by
  unfold openS at h
  rw [Bool.or_eq_true, decide_eq_true_eq] at h
  rcases h with rfl | h
  · exact fun c hc => nomatch hc
  · exact name_signs h
theorem way_signs {z : Str} (h : wayS z = true) : ∀ c ∈ cs z, c ∈ lettersL := by
  unfold wayS at h
  rw [decide_eq_true_eq] at h
  rcases h with rfl | rfl <;> decide +kernel
theorem free_app {a b : Str} {c : Nat} (ha : c ∉ cs a) (hb : c ∉ cs b) : c ∉ cs (a ++ b) := by
  rw [cs_app, List.mem_append]
  exact fun h => h.elim ha hb
theorem place_free {a p : Str} {c : Nat} (ha : isName a = true) (hp : openS p = true) (hc : c ∉ lettersL) (h46 : c ∉ cs (Str.ofString ".")) : c ∉ cs (placeS a p) := by
  have h1 : c ∉ cs a := fun h => hc (name_signs ha c h)
  have h2 : c ∉ cs p := fun h => hc (open_signs hp c h)
  unfold placeS
  split
  · exact h1
  · exact free_app (free_app h1 h46) h2
theorem l32 : 32 ∉ lettersL := by decide +kernel
theorem l46 : 46 ∉ lettersL := by decide +kernel
theorem l40 : 40 ∉ lettersL := by decide +kernel
theorem l44 : 44 ∉ lettersL := by decide +kernel
theorem l61 : 61 ∉ lettersL := by decide +kernel
theorem gPlace_eq {a p : Str} (ha : isName a = true) : gPlace (placeS a p) = [a, p] := by
  have h1 : 46 ∉ cs a := fun h => l46 (name_signs ha _ h)
  unfold gPlace placeS
  split
  · rename_i h
    rw [TL.partition_none (y := Str.ofString ".") (s := 46) (S := []) rfl h1, h]
    rfl
  · rw [TL.partition_app (y := Str.ofString ".") (s := 46) (S := []) rfl h1]
theorem blank_app {w r : Str} (h : 32 ∉ cs w) : Txt.partition (w ++ Str.ofString " " ++ r) (Str.ofString " ") = (w, Str.ofString " ", r) := TL.partition_app (s := 32) (S := []) rfl h
theorem eq_app {w r : Str} (h : 32 ∉ cs w) : Txt.partition (w ++ Str.ofString " = " ++ r) (Str.ofString " = ") = (w, Str.ofString " = ", r) := TL.partition_app (s := 32) (S := [61, 32]) rfl h
theorem gArg_eq {f : ArgF} (ok : f.ok = true) : txs (gArg f.text) = f.dt := by
  cases f with
  | lend a p =>
    have ok : (isName a && openS p) = true := ok
    rw [Bool.and_eq_true] at ok
    have e : (ArgF.lend a p).text = Str.ofString "lend" ++ Str.ofString " " ++ placeS a p := rfl
    unfold gArg
    rw [e, blank_app (by decide +kernel)]
    show txs (gArgW (Str.ofString "lend") (placeS a p)) = _
    unfold gArgW
    rw [if_neg (by decide), gPlace_eq ok.1]
    rfl
  | move a =>
    have e : (ArgF.move a).text = Str.ofString "move" ++ Str.ofString " " ++ a := rfl
    unfold gArg
    rw [e, blank_app (by decide +kernel)]
    rfl
theorem arg_free {f : ArgF} (ok : f.ok = true) : 44 ∉ cs f.text := by
  cases f with
  | lend a p =>
    have ok : (isName a && openS p) = true := ok
    rw [Bool.and_eq_true] at ok
    exact free_app (by decide +kernel) (place_free ok.1 ok.2 l44 (by decide +kernel))
  | move a => exact free_app (by decide +kernel) fun h => l44 (name_signs ok _ h)
theorem suffix_eq (u v : Str) (hv : 1 ≤ v.length) : Txt.removesuffix (u ++ v) v = u := by
  rw [StrLaws.removesuffix_eq]
  have l : (u ++ v).length - v.length = u.length := by rw [len_cat]; omega
  rw [if_pos]
  · refine cs_ext ?_
    rw [l]
    show List.take (u.length - 0) (List.drop 0 (cs (u ++ v))) = cs u
    rw [List.drop_zero, Nat.sub_zero, cs_app, cs_len, List.take_left]
  · rw [l, Bool.and_eq_true, decide_eq_true_eq]
    refine ⟨by rw [len_cat]; omega, ?_⟩
    rw [StrLaws.subAt_eq]
    show ((cs (u ++ v)).drop u.length).take v.length == cs v
    rw [cs_app, cs_len u, List.drop_left, cs_len v, List.take_length]
    exact beq_self_eq_true _
theorem gTold_eq {fs : List ArgF} (ok : fs.all ArgF.ok = true) : (gTold (Txt.join (Str.ofString ", ") (fs.map ArgF.text) ++ Str.ofString ")")).map (fun z => txs (gArg z)) = fs.map ArgF.dt := by
  have hd : ∀ fs : List ArgF, fs.all ArgF.ok = true → (fs.map ArgF.text).map (fun z => txs (gArg z)) = fs.map ArgF.dt := by
    intro fs h
    rw [List.map_map]
    exact List.map_congr_left fun f hf => gArg_eq (List.all_eq_true.mp h f hf)
  cases fs with
  | nil => rfl
  | cons f r =>
    unfold gTold
    rw [if_neg, suffix_eq _ _ (by decide), TL.split_join (s := 44) (S := [32]) rfl (by decide +kernel) (by rw [List.map_cons]; exact List.cons_ne_nil _ _)]
    · exact hd _ ok
    · intro p hp
      obtain ⟨g, hg, rfl⟩ := List.mem_map.mp hp
      exact arg_free (List.all_eq_true.mp ok g hg)
    · intro h
      have e := congrArg Str.length h
      rw [len_cat] at e
      have e2 : (Txt.join (Str.ofString ", ") ((f :: r).map ArgF.text)).length = 0 := by
        have : (Str.ofString ")").length = 1 := rfl
        omega
      have e3 : 1 ≤ (Txt.join (Str.ofString ", ") ((f :: r).map ArgF.text)).length := by
        rw [TL.join_eq, cs_len, show cs (Str.join (Str.ofString ", ") ((f :: r).map ArgF.text)) = _ from TL.tl_join _ _]
        have h1 : 1 ≤ (cs f.text).length := by
          cases f with
          | lend a p =>
            show 1 ≤ (cs (Str.ofString "lend " ++ placeS a p)).length
            rw [cs_app, List.length_append]
            have : (cs (Str.ofString "lend ")).length = 5 := rfl
            omega
          | move a =>
            show 1 ≤ (cs (Str.ofString "move " ++ a)).length
            rw [cs_app, List.length_append]
            have : (cs (Str.ofString "move ")).length = 5 := rfl
            omega
        cases r with
        | nil => exact h1
        | cons g r =>
          show 1 ≤ (cs f.text ++ _).length
          rw [List.length_append]
          omega
      omega
theorem rpart_none {g : Str} (hg : 32 ∉ cs g) : (Txt.rpartition g (Str.ofString " = ")).1 = Str.ofString "" ∧ (Txt.rpartition g (Str.ofString " = ")).2.2 = g := by
  unfold Txt.rpartition
  rcases StrLaws.last_spec g (Str.ofString " = ") with ⟨e, _⟩ | ⟨i, e, hi, _⟩
  · rw [e]
    exact ⟨rfl, rfl⟩
  · exfalso
    have h := (TL.at_iff (y := Str.ofString " = ") (by decide) i).mp hi
    have h : (((cs g).drop i).take 3 == [32, 61, 32]) = true := h
    have h := eq_of_beq h
    have : 32 ∈ ((cs g).drop i).take 3 := by rw [h]; exact List.mem_cons_self
    exact hg (List.mem_of_mem_drop (List.mem_of_mem_take this))
theorem rpart_some {r g : Str} (hg : ∀ c ∈ cs g, c ∈ lettersL) : (Txt.rpartition (r ++ Str.ofString " = " ++ g) (Str.ofString " = ")).1 = r ∧ (Txt.rpartition (r ++ Str.ofString " = " ++ g) (Str.ofString " = ")).2.2 = g := by
  have hz : cs (r ++ Str.ofString " = " ++ g) = cs r ++ (32 :: 61 :: 32 :: cs g) := by
    rw [cs_app, cs_app, List.append_assoc]
    rfl
  have key : ∀ i, r.length < i → ¬ StrLaws.At (r ++ Str.ofString " = " ++ g) (Str.ofString " = ") (r ++ Str.ofString " = " ++ g).length i := by
    intro i hi h
    have h := (TL.at_iff (y := Str.ofString " = ") (by decide) i).mp h
    have h : (((cs (r ++ Str.ofString " = " ++ g)).drop i).take 3 == [32, 61, 32]) = true := h
    have h := eq_of_beq h
    rw [hz] at h
    obtain ⟨k, rfl⟩ : ∃ k, i = (cs r).length + (k + 1) := ⟨i - r.length - 1, by rw [← cs_len]; omega⟩
    rw [← List.drop_drop, List.drop_left] at h
    match k, h with
    | 0, h => exact absurd (List.cons.inj (show 61 :: (List.take 2 (32 :: cs g)) = 32 :: _ from h)).1 (by decide)
    | 1, h =>
      have h : 32 :: List.take 2 (cs g) = 32 :: [61, 32] := h
      have h := (List.cons.inj h).2
      have : 61 ∈ List.take 2 (cs g) := by rw [h]; exact List.mem_cons_self
      exact l61 (hg _ (List.mem_of_mem_take this))
    | k + 2, h =>
      have h : List.take 3 (List.drop k (cs g)) = [32, 61, 32] := h
      have : 32 ∈ List.take 3 (List.drop k (cs g)) := by rw [h]; exact List.mem_cons_self
      exact l32 (hg _ (List.mem_of_mem_drop (List.mem_of_mem_take this)))
  have here : StrLaws.At (r ++ Str.ofString " = " ++ g) (Str.ofString " = ") (r ++ Str.ofString " = " ++ g).length r.length := by
    refine (TL.at_iff (y := Str.ofString " = ") (by decide) _).mpr ?_
    show (((cs (r ++ Str.ofString " = " ++ g)).drop r.length).take 3 == [32, 61, 32]) = true
    rw [hz, cs_len, List.drop_left]
    rfl
  unfold Txt.rpartition
  rcases StrLaws.last_spec (r ++ Str.ofString " = " ++ g) (Str.ofString " = ") with ⟨e, hn⟩ | ⟨i, e, hi, hn⟩
  · exact absurd here (hn _)
  · rw [e]
    have e1 : i = r.length := by
      rcases Nat.lt_trichotomy i r.length with h | h | h
      · exact absurd here (hn _ h)
      · exact h
      · exact absurd hi (key _ h)
    subst e1
    constructor
    · refine cs_ext ?_
      show cs (Builtin.Str.strSub _ 0 r.length) = _
      rw [show cs (Builtin.Str.strSub (r ++ Str.ofString " = " ++ g) 0 r.length) = _ from TL.tl_strSub _ _ _]
      show List.take (r.length - 0) (List.drop 0 (cs (r ++ Str.ofString " = " ++ g))) = _
      rw [List.drop_zero, Nat.sub_zero, hz, cs_len, List.take_left]
    · refine cs_ext ?_
      show cs (Builtin.Str.strSub _ (r.length + 3) _) = _
      rw [show cs (Builtin.Str.strSub (r ++ Str.ofString " = " ++ g) (r.length + 3) (r ++ Str.ofString " = " ++ g).length) = _ from TL.tl_strSub_end _ _]
      show List.drop (r.length + 3) (cs (r ++ Str.ofString " = " ++ g)) = _
      rw [hz, ← List.drop_drop, cs_len, List.drop_left]
      rfl
theorem gCall_eq {r g : Str} {fs : List ArgF} (hr : openS r = true) (hg : isName g = true) (ok : fs.all ArgF.ok = true) :
    gCall ((if r = Str.ofString "" then Str.ofString "" else r ++ Str.ofString " = ") ++ g ++ Str.ofString "(" ++ (Txt.join (Str.ofString ", ") (fs.map ArgF.text) ++ Str.ofString ")")) = (StepF.call r g fs).dt := by
  have hg1 := name_signs hg
  have hr1 := open_signs hr
  have f1 : 40 ∉ cs ((if r = Str.ofString "" then Str.ofString "" else r ++ Str.ofString " = ") ++ g) := by
    refine free_app ?_ fun h => l40 (hg1 _ h)
    split
    · decide +kernel
    · exact free_app (fun h => l40 (hr1 _ h)) (by decide +kernel)
  unfold gCall
  rw [TL.partition_app (y := Str.ofString "(") (s := 40) (S := []) rfl f1]
  show gCallW ((if r = Str.ofString "" then Str.ofString "" else r ++ Str.ofString " = ") ++ g) (Txt.join (Str.ofString ", ") (fs.map ArgF.text) ++ Str.ofString ")") = _
  unfold gCallW
  rw [gTold_eq ok]
  by_cases h : r = Str.ofString ""
  · rw [if_pos h, show Str.ofString "" ++ g = g from empty_cat g]
    obtain ⟨e1, e2⟩ := rpart_none (g := g) fun h => l32 (hg1 _ h)
    rw [e1, e2, h]
    rfl
  · rw [if_neg h]
    obtain ⟨e1, e2⟩ := rpart_some (r := r) hg1
    rw [e1, e2]
    rfl
theorem gStep_eq {f : StepF} (ok : f.ok = true) : gStep f.text = f.dt := by
  cases f with
  | new x =>
    have e : (StepF.new x).text = Str.ofString "new" ++ Str.ofString " " ++ x := rfl
    unfold gStep
    rw [e, blank_app (by decide +kernel)]
    rfl
  | drop x =>
    have e : (StepF.drop x).text = Str.ofString "drop" ++ Str.ofString " " ++ x := rfl
    unfold gStep
    rw [e, blank_app (by decide +kernel)]
    rfl
  | skip =>
    unfold gStep
    rw [show StepF.skip.text = Str.ofString "skip" from rfl, TL.partition_none (y := Str.ofString " ") (s := 32) (S := []) rfl (by decide +kernel)]
    rfl
  | ret y =>
    unfold gStep
    by_cases h : y = Str.ofString ""
    · rw [show (StepF.ret y).text = Str.ofString "return" from if_pos h, TL.partition_none (y := Str.ofString " ") (s := 32) (S := []) rfl (by decide +kernel), h]
      rfl
    · rw [show (StepF.ret y).text = Str.ofString "return" ++ Str.ofString " " ++ y from if_neg h, blank_app (by decide +kernel)]
      rfl
  | move x y =>
    have ok : (isName x && isName y) = true := ok
    rw [Bool.and_eq_true] at ok
    have e : (StepF.move x y).text = Str.ofString "move" ++ Str.ofString " " ++ (x ++ Str.ofString " = " ++ y) := cs_ext (by simp only [StepF.text, cs_app, List.append_assoc]; rfl)
    unfold gStep
    rw [e, blank_app (by decide +kernel)]
    show txs (gMove (Str.ofString "move") (x ++ Str.ofString " = " ++ y)) = _
    unfold gMove
    rw [eq_app fun h => l32 (name_signs ok.1 _ h)]
    rfl
  | copy x a p =>
    have ok : (isName x && isName a && openS p) = true := ok
    rw [Bool.and_eq_true, Bool.and_eq_true] at ok
    have e : (StepF.copy x a p).text = Str.ofString "copy" ++ Str.ofString " " ++ (x ++ Str.ofString " = " ++ placeS a p) := cs_ext (by simp only [StepF.text, cs_app, List.append_assoc]; rfl)
    unfold gStep
    rw [e, blank_app (by decide +kernel)]
    show txs (gEq (Str.ofString "copy") (x ++ Str.ofString " = " ++ placeS a p)) = _
    unfold gEq
    rw [eq_app fun h => l32 (name_signs ok.1.1 _ h), gPlace_eq ok.1.2]
    rfl
  | take x a p =>
    have ok : (isName x && isName a && openS p) = true := ok
    rw [Bool.and_eq_true, Bool.and_eq_true] at ok
    have e : (StepF.take x a p).text = Str.ofString "take" ++ Str.ofString " " ++ (x ++ Str.ofString " = " ++ placeS a p) := cs_ext (by simp only [StepF.text, cs_app, List.append_assoc]; rfl)
    unfold gStep
    rw [e, blank_app (by decide +kernel)]
    show txs (gEq (Str.ofString "take") (x ++ Str.ofString " = " ++ placeS a p)) = _
    unfold gEq
    rw [eq_app fun h => l32 (name_signs ok.1.1 _ h), gPlace_eq ok.1.2]
    rfl
  | lend x a p =>
    have ok : (isName x && isName a && openS p) = true := ok
    rw [Bool.and_eq_true, Bool.and_eq_true] at ok
    have e : (StepF.lend x a p).text = Str.ofString "lend" ++ Str.ofString " " ++ (x ++ Str.ofString " = " ++ placeS a p) := cs_ext (by simp only [StepF.text, cs_app, List.append_assoc]; rfl)
    unfold gStep
    rw [e, blank_app (by decide +kernel)]
    show txs (gEq (Str.ofString "lend") (x ++ Str.ofString " = " ++ placeS a p)) = _
    unfold gEq
    rw [eq_app fun h => l32 (name_signs ok.1.1 _ h), gPlace_eq ok.1.2]
    rfl
  | put a p y =>
    have ok : (isName a && openS p && isName y) = true := ok
    rw [Bool.and_eq_true, Bool.and_eq_true] at ok
    have e : (StepF.put a p y).text = Str.ofString "put" ++ Str.ofString " " ++ (placeS a p ++ Str.ofString " = " ++ y) := cs_ext (by simp only [StepF.text, cs_app, List.append_assoc]; rfl)
    unfold gStep
    rw [e, blank_app (by decide +kernel)]
    show txs (gPut (Str.ofString "put") (placeS a p ++ Str.ofString " = " ++ y)) = _
    unfold gPut
    rw [eq_app (place_free ok.1.1 ok.1.2 l32 (by decide +kernel)), gPlace_eq ok.1.1]
    rfl
  | touch a p way =>
    have ok : (isName a && openS p && wayS way) = true := ok
    rw [Bool.and_eq_true, Bool.and_eq_true] at ok
    have e : (StepF.touch a p way).text = Str.ofString "touch" ++ Str.ofString " " ++ (placeS a p ++ Str.ofString " " ++ way) := cs_ext (by simp only [StepF.text, cs_app, List.append_assoc]; rfl)
    unfold gStep
    rw [e, blank_app (by decide +kernel)]
    show txs (gTouch (Str.ofString "touch") (placeS a p ++ Str.ofString " " ++ way)) = _
    unfold gTouch
    rw [blank_app (place_free ok.1.1 ok.1.2 l32 (by decide +kernel)), gPlace_eq ok.1.1]
    rfl
  | call r g fs =>
    have ok : (openS r && isName g && decide (fs.length ≤ 3) && fs.all ArgF.ok) = true := ok
    simp only [Bool.and_eq_true] at ok
    have e : (StepF.call r g fs).text = Str.ofString "call" ++ Str.ofString " " ++ ((if r = Str.ofString "" then Str.ofString "" else r ++ Str.ofString " = ") ++ g ++ Str.ofString "(" ++ (Txt.join (Str.ofString ", ") (fs.map ArgF.text) ++ Str.ofString ")")) := cs_ext (by simp only [StepF.text, cs_app, List.append_assoc]; rfl)
    unfold gStep
    rw [e, blank_app (by decide +kernel)]
    exact gCall_eq ok.1.1.1 ok.1.1.2 ok.2

/-! ### what a guess is made of -/
theorem part_len (x y : Str) : (Txt.partition x y).1.length ≤ x.length ∧ (Txt.partition x y).2.2.length ≤ x.length := ⟨(fact_partition x y).1, (fact_partition x y).2.2⟩
theorem rpart_len (x y : Str) : (Txt.rpartition x y).1.length ≤ x.length ∧ (Txt.rpartition x y).2.2.length ≤ x.length := ⟨(fact_rpartition x y).1, (fact_rpartition x y).2.2⟩
theorem spl_le (S : List Nat) : ∀ (l : List Nat) (k : Nat) (acc p : List Nat), p ∈ TL.spl S k acc l → p.length ≤ acc.length + l.length
  | [], k, acc, p, h => by
    rw [TL.spl_nil, List.mem_singleton] at h
    subst h
    exact Nat.le_add_right _ _
  | c :: r, 0, acc, p, h => by
    unfold TL.spl at h
    split at h
    · rcases List.mem_cons.mp h with rfl | h
      · exact Nat.le_add_right _ _
      · have := spl_le S r _ [] p h
        simp only [List.length_nil, List.length_cons] at this ⊢
        omega
    · have := spl_le S r 0 (acc ++ [c]) p h
      simp only [List.length_append, List.length_cons, List.length_nil] at this ⊢
      omega
  | c :: r, k + 1, acc, p, h => by
    unfold TL.spl at h
    have := spl_le S r k acc p h
    simp only [List.length_cons] at this ⊢
    omega
theorem suffix_len (x y : Str) : (Txt.removesuffix x y).length ≤ x.length := by
  rw [StrLaws.removesuffix_eq]
  split
  · rw [cs_len, cs_len x]
    show (List.take _ (List.drop 0 (cs x))).length ≤ _
    rw [List.length_take, List.drop_zero]
    omega
  · exact Nat.le_refl _
theorem gTold_len (b : Str) : (gTold b).length ≤ b.length + 2 ∧ ∀ z ∈ gTold b, z.length ≤ b.length := by
  have h0 := suffix_len b (Str.ofString ")")
  unfold gTold
  split
  · exact ⟨Nat.zero_le _, fun z hz => nomatch hz⟩
  · refine ⟨Nat.le_trans (fact_split _ _).2 (by omega), fun z hz => ?_⟩
    have e := TL.split_spl (Txt.removesuffix b (Str.ofString ")")) (Str.ofString ", ") (by decide) (TL.kind_ok (by decide +kernel))
    have hm : TL.tl z ∈ (Txt.split (Txt.removesuffix b (Str.ofString ")")) (Str.ofString ", ")).map TL.tl := List.mem_map_of_mem hz
    rw [e] at hm
    have := spl_le _ _ _ _ _ hm
    have l1 : z.length = (TL.tl z).length := TL.len_tl z
    have l2 := TL.len_tl (Txt.removesuffix b (Str.ofString ")"))
    simp only [List.length_nil] at this
    omega
theorem gPlace_len (z : Str) : ∀ y ∈ gPlace z, y.length ≤ z.length := fun y hy => by
  unfold gPlace at hy
  simp only [List.mem_cons, List.not_mem_nil, or_false] at hy
  rcases hy with rfl | rfl
  · exact (part_len _ _).1
  · exact (part_len _ _).2
theorem gArg_len (z : Str) : (gArg z).length ≤ 3 ∧ ∀ y ∈ gArg z, y.length ≤ z.length := by
  have h := part_len z (Str.ofString " ")
  unfold gArg gArgW
  split
  · refine ⟨(show 2 ≤ 3 by decide), fun y hy => ?_⟩
    simp only [List.mem_cons, List.not_mem_nil, or_false] at hy
    rcases hy with rfl | rfl
    · exact h.1
    · exact h.2
  · refine ⟨(show 3 ≤ 3 by decide), fun y hy => ?_⟩
    rcases List.mem_cons.mp hy with rfl | hy
    · exact h.1
    · exact Nat.le_trans (gPlace_len _ y hy) h.2
theorem rep_strs {H : Hp} : ∀ zs : List Str, (∀ z ∈ zs, z.length ≤ 100000) → RepAll H (zs.map V.str) (zs.map Dt.txt)
  | [], _ => .nil
  | z :: zs, h => .cons (.txt (h z List.mem_cons_self)) (rep_strs zs fun y hy => h y (List.mem_cons_of_mem _ hy))
theorem rep_txs {H : Hp} {c : Addr} {zs : List Str} (h : H c = some (.tup (zs.map V.str))) (l : zs.length ≤ 1000) (m : ∀ z ∈ zs, z.length ≤ 100000) : Rep H (.ref c) (txs zs) :=
  .tup h (by rw [List.length_map]; exact l) (rep_strs zs m)
theorem repAll_of {H : Hp} {f : Str → List Str} : ∀ (zs : List Str) (acc : List V), acc.length = zs.length → (∀ (j : Nat) (z : Str), zs[j]? = some z → ∃ c, acc[j]? = some (V.ref c) ∧ H c = some (HO.tup ((f z).map V.str))) →
    (∀ z ∈ zs, (f z).length ≤ 1000 ∧ ∀ y ∈ f z, y.length ≤ 100000) → RepAll H acc (zs.map fun z => txs (f z))
  | [], [], _, _, _ => .nil
  | z :: zs, a :: acc, hl, hj, hm => by
    obtain ⟨c, e, hc⟩ := hj 0 z rfl
    obtain rfl : a = .ref c := Option.some.inj e
    have hz := hm z List.mem_cons_self
    exact .cons (rep_txs hc hz.1 hz.2) (repAll_of zs acc (Nat.succ.inj hl) (fun j y h => hj (j + 1) y h) fun y hy => hm y (List.mem_cons_of_mem _ hy))
section
variable {J : It} {n : Nat} {G : Hp → Prop} {Y : Nat → Hp → V → Hp → Prop} {g : TG} {tt : TT} {te : TE} {vs : List Nat} {σ : L2.St} {H1 : Hp} {D : Addr} {Qd : Hp → Prop}
/-- a list of new tuples -/
theorem lc_tups (w : Walk J n G Y) (f : Nat → List V) (few : n ≤ 100000) (nD : H1 D = none) (hG : ∀ H', Same H1 H' → G H')
    (hs : ∀ (i : Nat) (x : V) (H2 H3 : Hp) (Ky : V → Hp → Prop) (Kn : Hp → Prop), i < n → Same H1 H2 → Y i H2 x H3 → (∀ c H4, Same H2 H4 → H4 c = some (.tup (f i)) → Ky (.ref c) H4) →
      g x (wipe σ vs) H3 fun σ2 H4 => wipe σ2 vs = wipe σ vs ∧ tt σ2 H4 fun b H5 => if b = true then te σ2 H5 Ky else Kn H5)
    (hd : ∀ H' acc, Same H1 H' → H' D = some (.lst acc) → acc.length = n → (∀ j, j < n → ∃ c, acc[j]? = some (.ref c) ∧ H' c = some (.tup (f j))) → Qd H') :
    ∃ W : Nat → Nat → Hp → Prop, (∃ m, W 0 m (upd H1 D (.lst []))) ∧ ∀ i m H, W i m H →
      (J.stop i H ∧ Qd H) ∨ (J.go i H ∧ ∃ Nx : Hp → Prop, (∀ H', Nx H' → ∃ m', m' < m ∧ W (i + 1) m' H') ∧ ∀ x H', J.yld i H x H' → g x (wipe σ vs) H' fun σ2 H2 => wipe σ2 vs = wipe σ vs ∧ tt σ2 H2 fun b H3 =>
        if b = true then te σ2 H3 fun y H4 => ∃ acc, H4 D = some (.lst acc) ∧ acc.length < sizeLine ∧ Nx (upd H4 D (.lst (acc ++ [y]))) else Nx H3) := by
  refine lc_it w (fun i H' => Same H1 H' ∧ ∃ acc, H' D = some (.lst acc) ∧ acc.length = i ∧ ∀ j, j < i → ∃ c, acc[j]? = some (.ref c) ∧ H' c = some (.tup (f j))) ⟨same_upd nD, [], upd_same, rfl, fun j h => absurd h (Nat.not_lt_zero _)⟩ (fun i H' _ p => hG H' p.1) (fun i x H2 H3 hi p y => ?_) (fun H' p => ?_)
  · obtain ⟨sm, acc, hD, hl, hj⟩ := p
    refine hs i x H2 H3 _ _ hi sm y (fun c H4 s4 hc => ⟨acc, s4 D _ hD, Nat.lt_of_le_of_lt (show acc.length ≤ 100000 by omega) (by decide), same_put (sm.trans s4) nD, acc ++ [.ref c], upd_same, by rw [List.length_append, hl]; rfl, fun j hj' => ?_⟩)
    have nt : ∀ {b : Addr} {xs : List V}, H4 b = some (.tup xs) → b ≠ D := fun {b xs} e z => by
      rw [z, s4 D _ hD] at e
      cases e
    by_cases h : j < i
    · obtain ⟨d, h1, h2⟩ := hj j h
      have h2 := s4 _ _ h2
      exact ⟨d, by rw [List.getElem?_append_left (by omega)]; exact h1, by rw [upd_ne (nt h2)]; exact h2⟩
    · obtain rfl : j = i := by omega
      exact ⟨c, by rw [← hl, List.getElem?_append_right (Nat.le_refl _), Nat.sub_self]; rfl, by rw [upd_ne (nt hc)]; exact hc⟩
  · obtain ⟨sm, acc, hD, hl, hj⟩ := p
    exact hd H' acc sm hD hl hj
end
/-! ### texts of no steps -/
theorem arg_text_len {f : ArgF} (ok : f.ok = true) : f.text.length ≤ 22 := by
  cases f with
  | lend a p =>
    have ok : (isName a && openS p) = true := ok
    rw [Bool.and_eq_true] at ok
    have := place_len (name_size ok.1).2 (openS_len ok.2)
    show (Str.ofString "lend " ++ placeS a p).length ≤ 22
    rw [len_cat, show (Str.ofString "lend ").length = 5 from rfl]
    omega
  | move a =>
    have := (name_size (show isName a = true from ok)).2
    show (Str.ofString "move " ++ a).length ≤ 22
    rw [len_cat, show (Str.ofString "move ").length = 5 from rfl]
    omega
theorem args_sum : ∀ {fs : List ArgF}, fs.all ArgF.ok = true → ((fs.map ArgF.text).map (·.length)).sum ≤ 22 * fs.length
  | [], _ => Nat.le_refl _
  | f :: r, h => by
    rw [List.all_cons, Bool.and_eq_true] at h
    have h1 := arg_text_len h.1
    have h2 := args_sum h.2
    rw [List.map_cons, List.map_cons, List.sum_cons, List.length_cons]
    omega
theorem join_len (s : Str) : ∀ ys : List Str, (Txt.join s ys).length ≤ (ys.map (·.length)).sum + ys.length * s.length
  | [] => Nat.zero_le _
  | [x] => by
    rw [TL.join_eq]
    show x.length ≤ (x.length + 0) + 1 * s.length
    omega
  | x :: z :: r => by
    have ih := join_len s (z :: r)
    rw [TL.join_eq] at ih ⊢
    show (x ++ s ++ Str.join s (z :: r)).length ≤ _
    rw [len_cat, len_cat, List.map_cons, List.sum_cons, List.length_cons, Nat.succ_mul]
    omega
theorem args_len {fs : List ArgF} (ok : fs.all ArgF.ok = true) (l : fs.length ≤ 3) : (Txt.join (Str.ofString ", ") (fs.map ArgF.text)).length ≤ 72 := by
  have h1 := join_len (Str.ofString ", ") (fs.map ArgF.text)
  have h2 := args_sum ok
  rw [List.length_map, show (Str.ofString ", ").length = 2 from rfl] at h1
  omega
theorem text_len {f : StepF} (ok : f.ok = true) : f.text.length ≤ 200 := by
  have l3 : (Str.ofString " = ").length = 3 := rfl
  have l1 : (Str.ofString " ").length = 1 := rfl
  cases f with
  | new x =>
    have := (name_size (show isName x = true from ok)).2
    show (Str.ofString "new " ++ x).length ≤ 200
    rw [len_cat, show (Str.ofString "new ").length = 4 from rfl]
    omega
  | drop x =>
    have := (name_size (show isName x = true from ok)).2
    show (Str.ofString "drop " ++ x).length ≤ 200
    rw [len_cat, show (Str.ofString "drop ").length = 5 from rfl]
    omega
  | skip => exact (by decide : (Str.ofString "skip").length ≤ 200)
  | ret y =>
    have := openS_len (show openS y = true from ok)
    show (if y = Str.ofString "" then Str.ofString "return" else Str.ofString "return " ++ y).length ≤ 200
    split
    · decide
    · rw [len_cat, show (Str.ofString "return ").length = 7 from rfl]
      omega
  | move x y =>
    have ok : (isName x && isName y) = true := ok
    rw [Bool.and_eq_true] at ok
    have h1 := (name_size ok.1).2
    have h2 := (name_size ok.2).2
    show (Str.ofString "move " ++ x ++ Str.ofString " = " ++ y).length ≤ 200
    rw [len_cat, len_cat, len_cat, show (Str.ofString "move ").length = 5 from rfl, l3]
    omega
  | copy x a p =>
    have ok : (isName x && isName a && openS p) = true := ok
    rw [Bool.and_eq_true, Bool.and_eq_true] at ok
    have h1 := (name_size ok.1.1).2
    have h2 := place_len (name_size ok.1.2).2 (openS_len ok.2)
    show (Str.ofString "copy " ++ x ++ Str.ofString " = " ++ placeS a p).length ≤ 200
    rw [len_cat, len_cat, len_cat, show (Str.ofString "copy ").length = 5 from rfl, l3]
    omega
  | take x a p =>
    have ok : (isName x && isName a && openS p) = true := ok
    rw [Bool.and_eq_true, Bool.and_eq_true] at ok
    have h1 := (name_size ok.1.1).2
    have h2 := place_len (name_size ok.1.2).2 (openS_len ok.2)
    show (Str.ofString "take " ++ x ++ Str.ofString " = " ++ placeS a p).length ≤ 200
    rw [len_cat, len_cat, len_cat, show (Str.ofString "take ").length = 5 from rfl, l3]
    omega
  | lend x a p =>
    have ok : (isName x && isName a && openS p) = true := ok
    rw [Bool.and_eq_true, Bool.and_eq_true] at ok
    have h1 := (name_size ok.1.1).2
    have h2 := place_len (name_size ok.1.2).2 (openS_len ok.2)
    show (Str.ofString "lend " ++ x ++ Str.ofString " = " ++ placeS a p).length ≤ 200
    rw [len_cat, len_cat, len_cat, show (Str.ofString "lend ").length = 5 from rfl, l3]
    omega
  | put a p y =>
    have ok : (isName a && openS p && isName y) = true := ok
    rw [Bool.and_eq_true, Bool.and_eq_true] at ok
    have h1 := (name_size ok.2).2
    have h2 := place_len (name_size ok.1.1).2 (openS_len ok.1.2)
    show (Str.ofString "put " ++ placeS a p ++ Str.ofString " = " ++ y).length ≤ 200
    rw [len_cat, len_cat, len_cat, show (Str.ofString "put ").length = 4 from rfl, l3]
    omega
  | touch a p way =>
    have ok : (isName a && openS p && wayS way) = true := ok
    rw [Bool.and_eq_true, Bool.and_eq_true] at ok
    have h1 : way.length = 4 := by
      have h := ok.2
      unfold wayS at h
      rw [decide_eq_true_eq] at h
      rcases h with rfl | rfl <;> rfl
    have h2 := place_len (name_size ok.1.1).2 (openS_len ok.1.2)
    show (Str.ofString "touch " ++ placeS a p ++ Str.ofString " " ++ way).length ≤ 200
    rw [len_cat, len_cat, len_cat, show (Str.ofString "touch ").length = 6 from rfl, l1]
    omega
  | call r g fs =>
    have ok : (openS r && isName g && decide (fs.length ≤ 3) && fs.all ArgF.ok) = true := ok
    simp only [Bool.and_eq_true, decide_eq_true_eq] at ok
    have h1 := openS_len ok.1.1.1
    have h2 := (name_size ok.1.1.2).2
    have h3 := args_len ok.2 ok.1.2
    show (Str.ofString "call " ++ (if r = Str.ofString "" then Str.ofString "" else r ++ Str.ofString " = ") ++ g ++ Str.ofString "(" ++ Txt.join (Str.ofString ", ") (fs.map ArgF.text) ++ Str.ofString ")").length ≤ 200
    have h4 : (if r = Str.ofString "" then Str.ofString "" else r ++ Str.ofString " = ").length ≤ 11 := by
      split
      · decide
      · rw [len_cat, l3]
        omega
    rw [len_cat, len_cat, len_cat, len_cat, len_cat, show (Str.ofString "call ").length = 5 from rfl, show (Str.ofString "(").length = 1 from rfl, show (Str.ofString ")").length = 1 from rfl]
    omega
/-- it begins with a small letter -/
def Begins (z : Str) : Prop := ∃ c r, cs z = c :: r ∧ c ∈ lettersL
theorem begins_app {a b : Str} (h : Begins a) : Begins (a ++ b) := by
  obtain ⟨c, r, e, hc⟩ := h
  exact ⟨c, r ++ cs b, by rw [cs_app, e]; rfl, hc⟩
theorem text_begins (f : StepF) : Begins f.text := by
  have k : ∀ z : Str, (match cs z with | c :: _ => decide (c ∈ lettersL) | [] => false) = true → Begins z := fun z h => by
    cases e : cs z with
    | nil => rw [e] at h; cases h
    | cons c r => rw [e] at h; exact ⟨c, r, e, of_decide_eq_true h⟩
  cases f with
  | new x => exact begins_app (k _ (by decide +kernel))
  | drop x => exact begins_app (k _ (by decide +kernel))
  | skip => exact k _ (by decide +kernel)
  | ret y =>
    show Begins (if y = Str.ofString "" then Str.ofString "return" else Str.ofString "return " ++ y)
    split
    · exact k _ (by decide +kernel)
    · exact begins_app (k _ (by decide +kernel))
  | move x y => exact begins_app (begins_app (begins_app (k _ (by decide +kernel))))
  | copy x a p => exact begins_app (begins_app (begins_app (k _ (by decide +kernel))))
  | take x a p => exact begins_app (begins_app (begins_app (k _ (by decide +kernel))))
  | lend x a p => exact begins_app (begins_app (begins_app (k _ (by decide +kernel))))
  | put a p y => exact begins_app (begins_app (begins_app (k _ (by decide +kernel))))
  | touch a p way => exact begins_app (begins_app (begins_app (k _ (by decide +kernel))))
  | call r g fs => exact begins_app (begins_app (begins_app (begins_app (begins_app (k _ (by decide +kernel))))))
/-- it does not end with a blank -/
def Ends32 (z : Str) : Prop := ∃ r c, cs z = r ++ [c] ∧ c ≠ 32
theorem ends_app {a b : Str} (h : Ends32 b) : Ends32 (a ++ b) := by
  obtain ⟨r, c, e, hc⟩ := h
  exact ⟨cs a ++ r, c, by rw [cs_app, e, List.append_assoc], hc⟩
theorem ends_of {z : Str} (h1 : 1 ≤ z.length) (h : ∀ c ∈ cs z, c ∈ lettersL) : Ends32 z := by
  rw [cs_len] at h1
  have ne : cs z ≠ [] := fun e => by rw [e] at h1; exact absurd h1 (by decide)
  refine ⟨(cs z).dropLast, (cs z).getLast ne, (List.dropLast_concat_getLast ne).symm, fun e => l32 (h 32 ?_)⟩
  rw [← e]
  exact List.getLast_mem ne
theorem ends_name {z : Str} (h : isName z = true) : Ends32 z := ends_of (name_size h).1 (name_signs h)
theorem ends_place {a p : Str} (ha : isName a = true) (hp : openS p = true) : Ends32 (placeS a p) := by
  unfold placeS
  split
  · exact ends_name ha
  · rename_i hn
    unfold openS at hp
    rw [Bool.or_eq_true, decide_eq_true_eq] at hp
    exact ends_app (ends_name (hp.resolve_left hn))
theorem text_ends {f : StepF} (ok : f.ok = true) : Ends32 f.text := by
  cases f with
  | new x => exact ends_app (ends_name ok)
  | drop x => exact ends_app (ends_name ok)
  | skip => exact ends_of (by decide) (by decide +kernel)
  | ret y =>
    have ok : openS y = true := ok
    show Ends32 (if y = Str.ofString "" then Str.ofString "return" else Str.ofString "return " ++ y)
    split
    · exact ends_of (by decide) (by decide +kernel)
    · rename_i hn
      unfold openS at ok
      rw [Bool.or_eq_true, decide_eq_true_eq] at ok
      exact ends_app (ends_name (ok.resolve_left hn))
  | move x y =>
    have ok : (isName x && isName y) = true := ok
    rw [Bool.and_eq_true] at ok
    exact ends_app (ends_name ok.2)
  | copy x a p =>
    have ok : (isName x && isName a && openS p) = true := ok
    rw [Bool.and_eq_true, Bool.and_eq_true] at ok
    exact ends_app (ends_place ok.1.2 ok.2)
  | take x a p =>
    have ok : (isName x && isName a && openS p) = true := ok
    rw [Bool.and_eq_true, Bool.and_eq_true] at ok
    exact ends_app (ends_place ok.1.2 ok.2)
  | lend x a p =>
    have ok : (isName x && isName a && openS p) = true := ok
    rw [Bool.and_eq_true, Bool.and_eq_true] at ok
    exact ends_app (ends_place ok.1.2 ok.2)
  | put a p y =>
    have ok : (isName a && openS p && isName y) = true := ok
    rw [Bool.and_eq_true, Bool.and_eq_true] at ok
    exact ends_app (ends_name ok.2)
  | touch a p way =>
    have ok : (isName a && openS p && wayS way) = true := ok
    rw [Bool.and_eq_true, Bool.and_eq_true] at ok
    refine ends_app (ends_of ?_ (way_signs ok.2))
    have h := ok.2
    unfold wayS at h
    rw [decide_eq_true_eq] at h
    rcases h with rfl | rfl <;> decide
  | call r g fs => exact ends_app ⟨[], 41, rfl, by decide⟩
/-- no good step has this text -/
def NoText (z : Str) : Prop := ∀ f : StepF, f.good = true → f.text ≠ z
theorem good_ok {f : StepF} (h : f.good = true) : f.ok = true := by
  have h : (f.ok && (f.free || decide f.vars.Nodup)) = true := h
  rw [Bool.and_eq_true] at h
  exact h.1
theorem no_behind (z : Str) : NoText (z ++ Str.ofString " ") := fun f g e => by
  obtain ⟨r, c, h, hc⟩ := text_ends (good_ok g)
  rw [e, cs_app] at h
  have := congrArg List.getLast? h
  rw [List.getLast?_append, List.getLast?_append] at this
  exact hc (Option.some.inj this).symm
theorem no_ahead (z : Str) : NoText (Str.ofString " " ++ z) := fun f g e => by
  obtain ⟨c, r, h, hc⟩ := text_begins f
  rw [e, cs_app] at h
  have h : 32 :: cs z = c :: r := h
  rw [← (List.cons.inj h).1] at hc
  exact l32 hc
theorem up_letters : ∀ c ∈ lettersL, Unicode.upperOf c = [c - 32] := by decide +kernel
theorem up_none : ∀ c ∈ lettersL, c - 32 ∉ lettersL := by decide +kernel
theorem no_upper (f : StepF) : NoText (Txt.upper f.text) := fun f' g e => by
  obtain ⟨c, r, h, hc⟩ := text_begins f
  obtain ⟨c', r', h', hc'⟩ := text_begins f'
  have hu : cs (Txt.upper f.text) = (((cs f.text).mapIdx fun i c => (Unicode.upperOf c).toArray).map Array.toList).flatten := by
    show (placed f.text fun _ c => Unicode.upperOf c).toList = _
    unfold placed
    rw [Array.toList_flatten, Array.toList_mapIdx]
  rw [e, hu, h, List.mapIdx_cons, List.map_cons, List.flatten_cons, up_letters c hc] at h'
  have h' : (c - 32) :: _ = c' :: r' := h'
  rw [← (List.cons.inj h').1] at hc'
  exact up_none c hc hc'
def badD (z : Str) : Bool := match ofDt (gStep z) with | none => true | some f => !f.good
theorem no_of {z : Str} (h : badD z = true) : NoText z := fun f g e => by
  have e1 := gStep_eq (good_ok g)
  rw [e] at e1
  unfold badD at h
  rw [e1, ofDt_dt] at h
  have h : (!f.good) = true := h
  rw [g] at h
  cases h
end Lp

namespace Lp
open PySem PySem.Spec PyProof.Rows L2
/-! ### defs that may raise -/
section
variable {P : Program} {w : World} {K : PySem.W.Frag} {mg : Str → Option Value} {base : Heap} {k : Nat} {f : Addr} {fd : FuncData} {ps : List Str} {sp sp1 sp2 : Sp}
/-- what raises nothing, as what may raise -/
theorem FnOk.lift (F : FnOk P w K mg base CX0 k f fd ps sp) : FnOk P w K mg base (L2.CX P w) k f fd ps sp :=
  ⟨F.len, fun A outer s H args us vs Q E hr he hb hv h => codeAny_mono (F.run A outer s H args us vs Q E hr he hb hv h) fun r s' q => by
    cases r with
    | ok u => cases u <;> exact q
    | error e => exact False.elim q⟩
theorem FnOk.two {CX : CXT} (F1 : FnOk P w K mg base CX k f fd ps sp1) (F2 : FnOk P w K mg base CX k f fd ps sp2) (h : ∀ vs H Q E, sp vs H Q E → sp1 vs H Q E ∨ sp2 vs H Q E) : FnOk P w K mg base CX k f fd ps sp :=
  ⟨fun vs H Q E q => (h vs H Q E q).elim (F1.len _ _ _ _) (F2.len _ _ _ _), fun A outer s H args us vs Q E hr he hb hv q => (h vs H Q E q).elim (F1.run A outer s H args us vs Q E hr he hb hv) (F2.run A outer s H args us vs Q E hr he hb hv)⟩
/-- a def that may raise, by its name -/
structure CalX (P : Program) (w : World) (K : PySem.W.Frag) (mg : Str → Option Value) (base : Heap) (k : Nat) (x : Str) (sp : Sp) : Prop where
  ex : ∃ (f : Addr) (fd : FuncData) (ps : List Str), FnOk P w K mg base (L2.CX P w) k f fd ps sp ∧ mg x = some (.ref f) ∧ PySem.W.keepIn K (.ref f) = true ∧ Binds K fd ps []
theorem mkCalX {x : Str} {st : Stmt} (h : FnOk P w K mg base (L2.CX P w) k f fd ps sp) (F : Fun K x x st f fd) (b : Binds K fd ps []) (g : mg x = some (.ref f)) : CalX P w K mg base k x sp := ⟨f, fd, ps, h, g, F.kp, b⟩
end
section
variable {X : Cx} {k j : Nat} {x : Str} {sp : Sp} {p pos : Pos} {e : Expr} {es : List Expr} {t : TA} {E : L2.St → XK}
theorem pe_cX (c : CalX X.prog X.w X.K X.mg X.base k x sp) (hr : Room j X.A) (hk : k ≤ j) (hg : Gl X x) (hx : ∀ σ, PassesAt (L2.CX X.prog X.w) X σ (E σ)) (ha : PA X (e :: es) t)
    (hdb : (x == ("__debug__" : Str)) = false := by decide) (he : starEach (e :: es) X.env = (false, eval e X.env) :: starEach es X.env := by rfl) (hpl : (backTo pos (starEach es X.env)).any (·.1) = false := by rfl) :
    PE X (.Call (.Name x p) (e :: es) [] pos) (tCallS sp E t) := by
  obtain ⟨f, fd, ps, F, hm, kp, b⟩ := c.ex
  exact pe_callS F (hr.mono hk) hg hm kp b hx ha hdb he hpl
end
/-- an own class of errors over ValueError, with no __init__ of its own -/
structure XcP (K : PySem.W.Frag) (mg : Str → Option Value) (x : Str) (C : Addr) : Prop where
  g : mg x = some (.ref C)
  x : PySem.W.excIn K C [.type "ValueError", .type "Exception", .type "BaseException", .type "object"] "ValueError.__new__" = true
  k : PySem.W.keepIn K (.ref C) = true
  b : PySem.W.subIn K (.ref C) (.type "BaseException") = some true
  t : PySem.W.typeIn K (.ref C) = some (.type "type")
  i : PySem.W.isClsIn K C = true
  s : PySem.W.subIn K (.ref C) (.ref C) = some true
/-- an error of the class at S is what «except S» names -/
theorem exm_own {K : PySem.W.Frag} {S : Addr} (h1 : PySem.W.subIn K (.ref S) (.type "BaseException") = some true) (h2 : PySem.W.isClsIn K S = true) (h3 : PySem.W.typeIn K (.ref S) = some (.type "type")) (h4 : PySem.W.subIn K (.ref S) (.ref S) = some true) :
    PySem.W.exmOne K (.ref S) (.ref S) = some true := by
  have e1 : (PySem.W.subIn K (.ref S) (.type "BaseException") == some true) = true := by rw [h1] <;> rfl
  have e2 : ((PySem.W.clsIn K S).isSome && PySem.W.typeIn K (.ref S) == some (.type "type")) = true := by
    have h2' : (PySem.W.clsIn K S).isSome = true := h2
    rw [h2', h3] <;> rfl
  show (if (PySem.W.subIn K (.ref S) (.type "BaseException") == some true) = true then (if ((PySem.W.clsIn K S).isSome && PySem.W.typeIn K (.ref S) == some (.type "type")) = true then PySem.W.subIn K (.ref S) (.ref S) else none) else none) = some true
  rw [if_pos e1, if_pos e2]
  exact h4
theorem XcP.e {K : PySem.W.Frag} {mg : Str → Option Value} {x : Str} {C : Addr} (T : XcP K mg x C) : PySem.W.exmOne K (.ref C) (.ref C) = some true := exm_own T.b T.i T.t T.s
/-- an own class of errors whose __init__ keeps its argument as «line» -/
structure XcI (K : PySem.W.Frag) (mg : Str → Option Value) (x f : Str) (C fI : Addr) : Prop where
  g : mg x = some (.ref C)
  T : OexC K C
  iC : PySem.W.findIn K (.ref C) "__init__" = some (some (.ref fI))
  tI : PySem.W.typeIn K (.ref fI) = some (.type "function")
  no : PySem.W.findIn K (.ref C) f = some none
  F : XfC K C
  i : PySem.W.isClsIn K C = true
  s : PySem.W.subIn K (.ref C) (.ref C) = some true
theorem XcI.e {K : PySem.W.Frag} {mg : Str → Option Value} {x f : Str} {C fI : Addr} (T : XcI K mg x f C fI) : PySem.W.exmOne K (.ref C) (.ref C) = some true := exm_own T.T.exC T.i T.T.tyC T.s
/-- __init__(self, line): self.line = line -/
def spInit (C : Addr) (f : Str) : Sp := fun vs H Q _ => ∃ (a : Addr) (v : V), vs = [.ref a, v] ∧ H a = some (exo a C none) ∧ ∀ d, H d = none → d ≠ a → Q .non (upd (upd H d (exd d [(f, v)])) a (exo a C (some d)))
theorem same_del {H : Hp} {a d : Addr} {o : HO} {H2 : Hp} (ha : H a = none) (hd : H d = none) (k : ∀ b o, b ≠ a → b ≠ d → H b = some o → H2 b = some o) : Same H (upd (del H2 a) d o) := fun b o e => by
  have h1 : b ≠ a := ne_of_none e ha
  have h2 : b ≠ d := ne_of_none e hd
  rw [upd_ne h2, del_ne h1]
  exact k b o h1 h2 e
end Lp

namespace Lp
open PySem PySem.Spec PyProof.Rows L2
/-! ### enumerate(a text) -/
def Ies (x : Str) : It :=
  ⟨fun i _ => ∃ c, (cs x)[i]? = some c, fun i H v H' => ∃ T c, v = .ref T ∧ H T = none ∧ H' = upd H T (.tup [.int (i : Nat), .str ⟨#[c]⟩]) ∧ (cs x)[i]? = some c, fun i _ => (cs x).length ≤ i⟩
theorem turn_enumS {P : Program} {w : World} {K : PySem.W.Frag} {elts : List Expr} {kk : Nat} {tpos : Pos} (x : Str) (t : Tok) (e it : Addr) :
    Turn P w K (.Tuple elts kk tpos) (Ies x) [e, it] e (fun i h => (∃ old, IsEnum h e it ((i : Nat) : Int) old) ∧ h.IsStrIter it (strIterType x) x t i ∧ e ≠ it ∧ i ≤ (cs x).length) where
  mem := by simp
  obj := fun i h st b hb => by
    obtain ⟨⟨old, he⟩, ⟨o, ho, hc, hd⟩, _⟩ := st
    have e' : b = e ∨ b = it := by simpa using hb
    rcases e' with z | z
    · rw [z]; exact ⟨_, he, fun v q => nomatch q⟩
    · rw [z]; exact ⟨o, ho, fun v q => by rw [hd] at q; cases q⟩
  keep := fun i h h' st k => let ⟨⟨old, he⟩, ⟨o, ho, r⟩, hne⟩ := st; ⟨⟨old, k e (by simp) _ he⟩, ⟨o, k it (by simp) _ ho, r⟩, hne⟩
  item := by
    intro X hP hw hK hc i pins s σ H E I hf st hg
    subst hP hw hK
    obtain ⟨⟨old, he⟩, hit, hne, hle⟩ := st
    obtain ⟨c, hx⟩ := hg
    have hel : e < s.heap.objs.size := Heap.lt_size he
    have hil : it < s.heap.objs.size := by obtain ⟨_, q, _⟩ := hit; exact Heap.lt_size q
    have hlt : i < x.cps.size := by
      have := (List.getElem?_eq_some_iff.mp hx).1
      rw [← cs_len] at this
      exact this
    have D := PySem.Draws.text (prog := X.prog) (w := X.w) (A := X.A.in1) (I.ok.hd hc) it x t
    refine wpAny_pyNext_enum_itemD D he hit hlt hne (by simp [hne]) fun x' h' tk px ho hit' hT hsz hk => ?_
    obtain ⟨c', u, hc', ex⟩ := px
    have ec : c' = c := by
      have e1 : (cs x)[i]? = x.cps[i]? := by simp
      rw [e1, hc'] at hx
      exact Option.some.inj hx
    subst ex
    subst ec
    refine ⟨_, rfl, wpAny_letOwnedTupleGo_enum (s := { s with heap := h', toks := tk + 1 }) ho fun h'' he' sb => ?_⟩
    have hT2 : h''.get? s.heap.objs.size = some { cls := .type "tuple", data := .seq #[.int i tk, .str ⟨#[c']⟩ u] } := (sb.2 _ (Nat.ne_of_gt hel)).trans hT
    have new : ObjOk X.prog X.w (upd H s.heap.objs.size (.tup [.int (i : Nat), .str ⟨#[c']⟩])) h'' s.heap.objs.size (.tup [.int (i : Nat), .str ⟨#[c']⟩]) :=
      ⟨by show 2 ≤ sizeLine; decide, [.int i tk, .str ⟨#[c']⟩ u], .cons ⟨_, rfl⟩ (.cons ⟨_, rfl⟩ .nil), ⟨_, hT2, rfl, _, rfl⟩⟩
    have I1 : Inv X pins σ (upd H s.heap.objs.size (.tup [.int (i : Nat), .str ⟨#[c']⟩])) { s with heap := h'', toks := tk + 1 } :=
      I.turnedNew (ch := [e, it]) (fun b ob hb q => (sb.2 b (fun z => hb (by simp [z]))).trans (hk b ob (fun z => hb (by simp [z])) (fun z => hb (by simp [z])) q)) hf (Nat.le_refl _) new
    refine ⟨.ref s.heap.objs.size, _, I1, rfl, ⟨_, c', rfl, I.hok.fresh (Nat.le_refl _), rfl, hx⟩, ⟨⟨.str ⟨#[c']⟩ u, ?_⟩, ?_, hne, ?_⟩, fun b hb => ?_⟩
    · have e1 : ((i + 1 : Nat) : Int) = (i : Int) + 1 := by omega
      rw [e1]; exact he'
    · obtain ⟨o, q, r⟩ := hit'
      exact ⟨o, (sb.2 it (Ne.symm hne)).trans q, r⟩
    · rw [← cs_len]
      exact hlt
    · have hb' : b < s.heap.objs.size := by
        have e' : b = e ∨ b = it := by simpa using hb
        rcases e' with z | z
        · rw [z]; exact hel
        · rw [z]; exact hil
      rw [upd_ne (Nat.ne_of_lt hb')]
      exact (hf b hb).1
  done := by
    intro X hP hw hK hc i pins s σ H E I hf st hg
    subst hP hw hK
    obtain ⟨⟨old, he⟩, hit, hne, hle⟩ := st
    have hg : (cs x).length ≤ i := hg
    obtain ⟨f0, f1, f2, f3, f4, f5⟩ := hf it (by simp)
    have D := PySem.Draws.text (prog := X.prog) (w := X.w) (A := X.A.in1) (I.ok.hd hc) it x t
    have ei : i = x.cps.size := by
      rw [← cs_len] at hle hg
      exact Nat.le_antisymm hle hg
    rw [ei] at hit
    exact wpAny_pyNext_enum_endD D he hit fun h' eb => ⟨rfl, I.turned (t' := s.toks) (fun b o hb q => eb b o hb q) f0 f1 f3 f4 f5⟩
  self := fun A i s Q E st h => let ⟨⟨_, he⟩, _⟩ := st; wpAny_pyIter_enum he h
def iEnumS (ta : TA) : TI := fun σ H R => ta σ H fun vs H1 => ∃ x, vs = [.str x] ∧ R (Ies x) H1
theorem pi_enumS {X : Cx} {e : Expr} {ta : TA} {p pos tpos : Pos} {elts : List Expr} {kk : Nat} (hg : Gl X "enumerate") (hm : X.mg "enumerate" = none) (ha : PA X [e] ta) (hs : starEach [e] X.env = [(false, eval e X.env)] := by rfl) :
    PI X (.Tuple elts kk tpos) (.Call (.Name "enumerate" p) [e] [] pos) (iEnumS ta) := by
  refine ⟨fun pins s σ H R I h => ?_⟩
  refine Call_ (ld_blt I hg hm boot_enumerate (PyProof.Rows.callWith_type1 (thn (ha.run pos pins s σ H _ I h) fun us s1 ⟨vs, H1, I1, r1, q1⟩ => ?_) hs rfl))
  obtain ⟨x, ex, q⟩ := q1
  subst ex
  cases r1 with
  | cons r rr =>
    cases rr
    obtain ⟨t, rfl⟩ := r
    refine call_enumerate_str fun h' he hit hsz hk => wpAny_pyIter_enum he ?_
    have I2 : Inv X pins σ H1 { s1 with heap := h' } := I1.kept (t' := s1.toks) hk
    refine ⟨s1.heap.objs.size + 1, [s1.heap.objs.size + 1, s1.heap.objs.size], _, _, H1, rfl, I2, turn_enumS x t (s1.heap.objs.size + 1) s1.heap.objs.size, ⟨⟨.none, he⟩, hit, Nat.succ_ne_self _, Nat.zero_le _⟩, fun b hb => ?_, q⟩
    have e' : b = s1.heap.objs.size + 1 ∨ b = s1.heap.objs.size := by simpa using hb
    have hle : s1.heap.objs.size ≤ b := by
      rcases e' with z | z
      · rw [z]; exact Nat.le_add_right _ _
      · rw [z]; exact Nat.le_refl _
    exact I1.fpOk hle (I1.hok.fresh hle)
/-- a walk over a text's signs with their numbers -/
theorem walk_enumS {x : Str} : Walk (Ies x) (cs x).length (fun _ => True) (fun i H v H' => ∃ T c, v = .ref T ∧ H T = none ∧ H' = upd H T (.tup [.int (i : Nat), .str ⟨#[c]⟩]) ∧ (cs x)[i]? = some c) :=
  ⟨fun i _ hi _ => ⟨(cs x)[i], by simp [hi]⟩, fun _ _ => Nat.le_refl _, fun i H x H' _ _ y => y⟩
/-! ### not in a tuple of texts -/
section
variable {X : Cx}
def rNotInS (K : PySem.W.Frag) : R2 := fun x y H Q => ∃ (a : Addr) (zs : List Str), y = .ref a ∧ SqT K H a (zs.map V.str) ∧ DatX K H x ∧ Q (.bl (!inTxt x zs)) H
theorem op_notInS (hu : X.A.units + 1 < cLine) : OpR X (compareOp .NotIn) (rNotInS X.K) := by
  intro pins s σ H x y v u Q I rx ry h
  obtain ⟨a, zs, rfl, ht, d, q⟩ := h
  obtain rfl : u = Value.ref a := ry
  obtain ⟨its, r, p, _⟩ := I.tuple ht
  obtain ⟨k1, k2⟩ := vals_txt r
  refine SeqAt.notIn_tupleAt (txtE x) p (fun y hy => ?_) ⟨.bl (!inTxt x zs), H, I, ?_, q⟩
  · obtain ⟨z, t, rfl⟩ := k1 y (by simpa using hy)
    exact (datX_eqs I (A := X.A.in1) d rx z t hu).2
  · show Value.bool (!its.toArray.any (txtE x)) = Value.bool _
    rw [List.any_toArray, k2]
end
section
variable {X : Cx}
def rNeNilT (K : PySem.W.Frag) : R2 := fun x y H Q => ∃ (a b : Addr) (xs : List V), x = .ref a ∧ y = .ref b ∧ SqT K H a xs ∧ SqT K H b [] ∧ Q (.bl (!xs.isEmpty)) H
theorem op_neNilT (hu : X.A.units < cLine) : OpR X (compareOp .NotEq) (rNeNilT X.K) := by
  intro pins s σ H x y v u Q I rx ry h
  obtain ⟨a, b, xs, rfl, rfl, ha, hb, q⟩ := h
  obtain rfl : v = Value.ref a := rx
  obtain rfl : u = Value.ref b := ry
  obtain ⟨us, r1, p1, _⟩ := I.tuple ha
  obtain ⟨ws, r2, p2, _⟩ := I.tuple hb
  cases r2
  refine SeqAt.RcNeAt.tuples (e := fun _ => true) (show s.heap.IsTuple a us.toArray from p1) (show s.heap.IsTuple b ([] : List Value).toArray from p2) hu (fun j _ h2 => absurd h2 (Nat.not_lt_zero j)) _ _ _ _ ⟨.bl (!xs.isEmpty), H, I, ?_, q⟩
  cases r1 with
  | nil => rfl
  | cons h1 h2 =>
    show Value.bool _ = Value.bool true
    simp
end
end Lp

namespace Lp
open PySem PySem.Spec PyProof.Rows L2
/-! ### own errors over any built-in class: what an own class of errors says of itself -/
/-- the tail of the row of classes of an own error: own classes and then built-in ones, none of them odd -/
structure Row (bm : List Value) (B : String) : Prop where
  b : bm.contains (.type B) = true
  a : bm.contains (.type "AttributeError") = false
  n : bm.contains (.type "NameError") = false
  o : bm.contains (.type "object") = true
  e : bm.isEmpty = false
  p : ∀ self : Value, refuseLoop self "__setattr__" bm = pure ()
theorem Row.under {bm : List Value} {B : String} (r : Row bm B) (C : Addr) : Row (.ref C :: bm) B where
  b := by rw [List.contains_cons, r.b, Bool.or_true]
  a := by rw [List.contains_cons, r.a]; rfl
  n := by rw [List.contains_cons, r.n]; rfl
  o := by rw [List.contains_cons, r.o, Bool.or_true]
  e := rfl
  p := fun self => (refuseLoop_ref self _ C bm).trans (r.p self)
theorem row_value : Row [.type "ValueError", .type "Exception", .type "BaseException", .type "object"] "ValueError" := ⟨by decide +kernel, by decide +kernel, by decide +kernel, by decide +kernel, rfl, fun self => by kernel_rfl⟩
theorem row_key : Row [.type "KeyError", .type "LookupError", .type "Exception", .type "BaseException", .type "object"] "LookupError" := ⟨by decide +kernel, by decide +kernel, by decide +kernel, by decide +kernel, rfl, fun self => by kernel_rfl⟩
theorem row_index : Row [.type "IndexError", .type "LookupError", .type "Exception", .type "BaseException", .type "object"] "IndexError" := ⟨by decide +kernel, by decide +kernel, by decide +kernel, by decide +kernel, rfl, fun self => by kernel_rfl⟩
theorem row_lookup : Row [.type "LookupError", .type "Exception", .type "BaseException", .type "object"] "LookupError" := ⟨by decide +kernel, by decide +kernel, by decide +kernel, by decide +kernel, rfl, fun self => by kernel_rfl⟩
theorem row_over : Row [.type "OverflowError", .type "ArithmeticError", .type "Exception", .type "BaseException", .type "object"] "OverflowError" := ⟨by decide +kernel, by decide +kernel, by decide +kernel, by decide +kernel, rfl, fun self => by kernel_rfl⟩
theorem row_arith : Row [.type "ArithmeticError", .type "Exception", .type "BaseException", .type "object"] "ArithmeticError" := ⟨by decide +kernel, by decide +kernel, by decide +kernel, by decide +kernel, rfl, fun self => by kernel_rfl⟩
theorem row_run : Row [.type "RuntimeError", .type "Exception", .type "BaseException", .type "object"] "RuntimeError" := ⟨by decide +kernel, by decide +kernel, by decide +kernel, by decide +kernel, rfl, fun self => by kernel_rfl⟩
end Lp

namespace Lp
open PySem PySem.Spec PyProof.Rows L2
section
variable {nm q : Str} {C N : Addr} {bs bm bmB : List Value} {hd : Bool} {sn : List Str} {sub : List Value} {ab : Bool} {col : Option Bool} {dd : Option Addr} {k0 k1 k2 k3 k5 : Option Value} {B newId initId : String}
variable {h : Heap} {g : Array GenState} {d : Drawn} {t : Nat} {os : OsState}
/-- the class itself, as the heap has it -/
abbrev Cls (h : Heap) (nm q : Str) (C N : Addr) (bs bm : List Value) (hd : Bool) (sn : List Str) (sub : List Value) (ab : Bool) (col : Option Bool) (dd : Option Addr) (k0 k1 k2 k3 k5 : Option Value) (newId : String) : Prop :=
  h.get? C = some (excClassObj nm q C N bs bm hd sn sub ab col dd k0 k1 k2 k3 k5 newId)
theorem own_check {M : Model} {A : Around} {E : Value → Shared → Prop} {Q : Unit → Shared → Prop} {us : List Value} (F : ExcBaseFacts B newId initId bmB) (r : Row (.ref C :: bm) B)
    (c : Cls h nm q C N bs bm hd sn sub ab col dd k0 k1 k2 k3 k5 newId) (q : Q () ⟨h, g, d, t, os⟩) : wpAny M A (checkBuiltinCall newId ⟨.ref C :: us, []⟩) Q E ⟨h, g, d, t, os⟩ := by
  have star := F.noStar
  rw [checkBuiltinCall]
  simp only [F.newRow, F.newKind, F.newSplit]
  repeat (first
    | (refine wpAny_isSubtype_exc c ?_; rw [r.b])
    | refine wpAny_madeBy_exc c ?_
    | refine wpAny_staticBase_exc c ?_
    | refine wpAny_loadPart_at c ?_
    | simp only [bne_self_eq_false, Bool.false_eq_true, if_false]
    | wp_step)
  exact q
/-- the new error: a tuple of what it was made with, and the error behind it -/
abbrev newErr (h : Heap) (C : Addr) (us : List Value) : Heap := (h.push (PySem.W.kdv_tup us)).push (PySem.HandSPX.excO C h.objs.size)
theorem own_lay {prog : Program} {w : World} {A : Around} {R : Result → Shared → Prop} {us : List Value} (F : ExcBaseFacts B newId initId bmB) (r : Row (.ref C :: bm) B)
    (c : Cls h nm q C N bs bm hd sn sub ab col dd k0 k1 k2 k3 k5 newId) (l : us.length ≤ sizeLine) (q : R (.ok (.ret (.ref (h.objs.size + 1)))) ⟨newErr h C us, g, d, t, os⟩) :
    codeAny (model prog w) A (.builtin newId ⟨.ref C :: us, []⟩) R ⟨h, g, d, t, os⟩ := by
  have ends := F.ends
  refine PySem.codeAny_builtinAt F.entry ?_
  unfold Builtin.«BaseException.__new__»
  refine PySem.wpAt_bind ?_
  change PySem.wpAt _ _ _ (stack >>= _) _ _ _
  refine PySem.wpAt_bind (PySem.wpAt_stack fun p below => PySem.wpAt_of_wpAny ?_)
  wp_walk
  refine PySem.wpAt_of_wpAny ?_
  rw [F.owner]
  repeat (first
    | with_reducible refine wpAny_madeHere_exc F.canon c ?_
    | (with_reducible refine wpAny_isSubtype_exc c ?_; first | rw [r.b] | rw [r.a] | rw [r.n])
    | with_reducible refine wpAny_loadPart_at c ?_
    | wp_step)
  change R _ _
  rw [Heap.size_push]
  exact q
/-- the class called: the error is laid, and its own __init__ run over it -/
theorem own_made {prog : Program} {w : World} {A : Around} {E : Value → Shared → Prop} {Q : PySem.Fin → Shared → Prop} {us : List Value} {fI : Addr} (F : ExcBaseFacts B newId initId bmB) (r : Row (.ref C :: bm) B)
    (c : Cls h nm q C N bs bm hd sn sub ab col dd k0 k1 k2 k3 k5 newId) (i : PySem.W.Looks (model prog w) h (typeLookup (.ref C) "__init__") (some (.ref fI)))
    (b : ∀ self, PySem.W.Looks (model prog w) h (bindSpecial (.ref fI) self) (.ref fI, [self])) (l : us.length ≤ sizeLine)
    (q : codeAny (model prog w) A (.call (.ref fI) ⟨.ref (h.objs.size + 1) :: us, []⟩) (fun z s' => match z with | .ok (.ret v) => v = .none ∧ Q (.done (.ret (.ref (h.objs.size + 1)))) s' | .ok _ => False | .error e => E e s') ⟨newErr h C us, g, d, t, os⟩) :
    wpAny (model prog w) A (Builtin.«type.__call__» ⟨.ref C :: us, []⟩) Q E ⟨h, g, d, t, os⟩ := by
  have up : ∀ a o, h.get? a = some o → (newErr h C us).get? a = some o := fun a o e => Heap.get?_push_of_some _ (Heap.get?_push_of_some _ e)
  have c2 := up _ _ c
  have me : (newErr h C us).get? (h.objs.size + 1) = some (PySem.HandSPX.excO C h.objs.size) := by heap_get
  have self : (Value.ref C :: bm).contains (.ref C) = true := by simp
  repeat (first | with_reducible refine wpAny_loadPart_at c ?_ | with_reducible refine wpAny_madeBy_exc c ?_ | wp_step)
  refine codeAny_call_builtin_code (Code.quiet_builtin _ F.quiet) (own_check F r c (own_lay F r c l ?_))
  change wpAny _ _ _ _ _ _
  unfold isInstance
  repeat (first
    | with_reducible refine wpAny_loadPart_at me ?_
    | (with_reducible refine wpAny_isSubtype_exc c2 ?_; rw [self])
    | wp_step)
  change wpAny _ _ (typeLookup (.ref C) _) _ _ _
  refine (i.keeps up).at ?_
  refine wpAny_holding (wpAny_bind (((b _).keeps up).at ?_))
  refine wpAny_bind (wpAny_call (codeAny_mono q fun z s' y => ?_))
  match z, y with
  | .error _, y => exact y
  | .ok (.ret _), ⟨e, y⟩ =>
    subst e
    first
      | exact wpAny_pure (wpAny_pure y)
      | (wp_walk; exact y)
theorem own_call {prog : Program} {w : World} {A : Around} {R : Result → Shared → Prop} {us : List Value} {fI : Addr} (F : ExcBaseFacts B newId initId bmB) (r : Row (.ref C :: bm) B)
    (c : Cls h nm q C N bs bm hd sn sub ab col dd k0 k1 k2 k3 k5 newId) (i : PySem.W.Looks (model prog w) h (typeLookup (.ref C) "__init__") (some (.ref fI)))
    (b : ∀ self, PySem.W.Looks (model prog w) h (bindSpecial (.ref fI) self) (.ref fI, [self])) (l : us.length ≤ sizeLine)
    (q : codeAny (model prog w) (A.under (.builtin "type.__call__" ⟨.ref C :: us, []⟩)) (.call (.ref fI) ⟨.ref (h.objs.size + 1) :: us, []⟩) (PySem.W.InitBack (h.objs.size + 1) R) ⟨newErr h C us, g, d, t, os⟩) :
    codeAny (model prog w) A (.call (.ref C) ⟨us, []⟩) R ⟨h, g, d, t, os⟩ := by
  have e1 := tc_lookup
  have e2 := tc_bind (.ref C)
  have e3 : (⟨h, g, d, t, os⟩ : Shared).TypeIs (.ref C) "type" := ⟨_, c, rfl⟩
  refine codeAny_of_tree ?_
  change wpAny _ _ (callAny (.ref C) _) _ _ _
  repeat (any_goals (first | assumption | with_reducible refine wpAny_loadPart_at c ?_ | wp_step))
  refine ⟨rfl, ?_⟩
  refine codeAny_call_builtin_at (Code.quiet_builtin _ (by decide +kernel)) entry_typeCall (wpAny_check_type_call_sub c (own_made F r c i b l ?_))
  refine codeAny_mono q fun z s' y => ?_
  match z, y with
  | .error _, y => exact y
  | .ok (.ret _), y => exact y
end
end Lp

set_option maxHeartbeats 4000000
namespace PySem
namespace HandSPX
open Builtin Builtin.ObjectAttr
section
variable {prog : Program} {w : World} {A : Around} {R : Result → Shared → Prop} {hp : Heap} {g : Array GenState} {d : Drawn} {t : Nat} {os : OsState}
/-- the first field of an own error over any built-in class -/
theorem lp_store {K : W.Frag} {f : Str} {tk : Tok} {v : Value} {x C : Addr} {fv : Array Value} {cd : ClassData} {B : String} (X : K.In hp) (o : hp.get? x = some { cls := .ref C, data := .fields fv }) (hc : W.clsIn K C = some cd) (r : Lp.Row cd.mro B)
    (hd : cd.hasDict = true) (no : W.findIn K (.ref C) f = some none)
    (q : ∀ h' tk' dx, (∀ b u, b ≠ x → hp.get? b = some u → h'.get? b = some u) → hp.objs.size ≤ dx → dx ≠ x → h'.get? x = some { cls := .ref C, dict := some dx, data := .fields fv } → h'.Ns1 dx (fun y => if y = f then some v else none) →
      R (.ok (.ret .none)) ⟨h', g, d, tk', os⟩) :
    codeAny (model prog w) A (.call (.builtin "object.__setattr__") ⟨[.ref x, .str f tk, v], []⟩) R ⟨hp, g, d, t, os⟩ := by
  have inst : W.InstAt hp x { cls := .ref C, data := .fields fv } C none := ⟨o, rfl, rfl, trivial⟩
  have ne : x ≠ hp.objs.size := Nat.ne_of_lt (Heap.lt_size o)
  have isO : W.Looks (model prog w) hp (isInstance (.ref x) (.type "object")) true :=
    inst.type.andThen (W.looks_mroIn X (show W.mroIn K C (.type "object") = some true by
      unfold W.mroIn
      rw [hc, Option.bind_some, if_neg (by rw [r.e]; decide), r.o]))
  refine codeAny_call_builtin F.store_object.slot.plain F.store_object.entry
    (@W.check_slot (model prog w) _ _ ⟨hp, g, d, t, os⟩ "object.__setattr__" "object" "__setattr__" (.ref x) [.str f tk, v] [] _ F.store_object.kind F.store_object.split isO (F.store_object.args (.ref x) (.str f tk) v) ?_)
  have lm : W.Looks (model prog w) hp (mroOf (.ref C)) cd.mro := (W.looks_clsIn X hc).andThen .now
  have lt : W.Looks (model prog w) hp (storeTaker? none) none := .now
  have lc : W.Looks (model prog w) hp (classData C) cd := W.looks_clsIn X hc
  rw [W.osa_eq, refuse_eq]
  refine wpAny_bind (wpAny_bind (inst.type.at (wpAny_bind (lm.at ?_))))
  rw [r.p]
  refine wpAny_pure (wpAny_bind (inst.type.at (wpAny_bind ((W.looks_findIn X no).at (wpAny_bind (lt.at ?_))))))
  change wpAny _ _ (storeInOwnDict (.ref x) (.ref C) (.str f tk) f v false) _ _ _
  obtain ⟨c1, c2, c3, c4, c5, c6, c7, c8, c9, c10, c11⟩ := cd
  cases (show c6 = true from hd)
  unfold storeInOwnDict ownDictForStores
  repeat (first | with_reducible refine store_in_new ?_ ?_ | with_reducible refine wpAny_loadPart_at o ?_ | with_reducible refine lc.at ?_ | wp_step)
  · refine ⟨_, #[], _, (Heap.get?_update_ne _ _ _ _ ne.symm).trans (Heap.get?_push_at rfl rfl), rfl, fun e he => ?_, fun _ => rfl⟩
    exact absurd he (by simp)
  · intro h' tk' n same
    have o2 : (hp.push { cls := .type "dict", data := .dict #[] }).get? x = some { cls := .ref C, data := .fields fv } := Heap.get?_push_of_some _ o
    refine q h' tk' hp.objs.size (fun b u hb hu => ?_) (Nat.le_refl _) ne.symm ((same.2 x ne).trans (Heap.get?_update_self _ o2 rfl)) n
    rw [same.2 b (Nat.ne_of_lt (Heap.lt_size hu)), Heap.get?_update_ne _ _ _ _ hb]
    exact Heap.get?_push_of_some _ hu
end
end HandSPX
end PySem

set_option maxHeartbeats 4000000
namespace Lp
open PySem PySem.Spec PyProof.Rows L2
/-- an own class of errors over any built-in one, as the written part tells it -/
structure OwnC (K : PySem.W.Frag) (C : Addr) : Prop where
  c : ∃ (B newId initId : String) (bmB : List Value) (nm q : Str) (N : Addr) (bs bm : List Value) (sn : List Str) (sub : List Value) (ab : Bool) (col : Option Bool) (dd : Option Addr) (k0 k1 k2 k3 k5 : Option Value), K.lookup C = some (excClassObj nm q C N bs bm true sn sub ab col dd k0 k1 k2 k3 k5 newId) ∧ ExcBaseFacts B newId initId bmB ∧ Row bm B
  s : PySem.W.findIn K (.ref C) "__setattr__" = some (some (.builtin "object.__setattr__"))
  k : PySem.W.keepIn K (.ref C) = true
section
variable {X : Cx} {pins : List (Addr × Obj)} {σ : L2.St} {H : Hp} {s : Shared} {a C dx : Addr} {f : Str} {y : V} {u : Value} {A : Around}
/-- the error gets its dict, with one field in it -/
theorem inv_field {h' : Heap} {tk : Nat} {t1 : Addr} (I : Inv X pins σ H s) (e : H a = some (exo a C none)) (ry : RelV y u) (k : ∀ b o, b ≠ a → s.heap.get? b = some o → h'.get? b = some o) (n1 : s.heap.objs.size ≤ dx) (n2 : dx ≠ a)
    (o : h'.get? a = some ({ cls := .ref C, dict := some dx, data := .fields #[.ref t1, .none, .none, .none, .bool false, .none] } : Obj)) (n : h'.Ns1 dx (fun z => if z = f then some u else none)) :
    Inv X pins σ (upd (upd H dx (exd dx [(f, y)])) a (exo a C (some dx))) { s with heap := h', toks := tk } := by
  have nH : H dx = none := I.hok.fresh n1
  have old : ∀ b v, s.heap.get? b = some v → b ≠ dx := fun b v z => Nat.ne_of_lt (Nat.lt_of_lt_of_le (Heap.lt_size z) n1)
  have new : ∀ b, H b = none → b ≠ a := fun b z w => by rw [w, e] at z; cases z
  have put : ∀ b v, H b = some v → b ≠ a → upd (upd H dx (exd dx [(f, y)])) a (exo a C (some dx)) b = some v := fun b v z w => by rw [upd_ne w, upd_ne (ne_of_none z nH)]; exact z
  have U : Un X.fs [] H (upd (upd H dx (exd dx [(f, y)])) a (exo a C (some dx))) s.heap h' :=
    ⟨fun b v z w _ _ => k b v (new b w) z, fun b v z w _ _ => ⟨v.slots, k b v (new b w) z⟩, fun b v z w _ => by rw [upd_ne (new b w), upd_ne (old b v z)]; exact w,
      fun b v z _ => (Classical.em (b = a)).elim (fun w => ⟨_, w ▸ o⟩) fun w => ⟨v, k b v w z⟩,
      fun b xs z => put b _ z (at_ne e z exo_tup), fun b v w z => put b _ z (at_ne e z exo_frz), fun b ps z => ⟨#[], by rw [put b _ z (at_ne e z exo_tbl)]; simp⟩⟩
  refine I.un (t' := tk) U fun b v z => ?_
  by_cases w : b = a
  · subst w
    rw [upd_same] at z
    cases z
    exact exo_ok o
  · rw [upd_ne w] at z
    by_cases w2 : b = dx
    · subst w2
      rw [upd_same] at z
      cases z
      exact exd_ok n (relO_put (fs := []) ry fun _ => True.intro)
    · rw [upd_ne w2] at z
      refine (I.hok b v z).stay (fun c v2 hc z2 => k c v2 ?_ z2) (fun c hc => put c _ hc (at_ne e hc exo_own)) fun c xs hc => put c _ hc (at_ne e hc exo_tup)
      exact hc.elim (fun w3 => w3 ▸ w) fun w3 => at_ne e w3 exo_own
/-- self.f = y, the first one -/
theorem own_field {Q : Unit → Shared → Prop} {E : Value → Shared → Prop} (T : OwnC X.K C) (I : Inv X pins σ H s) (e : H a = some (exo a C none)) (no : PySem.W.findIn X.K (.ref C) f = some none) (ry : RelV y u)
    (q : ∀ dx s', H dx = none → dx ≠ a → Inv X pins σ (upd (upd H dx (exd dx [(f, y)])) a (exo a C (some dx))) s' → Q () s') : wpAny (model X.prog X.w) A (setAttr (.ref a) f u) Q E s := by
  obtain ⟨B, newId, initId, bmB, nm, qn, N, bs, bm, sn, sub, ab, col, dd, k0, k1, k2, k3, k5, hC, F, r⟩ := T.c
  have hcl : PySem.W.clsIn X.K C = some { name := nm, bases := bs, mro := .ref C :: bm, ns := N, qualname := qn, hasDict := true, slotNames := sn, subclasses := sub, abstract := ab, collection := col, hasDel := false } := by unfold PySem.W.clsIn; rw [hC] <;> rfl
  obtain ⟨t1, ho⟩ := exo_at I.hok e
  obtain ⟨hp, g, d, t, os⟩ := s
  refine PySem.W.set_plain I.kIn (ox := { cls := .ref C, dict := none, data := .fields #[.ref t1, .none, .none, .none, .bool false, .none] }) (od := none) ⟨ho, rfl, rfl, trivial⟩ T.s ?_
  exact PySem.HandSPX.lp_store I.kIn ho hcl (r.under C) rfl no fun h' tk' dx k n1 n2 o n => q dx _ (I.hok.fresh n1) n2 (inv_field I e ry k n1 n2 o n)
end
/-- self.f = y: its reading -/
def tOwn (K : PySem.W.Frag) (f : Str) (to te : TE) : TS := fun D σ H => te σ H fun y H1 => to σ H1 fun x H2 => ∃ a C : Addr, x = .ref a ∧ OwnC K C ∧ PySem.W.findIn K (.ref C) f = some none ∧
  H2 a = some (exo a C none) ∧ ∀ dx, H2 dx = none → dx ≠ a → D.nx σ (upd (upd H2 dx (exd dx [(f, y)])) a (exo a C (some dx)))
theorem ps_own {X : Cx} {o e : Expr} {to te : TE} {f : Str} {p' pos : Pos} (ho : PE X o to) (he : PE X e te) (hs : swapsWith e (some (.Attribute o f p')) pos.line X.env = pure false := by rfl) : PS X (.Assign [.Attribute o f p'] e pos) (tOwn X.K f to te) := by
  refine ⟨fun pins s σ H D I h => plainObj_wpAny_Assign_Attribute (thn (he.run pins s σ H _ I h) fun v s1 ⟨y, H1, I1, r1, q1⟩ => thn (ho.run pins s1 σ H1 _ I1 q1) fun u s2 ⟨x, H2, I2, r2, a, C, ex, T, no, ea, q⟩ => ?_) hs⟩
  subst ex
  cases (show u = Value.ref a from r2)
  exact own_field T I2 ea no r1 fun dx s' n ne J => ⟨σ, _, J, q dx n ne⟩
end Lp

set_option maxHeartbeats 4000000
namespace Lp
open PySem PySem.Spec PyProof.Rows L2
/-- C(e, ..), the error held as a value -/
def tMkV (C : Addr) (sp : Sp) (ta : TA) : TE := fun σ H Q => ta σ H fun vs H1 => vs.length ≤ 1000 ∧ ∀ a, H1 a = none → sp (.ref a :: vs) (upd H1 a (exo a C none)) (fun v H2 => v = .non ∧ Q (.ref a) H2) (fun _ _ _ => False)
section
variable {X : Cx} {CX : CXT} {x : Str} {C fI : Addr} {k : Nat} {fd : FuncData} {ps : List Str} {sp : Sp} {p pos : Pos} {e : Expr} {es : List Expr} {ta : TA}
theorem pe_own (T : OwnC X.K C) (iC : PySem.W.findIn X.K (.ref C) "__init__" = some (some (.ref fI))) (tI : PySem.W.typeIn X.K (.ref fI) = some (.type "function")) (F1 : FnOk X.prog X.w X.K X.mg X.base CX k fI fd ps sp) (hr : Room (k + 1) X.A)
    (hb : Binds X.K fd ps []) (hx : Passes CX X (fun _ _ _ => False)) (hg : Gl X x) (hm : X.mg x = some (.ref C)) (ha : PA X (e :: es) ta) (hdb : (x == ("__debug__" : Str)) = false := by decide)
    (he : starEach (e :: es) X.env = (false, eval e X.env) :: starEach es X.env := by rfl) (hpl : (backTo pos (starEach es X.env)).any (·.1) = false := by rfl) : PE X (.Call (.Name x p) (e :: es) [] pos) (tMkV C sp ta) := by
  refine ⟨fun pins s σ H Q I h => ?_⟩
  obtain ⟨B, newId, initId, bmB, nm, qn, N, bs, bm, sn, sub, ab, col, dd, k0, k1, k2, k3, k5, hC, F, r⟩ := T.c
  refine wpAny_Call_Name_kw (ld_glob I hg hm ?_ hdb)
  refine PySem.W.callWith_K (h₀ := X.base) I.ok.mod.kin T.k (thn (ha.run pos pins s σ H _ I h) fun us s1 ⟨vs, H1, I1, r1, hz, q1⟩ => ⟨I1.kIn, ?_⟩) he hpl
  change wpAny _ _ (call (.ref C) us) _ _ _
  obtain ⟨hp, g, dr, tk, os⟩ := s1
  have n1 : H1 (hp.objs.size + 1) = none := I1.hok.fresh (Nat.le_succ _)
  have q2 := q1 _ n1
  have me : (newErr hp C us).get? (hp.objs.size + 1) = some (PySem.HandSPX.excO C hp.objs.size) := by heap_get
  have I2 : Inv X pins σ (upd H1 (hp.objs.size + 1) (exo (hp.objs.size + 1) C none)) ⟨newErr hp C us, g, dr, tk, os⟩ :=
    I1.laid (t' := tk) (a := hp.objs.size + 1) (o := exo (hp.objs.size + 1) C none) (h' := newErr hp C us) (fun b o z => Heap.get?_push_of_some _ (Heap.get?_push_of_some _ z)) (Nat.le_succ _) (exo_ok me)
  have r2 : Vals (V.ref (hp.objs.size + 1) :: vs) (Value.ref (hp.objs.size + 1) :: us) := .cons rfl r1
  have len : (Value.ref (hp.objs.size + 1) :: us).length = ps.length := r2.length.symm.trans (F1.len _ _ _ _ q2)
  have short : us.length ≤ sizeLine := by
    rw [← Paired.length r1, sizeLine_eq]
    omega
  have bnd := hb _ (Value.ref (hp.objs.size + 1) :: us) I2.kIn (by rw [List.append_nil]; exact len)
  rw [List.append_nil] at bnd
  refine wpAny_call (own_call F (r.under C) (I1.kIn _ _ hC) (PySem.W.looks_findIn I1.kIn iC) (fun self => PySem.W.bind_fn I1.kIn self tI) short
    (codeAny_mono (F1.run _ X.stack _ _ ⟨Value.ref (hp.objs.size + 1) :: us, []⟩ (Value.ref (hp.objs.size + 1) :: us) _ _ (fun _ _ _ => False) (hr.make C us []) (I2.env0.make C us []) bnd r2 q2) fun z s' hq => ?_))
  match z, hq with
  | .error er, hq => exact hx pins σ _ _ er s' I2 hq
  | .ok (.ret u), hq =>
    obtain ⟨v, H2, J, rv, ev, q3⟩ := I2.after hq
    subst ev
    exact ⟨rv, .ref (hp.objs.size + 1), H2, J, rfl, q3⟩
end
end Lp

set_option maxHeartbeats 4000000
namespace Lp
open PySem PySem.Spec PyProof.Rows L2
/-- at a stands an error of the class at D: without a dict, or with one -/
def ErrAt (H : Hp) (a D : Addr) : Prop := H a = some (ExO (.ref D) a) ∨ ∃ (d : Addr) (fs : List (Str × V)), H a = some (exo a D (some d)) ∧ H d = some (exd d fs)
theorem ErrAt.ext {H H' : Hp} {a D : Addr} (e : ErrAt H a D) (k : Same H H') : ErrAt H' a D := e.elim (fun z => .inl (k _ _ z)) fun ⟨d, fs, z1, z2⟩ => .inr ⟨d, fs, k _ _ z1, k _ _ z2⟩
theorem ErrAt.inst {P : Program} {w : World} {H : Hp} {h : Heap} {a D : Addr} (e : ErrAt H a D) (ok : HOk P w H h) : ∃ (ox : Obj) (od : Option Obj), PySem.W.InstAt h a ox D od := by
  rcases e with z | ⟨d, fs, z1, z2⟩
  · obtain ⟨⟨oe, vs, o, ⟨c1, c2⟩, dt, _⟩, _, _⟩ := ok a _ z
    obtain ⟨x1, x2, x3, x4⟩ := oe
    dsimp only at c1 c2 dt
    subst c1 c2 dt
    exact ⟨_, none, o, rfl, rfl, trivial⟩
  · obtain ⟨t1, o⟩ := exo_at ok z1
    obtain ⟨mA, ⟨od, es, ep, o2, _⟩, _⟩ := exd_at ok z2
    exact ⟨_, some od, o, rfl, rfl, o2⟩
/-- isinstance(e, c) of an error that is held -/
def rIsH (K : PySem.W.Frag) : List V → Hp → VK → Prop := fun xs H Q => ∃ (a D : Addr) (c : V) (cv : Value) (b : Bool), xs = [.ref a, c] ∧ ErrAt H a D ∧ ExcC K D ∧ (∀ u, RelV c u → u = cv) ∧ PySem.W.kitOne K (.ref D) cv = some b ∧ Q (.bl b) H
theorem call_isH {X : Cx} {K : PySem.W.Frag} (hK : X.K = K) : CallR X (.builtin "isinstance") (rIsH K) := by
  subst hK
  intro pins s σ H xs us Q I r h
  obtain ⟨a, D, c, cv, b, rfl, er, C, hcv, e, q⟩ := h
  match us, r with
  | [_, _], .cons rx (.cons rt .nil) =>
    cases rx
    cases hcv _ rt
    obtain ⟨ox, od, J⟩ := er.inst I.hok
    obtain ⟨cd, hcd, _⟩ := PySem.W.any_some C.hd
    have hcl : (PySem.W.clsIn X.K D).isSome = true := by rw [hcd]; rfl
    exact PySem.W.kia_one (PySem.W.kitx_exc hcl C.hg C.hk C.hs C.ha C.hn C.ht C.hm) I.kIn J e (fun z => nomatch z) fun tk => ⟨.bl b, H, I.kept (t' := tk) fun _ _ z => z, rfl, q⟩
end Lp

set_option maxHeartbeats 4000000
namespace Lp
open PySem PySem.Spec PyProof.Rows L2
/-- e.f of an error that is held -/
def tErrF (K : PySem.W.Frag) (f : Str) (te : TE) : TE := fun σ H Q => te σ H fun x H1 => ∃ (a d C : Addr) (fs : List (Str × V)) (v : V), x = .ref a ∧ H1 a = some (exo a C (some d)) ∧ H1 d = some (exd d fs) ∧ XfC K C ∧ PySem.W.findIn K (.ref C) f = some none ∧ fs.lookup f = some v ∧ Q v H1
theorem pe_errf {X : Cx} {K : PySem.W.Frag} {e : Expr} {te : TE} {pos : Pos} {f : Str} (hK : X.K = K) (he : PE X e te) (hb : attributeBase e f X.env (eval e X.env) = eval e X.env := by rfl) : PE X (.Attribute e f pos) (tErrF K f te) := by
  subst hK
  refine ⟨fun pins s σ H Q I h => attr_of hb (thn (he.run pins s σ H _ I h) fun u s1 ⟨x, H1, I1, rx, a, d, C, fs, v, ex, h1, h2, T, no, l, q⟩ => ?_)⟩
  subst ex
  cases (show u = Value.ref a from rx)
  obtain ⟨t1, o⟩ := exo_at I1.hok h1
  obtain ⟨mA, n, r⟩ := exd_at I1.hok h2
  obtain ⟨od, o2, lk⟩ := lookIn_ns n
  obtain ⟨u2, hu, ru⟩ := RelO.some_of (v := v) (o := mA f) (by rw [← l]; exact r f)
  have J : PySem.W.InstAt s1.heap a _ C (some od) := ⟨o, rfl, rfl, o2⟩
  exact HandSPX.exc_get I1.kIn J T.ga T.gg T.exC (PySem.W.findObj_own T.hdC no rfl (by rw [lk, hu])) (handed_of ru) ⟨v, H1, I1.tok _, ru, q⟩
end Lp

set_option maxHeartbeats 4000000
namespace Lp
open PySem PySem.Spec PyProof.Rows L2
/-! ### a def's promise where no repr is under way below it -/
structure FnG (P : Program) (w : World) (K : PySem.W.Frag) (mg : Str → Option Value) (base : Heap) (k : Nat) (f : Addr) (fd : FuncData) (ps : List Str) (sp : Sp) : Prop where
  len : ∀ vs H Q E, sp vs H Q E → vs.length = ps.length
  run : ∀ (A : Around) (outer : List Env) (s : Shared) (H : Hp) (args : Args) (us : List Value) (vs : List V) (Q : VK) (E : XK), A.guards = some [] → Room k A → Env0 P w K mg base A outer s H → BindsTo s fd args (ps.zip us) → Vals vs us → sp vs H Q E →
    codeAny (model P w) A (.call (.ref f) args) (CR CX0 outer P w H s Q E) s
theorem guards_deeper {A : Around} {env : Env} (h : A.guards = some []) : (A.deeper env).guards = some [] := h
section
variable {P : Program} {w : World} {K : PySem.W.Frag} {mg : Str → Option Value} {base : Heap}
theorem okG {x qual : Str} {st : Stmt} {f : Addr} {fd : FuncData} {N ps : List Str} {k : Nat} {sp : Sp} (F : Fun K x qual st f fd) (S : FnScope N ps (defScope st)) (len : ∀ vs H Q E, sp vs H Q E → vs.length = ps.length)
    (hbody : ∀ (cdv : Value) (A : Around) (outer : List Env) (s : Shared) (H : Hp) (vs : List V) (Q : VK) (E : XK), (A.deeper (envOfC qual (defScope st) s.heap.objs.size f cdv)).guards = some [] → Room k (A.deeper (envOfC qual (defScope st) s.heap.objs.size f cdv)) → sp vs H Q E →
      ∃ t, PSs (cxOf CX0 P w K mg base N qual (defScope st) f cdv A outer s H E).nox (defBody st) t ∧ t { nx := fun _ H' => Q .non H', rt := Q } (start N vs) H) : FnG P w K mg base (k + 1) f fd ps sp := by
  obtain ⟨oc, od, kV, doc, pm, an, cdv, ct, osl, rfl, lk, hcd⟩ := F.ex
  refine ⟨len, fun A outer s H args us vs Q E hg hr e0 hb r h => ?_⟩
  refine LamX.run_ofS lk hcd S hr e0 hb r (len _ _ _ _ h) fun hr' => ?_
  obtain ⟨t, b, q⟩ := hbody cdv A outer s H vs Q E (guards_deeper hg) hr' h
  exact ⟨t, b.nox, q⟩
end
section
variable {X : Cx} {k : Nat} {x : Str} {sp : Sp} {p pos : Pos} {e : Expr} {es : List Expr} {t : TA} {f : Addr} {fd : FuncData} {ps : List Str}
theorem pe_cG (F : FnG X.prog X.w X.K X.mg X.base k f fd ps sp) (gd : X.A.guards = some []) (hr : Room k X.A) (hg : Gl X x) (hm : X.mg x = some (.ref f)) (hk : PySem.W.keepIn X.K (.ref f) = true) (hb : Binds X.K fd ps []) (ha : PA X (e :: es) t)
    (hdb : (x == ("__debug__" : Str)) = false := by decide) (he : starEach (e :: es) X.env = (false, eval e X.env) :: starEach es X.env := by rfl) (hpl : (backTo pos (starEach es X.env)).any (·.1) = false := by rfl) :
    PE X (.Call (.Name x p) (e :: es) [] pos) (fun σ H Q => t σ H fun vs H1 => sp vs H1 Q (fun _ _ _ => False)) := by
  refine ⟨fun pins s σ H Q I h => wpAny_Call_Name_kw (ld_glob I hg hm ?_ hdb)⟩
  refine PySem.W.callWith_K (h₀ := X.base) I.ok.mod.kin hk (thn (ha.run pos pins s σ H _ I h) fun us s1 ⟨vs, H1, I1, r, q⟩ => ⟨I1.kIn, ?_⟩) he hpl
  have b := hb s1 us I1.kIn (by rw [List.append_nil, ← r.length]; exact F.len _ _ _ _ q)
  rw [List.append_nil] at b
  refine wpAny_call (codeAny_mono (F.run X.A X.stack s1 H1 ⟨us, []⟩ us vs Q _ gd hr I1.env0 b r q) fun z s' hq => ?_)
  match z, hq with
  | .error _, hq => exact False.elim hq
  | .ok (.ret _), hq => exact I1.after hq
end
end Lp

set_option maxHeartbeats 4000000
namespace Lp
open PySem PySem.Spec PyProof.Rows L2
/-! ### data of any form, and the text of a list of such -/
mutual
def Rp (H : Hp) : PyData → V → Prop
  | .none, v => v = .non
  | .bool b, v => v = .bl b
  | .int i, v => v = .int i
  | .str x, v => v = .str x
  | .list ds, v => ∃ a xs, v = .ref a ∧ H a = some (.lst xs) ∧ RpA H ds xs
  | .tuple ds, v => ∃ a xs, v = .ref a ∧ H a = some (.tup xs) ∧ RpA H ds xs
  | .dict kvs, v => ∃ a ks, v = .ref a ∧ H a = some (.dK ks) ∧ RpK H kvs ks
def RpA (H : Hp) : List PyData → List V → Prop
  | [], xs => xs = []
  | d :: ds, xs => ∃ y ys, xs = y :: ys ∧ Rp H d y ∧ RpA H ds ys
def RpK (H : Hp) : List (PyData × PyData) → List (Key × V) → Prop
  | [], ks => ks = []
  | (d, e) :: r, ks => ∃ z y ys, ks = (Sum.inr z, y) :: ys ∧ d = .str z ∧ Rp H e y ∧ RpK H r ys
end
mutual
theorem Rp.same {H H' : Hp} (k : Same H H') : ∀ {d : PyData} {v : V}, Rp H d v → Rp H' d v
  | .none, _, h => h
  | .bool _, _, h => h
  | .int _, _, h => h
  | .str _, _, h => h
  | .list ds, _, ⟨a, xs, e, h1, h2⟩ => ⟨a, xs, e, k _ _ h1, RpA.same k h2⟩
  | .tuple ds, _, ⟨a, xs, e, h1, h2⟩ => ⟨a, xs, e, k _ _ h1, RpA.same k h2⟩
  | .dict kvs, _, ⟨a, ks, e, h1, h2⟩ => ⟨a, ks, e, k _ _ h1, RpK.same k h2⟩
theorem RpA.same {H H' : Hp} (k : Same H H') : ∀ {ds : List PyData} {xs : List V}, RpA H ds xs → RpA H' ds xs
  | [], _, h => h
  | d :: ds, _, ⟨y, ys, e, h1, h2⟩ => ⟨y, ys, e, Rp.same k h1, RpA.same k h2⟩
theorem RpK.same {H H' : Hp} (k : Same H H') : ∀ {kvs : List (PyData × PyData)} {ks : List (Key × V)}, RpK H kvs ks → RpK H' kvs ks
  | [], _, h => h
  | (d, e) :: r, _, ⟨z, y, ys, e1, e2, h1, h2⟩ => ⟨z, y, ys, e1, e2, Rp.same k h1, RpK.same k h2⟩
end
mutual
def noList : PyData → Bool
  | .list _ => false
  | .tuple ds => noListA ds
  | .dict kvs => noListK kvs
  | _ => true
def noListA : List PyData → Bool
  | [] => true
  | d :: ds => noList d && noListA ds
def noListK : List (PyData × PyData) → Bool
  | [] => true
  | (_, e) :: r => noList e && noListK r
end
mutual
theorem Rp.reads {P : Program} {w : World} {H : Hp} {h : Heap} (ok : HOk P w H h) : ∀ {d : PyData} {v : V} {u : Value}, Rp H d v → RelV v u → ∃ as, Reads h u d as ∧ (noList d = true → sysModules ∉ as)
  | .none, _, _, e, r => by
    subst e
    cases r
    exact ⟨_, .none, fun _ => List.not_mem_nil⟩
  | .bool b, _, _, e, r => by
    subst e
    cases r
    exact ⟨_, .bool b, fun _ => List.not_mem_nil⟩
  | .int i, _, _, e, r => by
    subst e
    obtain ⟨t, rfl⟩ := r
    exact ⟨_, .int i t, fun _ => List.not_mem_nil⟩
  | .str x, _, _, e, r => by
    subst e
    obtain ⟨t, rfl⟩ := r
    exact ⟨_, .str x t, fun _ => List.not_mem_nil⟩
  | .list ds, _, _, ⟨a, xs, e, h1, h2⟩, r => by
    subst e
    cases r
    obtain ⟨_, its, n, rv, o⟩ := ok a _ h1
    obtain ⟨as, ra, _⟩ := RpA.reads ok h2 rv
    exact ⟨_, .list o rfl rfl (by simpa using ra), fun z => nomatch z⟩
  | .tuple ds, _, _, ⟨a, xs, e, h1, h2⟩, r => by
    subst e
    cases r
    obtain ⟨_, its, rv, o, e1, e2, n, e3⟩ := ok a _ h1
    obtain ⟨as, ra, z⟩ := RpA.reads ok h2 rv
    exact ⟨as, .tuple e1 e2 e3 (by simpa using ra), fun q => z q⟩
  | .dict kvs, _, _, ⟨a, ks, e, h1, h2⟩, r => by
    subst e
    cases r
    obtain ⟨_, sy, vs, rv, o, es, ep, e1, ex, e2, _, pr, _⟩ := ok a _ h1
    obtain ⟨bs, rk, rb, z⟩ := RpK.reads ok h2 rv pr
    refine ⟨_, .dict e1 ex.1 e2 rk rb, fun q => ?_⟩
    have z2 := z q
    have z1 : sysModules ≠ a := fun y => by
      rw [y] at sy
      simp at sy
    simp [z1, z2]
theorem RpA.reads {P : Program} {w : World} {H : Hp} {h : Heap} (ok : HOk P w H h) : ∀ {ds : List PyData} {xs : List V} {us : List Value}, RpA H ds xs → Vals xs us → ∃ as, ReadsAll h us ds as ∧ (noListA ds = true → sysModules ∉ as)
  | [], _, _, e, r => by
    subst e
    cases r
    exact ⟨_, .nil, fun _ => List.not_mem_nil⟩
  | d :: ds, _, _, ⟨y, ys, e, h1, h2⟩, r => by
    subst e
    cases r with
    | cons r1 r2 =>
      obtain ⟨as, ra, za⟩ := Rp.reads ok h1 r1
      obtain ⟨bs, rb, zb⟩ := RpA.reads ok h2 r2
      refine ⟨_, .cons ra rb, fun q => ?_⟩
      have q' : (noList d && noListA ds) = true := q
      obtain ⟨q1, q2⟩ := Bool.and_eq_true_iff.mp q'
      exact fun m => (List.mem_append.mp m).elim (za q1) (zb q2)
theorem RpK.reads {P : Program} {w : World} {H : Hp} {h : Heap} (ok : HOk P w H h) : ∀ {kvs : List (PyData × PyData)} {ks : List (Key × V)} {vs : List (Key × Value)} {es : List DictEntry}, RpK H kvs ks → KV ks vs → Pairs (mixKind P w) es vs →
    ∃ bs, ReadsAll h (es.map (·.key)) (kvs.map (·.1)) [] ∧ ReadsAll h (es.map (·.val)) (kvs.map (·.2)) bs ∧ (noListK kvs = true → sysModules ∉ bs)
  | [], _, _, _, e, r, p => by
    subst e
    cases r
    cases p
    exact ⟨_, .nil, .nil, fun _ => List.not_mem_nil⟩
  | (d, e) :: t, _, _, _, ⟨z, y, ys, e1, e2, h1, h2⟩, r, p => by
    subst e1
    subst e2
    cases r with
    | cons r1 r2 =>
      cases p with
      | cons p1 p2 p3 =>
        obtain ⟨bs, k1, k2, zb⟩ := RpK.reads ok h2 r2 p3
        obtain ⟨ek, er⟩ := r1
        obtain ⟨as, ra, za⟩ := Rp.reads ok h1 er
        have ek' : (Sum.inr z : Key) = _ := ek
        rw [← ek'] at p1
        have p1' : keyIs (.inr z) _ = true := p1
        obtain ⟨tk, hk⟩ : ∃ tk, _ = Value.str z tk := by
          rcases keyIs_shape p1' with ⟨i, t, e1, e2⟩ | ⟨x, t, e1, e2⟩
          · cases e1
          · cases e1
            exact ⟨t, e2⟩
        refine ⟨as ++ bs, ?_, ?_, fun q => ?_⟩
        · show ReadsAll h (_ :: _) (_ :: _) ([] ++ [])
          dsimp only
          rw [hk]
          exact .cons (.str z tk) k1
        · show ReadsAll h (_ :: _) (_ :: _) (as ++ bs)
          dsimp only
          rw [p2]
          exact .cons ra k2
        · have q' : (noList e && noListK t) = true := q
          obtain ⟨q1, q2⟩ := Bool.and_eq_true_iff.mp q'
          exact fun m => (List.mem_append.mp m).elim (za q1) (zb q2)
end
/-- repr of a list of such data -/
def reprable (ds : List PyData) : Bool := PyData.showableAll ds && (!PyData.hasDictAll ds || noListA ds) && decide (PyData.depthAll ds ≤ 50) && decide ((listText (PyData.shownAll ds)).length ≤ sizeLine)
def rReprL : List V → Hp → VK → Prop := fun xs H Q => ∃ (p : Addr) (z : V) (zs : List V) (ds : List PyData), xs = [.ref p] ∧ H p = some (.lst (z :: zs)) ∧ RpA H ds (z :: zs) ∧ reprable ds = true ∧ Q (.str (listText (PyData.shownAll ds))) H
theorem call_reprL {X : Cx} {k : Nat} (gd : X.A.guards = some []) (hr : Room k X.A) : CallR X (.builtin "repr") rReprL := by
  intro pins s σ H xs us Q I r h
  obtain ⟨p, z, zs, ds, rfl, hp, ra, g, q⟩ := h
  match us, r with
  | [_], .cons rx .nil =>
    cases rx
    unfold reprable at g
    simp only [Bool.and_eq_true, Bool.or_eq_true, Bool.not_eq_true', decide_eq_true_eq] at g
    obtain ⟨⟨⟨g1, g2⟩, g3⟩, l⟩ := g
    obtain ⟨_, its, n, rv, o⟩ := I.hok p _ hp
    obtain ⟨as, rd, za⟩ := RpA.reads I.hok ra rv
    obtain ⟨bs, m, kk⟩ := ReprAllK.of_readsAll (prog := X.prog) (w := X.w) rd g1 (fun q => za (g2.resolve_left (by rw [q]; simp))) fun t ht => Nat.le_trans (listText_mem_le ht) l
    have np : p ∉ bs := not_mem_of_deeper (.list o rfl rfl (by simpa using rd)) (by simp only [PyData.depth]; omega) m
    cases rv with
    | cons rz rv =>
      have hu := hr.un
      refine call_repr_slot (by omega) ⟨_, o, rfl⟩ F.slot_list_repr.toG ?_
      refine call_list_reprK o rfl rfl np (by simpa using kk.length_eq) (fun i y e => kk.item i y (by simpa using e)) gd (fun b _ => Clear.nil b) (by show X.A.units + 1 + _ < cLine; omega) (fun _ _ e => e) (fun h' u tk k2 => ⟨_, _, rfl, .str _, H, I.kept k2, ⟨u, rfl⟩, q⟩) l
end Lp

set_option maxHeartbeats 4000000
namespace Lp
open PySem PySem.Spec PyProof.Rows L2 LamX
/-! ### the end of a law whose defs know that no repr is under way -/
/-- what is tracked at the beginning: the tables of code objects, and the script unless the module itself has it -/
def begH (T : List Addr) (scr : Bool) (a : Addr) (u : HO) : Hp := fun b => if b ∈ T then some (.tbl #[]) else if scr = true ∧ b = a then some u else none
theorem begH_tab {T : List Addr} {scr : Bool} {a b : Addr} {u : HO} (h : b ∈ T) : begH T scr a u b = some (.tbl #[]) := if_pos h
theorem begH_scr {T : List Addr} {a : Addr} {u : HO} (h : a ∉ T) : begH T true a u a = some u := (if_neg h).trans (if_pos ⟨rfl, rfl⟩)
theorem begH_none {T : List Addr} {scr : Bool} {a b : Addr} {u : HO} (h : b ∉ T) (n : b = a → scr = false) : begH T scr a u b = none := (if_neg h).trans (if_neg fun ⟨e, z⟩ => by rw [n z] at e; cases e)
theorem begH_inv {T : List Addr} {scr : Bool} {a b : Addr} {u v : HO} (h : begH T scr a u b = some v) : (b ∈ T ∧ v = .tbl #[]) ∨ (b ∉ T ∧ scr = true ∧ b = a ∧ v = u) := by
  unfold begH at h
  split at h
  · rename_i m
    exact .inl ⟨m, (Option.some.inj h).symm⟩
  · rename_i m
    split at h
    · rename_i z
      exact .inr ⟨m, z.1, z.2, (Option.some.inj h).symm⟩
    · cases h
section
variable {P : Program} {w : World} {K : PySem.W.Frag} {mg mb : Str → Option Value} {k : Nat} {fa a : Addr} {cs : List (Addr × Addr)} {fd : FuncData} {x : Str} {sp : Sp} {s₁ : Shared} {vs : List Value} {ns : List Int}
theorem law_callG (KX : K.In s₁.heap) (hns : s₁.heap.Ns mainGlobals mg) (hb : s₁.heap.Ns builtinsNs mb) (hbb : ∀ x : Str, x ≠ "__name__" → mb x = bootBuiltins x) (hlim : s₁.heap.NoLimit) (hg : s₁.gens = #[])
    (hT : ∀ p ∈ cs, s₁.heap.get? p.2 = some { cls := .none, data := .fields #[] }) (nT : ∀ p ∈ cs, K.lookup p.2 = none) (C : ∀ p ∈ cs, PySem.W.CodeHd s₁.heap p.1 p.2)
    (hbm : ∃ (bm : Addr) (ob : Obj), mg "__builtins__" = some (.ref bm) ∧ bm ≠ builtinsNs ∧ s₁.heap.get? bm = some ob ∧ ob.cls = .type "module" ∧ ob.dict = some builtinsNs ∧ ob.data = .plain)
    (ha : s₁.heap.get? a = some { cls := .type "list", data := .seq vs.toArray }) (hi : IntsAre vs ns) (hl : ns.length ≤ sizeLine) (hr : Room k callerA)
    (F : ∀ base : Heap, K.In base → base.Ns mainGlobals mg → (∀ p ∈ cs, TabB base mg p.1 p.2) → FnG P w K mg base k fa fd [x] sp) (hbind : ∀ (s : Shared) (u : Value), BindsTo s fd ⟨[u], []⟩ [(x, u)])
    (hsp : ∀ H : Hp, (∀ p ∈ cs, H p.2 = some (.tbl #[])) → SqL K H a (ns.map V.int) → sp [.ref a] H (fun v _ => v = .bl true) fun _ _ _ => False) :
    codeAny (model P w) callerA (.call (.ref fa) ⟨[.ref a], []⟩) (fun r s' => r = .ok (.ret (.bool true)) ∧ OldK s₁.heap s'.heap ∧ s'.os = s₁.os ∧ AllBare s'.gens) s₁ := by
  have rv := vals_ints hi
  have lv : vs.length = ns.length := hi.length
  have tabs : ∀ b ∈ cs.map (·.2), ∃ p ∈ cs, p.2 = b := fun b h => List.mem_map.mp h
  have tabAt : ∀ b ∈ cs.map (·.2), s₁.heap.get? b = some { cls := .none, data := .fields #[] } := fun b h => by
    obtain ⟨p, hp, e⟩ := tabs b h
    exact e ▸ hT p hp
  have tabIn : ∀ p ∈ cs, p.2 ∈ cs.map (·.2) := fun p hp => List.mem_map_of_mem hp
  have na : a ∉ cs.map (·.2) := fun h => by
    have e := (tabAt a h).symm.trans ha
    injection (congrArg Obj.data (Option.some.inj e))
  have start : ∃ scr : Bool, (scr = true → K.lookup a = none) ∧ SqL K (begH (cs.map (·.2)) scr a (.frz { cls := .type "list", data := .seq vs.toArray } (.lst (ns.map V.int)))) a (ns.map V.int) := by
    cases hk : K.lookup a with
    | none => exact ⟨true, fun _ => rfl, .inl (.inr ⟨_, begH_scr na⟩)⟩
    | some o =>
      cases (KX a o hk).symm.trans ha
      exact ⟨false, (fun z => nomatch z), .inr ⟨_, vs.toArray, _, hk, rfl, rfl, rfl, by rw [List.size_toArray, lv]; exact hl, by simpa using rv⟩⟩
  obtain ⟨scr, hscr, hS⟩ := start
  generalize hH : begH (cs.map (·.2)) scr a (.frz { cls := .type "list", data := .seq vs.toArray } (.lst (ns.map V.int))) = H at hS
  have tabH : ∀ p ∈ cs, H p.2 = some (.tbl #[]) := fun p hp => hH ▸ begH_tab (tabIn p hp)
  have noneH : ∀ b, b ∉ cs.map (·.2) → (b = a → scr = false) → H b = none := fun b h1 h2 => hH ▸ begH_none h1 h2
  have invH : ∀ b v, H b = some v → (b ∈ cs.map (·.2) ∧ v = .tbl #[]) ∨ (b ∉ cs.map (·.2) ∧ scr = true ∧ b = a ∧ v = .frz { cls := .type "list", data := .seq vs.toArray } (.lst (ns.map V.int))) := fun b v h => begH_inv (hH.symm ▸ h)
  have hok : HOk P w H s₁.heap := fun b v h => by
    rcases invH b v h with ⟨m, rfl⟩ | ⟨_, _, rfl, rfl⟩
    · exact tabAt b m
    · exact ⟨ha, by rw [List.length_map]; exact hl, vs, _, rv, ha⟩
  have far : ∀ b o, s₁.heap.get? b = some o → o.data ≠ .fields #[] → (∀ v n, o.data ≠ .seq v n) → H b = none := fun b o e n1 n2 => by
    refine noneH b (fun m => ?_) fun z => ?_
    · cases e.symm.trans (tabAt b m)
      exact n1 rfl
    · subst z
      cases e.symm.trans ha
      exact absurd rfl (n2 _ _)
  have nsB : ∀ {b : Addr} {m : Str → Option Value}, s₁.heap.Ns b m → (hidT s₁.heap H).Ns b m := fun {b m} ⟨o, es, ep, e, d, r⟩ =>
    ⟨o, es, ep, hidT_get e (far b o e (fun z => by rw [d] at z; cases z) fun v n z => by rw [d] at z; cases z), d, r⟩
  have KB : K.In (hidT s₁.heap H) := fun b o e => hidT_get (KX b o e) (noneH b (fun m => by
    obtain ⟨p, hp, z⟩ := tabs b m
    have y := nT p hp
    rw [z, e] at y
    cases y) fun z => by
      cases hs : scr with
      | false => rfl
      | true =>
        have y := hscr hs
        rw [← z, e] at y
        cases y)
  have MB : L2.Mod K mg (hidT s₁.heap H) := ⟨KB, nsB hns, ⟨mb, nsB hb, hbb⟩, hlim.elim fun mc h => ⟨mc, nsB h.1, h.2⟩⟩
  have TB : ∀ p ∈ cs, TabB (hidT s₁.heap H) mg p.1 p.2 := fun p hp => by
    refine ⟨?_, ?_, fun z => ?_⟩
    · obtain ⟨o, us, file, tf, flags, tg, inF, text, tt, e1, r1, r2, r3, r⟩ := C p hp
      refine ⟨o, us, file, tf, flags, tg, inF, text, tt, hidT_get e1 (far _ _ e1 (fun z => ?_) fun v n z => ?_), r1, r2, r3, r⟩
      · rw [r2] at z
        cases z
        simp at r3
      · rw [r2] at z
        cases z
    · obtain ⟨bm, ob, b1, b2, b3, b4, b5, b6⟩ := hbm
      refine ⟨bm, ob, b1, b2, fun q => ?_, fun q => ?_, hidT_get b3 (far _ _ b3 (fun z => ?_) fun v n z => ?_), b4, b5, b6⟩
      · obtain ⟨o, es, ep, e, d, _⟩ := hns
        rw [← q, b3] at e
        cases e
        rw [b6] at d
        cases d
      · rw [q, hT p hp] at b3
        cases b3
        cases b6
      · rw [b6] at z
        cases z
      · rw [b6] at z
        cases z
    · obtain ⟨o, es, ep, e, d, _⟩ := hns
      rw [z, hT p hp] at e
      cases e
      cases d
  have e0 : Env0 P w K mg (hidT s₁.heap H) callerA [] s₁ H := ⟨rfl, MB, fun b o e => of_hidT e, Nat.le_of_eq (hidT_size _ _), trivial, (fun b h => nomatch h), hok, .of_eq hg⟩
  refine codeAny_mono ((F _ KB (nsB hns) TB).run callerA [] s₁ H ⟨[.ref a], []⟩ [.ref a] [.ref a] _ _ rfl hr e0 (hbind s₁ (.ref a)) (.cons rfl .nil) (hsp H tabH hS)) fun r s' h => ?_
  match r, h with
  | .error _, h => exact False.elim h
  | .ok (.ret u), ⟨v, H', os, bare, un, hok', r', q⟩ =>
    cases (show v = .bl true from q)
    cases (show u = Value.bool true from r')
    have same : ∀ b o, b ∉ cs.map (·.2) → s₁.heap.get? b = some o → s'.heap.get? b = some o := fun b o m e => by
      cases z : H b with
      | none => exact un.keep b o e z (fun y => nomatch y) (fun y => nomatch y)
      | some v =>
        rcases invH b v z with ⟨m', _⟩ | ⟨_, _, rfl, rfl⟩
        · exact absurd m' m
        · rw [ha] at e
          cases e
          exact (hok' b _ (un.frzs b _ _ z)).1
    have grown : ∀ b ∈ cs.map (·.2), ∃ more : Array Value, s'.heap.get? b = some { cls := .none, data := .fields more } := fun b m => by
      obtain ⟨p, hp, rfl⟩ := tabs b m
      obtain ⟨more, z⟩ := un.tbls p.2 #[] (tabH p hp)
      exact ⟨_, hok' p.2 _ z⟩
    refine ⟨rfl, ⟨fun b o e => ?_, fun b o e => ?_⟩, os, bare⟩
    · by_cases m : b ∈ cs.map (·.2)
      · obtain ⟨p, hp, z⟩ := tabs b m
        obtain ⟨more, y⟩ := grown b m
        cases e.symm.trans (tabAt b m)
        subst z
        exact .inr (.inl ⟨((C p hp).tab (hT p hp)).isCodeTable, rfl, #[], more, rfl, by rw [Array.empty_append]; exact y⟩)
      · exact .inl (same b o m e)
    · by_cases m : b ∈ cs.map (·.2)
      · exact (grown b m).elim fun _ y => ⟨_, y⟩
      · exact ⟨o, same b o m e⟩
/-- what is known of the law's promise at the heap behind the top -/
def LawG (l : PySem.W.OpenLaw) (w : World) (K : PySem.W.Frag) (k n : Nat) (x : Str) (mg : Str → Option Value) (fa : Addr) : Prop :=
  ∃ (fd : FuncData) (c P : Addr) (o : Obj) (e : Value) (dd : Option Addr) (vs : Array Value) (sl : Array (Option Value)) (sp : Sp), K.lookup fa = some o ∧ o.data = .func fd ∧ fd.code = .ref c ∧ K.lookup c = some ⟨e, dd, .fields vs, sl⟩ ∧ vs[11]? = some (.ref P) ∧ K.lookup P = none ∧ PySem.W.codeHdIn K c P = true ∧
    (∀ (s : Shared) (u : Value), BindsTo s fd ⟨[u], []⟩ [(x, u)]) ∧
    (∀ (H : Hp) (a : Addr) (ns : List Int), ns.length ≤ n → H P = some (.tbl #[]) → SqL K H a (ns.map V.int) → sp [.ref a] H (fun v _ => v = .bl true) fun _ _ _ => False) ∧
    ∀ base : Heap, K.In base → base.Ns mainGlobals mg → TabB base mg c P → FnG l.prog w K mg base k fa fd [x] sp
end
theorem walk_ownG {l : PySem.W.OpenLaw} {n k : Nat} {q : Program} {loose : List Str} {XP : (Str → Option Value) → Heap → Prop} {YP : World → Heap → Prop} {d : DefRec} {K : Params → PySem.W.Frag} {x : Str}
    (hn : l.most = some n) (hn2 : n ≤ sizeLine) (hdf : d.params.defaults = []) (hr : Room k callerA) (hrec : ((recsOf q).any fun e => e.name == d.name) = true) (hY : ∀ (w : World) (h : Heap), YP w h → (K w.params).In h)
    (F : ∀ (w : World) (mg : Str → Option Value) (fa : Addr) (h : Heap), (K w.params).In h → h.Ns mainGlobals mg → mg d.name = some (.ref fa) → LawG l w (K w.params) k n x mg fa) :
    PySem.W.WalkO q loose XP YP l.row.toRowW d [] (fun f vs => PySem.call f vs) := by
  refine Att.attach_callB hn hdf fun w s₀ s₁ mg mb fa o pm cd doc a vs ns G Y ho hd hcd hmg hobj hints hlen _ hg => ?_
  have KX := hY w _ Y
  obtain ⟨fd, c, P, o1, e, dd, us, sl, sp, k1, k2, k3, k4, k5, nP, hC, hb, hsp, hF⟩ := F w mg fa _ KX G.T.g hmg
  have tab : s₁.heap.get? P = some { cls := .none, data := .fields #[] } := by
    obtain ⟨dL, hm, hz⟩ := List.any_eq_true.mp hrec
    obtain ⟨a2, o2, fd2, c2, P2, h1, h2, h3, h4, _, ⟨⟨oc, vc, e1, _, e3, e4⟩, hP⟩⟩ := G.T.tab dL hm
    rw [beq_iff_eq.mp hz, hmg] at h1
    cases h1
    cases (KX _ _ k1).symm.trans h2
    cases k2.symm.trans h3
    cases k3.symm.trans h4
    cases (KX _ _ k4).symm.trans e1
    cases e3
    cases k5.symm.trans e4
    exact hP
  have one : ∀ {φ : Addr × Addr → Prop}, φ (c, P) → ∀ p ∈ [(c, P)], φ p := fun h p hp => by
    cases List.mem_singleton.mp hp
    exact h
  exact law_callG (cs := [(c, P)]) KX G.T.g G.T.b G.T.builtins G.T.nolimit hg (one (φ := fun p => s₁.heap.get? p.2 = some { cls := .none, data := .fields #[] }) tab) (one (φ := fun p => (K w.params).lookup p.2 = none) nP) (one (φ := fun p => PySem.W.CodeHd s₁.heap p.1 p.2) (PySem.W.codeHd_of_K KX hC)) G.T.bmain hobj hints (Nat.le_trans hlen hn2) hr
    (fun base h1 h2 h3 => hF base h1 h2 (h3 _ List.mem_cons_self)) hb fun H h1 h2 => hsp H a ns hlen (h1 _ List.mem_cons_self) h2
end Lp

namespace Lp
open PySem PySem.Spec PyProof.Rows L2
def topS (i : Nat) : Stmt := PySem.Challenge.pw_loanpairs_k04_errors_of_words.main.body.getD i (.Pass ⟨0, 0, 0, 0⟩)
abbrev s_LoanError : Stmt := topS 1
abbrev s_InvalidWord : Stmt := topS 2
abbrev s_InvalidFunction : Stmt := topS 3
abbrev s_InvalidProgram : Stmt := topS 4
abbrev s_InvalidState : Stmt := topS 5
abbrev s_InvalidWalk : Stmt := topS 6
abbrev s_InvalidTable : Stmt := topS 7
abbrev s_InvalidContract : Stmt := topS 8
abbrev s_InvalidOperation : Stmt := topS 9
abbrev s_ParseError : Stmt := topS 10
abbrev s_UnknownName : Stmt := topS 11
abbrev s_NothingToUndo : Stmt := topS 12
abbrev s_NotReached : Stmt := topS 13
abbrev s_TooMany : Stmt := topS 14
abbrev s_Refused : Stmt := topS 15
abbrev s_InvalidNumber : Stmt := topS 16
abbrev s_is_integer : Stmt := topS 22
abbrev s_is_name : Stmt := topS 23
abbrev s_are_different_names : Stmt := topS 24
abbrev s_is_fields : Stmt := topS 25
abbrev s_is_part : Stmt := topS 26
abbrev s_is_any_part : Stmt := topS 27
abbrev s_do_overlap : Stmt := topS 28
abbrev s_L_bag : Stmt := topS 30
abbrev s_L_roll : Stmt := topS 31
abbrev s_L_is : Stmt := topS 32
abbrev s_L_one : Stmt := topS 33
abbrev s_L_word : Stmt := topS 34
abbrev s_L_names : Stmt := topS 35
abbrev s_L_own : Stmt := topS 36
abbrev s_L_python : Stmt := topS 37
abbrev s_L_row : Stmt := topS 38
abbrev s_L_plain : Stmt := topS 39
abbrev s_L_value : Stmt := topS 40
abbrev s_L_refused : Stmt := topS 41
abbrev s_L_errors_right : Stmt := topS 42
abbrev s_law : Stmt := topS 43
section
variable {P : Program} {w : World} {K : PySem.W.Frag} {mg : Str → Option Value} {base : Heap}
/-! ### _law_roll -/
theorem scRoll : FnScope ["bag", "total", "found", "one", "two", "three"] ["bag", "total"] (defScope s_L_roll) := ⟨rfl, rfl, rfl, by decide +kernel, rfl, by decide +kernel, by decide +kernel⟩
def spRoll : Sp := fun vs H Q _ => ∃ (b : Addr) (t : Int) (n : Nat), vs = [.ref b, .int t] ∧ 0 < t ∧ t < 2000000000 ∧ Bag H b n ∧ n ≤ bagMost ∧
  ∀ H' i, Keep b H H' → Bag H' b (n + 1) → 0 ≤ i → i < t → Q (.int i) H'
theorem ok_roll {f : Addr} {fd : FuncData} (F : Fun K "_law_roll" "_law_roll" s_L_roll f fd) (mi : mg "int" = none) :
    FnOk P w K mg base CX0 1 f fd ["bag", "total"] spRoll := by
  refine F.ok scRoll (fun vs H Q E h => ?_) (fun cdv A outer s H vs Q E hr h => ?_)
  · obtain ⟨b, t, n, rfl, _⟩ := h
    rfl
  · obtain ⟨b, t, n, rfl, t0, t1, ⟨x, y, z, hb, z0, z1⟩, nm, q⟩ := h
    have hn : n ≤ 1000000000 := nm
    refine ⟨_, pss_cons (ps_if (pt_cmpR op_gt (pe_ix ix_list (pv 0) pe_int (fun _ _ => rfl)) pe_int (nomark _))
        (pss_cons (ps_set (i := 2) scRoll.nd rfl (.inl rfl) (pe_op op_mod (pe_callTy call_int1 (by rfl) mi boot_int (pa_cons (pe_ix ix_list (pv 0) pe_int (fun _ _ => rfl)) pa_nil)) (pv 1)))
          (pss_cons (ps_asg (pe_op op_fdivW (pe_ix ix_list (pv 0) pe_int (fun _ _ => rfl)) (pv 1)) (pg_sub (pv 0) pe_int set_list))
          (pss_one (ps_ret (pv 2))))) pss_nil)
      (pss_cons (ps_asg (pe_op op_add (pe_ix ix_list (pv 0) pe_int (fun _ _ => rfl)) pe_int) (pg_sub (pv 0) pe_int set_list))
      (pss_cons (ps_set (i := 3) scRoll.nd rfl (.inl rfl) (pe_op op_mod (pe_callTy call_int1 (by rfl) mi boot_int (pa_cons (pe_op op_add (pe_op op_mul (pe_ix ix_list (pv 0) pe_int (fun _ _ => rfl)) pe_int)
          (pe_op op_mul pe_int (pe_ix ix_list (pv 0) pe_int (fun _ _ => rfl)))) pa_nil)) pe_int))
      (pss_cons (ps_set (i := 4) scRoll.nd rfl (.inl rfl) (pe_op op_add (pe_op op_mod (pe_callTy call_int1 (by rfl) mi boot_int (pa_cons (pe_op op_mul (pv 3) (pv 3)) pa_nil)) pe_int)
          (pe_op op_mul pe_int (pe_ix ix_list (pv 0) pe_int (fun _ _ => rfl)))))
      (pss_cons (ps_set (i := 5) scRoll.nd rfl (.inl rfl) (pe_op op_mul (pe_op op_mod (pe_callTy call_int1 (by rfl) mi boot_int (pa_cons (pe_op op_mul (pv 4) (pv 4)) pa_nil)) pe_int) (pv 3)))
      (pss_one (ps_ret (pe_op op_mod (pe_callTy call_int1 (by rfl) mi boot_int (pa_cons (pe_op op_fdiv (pe_op op_mod (pe_callTy call_int1 (by rfl) mi boot_int (pa_cons (pv 5) pa_nil)) pe_int) pe_int) pa_nil)) (pv 1)))))))), ?_⟩
    have hq : SqL K H b [.int x, .int y, .int z] := .inl (.inl hb)
    refine ⟨.ref b, rfl, b, _, 0, .int x, rfl, rfl, hq, atI_nat (j := 0) rfl, _, _, rfl, rfl, _, rfl, ite2 (fun e => ?_) (fun e => ?_)⟩
    · -- found = int(bag[0]) % total; bag[0] = bag[0] // total
      refine ⟨.ref b, rfl, b, _, 0, .int x, rfl, rfl, hq, atI_nat (j := 0) rfl, .inl ⟨_, rfl, .int t, rfl, _, _, rfl, rfl, t0, ?_⟩⟩
      refine ⟨.ref b, rfl, b, _, 0, .int x, rfl, rfl, hq, atI_nat (j := 0) rfl, .int t, rfl, _, _, rfl, rfl, wide_div (b := 40) t0 (by omega) (by decide) (by decide), ?_⟩
      refine ⟨.ref b, rfl, b, _, 0, 0, rfl, rfl, hb, rfl, _, rfl, ?_⟩
      exact q _ _ .upd ⟨_, _, _, upd_same, z0, by omega⟩ (Int.emod_nonneg _ (by omega)) (Int.emod_lt_of_pos _ t0)
    · -- bag[2] = bag[2] + 1
      refine ⟨.ref b, rfl, b, _, 2, .int z, rfl, rfl, hq, atI_nat (j := 2) rfl, _, _, rfl, rfl, .ref b, rfl, b, _, 2, 2, rfl, rfl, hb, rfl, ?_⟩
      have hu : SqL K (upd H b (.lst [.int x, .int y, .int (z + 1)])) b [.int x, .int y, .int (z + 1)] := .inl (.inl upd_same)
      -- one
      refine ⟨.ref b, rfl, b, _, 1, .int y, rfl, rfl, hu, atI_nat (j := 1) rfl, _, _, rfl, rfl, .inr ⟨by decide, by decide⟩, .ref b, rfl, b, _, 2, .int (z + 1), rfl, rfl, hu, atI_nat (j := 2) rfl, _, _, rfl, rfl, .inl ⟨by decide, by decide⟩,
        _, _, rfl, rfl, .inl ⟨_, rfl, _, _, rfl, rfl, (show (0 : Int) < 2305843009213693951 by decide), ?_⟩⟩
      generalize e1 : (y * 48271 + 900000011 * (z + 1)) % 2305843009213693951 = o
      have o0 : 0 ≤ o := e1 ▸ Int.emod_nonneg _ (by decide)
      have o1 : o < 2305843009213693951 := e1 ▸ Int.emod_lt_of_pos _ (by decide)
      -- two
      refine ⟨_, rfl, _, rfl, _, _, rfl, rfl, .inl ⟨by omega, by omega⟩, .inl ⟨_, rfl, _, _, rfl, rfl, (show (0 : Int) < 2305843009213693921 by decide), .ref b, rfl, b, _, 2, .int (z + 1), rfl, rfl, hu, atI_nat (j := 2) rfl, _, _, rfl, rfl, .inl ⟨by decide, by decide⟩, _, _, rfl, rfl, ?_⟩⟩
      have w0 : 0 ≤ o * o % 2305843009213693921 := Int.emod_nonneg _ (by decide)
      have w1 : o * o % 2305843009213693921 < 2305843009213693921 := Int.emod_lt_of_pos _ (by decide)
      generalize o * o % 2305843009213693921 = r at w0 w1
      -- three
      refine ⟨_, rfl, _, rfl, _, _, rfl, rfl, .inl ⟨by omega, by omega⟩, .inl ⟨_, rfl, _, _, rfl, rfl, (show (0 : Int) < 2305843009213693907 by decide), _, rfl, _, _, rfl, rfl, .inr ⟨by omega, by omega⟩, ?_⟩⟩
      -- the end
      refine ⟨_, rfl, .inl ⟨_, rfl, _, _, rfl, rfl, (show (0 : Int) < 2305843009213693889 by decide), _, _, rfl, rfl, ⟨by decide, by decide⟩, .inl ⟨_, rfl, _, rfl, _, _, rfl, rfl, t0, ?_⟩⟩⟩
      exact q _ _ .upd ⟨_, _, _, upd_same, by omega, by omega⟩ (Int.emod_nonneg _ (by omega)) (Int.emod_lt_of_pos _ t0)
/-! ### _law_is, _law_one -/
theorem scIs : FnScope ["thing", "due"] ["thing", "due"] (defScope s_L_is) := ⟨rfl, rfl, rfl, by decide +kernel, rfl, by decide +kernel, by decide +kernel⟩
def spIs : Sp := fun vs H Q _ => ∃ x y : Bool, vs = [.bl x, .bl y] ∧ Q (.bl (decide (x = y))) H
theorem ok_is {f : Addr} {fd : FuncData} (F : Fun K "_law_is" "_law_is" s_L_is f fd) (mb : mg "bool" = none) (ms : mg "isinstance" = none) :
    FnOk P w K mg base CX0 1 f fd ["thing", "due"] spIs := by
  refine F.ok scIs (fun vs H Q E h => ?_) (fun cdv A outer s H vs Q E hr h => ?_)
  · obtain ⟨x, y, rfl, _⟩ := h
    rfl
  · obtain ⟨x, y, rfl, q⟩ := h
    refine ⟨_, pss_one (ps_ret (pe_and (pe_callB call_isi (by rfl) ms (by decide +kernel) (pa_cons (pv 0) (pa_cons (pe_bltn (by rfl) mb (by decide +kernel) (v := .ty "bool") rfl) pa_nil)))
      (pe_one (pe_cmpR op_eq (pv 0) (pv 1) (nomark _))))), ?_⟩
    refine ⟨_, rfl, .bl x, .ty "bool", _, _, true, rfl, .ty _, .base (.bl x), kit_ty (by decide +kernel), true, rfl, _, rfl, _, rfl, rfl, ?_⟩
    have e : (decide (V.bl x = V.bl y)) = decide (x = y) := by
      cases x <;> cases y <;> rfl
    rw [e]
    exact q
/-- the items of what _law_one draws from -/
def Its (K : PySem.W.Frag) (b : Addr) (H : Hp) (v : V) (xs : List V) : Prop :=
  (∃ a, v = .ref a ∧ a ≠ b ∧ (SqL K H a xs ∨ SqT K H a xs)) ∨ ∃ z : Str, v = .str z ∧ z.length ≤ 100000 ∧ xs = z.cps.toList.map fun c => .str ⟨#[c]⟩
theorem scOne : FnScope ["bag", "items"] ["bag", "items"] (defScope s_L_one) := ⟨rfl, rfl, rfl, by decide +kernel, rfl, by decide +kernel, by decide +kernel⟩
def spOne (K : PySem.W.Frag) : Sp := fun vs H Q _ => ∃ (b : Addr) (v : V) (xs : List V) (n : Nat), vs = [.ref b, v] ∧ Its K b H v xs ∧ xs ≠ [] ∧ xs.length ≤ 100000 ∧ Bag H b n ∧ n ≤ bagMost ∧
  ∀ H' x, Keep b H H' → Bag H' b (n + 1) → x ∈ xs → Q x H'
theorem ok_one {f : Addr} {fd : FuncData} (F : Fun K "_law_one" "_law_one" s_L_one f fd) (ml : mg "len" = none) (cR : Cal P w K mg base 1 "_law_roll" spRoll) :
    FnOk P w K mg base CX0 2 f fd ["bag", "items"] (spOne K) := by
  refine F.ok scOne (fun vs H Q E h => ?_) (fun cdv A outer s H vs Q E hr h => ?_)
  · obtain ⟨b, v, xs, n, rfl, _⟩ := h
    rfl
  · obtain ⟨b, v, xs, n, rfl, it, ne, sz, g, nm, q⟩ := h
    have pos : 0 < xs.length := List.length_pos_iff.mpr ne
    refine ⟨_, pss_one (ps_ret (pe_ix ix_seq (pv 1) (C8.pe_c cR hr (by omega) (by rfl) (pa_cons (pv 0) (pa_cons (pe_callB call_len (by rfl) ml PySem.boot_len (pa_cons (pv 1) pa_nil)) pa_nil))) (fun _ _ => rfl))), ?_⟩
    refine ⟨v, rfl, .ref b, rfl, v, rfl, v, xs.length, rfl, ?_, b, _, n, rfl, by omega, by omega, g, nm, fun H' i kp g' i0 i1 => ?_⟩
    · rcases it with ⟨a, rfl, _, h1 | h1⟩ | ⟨z, rfl, hz, rfl⟩
      · exact .inl ⟨xs, h1, rfl⟩
      · exact .inr ⟨xs, h1, rfl⟩
      · refine ⟨Nat.le_trans hz (by decide), ?_⟩
        rw [List.length_map]
        rfl
    · obtain ⟨j, rfl⟩ : ∃ j : Nat, i = (j : Int) := ⟨i.toNat, by omega⟩
      have lj : j < xs.length := by omega
      have at_ : xs[j]? = some xs[j] := List.getElem?_eq_getElem lj
      have fin := q H' xs[j] kp g' (List.getElem_mem lj)
      rcases it with ⟨a, rfl, ab, h1 | h1⟩ | ⟨z, rfl, hz, rfl⟩
      · exact .inl ⟨a, xs, _, xs[j], rfl, rfl, sqL_keep kp ab h1, atI_nat at_, fin⟩
      · exact .inr (.inl ⟨a, xs, _, xs[j], rfl, rfl, sqT_keep kp ab h1, atI_nat at_, fin⟩)
      · have lz : j < z.cps.toList.length := by simpa using lj
        refine .inr (.inr ⟨z, _, z.cps.toList[j], rfl, rfl, Nat.le_trans hz (by decide), atI_nat (List.getElem?_eq_getElem lz), ?_⟩)
        simpa using fin
/-! ### _law_word, _law_names -/
theorem scWord : FnScope ["bag", "turn"] ["bag"] (defScope s_L_word) := ⟨rfl, rfl, rfl, by decide +kernel, rfl, by decide +kernel, by decide +kernel⟩
def spWord : Sp := fun vs H Q _ => ∃ (b : Addr) (n : Nat), vs = [.ref b] ∧ Bag H b n ∧ n + 10 ≤ bagMost ∧ ∀ H' z, Keep b H H' → Bag H' b (n + 8) → WordOk z → Q (.str z) H'
theorem ok_word {f : Addr} {fd : FuncData} (F : Fun K "_law_word" "_law_word" s_L_word f fd) (mr : mg "range" = none) (cR : Cal P w K mg base 1 "_law_roll" spRoll) (cO : Cal P w K mg base 2 "_law_one" (spOne K)) :
    FnOk P w K mg base CX0 3 f fd ["bag"] spWord := by
  refine F.ok scWord (fun vs H Q E h => ?_) (fun cdv A outer s H vs Q E hr h => ?_)
  · obtain ⟨b, n, rfl, _⟩ := h
    rfl
  · obtain ⟨b, n, rfl, g, nm, q⟩ := h
    refine ⟨_, pss_one (ps_ret (pe_join pe_str (pe_lc (own := [("turn", 1)]) (g := gName 1) (tt := tYes) rfl scWord.nd
      (pi_range1 (by rfl) mr (pa_cons (pe_op op_add pe_int (C8.pe_c cR hr (by omega) (by rfl) (pa_cons (pv 0) (pa_cons pe_int pa_nil)))) pa_nil))
      (blkOk_by (N := ["bag", "turn"]) (sc := defScope s_L_word) (by decide +kernel)) (fun _ _ _ _ _ => pg_name (i := 1) scWord.nd rfl (Or.inl rfl)) (fun _ _ _ _ _ => pts_nil)
      (fun _ _ _ _ _ => C8.pe_c cO hr (by omega) (by rfl) (pa_cons (pv 0) (pa_cons pe_str pa_nil)))))), ?_⟩
    refine ⟨⟨_, rfl⟩, _, rfl, b, 7, n, rfl, by decide, by decide, g, by omega, fun H1 m kp1 g1 m0 m1 => ?_⟩
    refine ⟨_, _, rfl, rfl, _, rfl, by omega, by omega, fun D nD => ?_⟩
    have Db : b ≠ D := g1.ne nD
    have nD0 : H D = none := by
      cases e : H D with
      | none => rfl
      | some o => rw [kp1 D o Db.symm e] at nD; cases nD
    refine lc_range (n := (1 + m).toNat) (fun i H' => ∃ ws : List Nat, ws.length = i ∧ (∀ c ∈ ws, c ∈ sixL) ∧ H' D = some (.lst ((ws.map fun c => (⟨#[c]⟩ : Str)).map V.str)) ∧ Keep b H H' ∧ Bag H' b (n + 1 + i))
      ⟨[], rfl, (fun c h => nomatch h), upd_same, keep_put kp1 nD0, g1.new nD⟩ (fun i H' hi hP => ?_) (fun H' hP => ?_)
    · obtain ⟨ws, el, hw, hD, kp, g'⟩ := hP
      refine ⟨rfl, _, rfl, b, _, _, n + 1 + i, rfl, .inr ⟨_, rfl, by decide +kernel, rfl⟩, by decide +kernel, by decide +kernel, g', by omega, fun H2 x kp2 g2 hx => ?_⟩
      obtain ⟨c, hc, rfl⟩ := List.mem_map.mp hx
      have hD2 := kp2 D _ Db.symm hD
      refine ⟨_, hD2, ?_, ws ++ [c], by rw [List.length_append, el] <;> rfl, fun d hd => ?_, ?_, keep_put (kp.trans kp2) nD0, (g2.put Db).mono (by omega)⟩
      · rw [List.length_map, List.length_map, el]
        exact small1000 (by omega)
      · rcases List.mem_append.mp hd with hd | hd
        · exact hw d hd
        · rw [List.mem_singleton] at hd
          exact hd ▸ hc
      · rw [upd_same, List.map_append, List.map_append]
        rfl
    · obtain ⟨ws, el, hw, hD, kp, g'⟩ := hP
      refine ⟨_, D, ws.map fun c => ⟨#[c]⟩, rfl, rfl, .inl (.inl (.inl hD)), ?_, q H' _ kp (g'.mono (by omega)) ?_⟩
      · rw [ones_sum, List.length_map]
        show ws.length + ws.length * 0 ≤ _
        omega
      · refine ⟨?_, ?_, ?_⟩
        · rw [cs_len, join_ones]
          omega
        · rw [cs_len, join_ones]
          omega
        · rw [join_ones]
          exact hw
theorem front_take {z : Str} (h : WordOk z) : ∃ front : List Nat, cs (cutS (txtRep z 2) none (some 7)) = front ∧ 2 ≤ front.length ∧ front.length ≤ 7 ∧ ∀ d ∈ front, d ∈ sixL := by
  obtain ⟨h1, h2, h3⟩ := h
  rw [cs_len] at h1 h2
  refine ⟨_, rfl, ?_⟩
  have e : cs (cutS (txtRep z 2) none (some 7)) = (cs z ++ cs z).take 7 := by
    have e1 : cs (txtRep z 2) = cs z ++ cs z := by
      rw [cs_rep]
      simp
    unfold cutS
    rw [cs_mk, HT.sIx_none, show HT.sIx (txtRep z 2).length (txtRep z 2).length (some 7) = min 7 (txtRep z 2).length from HT.sIx_nat _ _ 7, Nat.sub_zero, List.drop_zero]
    show List.take (min 7 (txtRep z 2).length) (cs (txtRep z 2)) = _
    rw [cs_len, ← List.take_take, List.take_length, e1]
  rw [e]
  refine ⟨by rw [List.length_take, List.length_append]; omega, by rw [List.length_take]; omega, fun d hd => ?_⟩
  rcases List.mem_append.mp (List.mem_of_mem_take hd) with q | q
  · exact h3 d q
  · exact h3 d q
theorem scNames : FnScope ["bag", "many", "turn"] ["bag", "many"] (defScope s_L_names) := ⟨rfl, rfl, rfl, by decide +kernel, rfl, by decide +kernel, by decide +kernel⟩
def spNames : Sp := fun vs H Q _ => ∃ (b : Addr) (m n : Nat), vs = [.ref b, .int (m : Int)] ∧ m ≤ 8 ∧ Bag H b n ∧ n + 100 ≤ bagMost ∧
  ∀ H' p zs, Keep b H H' → H p = none → Bag H' b (n + 8 * m) → H' p = some (.lst (zs.map V.str)) → zs.length = m → NamesOk zs → Q (.ref p) H'
theorem ok_names {f : Addr} {fd : FuncData} (F : Fun K "_law_names" "_law_names" s_L_names f fd) (mr : mg "range" = none) (cW : Cal P w K mg base 3 "_law_word" spWord) :
    FnOk P w K mg base CX0 4 f fd ["bag", "many"] spNames := by
  refine F.ok scNames (fun vs H Q E h => ?_) (fun cdv A outer s H vs Q E hr h => ?_)
  · obtain ⟨b, m, n, rfl, _⟩ := h
    rfl
  · obtain ⟨b, m, n, rfl, m8, g, nm, q⟩ := h
    refine ⟨_, pss_one (ps_ret (pe_lc (own := [("turn", 2)]) (g := gName 2) (tt := tYes) rfl scNames.nd (pi_range1 (by rfl) mr (pa_cons (pv 1) pa_nil))
      (blkOk_by (N := ["bag", "many", "turn"]) (sc := defScope s_L_names) (by decide +kernel)) (fun _ _ _ _ _ => pg_name (i := 2) scNames.nd rfl (Or.inl rfl)) (fun _ _ _ _ _ => pts_nil)
      (fun _ _ _ _ _ => pe_op op_add_str (pe_slice sl_str (pe_op op_repS (C8.pe_c cW hr (by omega) (by rfl) (pa_cons (pv 0) pa_nil)) pe_int) po_none (po_some pe_int)) (pe_ix ix_str pe_str (pv 2) (fun _ _ => rfl))))), ?_⟩
    refine ⟨_, rfl, _, rfl, by omega, by omega, fun D nD => ?_⟩
    have Db : b ≠ D := g.ne nD
    refine lc_range (n := ((m : Nat) : Int).toNat) (fun i H' => ∃ zs : List Str, zs.length = i ∧ NamesOk zs ∧ H' D = some (.lst (zs.map V.str)) ∧ Keep b H H' ∧ Bag H' b (n + 8 * i))
      ⟨[], rfl, (fun i z h => nomatch h), upd_same, keep_new nD, g.new nD⟩ (fun i H' hi hP => ?_) (fun H' hP => ?_)
    · obtain ⟨zs, el, hz, hD, kp, g'⟩ := hP
      have im : i < m := by omega
      refine ⟨rfl, _, rfl, b, n + 8 * i, rfl, g', by omega, fun H2 z kp2 g2 wz => ?_⟩
      have zl := wz.1
      have zl2 := wz.2.1
      refine ⟨z, 2, rfl, rfl, by decide, by decide, by omega, by omega, 7, rfl, _, rfl, ?_, ?_⟩
      · rw [cs_len, cs_rep]
        simp only [List.length_flatten, List.map_replicate, List.sum_replicate_nat]
        rw [← cs_len, sizeLine_eq]
        omega
      obtain ⟨front, ef, f1, f2, f3⟩ := front_take wz
      obtain ⟨c, hc⟩ : ∃ c, endsL[i]? = some c := by
        have : i < endsL.length := by
          have : endsL.length = 8 := by decide +kernel
          omega
        exact ⟨_, List.getElem?_eq_getElem this⟩
      refine ⟨_, rfl, _, _, c, rfl, rfl, by decide +kernel, ?_, _, _, rfl, rfl, ?_, ?_⟩
      · show atI endsL ((0 : Int) + (i : Int)) = some c
        rw [Int.zero_add]
        exact atI_nat hc
      · rw [cs_len, ef, sizeLine_eq]
        show front.length + 1 ≤ _
        omega
      · have hD2 := kp2 D _ Db.symm hD
        refine ⟨_, hD2, ?_, zs ++ [cutS (txtRep z 2) none (some 7) ++ ⟨#[c]⟩], by rw [List.length_append, el] <;> rfl, hz.snoc ⟨front, c, ?_, f1, f2, f3, el ▸ hc⟩, ?_, keep_put (kp.trans kp2) nD, (g2.put Db).mono (by omega)⟩
        · rw [List.length_map, el]
          exact small1000 (by omega)
        · rw [cs_app, ef]
        · rw [upd_same, List.map_append]
          rfl
    · obtain ⟨zs, el, hz, hD, kp, g'⟩ := hP
      rw [Int.toNat_natCast] at el g'
      exact q H' D zs kp nD g' hD el hz
/-! ### is_name -/
/-- what stands in the written part: the module's constants -/
def WrT (K : PySem.W.Frag) (a : Addr) (xs : List V) : Prop := ∃ (o : Obj) (its : Array Value) (n : Nat), K.lookup a = some o ∧ o.cls = .type "tuple" ∧ o.data = .seq its n ∧ its.size ≤ sizeLine ∧ Vals xs its.toList
structure NameTxt (K : PySem.W.Frag) (mg : Str → Option Value) : Prop where
  kw : ∃ a, mg "KEYWORDS" = some (.ref a) ∧ WrT K a (keywordsL.map V.str)
  le : ∃ t, mg "LETTERS" = some (.str "abcdefghijklmnopqrstuvwxyz" t)
  ml : ∃ t, mg "MAX_LETTERS" = some (.int 8 t)
  isi : mg "isinstance" = none
  str : mg "str" = none
  len : mg "len" = none
  all : mg "all" = none
theorem scIsName : FnScope ["value", "letter"] ["value"] (defScope s_is_name) := ⟨rfl, rfl, rfl, by decide +kernel, rfl, by decide +kernel, by decide +kernel⟩
def spIsName : Sp := fun vs H Q _ => ∃ v, vs = [v] ∧ Dat H v ∧ ∀ H', Same H H' → Q (.bl (nameV v)) H'
theorem ok_isName {f : Addr} {fd : FuncData} (F : Fun K "is_name" "is_name" s_is_name f fd) (T : NameTxt K mg) : FnOk P w K mg base CX0 1 f fd ["value"] spIsName := by
  obtain ⟨⟨kw, gK, wK⟩, ⟨tl, gL⟩, ⟨tm, gM⟩, mI, mS, mL, mA⟩ := T
  refine F.ok scIsName (fun vs H Q E h => ?_) (fun cdv A outer s H vs Q E hr h => ?_)
  · obtain ⟨v, rfl, _⟩ := h
    rfl
  · obtain ⟨v, rfl, dv, q⟩ := h
    refine ⟨_, pss_cons (ps_if (PW.pt (pw_or (pt_not (pt_val (pe_callB call_isi (by rfl) mI (by decide +kernel) (pa_cons (pv 0) (pa_cons (pe_bltn (by rfl) mS (by decide +kernel) (v := .ty "str") rfl) pa_nil)))))
          (pw_or1 (pt_not (pt_chain op_le op_le pe_int (pe_callB call_len (by rfl) mL PySem.boot_len (pa_cons (pv 0) pa_nil)) (pe_glob (v := .int 8) (by rfl) gM ⟨_, rfl⟩))))))
        (pss_one (ps_ret pe_bl)) pss_nil)
      (pss_one (ps_ret (pe_and (pe_cmpR op_notIn_seq (pv 0) (pe_glob (v := .ref kw) (by rfl) gK rfl) (by rfl)) (pe_one (pe_callB (cr_all rfl) (by rfl) mA (by decide +kernel)
        (pa_cons (pe_lc (own := [("letter", 1)]) (g := gName 1) (tt := tYes) rfl scIsName.nd (pi_str (pv 0))
          (blkOk_by (N := ["value", "letter"]) (sc := defScope s_is_name) (by decide +kernel)) (fun _ _ _ _ _ => pg_name (i := 1) scIsName.nd rfl (Or.inl rfl)) (fun _ _ _ _ _ => pts_nil)
          (fun _ _ _ _ _ => pe_cmpR op_in_sign (pv 1) (pe_glob (v := .str (Str.ofString "abcdefghijklmnopqrstuvwxyz")) (by rfl) gL ⟨_, rfl⟩) (by rfl))) pa_nil)))))), ?_⟩
    by_cases hs : ∃ z, v = .str z
    · obtain ⟨z, rfl⟩ := hs
      have zl : z.length ≤ 100000 := dv
      refine ⟨_, rfl, .str z, .ty "str", _, _, true, rfl, .ty _, .base (.str z), kit_ty (by decide +kernel), true, rfl, ?_⟩
      refine ⟨_, rfl, .str z, _, rfl, ⟨Nat.le_trans zl (by decide), rfl⟩, 1, _, rfl, rfl, _, rfl, ite2 (fun e1 => ?_) (fun e1 => ?_)⟩
      · refine ⟨_, _, rfl, rfl, _, rfl, ?_⟩
        show if (!decide ((z.length : Int) ≤ 8)) = true then _ else _
        by_cases h8 : z.length ≤ 8
        · rw [if_neg (by simp; omega)]
          refine ⟨_, rfl, kw, _, rfl, .inr (.inr wK), rfl, strs_all_flat _, _, rfl, ?_⟩
          show if (!inV (.str z) (keywordsL.map V.str)) = true then _ else _
          rw [inV_strs]
          have h1 : 1 ≤ z.length := by
            have := of_decide_eq_true e1
            omega
          by_cases hk : z ∈ keywordsL
          · rw [decide_eq_true hk]
            refine iteF ?_
            have e : nameV (.str z) = false := by
              show isName z = false
              unfold isName
              rw [decide_eq_true hk]
              simp
            rw [← e]
            exact q H (.refl H)
          · rw [decide_eq_false hk]
            refine iteT ?_
            refine ⟨_, rfl, _, rfl, fun D nD => ?_⟩
            refine lc_vals walk_signs (fun _ => true) (fun x => .bl (letterV x)) (by rw [signs_len, ← cs_len]; exact zl) nD (fun _ _ => trivial) (fun x H2 Ky Kn hx sm k1 k0 => ?_) (fun H' sm e => ?_)
            · obtain ⟨c, hc, rfl⟩ := List.mem_map.mp hx
              refine ⟨rfl, _, rfl, c, _, rfl, rfl, ?_⟩
              have e : letterV (.str ⟨#[c]⟩) = decide (c ∈ lettersL) := letterV_one c
              have k2 := k1 H2 (.refl H2) rfl
              rw [e] at k2
              exact k2
            · rw [bools_all] at e
              refine ⟨D, (signs z).map letterV, rfl, .inl (.inl e), ?_⟩
              have e2 : ((signs z).map letterV).all id = nameV (.str z) := by
                show _ = isName z
                unfold isName
                rw [decide_eq_true h1, decide_eq_true h8, decide_eq_false hk, letters_all]
                rfl
              rw [e2]
              exact q H' sm
        · rw [if_pos (by simp; omega)]
          have e : nameV (.str z) = false := by
            show isName z = false
            unfold isName
            rw [decide_eq_false h8]
            simp
          rw [← e]
          exact q H (.refl H)
      · refine ⟨false, rfl, iteT ?_⟩
        have e : nameV (.str z) = false := by
          show isName z = false
          unfold isName
          rw [decide_eq_false (show ¬ 1 ≤ z.length from fun h => e1 (decide_eq_true (by omega)))]
          rfl
        show Q (.bl false) H
        rw [← e]
        exact q H (.refl H)
    · obtain ⟨t, ty, kt⟩ := dat_not_str (K := K) dv hs
      refine ⟨_, rfl, v, .ty "str", _, _, false, rfl, .ty _, ty, kt, false, rfl, ?_⟩
      have e : nameV v = false := by
        cases v with
        | str z => exact absurd ⟨z, rfl⟩ hs
        | _ => rfl
      show Q (.bl false) H
      rw [← e]
      exact q H (.refl H)
/-! ### are_different_names, is_fields -/
theorem scDiff : FnScope ["values", "value"] ["values"] (defScope s_are_different_names) := ⟨rfl, rfl, rfl, by decide +kernel, rfl, by decide +kernel, by decide +kernel⟩
def spDiff (K : PySem.W.Frag) : Sp := fun vs H Q _ => ∃ (a : Addr) (xs : List V), vs = [.ref a] ∧ H a = some (.tup xs) ∧ xs.length ≤ 1000 ∧ (∀ x ∈ xs, Dat H x) ∧
  ∀ H' r, Same H H' → (r = true ↔ DiffOk xs) → Q (.bl r) H'
theorem ok_diff {f : Addr} {fd : FuncData} (F : Fun K "are_different_names" "are_different_names" s_are_different_names f fd) (mA : mg "all" = none) (mL : mg "len" = none) (mS : mg "set" = none)
    (cN : Cal P w K mg base 1 "is_name" spIsName) : FnOk P w K mg base CX0 2 f fd ["values"] (spDiff K) := by
  refine F.ok scDiff (fun vs H Q E h => ?_) (fun cdv A outer s H vs Q E hr h => ?_)
  · obtain ⟨a, xs, rfl, _⟩ := h
    rfl
  · obtain ⟨a, xs, rfl, ha, hx, hd, q⟩ := h
    refine ⟨_, pss_one (ps_ret (pe_and (pe_callB (cr_all rfl) (by rfl) mA (by decide +kernel) (pa_cons (pe_lc (own := [("value", 1)]) (g := gName 1) (tt := tYes) rfl scDiff.nd (pi_tup (pv 0))
          (blkOk_by (N := ["values", "value"]) (sc := defScope s_are_different_names) (by decide +kernel)) (fun _ _ _ _ _ => pg_name (i := 1) scDiff.nd rfl (Or.inl rfl)) (fun _ _ _ _ _ => pts_nil)
          (fun _ _ _ _ _ => C8.pe_c cN hr (by omega) (by rfl) (pa_cons (pv 1) pa_nil))) pa_nil))
        (pe_one (pe_cmpR op_eq (pe_callB call_lenK (by rfl) mL PySem.boot_len (pa_cons (pe_callTy (cr_setOfK rfl) (by rfl) mS boot_set (pa_cons (pv 0) pa_nil)) pa_nil))
          (pe_callB call_len_seq (by rfl) mL PySem.boot_len (pa_cons (pv 0) pa_nil)) (nomark _))))), ?_⟩
    have hq : SqT K H a xs := .inl (.inl ha)
    refine ⟨.ref a, rfl, a, rfl, ⟨xs, hq⟩, fun D nD => ?_⟩
    refine lc_vals walk_tup (fun _ => true) (fun x => .bl (nameV x)) (by omega) nD (fun H' sm => sqT_same sm hq) (fun x H2 Ky Kn hx2 sm k1 k0 => ?_) (fun H1 sm e => ?_)
    · exact ⟨rfl, x, rfl, x, rfl, (hd x hx2).same sm, fun H4 s4 => k1 H4 s4 rfl⟩
    · rw [bools_all] at e
      refine ⟨D, xs.map nameV, rfl, .inl (.inl e), _, rfl, ?_⟩
      by_cases hn : (xs.map nameV).all id = true
      · rw [hn]
        obtain ⟨zs, rfl, hz⟩ := all_names hn
        refine iteT ?_
        have hq1 : SqT K H1 a (zs.map V.str) := sqT_same sm hq
        rw [List.length_map] at hx
        refine ⟨.ref a, rfl, a, zs.map Sum.inr, rfl, .inr ?_, by rw [List.length_map]; omega, fun p np => ?_⟩
        · rw [List.map_map]
          exact hq1
        have s2 := same_upd (o := SetK P w p (fun j => decide (j ∈ zs.map Sum.inr)) (dist (zs.map (Sum.inr : Str → Key))).length) np
        refine ⟨p, _, _, rfl, upd_same, .ref a, rfl, a, _, rfl, .inr (sqT_same s2 hq1), rfl, q _ _ (sm.trans s2) ?_⟩
        rw [decide_eq_true_eq, V.int.injEq, List.length_map]
        have e3 := dist_eq (zs.map (Sum.inr : Str → Key))
        rw [List.length_map] at e3
        constructor
        · intro e4
          refine ⟨zs, rfl, hz, ?_⟩
          exact nodup_inr.mp (e3.mp (by omega))
        · rintro ⟨zs', ez, _, nd⟩
          rw [strs_inj ez] at e3 ⊢
          have := e3.mpr (nodup_inr.mpr nd)
          omega
      · have hf : (xs.map nameV).all id = false := by
          cases h : (xs.map nameV).all id with
          | true => exact absurd h hn
          | false => rfl
        rw [hf]
        refine iteF (q _ _ sm ⟨fun h => (nomatch h), fun h => ?_⟩)
        obtain ⟨zs, rfl, hz, _⟩ := h
        exact absurd (names_all hz) hn
theorem scFields : FnScope ["value"] ["value"] (defScope s_is_fields) := ⟨rfl, rfl, rfl, by decide +kernel, rfl, by decide +kernel, by decide +kernel⟩
/-- whether a value is fields -/
def FieldsV (H : Hp) (v : V) : Prop := ∃ (a : Addr) (zs : List Str), v = .ref a ∧ H a = some (.tup (zs.map V.str)) ∧ FieldsOk zs
theorem fieldsV_iff {H : Hp} {a : Addr} {zs : List Str} (e : H a = some (.tup (zs.map V.str))) : FieldsV H (.ref a) ↔ FieldsOk zs := by
  constructor
  · rintro ⟨a', zs', e1, e2, f⟩
    cases e1
    rw [e] at e2
    rw [strs_inj (HO.tup.inj (Option.some.inj e2))]
    exact f
  · exact fun f => ⟨a, zs, rfl, e, f⟩
theorem fieldsV_lst {H : Hp} {a : Addr} {xs : List V} (e : H a = some (.lst xs)) : ¬ FieldsV H (.ref a) := by
  rintro ⟨a', zs', e1, e2, f⟩
  cases e1
  rw [e] at e2
  cases e2
/-- one that is decided -/
theorem bool_of {r : Bool} {p : Prop} [Decidable p] (h : r = true ↔ p) : r = decide p := by
  cases r with
  | true => exact (decide_eq_true (h.mp rfl)).symm
  | false => exact (decide_eq_false fun q => nomatch h.mpr q).symm
def spFields : Sp := fun vs H Q _ => ∃ v, vs = [v] ∧ Dat H v ∧ (∀ a xs, v = .ref a → H a = some (.tup xs) → ∀ x ∈ xs, Dat H x) ∧ ∀ H' r, Same H H' → (r = true ↔ FieldsV H v) → Q (.bl r) H'
theorem ok_fields {f : Addr} {fd : FuncData} (F : Fun K "is_fields" "is_fields" s_is_fields f fd) (mI : mg "isinstance" = none) (mT : mg "tuple" = none) (mL : mg "len" = none) (mF : ∃ t, mg "MAX_FIELDS" = some (.int 4 t))
    (cD : Cal P w K mg base 2 "are_different_names" (spDiff K)) : FnOk P w K mg base CX0 3 f fd ["value"] spFields := by
  obtain ⟨tm, gM⟩ := mF
  refine F.ok scFields (fun vs H Q E h => ?_) (fun cdv A outer s H vs Q E hr h => ?_)
  · obtain ⟨v, rfl, _⟩ := h
    rfl
  · obtain ⟨v, rfl, dv, di, q⟩ := h
    refine ⟨_, pss_cons (ps_if (PW.pt (pw_or (pt_not (pt_val (pe_callB call_isi (by rfl) mI (by decide +kernel) (pa_cons (pv 0) (pa_cons (pe_bltn (by rfl) mT (by decide +kernel) (v := .ty "tuple") rfl) pa_nil)))))
          (pw_or1 (pt_not (pt_chain op_le op_le pe_int (pe_callB call_len_seq (by rfl) mL PySem.boot_len (pa_cons (pv 0) pa_nil)) (pe_glob (v := .int 4) (by rfl) gM ⟨_, rfl⟩))))))
        (pss_one (ps_ret pe_bl)) pss_nil)
      (pss_one (ps_ret (C8.pe_c cD hr (by omega) (by rfl) (pa_cons (pv 0) pa_nil)))), ?_⟩
    by_cases hs : ∃ a xs, v = .ref a ∧ H a = some (.tup xs)
    · obtain ⟨a, xs, rfl, ha⟩ := hs
      have hq : SqT K H a xs := .inl (.inl ha)
      have no : ¬ (1 ≤ xs.length ∧ xs.length ≤ 4) → ¬ FieldsV H (.ref a) := fun h h2 => by
        obtain ⟨a', zs, e1, e2, z1, z4, _⟩ := h2
        cases e1
        rw [ha] at e2
        cases e2
        rw [List.length_map] at h
        exact h ⟨z1, z4⟩
      refine ⟨_, rfl, .ref a, .ty "tuple", _, _, true, rfl, .ty _, .base (.tup ha), kit_ty (by decide +kernel), true, rfl, ?_⟩
      refine ⟨_, rfl, a, xs, rfl, .inr hq, 1, _, rfl, rfl, _, rfl, ite2 (fun e1 => ?_) (fun e1 => ?_)⟩
      · have h1 : 1 ≤ xs.length := by
          have := of_decide_eq_true e1
          omega
        refine ⟨_, 4, rfl, rfl, _, rfl, ?_⟩
        show if (!decide ((xs.length : Int) ≤ 4)) = true then _ else _
        by_cases h4 : xs.length ≤ 4
        · rw [if_neg (by simp; omega)]
          refine ⟨_, rfl, a, xs, rfl, ha, by omega, di a xs rfl ha, fun H' r sm er => q H' r sm (er.trans ⟨fun h => ?_, fun h => ?_⟩)⟩
          · obtain ⟨zs, rfl, n1, n2⟩ := h
            rw [List.length_map] at h1 h4
            exact ⟨a, zs, rfl, ha, h1, h4, n1, n2⟩
          · obtain ⟨a', zs, e2, e3, _, _, n1, n2⟩ := h
            cases e2
            rw [ha] at e3
            cases e3
            exact ⟨zs, rfl, n1, n2⟩
        · rw [if_pos (by simp; omega)]
          exact q H false (.refl H) ⟨fun h => (nomatch h), fun h => absurd h (no fun z => h4 z.2)⟩
      · refine ⟨false, rfl, iteT ?_⟩
        have h1 : ¬ 1 ≤ xs.length := fun h => e1 (decide_eq_true (by omega))
        exact q H false (.refl H) ⟨fun h => (nomatch h), fun h => absurd h (no fun z => h1 z.1)⟩
    · obtain ⟨t, ty, kt⟩ := dat_not_tup (K := K) dv hs
      refine ⟨_, rfl, v, .ty "tuple", _, _, false, rfl, .ty _, ty, kt, false, rfl, ?_⟩
      refine q H false (.refl H) ⟨fun h => (nomatch h), fun h => ?_⟩
      obtain ⟨a, zs, rfl, e, _⟩ := h
      exact absurd ⟨a, _, rfl, e⟩ hs
theorem fields_both {zs1 zs2 : List Str} (f1 : FieldsOk zs1) (f2 : FieldsOk zs2) : FieldsOk (zs1 ++ zs2) ↔ (zs1.length + zs2.length ≤ 4 ∧ (zs1.filter fun w => decide (w ∈ zs2)) = []) := by
  unfold FieldsOk at *
  rw [List.length_append, List.nodup_append, List.filter_eq_nil_iff]
  constructor
  · rintro ⟨_, h4, _, _, _, h5⟩
    exact ⟨h4, fun w hw h => h5 w hw w (of_decide_eq_true h) rfl⟩
  · rintro ⟨h4, h5⟩
    refine ⟨by omega, h4, fun z hz => ?_, f1.2.2.2, f2.2.2.2, fun x hx y hy e => ?_⟩
    · rcases List.mem_append.mp hz with hz | hz
      · exact f1.2.2.1 z hz
      · exact f2.2.2.1 z hz
    · subst e
      exact h5 x hx (decide_eq_true hy)
theorem nodup_rev {zs : List Str} (h : zs.Nodup) : zs.reverse.Nodup := by
  unfold List.Nodup at *
  rw [List.pairwise_reverse]
  exact h.imp fun n e => n e.symm
theorem fields_one (w : Str) : FieldsOk [w] ↔ isName w = true := by
  unfold FieldsOk
  simp
/-! ### _law_bag -/
theorem scBag : FnScope ["script", "at", "cell", "great"] ["script", "at"] (defScope s_L_bag) := ⟨rfl, rfl, rfl, by decide +kernel, rfl, by decide +kernel, by decide +kernel⟩
def spBag (K : PySem.W.Frag) : Sp := fun vs H Q _ => ∃ (a : Addr) (ns : List Int) (i : Nat), vs = [.ref a, .int (i : Int)] ∧ SqL K H a (ns.map V.int) ∧
  ∀ H' p, Same H H' → H p = none → Bag H' p 0 → Q (.ref p) H'
theorem ok_bag {f : Addr} {fd : FuncData} (F : Fun K "_law_bag" "_law_bag" s_L_bag f fd) (ml : mg "len" = none) (mi : mg "int" = none) (ma : mg "abs" = none) (mx : mg "max" = none) :
    FnOk P w K mg base CX0 1 f fd ["script", "at"] (spBag K) := by
  refine F.ok scBag (fun vs H Q E h => ?_) (fun cdv A outer s H vs Q E hr h => ?_)
  · obtain ⟨a, ns, i, rfl, _⟩ := h
    rfl
  · obtain ⟨a, ns, i, rfl, hS, q⟩ := h
    refine ⟨_, Evl.pss_cut (ps_set (i := 2) scBag.nd rfl (.inl rfl) (pe_ifExp (pt_cmpR op_lt (pv 1) (pe_callB call_len_seq (by rfl) ml PySem.boot_len (pa_cons (pv 0) pa_nil)) (nomark _))
          (pe_ix ix_list (pv 0) (pv 1) (fun _ _ => rfl)) (pe_op op_add (pe_op op_mul pe_int (pv 1)) pe_int)))
      (pss_cons (ps_set (i := 3) scBag.nd rfl (.inl rfl) (pe_op op_mod (pe_callTy call_int1 (by rfl) mi boot_int (pa_cons (pe_callB call_abs (by rfl) ma (by decide +kernel) (pa_cons (pv 2) pa_nil)) pa_nil)) (pe_op op_powW (pe_op op_pow pe_int pe_int) pe_int)))
      (pss_one (ps_ret (pe_lst (pa_cons (pe_callB (call_max2 rfl) (by rfl) mx (by decide +kernel) (pa_cons pe_int (pa_cons (pe_op op_sub (pv 3) (pe_op op_pow pe_int pe_int)) pa_nil)))
        (pa_cons (pe_op op_add (pe_op op_add (pe_op op_mul (pe_op op_mod (pe_callTy call_int1 (by rfl) mi boot_int (pa_cons (pv 3) pa_nil)) pe_int) pe_int) (pe_op op_mul pe_int (pv 1)))
            (pe_callTy call_int1 (by rfl) mi boot_int (pa_cons (pe_cmpR op_lt (pv 2) pe_int (nomark _)) pa_nil)))
          (pa_cons pe_int pa_nil))))))), ?_⟩
    refine ⟨fun σ' H' => ∃ c : Int, σ' = [some (.ref a), some (.int i), some (.int c), none] ∧ H' = H, ?_, ?_⟩
    · refine ⟨_, rfl, .ref a, rfl, a, _, rfl, .inl hS, _, _, rfl, rfl, _, rfl, ite2 (fun e => ?_) (fun e => ?_)⟩
      · have lt : i < ns.length := by
          have e1 := of_decide_eq_true e
          rw [List.length_map] at e1
          omega
        exact ⟨_, rfl, _, rfl, a, _, _, _, rfl, rfl, hS, atI_nat (by rw [List.getElem?_map, List.getElem?_eq_getElem lt] <;> rfl), _, rfl, rfl⟩
      · exact ⟨_, rfl, _, _, rfl, rfl, .inl ⟨by decide, by decide⟩, _, _, rfl, rfl, _, rfl, rfl⟩
    · rintro σ' H' ⟨c, rfl, rfl⟩
      refine ⟨_, rfl, _, rfl, .inl ⟨_, rfl, 10, 60, rfl, rfl, ⟨by decide, by decide, by decide⟩, _, 9, rfl, rfl, ⟨by decide, by decide +kernel⟩, _, _, rfl, rfl, (show (0 : Int) < ((10 : Int) ^ (60 : Int).toNat) ^ (9 : Int).toNat by decide +kernel), ?_⟩⟩
      generalize ((if c < 0 then -c else c) % (10 ^ (60 : Int).toNat) ^ (9 : Int).toNat) = g
      refine ⟨_, rfl, 10, 18, rfl, rfl, ⟨by decide, by decide, by decide⟩, _, _, rfl, rfl, _, _, rfl, ?_⟩
      refine ⟨_, rfl, .inl ⟨_, rfl, _, _, rfl, rfl, (show (0 : Int) < 2305843009213693907 by decide), _, _, rfl, rfl, .inr ⟨by decide, by decide⟩, _, rfl, _, _, rfl, rfl, .inl ⟨by decide, by decide⟩, _, _, rfl, rfl, ?_⟩⟩
      refine ⟨_, rfl, _, _, rfl, rfl, .inr ⟨_, rfl, _, _, rfl, rfl, ?_⟩⟩
      refine ⟨(show 3 ≤ sizeLine by decide), fun p hp => ?_⟩
      exact q _ p (same_upd hp) hp ⟨_, _, _, upd_same, by decide, by decide⟩
theorem roomN {n : Nat} {A : Around} (hr : Room n A) : A.units < cLine := by
  have := hr.un
  omega
theorem roomI {n : Nat} {A : Around} (hr : Room n A) : A.units + 1 < cLine := by
  have := hr.un
  omega
/-- a call without arguments -/
theorem pe_c0 {X : Cx} {k j : Nat} {x : Str} {sp : Sp} {dvs : List V} {p pos : Pos} (c : C8.Cal X.prog X.w X.K X.mg X.base k x sp dvs) (hr : Room j X.A) (hk : k ≤ j) (hg : Gl X x) (hdb : (x == ("__debug__" : Str)) = false := by decide) :
    PE X (.Call (.Name x p) [] [] pos) (tCall sp dvs C8.E0 tNil) := by
  obtain ⟨f, fd, ps, ds, F, hm, kp, b, d⟩ := c.ex
  exact pe_call0 F (hr.mono hk) hg hm kp b d C8.pass0 hdb
/-! ### what isinstance tells of data -/
def isBl : V → Bool | .bl _ => true | _ => false
def isNum : V → Bool | .bl _ => true | .int _ => true | _ => false
def isTxt : V → Bool | .str _ => true | _ => false
theorem dat_is {K : PySem.W.Frag} {H : Hp} {v : V} (d : Dat H v) : ∃ t, TyX K H v (.type t) ∧ PySem.W.kitOne K (.type t) (.type "bool") = some (isBl v) ∧ PySem.W.kitOne K (.type t) (.type "int") = some (isNum v) ∧ PySem.W.kitOne K (.type t) (.type "str") = some (isTxt v) := by
  cases v with
  | non => exact ⟨_, .base .non, (kit_ty (r := false) (by decide +kernel)), (kit_ty (r := false) (by decide +kernel)), (kit_ty (r := false) (by decide +kernel))⟩
  | bl b => exact ⟨_, .base (.bl b), (kit_ty (r := true) (by decide +kernel)), (kit_ty (r := true) (by decide +kernel)), (kit_ty (r := false) (by decide +kernel))⟩
  | int i => exact ⟨_, .base (.int i), (kit_ty (r := false) (by decide +kernel)), (kit_ty (r := true) (by decide +kernel)), (kit_ty (r := false) (by decide +kernel))⟩
  | str z => exact ⟨_, .base (.str z), (kit_ty (r := false) (by decide +kernel)), (kit_ty (r := false) (by decide +kernel)), (kit_ty (r := true) (by decide +kernel))⟩
  | ref a =>
    rcases d with ⟨xs, e⟩ | ⟨xs, e⟩ | ⟨xs, e⟩
    · exact ⟨_, .base (.lst e), (kit_ty (r := false) (by decide +kernel)), (kit_ty (r := false) (by decide +kernel)), (kit_ty (r := false) (by decide +kernel))⟩
    · exact ⟨_, .base (.tup e), (kit_ty (r := false) (by decide +kernel)), (kit_ty (r := false) (by decide +kernel)), (kit_ty (r := false) (by decide +kernel))⟩
    · exact ⟨_, .base (.dK e), (kit_ty (r := false) (by decide +kernel)), (kit_ty (r := false) (by decide +kernel)), (kit_ty (r := false) (by decide +kernel))⟩
  | byt b => exact False.elim d
  | flt b => exact False.elim d
  | ty n => exact False.elim d
/-! ### is_integer, _law_is_integer -/
def intV : V → Bool | .int i => decide ((if i < 0 then -i else i) < 10 ^ (60 : Int).toNat) | _ => false
theorem scInt : FnScope ["value"] ["value"] (defScope s_is_integer) := ⟨rfl, rfl, rfl, by decide +kernel, rfl, by decide +kernel, by decide +kernel⟩
def spInt : Sp := fun vs H Q _ => ∃ v, vs = [v] ∧ Dat H v ∧ Q (.bl (intV v)) H
theorem ok_int {f : Addr} {fd : FuncData} (F : Fun K "is_integer" "is_integer" s_is_integer f fd) (mI : mg "isinstance" = none) (mb : mg "bool" = none) (mi : mg "int" = none) (ma : mg "abs" = none) : FnOk P w K mg base CX0 1 f fd ["value"] spInt := by
  refine F.ok scInt (fun vs H Q E h => ?_) (fun cdv A outer s H vs Q E hr h => ?_)
  · obtain ⟨v, rfl, _⟩ := h
    rfl
  · obtain ⟨v, rfl, d, q⟩ := h
    refine ⟨_, (pss_cons (ps_if (PW.pt (pw_or (pt_val (pe_callB call_isi (by rfl) mI (by decide +kernel) (pa_cons (pv 0) (pa_cons (pe_bltn (by rfl) mb (by decide +kernel) (v := .ty "bool") rfl) pa_nil)))) (pw_or1 (pt_not (pt_val (pe_callB call_isi (by rfl) mI (by decide +kernel) (pa_cons (pv 0) (pa_cons (pe_bltn (by rfl) mi (by decide +kernel) (v := .ty "int") rfl) pa_nil))))))))
        (pss_one (ps_ret pe_bl)) pss_nil)
      (pss_one (ps_ret (pe_cmpR op_lt (pe_callB call_abs (by rfl) ma (by decide +kernel) (pa_cons (pv 0) pa_nil)) (pe_op op_pow pe_int pe_int) (nomark _))))), ?_⟩
    obtain ⟨t, ty, k1, k2, _⟩ := dat_is (K := K) d
    refine ⟨_, rfl, v, .ty "bool", _, _, _, rfl, .ty _, ty, k1, _, rfl, ?_⟩
    cases v with
    | bl b => exact iteT q
    | int i => exact iteF ⟨_, rfl, _, .ty "int", _, _, _, rfl, .ty _, ty, k2, _, rfl, iteF ⟨_, rfl, _, rfl, 10, 60, rfl, rfl, ⟨by decide, by decide, by decide⟩, _, _, rfl, rfl, q⟩⟩
    | _ => exact iteF ⟨_, rfl, _, .ty "int", _, _, _, rfl, .ty _, ty, k2, _, rfl, iteT q⟩
/-! ### is_part, asked with fields and any value -/
theorem scPart : FnScope ["fields", "value"] ["fields", "value"] (defScope s_is_part) := ⟨rfl, rfl, rfl, by decide +kernel, rfl, by decide +kernel, by decide +kernel⟩
theorem name_dat {zs : List Str} (h : ∀ w ∈ zs, isName w = true) (H' : Hp) : ∀ x ∈ zs.map V.str, Dat H' x := fun x hx => by
  obtain ⟨w, hw, rfl⟩ := List.mem_map.mp hx
  exact Nat.le_trans (name_size (h w hw)).2 (by decide)
theorem dat_x {K : PySem.W.Frag} {H : Hp} {v : V} (d : Dat H v) : DatX K H v := by
  cases v with
  | ref a =>
    rcases d with ⟨xs, e⟩ | ⟨xs, e⟩ | ⟨xs, e⟩
    · exact .inl ⟨xs, .inl (.inl e)⟩
    · exact .inr (.inl ⟨xs, .inl (.inl e)⟩)
    · exact .inr (.inr ⟨xs, e⟩)
  | non => exact True.intro
  | bl b => exact True.intro
  | int b => exact True.intro
  | str b => exact True.intro
  | byt b => exact False.elim d
  | flt b => exact False.elim d
  | ty n => exact False.elim d
def partV (zs : List Str) : V → Bool
  | .str z => decide (z = Str.ofString "" ∨ z ∈ zs)
  | _ => false
theorem eqT (x y : Str) : decide (V.str x = V.str y) = decide (x = y) := decide_eq_decide.mpr ⟨fun h => V.str.inj h, fun h => by rw [h]⟩
def spPartA : Sp := fun vs H Q _ => ∃ (a : Addr) (zs : List Str) (v : V), vs = [.ref a, v] ∧ H a = some (.tup (zs.map V.str)) ∧ FieldsOk zs ∧ Dat H v ∧ ∀ H', Same H H' → Q (.bl (partV zs v)) H'
theorem ok_partA {f : Addr} {fd : FuncData} (F : Fun K "is_part" "is_part" s_is_part f fd) (cF : Cal P w K mg base 3 "is_fields" spFields) : FnOk P w K mg base CX0 4 f fd ["fields", "value"] spPartA := by
  refine F.ok scPart (fun vs H Q E h => ?_) (fun cdv A outer s H vs Q E hr h => ?_)
  · obtain ⟨a, zs, z, rfl, _⟩ := h
    rfl
  · obtain ⟨a, zs, v, rfl, ha, fo, d, q⟩ := h
    refine ⟨_, (pss_cons (ps_if (pt_not (pt_val (C8.pe_c cF hr (by omega) (by rfl) (pa_cons (pv 0) pa_nil)))) pss_never pss_nil)
      (pss_one (ps_ret (pe_or (pe_cmpR (op_eqS (roomN hr)) (pv 1) pe_str (nomark _)) (pe_one (pe_cmpR (op_inS (roomI hr)) (pv 1) (pv 0) (by rfl))))))), ?_⟩
    refine ⟨_, rfl, _, rfl, .inr (.inl ⟨_, ha⟩), fun a' xs e1 e2 => ?_, fun H1 rr s1 er => ?_⟩
    · cases e1
      rw [ha] at e2
      cases e2
      exact name_dat fo.2.2.1 _
    have e : rr = true := er.mpr ((fieldsV_iff ha).mpr fo)
    subst e
    refine ⟨true, rfl, iteF ?_⟩
    have dx := dat_x (K := K) (d.same s1)
    refine ⟨_, rfl, _, rfl, dx, _, rfl, ?_⟩
    have fin := q H1 s1
    by_cases hs : ∃ z, v = .str z
    · obtain ⟨z, rfl⟩ := hs
      rw [eqT]
      by_cases hz : z = Str.ofString ""
      · rw [decide_eq_true hz]
        rw [show partV zs (.str z) = true from decide_eq_true (.inl hz)] at fin
        exact iteT fin
      · rw [decide_eq_false hz]
        refine iteF ⟨_, rfl, .ref a, rfl, a, zs, rfl, .inl (.inl (s1 _ _ ha)), dx, ?_⟩
        rw [inTxt_str]
        rw [show partV zs (.str z) = decide (z ∈ zs) from decide_eq_decide.mpr ⟨fun h => h.resolve_left hz, .inr⟩] at fin
        exact fin
    · have no : ∀ z, v ≠ .str z := fun z e => hs ⟨z, e⟩
      rw [decide_eq_false (no _)]
      refine iteF ⟨_, rfl, .ref a, rfl, a, zs, rfl, .inl (.inl (s1 _ _ ha)), dx, ?_⟩
      rw [inTxt_other no]
      have e : partV zs v = false := by
        cases v with
        | str z => exact absurd rfl (no z)
        | _ => rfl
      rw [e] at fin
      exact fin
/-! ### _law_parts_right -/
/-! ### is_any_part, do_overlap, is_part of any data: they answer, or raise InvalidWord -/
def openV (v : V) : Bool := decide (v = .str (Str.ofString "")) || nameV v
theorem scAny : FnScope ["value"] ["value"] (defScope s_is_any_part) := ⟨rfl, rfl, rfl, by decide +kernel, rfl, by decide +kernel, by decide +kernel⟩
def spAnyD : Sp := fun vs H Q _ => ∃ v : V, vs = [v] ∧ Dat H v ∧ ∀ H', Same H H' → Q (.bl (openV v)) H'
theorem ok_anyD {f : Addr} {fd : FuncData} (F : Fun K "is_any_part" "is_any_part" s_is_any_part f fd) (cN : Cal P w K mg base 1 "is_name" spIsName) : FnOk P w K mg base CX0 2 f fd ["value"] spAnyD := by
  refine F.ok scAny (fun vs H Q E h => ?_) (fun cdv A outer s H vs Q E hr h => ?_)
  · obtain ⟨v, rfl, _⟩ := h
    rfl
  · obtain ⟨v, rfl, r, q⟩ := h
    refine ⟨_, (pss_one (ps_ret (pe_or (pe_cmpR (op_eqS (roomN hr)) (pv 0) pe_str (nomark _)) (pe_one (C8.pe_c cN hr (by omega) (by rfl) (pa_cons (pv 0) pa_nil)))))), ?_⟩
    refine ⟨_, rfl, _, rfl, dat_x r, _, rfl, ?_⟩
    unfold openV at q
    by_cases hs : v = .str (Str.ofString "")
    · rw [decide_eq_true hs] at q ⊢
      exact iteT (q H (.refl H))
    · rw [decide_eq_false hs] at q ⊢
      exact iteF ⟨_, rfl, v, rfl, r, fun H1 s1 => q H1 s1⟩
theorem openV_txt {v : V} (h : openV v = true) : ∃ z, v = .str z ∧ (z = Str.ofString "" ∨ isName z = true) := by
  unfold openV at h
  rcases Bool.or_eq_true_iff.mp h with h | h
  · exact ⟨_, of_decide_eq_true h, .inl rfl⟩
  · cases v with
    | str z => exact ⟨z, rfl, .inr h⟩
    | _ => cases h
theorem eq_txt (x y : Str) : decide (V.str x = V.str y) = decide (x = y) := decide_eq_decide.mpr ⟨fun h => V.str.inj h, fun h => by rw [h]⟩
theorem scOver : FnScope ["one", "other"] ["one", "other"] (defScope s_do_overlap) := ⟨rfl, rfl, rfl, by decide +kernel, rfl, by decide +kernel, by decide +kernel⟩
def spOverX (C : Addr) : Sp := fun vs H Q E => ∃ x y : V, vs = [x, y] ∧ Dat H x ∧ Dat H y ∧ (openV x = true → openV y = true → ∀ b H', Same H H' → Q (.bl b) H') ∧ ((openV x && openV y) = false → ∀ H', Same H H' → E (.ref C) none H')
theorem ok_overX {f C : Addr} {fd : FuncData} (T : XcP K mg "InvalidWord" C) (F : Fun K "do_overlap" "do_overlap" s_do_overlap f fd) (cA : Cal P w K mg base 2 "is_any_part" spAnyD) : FnOk P w K mg base (L2.CX P w) 3 f fd ["one", "other"] (spOverX C) := by
  refine F.okX scOver (fun vs H Q E h => ?_) (fun cdv A outer s H vs Q E hr h => ?_)
  · obtain ⟨x, y, rfl, _⟩ := h
    rfl
  · obtain ⟨x, y, rfl, dx, dy, q1, q0⟩ := h
    refine ⟨_, (pss_cons (ps_if (PW.pt (pw_or (pt_not (pt_val (C8.pe_c cA hr (by omega) (by rfl) (pa_cons (pv 0) pa_nil)))) (pw_or1 (pt_not (pt_val (C8.pe_c cA hr (by omega) (by rfl) (pa_cons (pv 1) pa_nil)))))))
        (pss_one (ps_raise rfl (takes_of rfl rfl rfl rfl) (pmk_own PySem.F.excBase_ValueError T.x T.g T.k (raises_own T.b T.t) (by rfl)))) pss_nil)
      (pss_one (ps_ret (pe_or (pe_cmpR op_eq (pv 0) (pv 1) (nomark _)) (pe_or (pe_cmpR op_eq (pv 0) pe_str (nomark _)) (pe_one (pe_cmpR op_eq (pv 1) pe_str (nomark _)))))))), ?_⟩
    refine ⟨_, rfl, x, rfl, dx, fun H1 s1 => ⟨openV x, rfl, ?_⟩⟩
    cases hx : openV x with
    | false => exact iteT (iteT (q0 (by rw [hx]; rfl) H1 s1))
    | true =>
      refine iteF ⟨_, rfl, y, rfl, dy.same s1, fun H2 s2 => ⟨openV y, rfl, ?_⟩⟩
      cases hy : openV y with
      | false => exact iteT (q0 (by rw [hx, hy]; rfl) H2 (s1.trans s2))
      | true =>
        obtain ⟨zx, rfl, _⟩ := openV_txt hx
        obtain ⟨zy, rfl, _⟩ := openV_txt hy
        refine iteF ⟨_, rfl, _, rfl, rfl, _, rfl, ?_⟩
        have fin := fun b => q1 hx hy b H2 (s1.trans s2)
        cases decide (V.str zx = V.str zy) with
        | true => exact iteT (fin true)
        | false =>
          refine iteF ⟨_, rfl, rfl, _, rfl, ?_⟩
          rw [eq_txt]
          cases decide (zx = Str.ofString "") with
          | true => exact iteT (fin true)
          | false =>
            refine iteF ⟨_, rfl, rfl, ?_⟩
            exact fin _
def spPartBad (C : Addr) : Sp := fun vs H _ E => ∃ v p : V, vs = [v, p] ∧ Dat H v ∧ (∀ a xs, v = .ref a → H a = some (.tup xs) → ∀ x ∈ xs, Dat H x) ∧ ¬ FieldsV H v ∧ ∀ H', Same H H' → E (.ref C) none H'
theorem ok_partBad {f C : Addr} {fd : FuncData} (T : XcP K mg "InvalidWord" C) (F : Fun K "is_part" "is_part" s_is_part f fd) (cF : Cal P w K mg base 3 "is_fields" spFields) : FnOk P w K mg base (L2.CX P w) 4 f fd ["fields", "value"] (spPartBad C) := by
  refine F.okX scPart (fun vs H Q E h => ?_) (fun cdv A outer s H vs Q E hr h => ?_)
  · obtain ⟨v, p, rfl, _⟩ := h
    rfl
  · obtain ⟨v, p, rfl, dv, di, nf, q⟩ := h
    refine ⟨_, pss_cons (ps_if (pt_not (pt_val (C8.pe_c cF hr (by omega) (by rfl) (pa_cons (pv 0) pa_nil)))) (pss_one (ps_raise rfl (takes_of rfl rfl rfl rfl) (pmk_own PySem.F.excBase_ValueError T.x T.g T.k (raises_own T.b T.t) (by rfl)))) pss_nil) pss_never, ?_⟩
    refine ⟨_, rfl, v, rfl, dv, di, fun H1 r s1 hr' => ⟨r, rfl, ?_⟩⟩
    cases r with
    | true => exact absurd (hr'.mp rfl) nf
    | false => exact iteT (q H1 s1)
/-! ### _law_refused, with a lambda -/
def TTref (K : PySem.W.Frag) (CS : Addr) : (XK → Hp → VK → Prop) → Hp → VK → Prop := fun tl H Q =>
  tl (fun cls _ H' => cls = .ref CS ∧ Q (.bl true) H') H (fun _ H' => Q (.bl false) H')
theorem refused_gives {Y : Cx} {q : Str} {g CS : Addr} {cdg : Value} (T : XcP Y.K Y.mg "InvalidWord" CS) :
    LamX.GivesTo Y ["call"] "_law_refused" (defScope s_L_refused) g cdg (defBody s_L_refused) "call" q (TTref Y.K CS) := by
  intro f c' s H Q tl act hc h
  refine ⟨_, (pss_cons (ps_try_only (X := (cxOf C8.CX0 Y.prog Y.w Y.K Y.mg Y.base ["call"] "_law_refused" (defScope s_L_refused) g cdg Y.A Y.stack s H C8.E0).nox) (c := .ref CS) (Wout := fun _ _ _ _ => False)
      (tb := fun W D σ H => ∃ Ech : XK, (∀ cls d σ' H', Ech cls d H' → W cls d σ' H') ∧ σ[0]? = some (some (.ref f)) ∧ H c' = some (LamX.CodeO c' q) ∧ tl Ech H (fun _ H' => D.nx σ H'))
      rfl rfl ⟨rfl, by decide, .inl T.g⟩ takes0 (fun W pn xe tk _ => pss_one ⟨fun pins s' σ H' D I h' => by
        obtain ⟨Ech, hW, h1, h2, h3⟩ := h'
        exact (ps_expr (act W pn xe Ech _ _ tk hW)).run pins s' σ H' D I ⟨h1, h2, h3⟩⟩)
      (fun a oe cls d pn _ _ => pss_one (ps_ret pe_bl)))
      (pss_one (ps_ret pe_bl))), ?_⟩
  refine ⟨fun cls _ H' => cls = .ref CS ∧ Q (.bl true) H', fun cls d σ' H' ⟨e, z⟩ => ?_, rfl, hc, ?_⟩
  · subst e
    exact ⟨true, T.e, fun _ a _ => z, fun q => nomatch q⟩
  · exact h
/-! ### _law_own, _law_python -/
/-- where the own classes stand -/
structure ClsG (mg : Str → Option Value) (c0 c1 c2 c3 c4 c5 c6 c7 c8 c9 c10 c11 c12 c13 c14 c15 : Addr) : Prop where
  g0 : mg "LoanError" = some (.ref c0)
  g1 : mg "InvalidWord" = some (.ref c1)
  g2 : mg "InvalidFunction" = some (.ref c2)
  g3 : mg "InvalidProgram" = some (.ref c3)
  g4 : mg "InvalidState" = some (.ref c4)
  g5 : mg "InvalidWalk" = some (.ref c5)
  g6 : mg "InvalidTable" = some (.ref c6)
  g7 : mg "InvalidContract" = some (.ref c7)
  g8 : mg "InvalidOperation" = some (.ref c8)
  g9 : mg "ParseError" = some (.ref c9)
  g10 : mg "UnknownName" = some (.ref c10)
  g11 : mg "NothingToUndo" = some (.ref c11)
  g12 : mg "NotReached" = some (.ref c12)
  g13 : mg "TooMany" = some (.ref c13)
  g14 : mg "Refused" = some (.ref c14)
  g15 : mg "InvalidNumber" = some (.ref c15)
/-- what isinstance says of an error of the class at D, class by class -/
structure Row16 (K : PySem.W.Frag) (D c0 c1 c2 c3 c4 c5 c6 c7 c8 c9 c10 c11 c12 c13 c14 c15 : Addr) (b0 b1 b2 b3 b4 b5 b6 b7 b8 b9 b10 b11 b12 b13 b14 b15 : Bool) : Prop where
  k0 : PySem.W.kitOne K (.ref D) (.ref c0) = some b0
  k1 : PySem.W.kitOne K (.ref D) (.ref c1) = some b1
  k2 : PySem.W.kitOne K (.ref D) (.ref c2) = some b2
  k3 : PySem.W.kitOne K (.ref D) (.ref c3) = some b3
  k4 : PySem.W.kitOne K (.ref D) (.ref c4) = some b4
  k5 : PySem.W.kitOne K (.ref D) (.ref c5) = some b5
  k6 : PySem.W.kitOne K (.ref D) (.ref c6) = some b6
  k7 : PySem.W.kitOne K (.ref D) (.ref c7) = some b7
  k8 : PySem.W.kitOne K (.ref D) (.ref c8) = some b8
  k9 : PySem.W.kitOne K (.ref D) (.ref c9) = some b9
  k10 : PySem.W.kitOne K (.ref D) (.ref c10) = some b10
  k11 : PySem.W.kitOne K (.ref D) (.ref c11) = some b11
  k12 : PySem.W.kitOne K (.ref D) (.ref c12) = some b12
  k13 : PySem.W.kitOne K (.ref D) (.ref c13) = some b13
  k14 : PySem.W.kitOne K (.ref D) (.ref c14) = some b14
  k15 : PySem.W.kitOne K (.ref D) (.ref c15) = some b15
theorem sc_spOwn : FnScope ["e", "some"] ["e"] (defScope s_L_own) := ⟨rfl, rfl, rfl, by decide +kernel, rfl, by decide +kernel, by decide +kernel⟩
def spOwn (K : PySem.W.Frag) (c0 c1 c2 c3 c4 c5 c6 c7 c8 c9 c10 c11 c12 c13 c14 c15 : Addr) : Sp := fun vs H Q _ => ∃ (a D : Addr) (b0 b1 b2 b3 b4 b5 b6 b7 b8 b9 b10 b11 b12 b13 b14 b15 : Bool), vs = [.ref a] ∧ ErrAt H a D ∧ ExcC K D ∧ Row16 K D c0 c1 c2 c3 c4 c5 c6 c7 c8 c9 c10 c11 c12 c13 c14 c15 b0 b1 b2 b3 b4 b5 b6 b7 b8 b9 b10 b11 b12 b13 b14 b15 ∧ ∀ H' p, Same H H' → H' p = some (.lst [V.bl b0, V.bl b1, V.bl b2, V.bl b3, V.bl b4, V.bl b5, V.bl b6, V.bl b7, V.bl b8, V.bl b9, V.bl b10, V.bl b11, V.bl b12, V.bl b13, V.bl b14, V.bl b15]) → Q (.ref p) H'
theorem ok_spOwn {f : Addr} {fd : FuncData} {c0 c1 c2 c3 c4 c5 c6 c7 c8 c9 c10 c11 c12 c13 c14 c15 : Addr} (F : Fun K "_law_own" "_law_own" s_L_own f fd) (mI : mg "isinstance" = none) (G : ClsG mg c0 c1 c2 c3 c4 c5 c6 c7 c8 c9 c10 c11 c12 c13 c14 c15) : FnOk P w K mg base CX0 1 f fd ["e"] (spOwn K c0 c1 c2 c3 c4 c5 c6 c7 c8 c9 c10 c11 c12 c13 c14 c15) := by
  refine F.ok sc_spOwn (fun vs H Q E h => ?_) (fun cdv A outer s H vs Q E hr h => ?_)
  · obtain ⟨a, D, _, _, _, _, _, _, _, _, _, _, _, _, _, _, _, _, rfl, _⟩ := h
    rfl
  · obtain ⟨a, D, b0, b1, b2, b3, b4, b5, b6, b7, b8, b9, b10, b11, b12, b13, b14, b15, rfl, er, ec, R, q⟩ := h
    refine ⟨_, (pss_cons (ps_set (i := 1) sc_spOwn.nd rfl (.inl rfl) (pe_lst (pa_cons (pe_callB (call_isH rfl) (by rfl) mI (by decide +kernel) (pa_cons (pv 0) (pa_cons (pe_glob (v := .ref c0) (by rfl) G.g0 rfl) pa_nil))) (pa_cons (pe_callB (call_isH rfl) (by rfl) mI (by decide +kernel) (pa_cons (pv 0) (pa_cons (pe_glob (v := .ref c1) (by rfl) G.g1 rfl) pa_nil))) (pa_cons (pe_callB (call_isH rfl) (by rfl) mI (by decide +kernel) (pa_cons (pv 0) (pa_cons (pe_glob (v := .ref c2) (by rfl) G.g2 rfl) pa_nil))) pa_nil)))))
      (pss_cons (ps_set (i := 1) sc_spOwn.nd rfl (.inl rfl) (pe_op op_cat (pv 1) (pe_lst (pa_cons (pe_callB (call_isH rfl) (by rfl) mI (by decide +kernel) (pa_cons (pv 0) (pa_cons (pe_glob (v := .ref c3) (by rfl) G.g3 rfl) pa_nil))) (pa_cons (pe_callB (call_isH rfl) (by rfl) mI (by decide +kernel) (pa_cons (pv 0) (pa_cons (pe_glob (v := .ref c4) (by rfl) G.g4 rfl) pa_nil))) (pa_cons (pe_callB (call_isH rfl) (by rfl) mI (by decide +kernel) (pa_cons (pv 0) (pa_cons (pe_glob (v := .ref c5) (by rfl) G.g5 rfl) pa_nil))) pa_nil))))))
      (pss_cons (ps_set (i := 1) sc_spOwn.nd rfl (.inl rfl) (pe_op op_cat (pv 1) (pe_lst (pa_cons (pe_callB (call_isH rfl) (by rfl) mI (by decide +kernel) (pa_cons (pv 0) (pa_cons (pe_glob (v := .ref c6) (by rfl) G.g6 rfl) pa_nil))) (pa_cons (pe_callB (call_isH rfl) (by rfl) mI (by decide +kernel) (pa_cons (pv 0) (pa_cons (pe_glob (v := .ref c7) (by rfl) G.g7 rfl) pa_nil))) (pa_cons (pe_callB (call_isH rfl) (by rfl) mI (by decide +kernel) (pa_cons (pv 0) (pa_cons (pe_glob (v := .ref c8) (by rfl) G.g8 rfl) pa_nil))) pa_nil))))))
      (pss_cons (ps_set (i := 1) sc_spOwn.nd rfl (.inl rfl) (pe_op op_cat (pv 1) (pe_lst (pa_cons (pe_callB (call_isH rfl) (by rfl) mI (by decide +kernel) (pa_cons (pv 0) (pa_cons (pe_glob (v := .ref c9) (by rfl) G.g9 rfl) pa_nil))) (pa_cons (pe_callB (call_isH rfl) (by rfl) mI (by decide +kernel) (pa_cons (pv 0) (pa_cons (pe_glob (v := .ref c10) (by rfl) G.g10 rfl) pa_nil))) (pa_cons (pe_callB (call_isH rfl) (by rfl) mI (by decide +kernel) (pa_cons (pv 0) (pa_cons (pe_glob (v := .ref c11) (by rfl) G.g11 rfl) pa_nil))) pa_nil))))))
      (pss_cons (ps_set (i := 1) sc_spOwn.nd rfl (.inl rfl) (pe_op op_cat (pv 1) (pe_lst (pa_cons (pe_callB (call_isH rfl) (by rfl) mI (by decide +kernel) (pa_cons (pv 0) (pa_cons (pe_glob (v := .ref c12) (by rfl) G.g12 rfl) pa_nil))) (pa_cons (pe_callB (call_isH rfl) (by rfl) mI (by decide +kernel) (pa_cons (pv 0) (pa_cons (pe_glob (v := .ref c13) (by rfl) G.g13 rfl) pa_nil))) (pa_cons (pe_callB (call_isH rfl) (by rfl) mI (by decide +kernel) (pa_cons (pv 0) (pa_cons (pe_glob (v := .ref c14) (by rfl) G.g14 rfl) pa_nil))) pa_nil))))))
      (pss_one (ps_ret (pe_op op_cat (pv 1) (pe_lst (pa_cons (pe_callB (call_isH rfl) (by rfl) mI (by decide +kernel) (pa_cons (pv 0) (pa_cons (pe_glob (v := .ref c15) (by rfl) G.g15 rfl) pa_nil))) pa_nil)))))))))), ?_⟩
    refine ⟨_, rfl, a, D, .ref c0, .ref c0, b0, rfl, er, ec, (fun _ r => r), R.k0, _, rfl, a, D, .ref c1, .ref c1, b1, rfl, er, ec, (fun _ r => r), R.k1, _, rfl, a, D, .ref c2, .ref c2, b2, rfl, er, ec, (fun _ r => r), R.k2, (show 3 ≤ sizeLine by decide), fun p0 n0 => ?_⟩
    have s0 := same_upd n0 (o := .lst [V.bl b0, V.bl b1, V.bl b2])
    refine ⟨_, rfl, _, rfl, a, D, .ref c3, .ref c3, b3, rfl, er.ext s0, ec, (fun _ r => r), R.k3, _, rfl, a, D, .ref c4, .ref c4, b4, rfl, er.ext s0, ec, (fun _ r => r), R.k4, _, rfl, a, D, .ref c5, .ref c5, b5, rfl, er.ext s0, ec, (fun _ r => r), R.k5, (show 3 ≤ sizeLine by decide), fun r1 m1 => ⟨p0, r1, _, _, rfl, rfl, same_upd m1 _ _ upd_same, upd_same, (show 6 ≤ sizeLine by decide), fun p1 n1 => ?_⟩⟩
    have s1 := (s0.trans (same_upd m1)).trans (same_upd n1 (o := .lst [V.bl b0, V.bl b1, V.bl b2, V.bl b3, V.bl b4, V.bl b5]))
    refine ⟨_, rfl, _, rfl, a, D, .ref c6, .ref c6, b6, rfl, er.ext s1, ec, (fun _ r => r), R.k6, _, rfl, a, D, .ref c7, .ref c7, b7, rfl, er.ext s1, ec, (fun _ r => r), R.k7, _, rfl, a, D, .ref c8, .ref c8, b8, rfl, er.ext s1, ec, (fun _ r => r), R.k8, (show 3 ≤ sizeLine by decide), fun r2 m2 => ⟨p1, r2, _, _, rfl, rfl, same_upd m2 _ _ upd_same, upd_same, (show 9 ≤ sizeLine by decide), fun p2 n2 => ?_⟩⟩
    have s2 := (s1.trans (same_upd m2)).trans (same_upd n2 (o := .lst [V.bl b0, V.bl b1, V.bl b2, V.bl b3, V.bl b4, V.bl b5, V.bl b6, V.bl b7, V.bl b8]))
    refine ⟨_, rfl, _, rfl, a, D, .ref c9, .ref c9, b9, rfl, er.ext s2, ec, (fun _ r => r), R.k9, _, rfl, a, D, .ref c10, .ref c10, b10, rfl, er.ext s2, ec, (fun _ r => r), R.k10, _, rfl, a, D, .ref c11, .ref c11, b11, rfl, er.ext s2, ec, (fun _ r => r), R.k11, (show 3 ≤ sizeLine by decide), fun r3 m3 => ⟨p2, r3, _, _, rfl, rfl, same_upd m3 _ _ upd_same, upd_same, (show 12 ≤ sizeLine by decide), fun p3 n3 => ?_⟩⟩
    have s3 := (s2.trans (same_upd m3)).trans (same_upd n3 (o := .lst [V.bl b0, V.bl b1, V.bl b2, V.bl b3, V.bl b4, V.bl b5, V.bl b6, V.bl b7, V.bl b8, V.bl b9, V.bl b10, V.bl b11]))
    refine ⟨_, rfl, _, rfl, a, D, .ref c12, .ref c12, b12, rfl, er.ext s3, ec, (fun _ r => r), R.k12, _, rfl, a, D, .ref c13, .ref c13, b13, rfl, er.ext s3, ec, (fun _ r => r), R.k13, _, rfl, a, D, .ref c14, .ref c14, b14, rfl, er.ext s3, ec, (fun _ r => r), R.k14, (show 3 ≤ sizeLine by decide), fun r4 m4 => ⟨p3, r4, _, _, rfl, rfl, same_upd m4 _ _ upd_same, upd_same, (show 15 ≤ sizeLine by decide), fun p4 n4 => ?_⟩⟩
    have s4 := (s3.trans (same_upd m4)).trans (same_upd n4 (o := .lst [V.bl b0, V.bl b1, V.bl b2, V.bl b3, V.bl b4, V.bl b5, V.bl b6, V.bl b7, V.bl b8, V.bl b9, V.bl b10, V.bl b11, V.bl b12, V.bl b13, V.bl b14]))
    refine ⟨_, rfl, _, rfl, a, D, .ref c15, .ref c15, b15, rfl, er.ext s4, ec, (fun _ r => r), R.k15, (show 1 ≤ sizeLine by decide), fun r5 m5 => ⟨p4, r5, _, _, rfl, rfl, same_upd m5 _ _ upd_same, upd_same, (show 16 ≤ sizeLine by decide), fun p5 n5 => ?_⟩⟩
    have s5 := (s4.trans (same_upd m5)).trans (same_upd n5 (o := .lst [V.bl b0, V.bl b1, V.bl b2, V.bl b3, V.bl b4, V.bl b5, V.bl b6, V.bl b7, V.bl b8, V.bl b9, V.bl b10, V.bl b11, V.bl b12, V.bl b13, V.bl b14, V.bl b15]))
    exact q _ p5 s5 upd_same
structure PyG (mg : Str → Option Value) : Prop where
  n0 : mg "ValueError" = none
  n1 : mg "LookupError" = none
  n2 : mg "KeyError" = none
  n3 : mg "IndexError" = none
  n4 : mg "ArithmeticError" = none
  n5 : mg "OverflowError" = none
  n6 : mg "RuntimeError" = none
structure Row7 (K : PySem.W.Frag) (D : Addr) (b0 b1 b2 b3 b4 b5 b6 : Bool) : Prop where
  k0 : PySem.W.kitOne K (.ref D) (.type "ValueError") = some b0
  k1 : PySem.W.kitOne K (.ref D) (.type "LookupError") = some b1
  k2 : PySem.W.kitOne K (.ref D) (.type "KeyError") = some b2
  k3 : PySem.W.kitOne K (.ref D) (.type "IndexError") = some b3
  k4 : PySem.W.kitOne K (.ref D) (.type "ArithmeticError") = some b4
  k5 : PySem.W.kitOne K (.ref D) (.type "OverflowError") = some b5
  k6 : PySem.W.kitOne K (.ref D) (.type "RuntimeError") = some b6
theorem sc_spPy : FnScope ["e", "some"] ["e"] (defScope s_L_python) := ⟨rfl, rfl, rfl, by decide +kernel, rfl, by decide +kernel, by decide +kernel⟩
def spPy (K : PySem.W.Frag) : Sp := fun vs H Q _ => ∃ (a D : Addr) (b0 b1 b2 b3 b4 b5 b6 : Bool), vs = [.ref a] ∧ ErrAt H a D ∧ ExcC K D ∧ Row7 K D b0 b1 b2 b3 b4 b5 b6 ∧ ∀ H' p, Same H H' → H' p = some (.lst [V.bl b0, V.bl b1, V.bl b2, V.bl b3, V.bl b4, V.bl b5, V.bl b6]) → Q (.ref p) H'
theorem ok_spPy {f : Addr} {fd : FuncData} (F : Fun K "_law_python" "_law_python" s_L_python f fd) (mI : mg "isinstance" = none) (G : PyG mg) : FnOk P w K mg base CX0 1 f fd ["e"] (spPy K) := by
  refine F.ok sc_spPy (fun vs H Q E h => ?_) (fun cdv A outer s H vs Q E hr h => ?_)
  · obtain ⟨a, D, _, _, _, _, _, _, _, rfl, _⟩ := h
    rfl
  · obtain ⟨a, D, b0, b1, b2, b3, b4, b5, b6, rfl, er, ec, R, q⟩ := h
    refine ⟨_, (pss_cons (ps_set (i := 1) sc_spPy.nd rfl (.inl rfl) (pe_lst (pa_cons (pe_callB (call_isH rfl) (by rfl) mI (by decide +kernel) (pa_cons (pv 0) (pa_cons (pe_bltn (by rfl) G.n0 (by decide +kernel) (v := .ty "ValueError") rfl) pa_nil))) (pa_cons (pe_callB (call_isH rfl) (by rfl) mI (by decide +kernel) (pa_cons (pv 0) (pa_cons (pe_bltn (by rfl) G.n1 (by decide +kernel) (v := .ty "LookupError") rfl) pa_nil))) (pa_cons (pe_callB (call_isH rfl) (by rfl) mI (by decide +kernel) (pa_cons (pv 0) (pa_cons (pe_bltn (by rfl) G.n2 (by decide +kernel) (v := .ty "KeyError") rfl) pa_nil))) (pa_cons (pe_callB (call_isH rfl) (by rfl) mI (by decide +kernel) (pa_cons (pv 0) (pa_cons (pe_bltn (by rfl) G.n3 (by decide +kernel) (v := .ty "IndexError") rfl) pa_nil))) pa_nil))))))
      (pss_one (ps_ret (pe_op op_cat (pv 1) (pe_lst (pa_cons (pe_callB (call_isH rfl) (by rfl) mI (by decide +kernel) (pa_cons (pv 0) (pa_cons (pe_bltn (by rfl) G.n4 (by decide +kernel) (v := .ty "ArithmeticError") rfl) pa_nil))) (pa_cons (pe_callB (call_isH rfl) (by rfl) mI (by decide +kernel) (pa_cons (pv 0) (pa_cons (pe_bltn (by rfl) G.n5 (by decide +kernel) (v := .ty "OverflowError") rfl) pa_nil))) (pa_cons (pe_callB (call_isH rfl) (by rfl) mI (by decide +kernel) (pa_cons (pv 0) (pa_cons (pe_bltn (by rfl) G.n6 (by decide +kernel) (v := .ty "RuntimeError") rfl) pa_nil))) pa_nil)))))))), ?_⟩
    refine ⟨_, rfl, a, D, .ty "ValueError", .type "ValueError", b0, rfl, er, ec, (fun _ r => r), R.k0, _, rfl, a, D, .ty "LookupError", .type "LookupError", b1, rfl, er, ec, (fun _ r => r), R.k1, _, rfl, a, D, .ty "KeyError", .type "KeyError", b2, rfl, er, ec, (fun _ r => r), R.k2, _, rfl, a, D, .ty "IndexError", .type "IndexError", b3, rfl, er, ec, (fun _ r => r), R.k3, (show 4 ≤ sizeLine by decide), fun p0 n0 => ?_⟩
    have s0 := same_upd n0 (o := .lst [V.bl b0, V.bl b1, V.bl b2, V.bl b3])
    refine ⟨_, rfl, _, rfl, a, D, .ty "ArithmeticError", .type "ArithmeticError", b4, rfl, er.ext s0, ec, (fun _ r => r), R.k4, _, rfl, a, D, .ty "OverflowError", .type "OverflowError", b5, rfl, er.ext s0, ec, (fun _ r => r), R.k5, _, rfl, a, D, .ty "RuntimeError", .type "RuntimeError", b6, rfl, er.ext s0, ec, (fun _ r => r), R.k6, (show 3 ≤ sizeLine by decide), fun r1 m1 => ⟨p0, r1, _, _, rfl, rfl, same_upd m1 _ _ upd_same, upd_same, (show 7 ≤ sizeLine by decide), fun p1 n1 => ?_⟩⟩
    have s1 := (s0.trans (same_upd m1)).trans (same_upd n1 (o := .lst [V.bl b0, V.bl b1, V.bl b2, V.bl b3, V.bl b4, V.bl b5, V.bl b6]))
    exact q _ p1 s1 upd_same
/-! ### _law_row, _law_plain -/
def rowV (n : Nat) (is : List Int) : List V := (List.range n).map fun (s : Nat) => V.bl (inV (.int ((s : Nat) : Int)) (is.map V.int))
theorem rowV_succ (i : Nat) (is : List Int) : rowV (i + 1) is = rowV i is ++ [.bl (inV (.int (i : Int)) (is.map V.int))] := by
  unfold rowV
  rw [List.range_succ, List.map_append]
  rfl
theorem rowV_len (i : Nat) (is : List Int) : (rowV i is).length = i := by
  unfold rowV
  rw [List.length_map, List.length_range]
theorem ints_flat (is : List Int) : (is.map V.int).all flatV = true := by
  rw [List.all_eq_true]
  intro x hx
  obtain ⟨i, _, rfl⟩ := List.mem_map.mp hx
  rfl
theorem sc_row : FnScope ["many", "places", "spot"] ["many", "places"] (defScope s_L_row) := ⟨rfl, rfl, rfl, by decide +kernel, rfl, by decide +kernel, by decide +kernel⟩
def spRow : Sp := fun vs H Q _ => ∃ (n : Nat) (a : Addr) (is : List Int), vs = [.int (n : Int), .ref a] ∧ n ≤ 20 ∧ H a = some (.lst (is.map V.int)) ∧ ∀ H' p, Same H H' → H' p = some (.lst (rowV n is)) → Q (.ref p) H'
theorem ok_row {f : Addr} {fd : FuncData} (F : Fun K "_law_row" "_law_row" s_L_row f fd) (mr : mg "range" = none) : FnOk P w K mg base CX0 1 f fd ["many", "places"] spRow := by
  refine F.ok sc_row (fun vs H Q E h => ?_) (fun cdv A outer s H vs Q E hr h => ?_)
  · obtain ⟨n, a, is, rfl, _⟩ := h
    rfl
  · obtain ⟨n, a, is, rfl, n20, ha, q⟩ := h
    refine ⟨_, pss_one (ps_ret (pe_lc (own := [("spot", 2)]) (g := gName 2) (tt := tYes) rfl sc_row.nd (pi_range1 (by rfl) mr (pa_cons (pv 0) pa_nil))
      (blkOk_by (N := ["many", "places", "spot"]) (sc := defScope s_L_row) (by decide +kernel)) (fun _ _ _ _ _ => pg_name (i := 2) sc_row.nd rfl (Or.inl rfl)) (fun _ _ _ _ _ => pts_nil)
      (fun _ _ _ _ _ => pe_cmpR (in_K (K := K) rfl) (pv 2) (pv 1) (by rfl)))), ?_⟩
    refine ⟨_, rfl, _, rfl, by omega, by omega, fun D nD => ?_⟩
    refine lc_range (n := ((n : Nat) : Int).toNat) (fun i H' => Same H H' ∧ H' D = some (.lst (rowV i is))) ⟨same_upd nD, upd_same⟩ (fun i H' hi hP => ?_) (fun H' hP => ?_)
    · obtain ⟨s1, hD⟩ := hP
      have i20 : i < 20 := by omega
      refine ⟨rfl, _, rfl, _, rfl, a, _, rfl, .inl (.inl (.inl (s1 _ _ ha))), rfl, ints_flat is, ?_⟩
      refine ⟨_, hD, by rw [rowV_len]; exact small1000 (by omega), fun b o e => by rw [upd_ne (ne_of_none e nD)]; exact s1 b o e, ?_⟩
      rw [upd_same, rowV_succ, Int.zero_add]
      rfl
    · exact q H' D hP.1 (by simpa using hP.2)
theorem sc_plain : FnScope ["some"] [] (defScope s_L_plain) := ⟨rfl, rfl, rfl, by decide +kernel, rfl, by decide +kernel, by decide +kernel⟩
/-- an own class of errors over ValueError, made with a text -/
structure PlainC (K : PySem.W.Frag) (C : Addr) : Prop where
  x : PySem.W.excIn K C [.type "ValueError", .type "Exception", .type "BaseException", .type "object"] "ValueError.__new__" = true
  k : PySem.W.keepIn K (.ref C) = true
def spPlain (c0 c1 c2 c3 c4 c5 c6 c7 c8 : Addr) : Sp := fun vs H Q _ => vs = [] ∧ ∀ H' p es, Same H H' → H' p = some (.lst (es.map V.ref)) → Paired (fun e c => ErrAt H' e c) es [c0, c1, c2, c3, c4, c5, c6, c7, c8] → Q (.ref p) H'
theorem ok_plain {f : Addr} {fd : FuncData} {c0 c1 c2 c3 c4 c5 c6 c7 c8 c9 c10 c11 c12 c13 c14 c15 : Addr} (F : Fun K "_law_plain" "_law_plain" s_L_plain f fd) (G : ClsG mg c0 c1 c2 c3 c4 c5 c6 c7 c8 c9 c10 c11 c12 c13 c14 c15) (T0 : PlainC K c0) (T1 : PlainC K c1) (T2 : PlainC K c2) (T3 : PlainC K c3) (T4 : PlainC K c4) (T5 : PlainC K c5) (T6 : PlainC K c6) (T7 : PlainC K c7) (T8 : PlainC K c8) : FnOk P w K mg base CX0 1 f fd [] (spPlain c0 c1 c2 c3 c4 c5 c6 c7 c8) := by
  refine F.ok sc_plain (fun vs H Q E h => ?_) (fun cdv A outer s H vs Q E hr h => ?_)
  · obtain ⟨rfl, _⟩ := h
    rfl
  · obtain ⟨rfl, q⟩ := h
    refine ⟨_, (pss_cons (ps_set (i := 0) sc_plain.nd rfl (.inl rfl) (pe_lst (pa_cons (pe_exc1 PySem.F.excBase_ValueError T0.x G.g0 T0.k (by rfl) pe_str) (pa_cons (pe_exc1 PySem.F.excBase_ValueError T1.x G.g1 T1.k (by rfl) pe_str) (pa_cons (pe_exc1 PySem.F.excBase_ValueError T2.x G.g2 T2.k (by rfl) pe_str) (pa_cons (pe_exc1 PySem.F.excBase_ValueError T3.x G.g3 T3.k (by rfl) pe_str) (pa_cons (pe_exc1 PySem.F.excBase_ValueError T4.x G.g4 T4.k (by rfl) pe_str) pa_nil)))))))
      (pss_one (ps_ret (pe_op op_cat (pv 0) (pe_lst (pa_cons (pe_exc1 PySem.F.excBase_ValueError T5.x G.g5 T5.k (by rfl) pe_str) (pa_cons (pe_exc1 PySem.F.excBase_ValueError T6.x G.g6 T6.k (by rfl) pe_str) (pa_cons (pe_exc1 PySem.F.excBase_ValueError T7.x G.g7 T7.k (by rfl) pe_str) (pa_cons (pe_exc1 PySem.F.excBase_ValueError T8.x G.g8 T8.k (by rfl) pe_str) pa_nil))))))))), ?_⟩
    refine fun e0 m0 => fun e1 m1 => fun e2 m2 => fun e3 m3 => fun e4 m4 => ⟨(show 5 ≤ sizeLine by decide), fun p1 n1 => ⟨_, rfl, fun e5 m5 => fun e6 m6 => fun e7 m7 => fun e8 m8 => ⟨(show 4 ≤ sizeLine by decide), fun p2 n2 => ?_⟩⟩⟩
    have u5 := same_upd (o := HO.lst ([e0, e1, e2, e3, e4].map V.ref)) n1
    have t0 := same_upd (o := ExO (.ref c0) e0) m0
    have t1 := same_upd (o := ExO (.ref c1) e1) m1
    have t2 := same_upd (o := ExO (.ref c2) e2) m2
    have t3 := same_upd (o := ExO (.ref c3) e3) m3
    have t4 := same_upd (o := ExO (.ref c4) e4) m4
    have t5 := same_upd (o := ExO (.ref c5) e5) m5
    have t6 := same_upd (o := ExO (.ref c6) e6) m6
    have t7 := same_upd (o := ExO (.ref c7) e7) m7
    have t8 := same_upd (o := ExO (.ref c8) e8) m8
    have u9 := same_upd (o := HO.lst ([e5, e6, e7, e8].map V.ref)) n2
    refine ⟨p1, p2, [e0, e1, e2, e3, e4].map V.ref, [e5, e6, e7, e8].map V.ref, rfl, rfl, ?_, upd_same, (show 5 + 4 ≤ sizeLine by decide), fun p3 n3 => ?_⟩
    · exact u9 _ _ (t8 _ _ (t7 _ _ (t6 _ _ (t5 _ _ upd_same))))
    have u10 := same_upd (o := HO.lst ([e0, e1, e2, e3, e4, e5, e6, e7, e8].map V.ref)) n3
    refine q _ p3 [e0, e1, e2, e3, e4, e5, e6, e7, e8] (((((((((((t0.trans t1).trans t2).trans t3).trans t4).trans u5).trans t5).trans t6).trans t7).trans t8).trans u9).trans u10) upd_same ?_
    exact .cons (.inl (((((((((((t1.trans t2).trans t3).trans t4).trans u5).trans t5).trans t6).trans t7).trans t8).trans u9).trans u10) _ _ upd_same)) (.cons (.inl ((((((((((t2.trans t3).trans t4).trans u5).trans t5).trans t6).trans t7).trans t8).trans u9).trans u10) _ _ upd_same)) (.cons (.inl (((((((((t3.trans t4).trans u5).trans t5).trans t6).trans t7).trans t8).trans u9).trans u10) _ _ upd_same)) (.cons (.inl ((((((((t4.trans u5).trans t5).trans t6).trans t7).trans t8).trans u9).trans u10) _ _ upd_same)) (.cons (.inl (((((((u5.trans t5).trans t6).trans t7).trans t8).trans u9).trans u10) _ _ upd_same)) (.cons (.inl (((((t6.trans t7).trans t8).trans u9).trans u10) _ _ upd_same)) (.cons (.inl ((((t7.trans t8).trans u9).trans u10) _ _ upd_same)) (.cons (.inl (((t8.trans u9).trans u10) _ _ upd_same)) (.cons (.inl ((u9.trans u10) _ _ upd_same)) (.nil)))))))))
/-! ### _law_value -/
def hide (b : Addr) (H : Hp) : Hp := fun a => if a = b then none else H a
theorem hide_at {b a : Addr} {H : Hp} (n : a ≠ b) : hide b H a = H a := if_neg n
theorem hide_keep {b : Addr} {H H' : Hp} (k : Keep b H H') : Same (hide b H) (hide b H') := fun a o e => by
  unfold hide at e ⊢
  by_cases h : a = b
  · rw [if_pos h] at e
    cases e
  · rw [if_neg h] at e ⊢
    exact k a o h e
theorem hide_same {b : Addr} {H : Hp} : Same (hide b H) H := fun a o e => by
  unfold hide at e
  by_cases h : a = b
  · rw [if_pos h] at e
    cases e
  · rw [if_neg h] at e
    exact e
theorem hide_none {b : Addr} {H0 H : Hp} (n : H0 b = none) (k : Same H0 H) : Same H0 (hide b H) := fun a o e => by
  rw [hide_at (ne_of_none e n)]
  exact k a o e
theorem its_new {K : PySem.W.Frag} {H : Hp} {b p : Addr} {n : Nat} {xs : List V} (g : Bag H b n) (np : H p = none) : Its K b (L2.upd H p (.lst xs)) (.ref p) xs := .inl ⟨p, rfl, fun e => by
  rw [e] at np
  exact g.ne np rfl, .inl (.inl (.inl upd_same))⟩
theorem RpA.pick {H : Hp} : ∀ {ds : List PyData} {xs : List V} {x : V}, RpA H ds xs → x ∈ xs → ∃ d ∈ ds, Rp H d x
  | [], _, _, e, h => by
    subst e
    cases h
  | d :: ds, _, _, ⟨y, ys, e, h1, h2⟩, h => by
    subst e
    cases h with
    | head => exact ⟨d, List.mem_cons_self, h1⟩
    | tail _ h =>
      obtain ⟨d', m, z⟩ := RpA.pick h2 h
      exact ⟨d', List.mem_cons_of_mem _ m, z⟩
theorem same_dict {H : Hp} {p t : Addr} {o1 o2 o3 : HO} (np : H p = none) (nt : L2.upd H p o1 t = none) : Same H (L2.upd (L2.upd (L2.upd H p o1) t o2) p o3) := fun a o e => by
  have h1 := ne_of_none e np
  rw [upd_ne h1, upd_ne (ne_of_none (H := L2.upd H p o1) (by rw [upd_ne h1]; exact e) nt), upd_ne h1]
  exact e
def valD : List PyData := [.none, .bool true, .int 0, .int (-7), .int (10 ^ 40), .str "", .str "T", .str "x y", .tuple [], .tuple [.int 1, .int 2], .list [], .list [.int 0], .dict [], .dict [(.str "T", .tuple [.int 1, .int 1])], .tuple [.tuple [.str "note"], .list [.none]],
  .tuple [.str "a", .str "a"], .tuple [.str "a", .str "b", .str "c", .str "d", .str "e"], .tuple [.str "full"], .str "full", .list [.str "a"], .str (txtRep (Str.ofString "a") 9), .int (10 ^ 60), .tuple [.tuple [.tuple [.str "a"]]]]
theorem sc_value : FnScope ["bag", "some"] ["bag"] (defScope s_L_value) := ⟨rfl, rfl, rfl, by decide +kernel, rfl, by decide +kernel, by decide +kernel⟩
def spValue : Sp := fun vs H Q _ => ∃ (b : Addr) (n : Nat), vs = [.ref b] ∧ Bag H b n ∧ n ≤ bagMost ∧ ∀ H' v d, Keep b H H' → Bag H' b (n + 1) → d ∈ valD → Rp (hide b H') d v → Q v H'

theorem hide_bag {H : Hp} {b n} (_ : Bag H b n) : ∀ a o, a ≠ b → H a = some o → hide b H a = some o := fun a o z e => (hide_at z).trans e
theorem none_back {H H1 : Hp} {a : Addr} (k : Same H H1) (n : H1 a = none) : H a = none := by
  cases e : H a with
  | none => rfl
  | some o => rw [k a o e] at n; cases n
theorem dif_ne {H : Hp} {p t : Addr} {o : HO} (n : L2.upd H p o t = none) : p ≠ t := fun e => by
  rw [← e, upd_same] at n
  cases n
theorem ok_value {f : Addr} {fd : FuncData} (F : Fun K "_law_value" "_law_value" s_L_value f fd) (cO : Cal P w K mg base 2 "_law_one" (spOne K)) : FnOk P w K mg base CX0 3 f fd ["bag"] spValue := by
  refine F.ok sc_value (fun vs H Q E h => ?_) (fun cdv A outer s H vs Q E hr h => ?_)
  · obtain ⟨b, n, rfl, _⟩ := h
    rfl
  · obtain ⟨b, n, rfl, g, nm, q⟩ := h
    refine ⟨_, (pss_cons (ps_set (i := 1) sc_value.nd rfl (.inl rfl) (pe_lst (pa_cons (pe_non) (pa_cons (pe_bl) (pa_cons (pe_int) (pa_cons (pe_un un_neg pe_int) (pa_cons (pe_op op_pow pe_int pe_int) (pa_cons (pe_str) (pa_cons (pe_str) (pa_cons (pe_str) (pa_cons (pe_tup pa_nil) (pa_cons (pe_tup (pa_cons (pe_int) (pa_cons (pe_int) pa_nil))) (pa_cons (pe_lst pa_nil) (pa_cons (pe_lst (pa_cons (pe_int) pa_nil)) (pa_cons (pe_dnewK) (pa_cons (pe_disp (pps_cons pe_str (pe_tup (pa_cons (pe_int) (pa_cons (pe_int) pa_nil))) pps_nil) (by rfl) (by rfl) (fun z => by cases z) (by decide)) (pa_cons (pe_tup (pa_cons (pe_tup (pa_cons (pe_str) pa_nil)) (pa_cons (pe_lst (pa_cons (pe_non) pa_nil)) pa_nil))) pa_nil)))))))))))))))))
      (pss_cons (ps_set (i := 1) sc_value.nd rfl (.inl rfl) (pe_op op_cat (pv 1) (pe_lst (pa_cons (pe_tup (pa_cons (pe_str) (pa_cons (pe_str) pa_nil))) (pa_cons (pe_tup (pa_cons (pe_str) (pa_cons (pe_str) (pa_cons (pe_str) (pa_cons (pe_str) (pa_cons (pe_str) pa_nil)))))) (pa_cons (pe_tup (pa_cons (pe_str) pa_nil)) (pa_cons (pe_str) (pa_cons (pe_lst (pa_cons (pe_str) pa_nil)) (pa_cons (pe_op op_repS pe_str pe_int) (pa_cons (pe_op op_pow pe_int pe_int) (pa_cons (pe_tup (pa_cons (pe_tup (pa_cons (pe_tup (pa_cons (pe_str) pa_nil)) pa_nil)) pa_nil)) pa_nil)))))))))))
      (pss_one (ps_ret (C8.pe_c cO hr (by omega) (by rfl) (pa_cons (pv 0) (pa_cons (pv 1) pa_nil))))))), ?_⟩
    refine ⟨_, rfl, ⟨10, 40, rfl, rfl, ⟨by decide, by decide, by decide⟩, ⟨(show 0 ≤ sizeLine by decide), fun a1 n1 => ⟨(show 2 ≤ sizeLine by decide), fun a2 n2 => ⟨(show 0 ≤ sizeLine by decide), fun a3 n3 => ⟨(show 1 ≤ sizeLine by decide), fun a4 n4 => fun a5 n5 => fun a6 n6 => ⟨(show 2 ≤ sizeLine by decide), fun a7 n7 => ⟨(upd_ne (dif_ne n7)).trans upd_same, [(Sum.inr (Str.ofString "T"), V.ref a7)], rfl, (show 1 ≤ 15 by decide), ⟨(show 1 ≤ sizeLine by decide), fun a8 n8 => ⟨(show 1 ≤ sizeLine by decide), fun a9 n9 => ⟨(show 2 ≤ sizeLine by decide), fun a10 n10 => ⟨(show 15 ≤ sizeLine by decide), fun p1 q1 => ?_⟩⟩⟩⟩⟩⟩⟩⟩⟩⟩⟩⟩
    have da7 : a7 ≠ a6 := fun e => dif_ne n7 e.symm
    have s1 := same_upd n1 (o := HO.tup [])
    have s2 := same_upd n2 (o := HO.tup [.int 1, .int 2])
    have s3 := same_upd n3 (o := HO.lst [])
    have s4 := same_upd n4 (o := HO.lst [.int 0])
    have s5 := same_upd n5 (o := HO.dK [])
    have s7 := same_dict (o1 := HO.dK []) (o2 := HO.tup [.int 1, .int 1]) (o3 := HO.dK (mergeK [] [(Sum.inr (Str.ofString "T"), V.ref a7)])) n6 n7
    have s8 := same_upd n8 (o := HO.tup [.str "note"])
    have s9 := same_upd n9 (o := HO.lst [.non])
    have s10 := same_upd n10 (o := HO.tup [.ref a8, .ref a9])
    have u1 := same_upd q1 (o := HO.lst [.non, .bl true, .int 0, .int (-7), .int (10 ^ (40 : Int).toNat), .str "", .str "T", .str "x y", .ref a1, .ref a2, .ref a3, .ref a4, .ref a5, .ref a6, .ref a10])
    refine ⟨_, rfl, ⟨(show 2 ≤ sizeLine by decide), fun a11 n11 => ⟨(show 5 ≤ sizeLine by decide), fun a12 n12 => ⟨(show 1 ≤ sizeLine by decide), fun a13 n13 => ⟨(show 1 ≤ sizeLine by decide), fun a14 n14 => ⟨Str.ofString "a", 9, rfl, rfl, by decide, by decide, by decide, by decide, ⟨10, 60, rfl, rfl, ⟨by decide, by decide, by decide⟩, ⟨(show 1 ≤ sizeLine by decide), fun a15 n15 => ⟨(show 1 ≤ sizeLine by decide), fun a16 n16 => ⟨(show 1 ≤ sizeLine by decide), fun a17 n17 => ⟨(show 8 ≤ sizeLine by decide), fun p2 q2 => ?_⟩⟩⟩⟩⟩⟩⟩⟩⟩⟩⟩
    have s11 := same_upd n11 (o := HO.tup [.str "a", .str "a"])
    have s12 := same_upd n12 (o := HO.tup [.str "a", .str "b", .str "c", .str "d", .str "e"])
    have s13 := same_upd n13 (o := HO.tup [.str "full"])
    have s14 := same_upd n14 (o := HO.lst [.str "a"])
    have s15 := same_upd n15 (o := HO.tup [.str "a"])
    have s16 := same_upd n16 (o := HO.tup [.ref a15])
    have s17 := same_upd n17 (o := HO.tup [.ref a16])
    have u2 := same_upd q2 (o := HO.lst [.ref a11, .ref a12, .ref a13, .str "full", .ref a14, .str (txtRep (Str.ofString "a") 9), .int (10 ^ (60 : Int).toNat), .ref a17])
    refine ⟨p1, p2, _, _, rfl, rfl, (((((((s11.trans s12).trans s13).trans s14).trans s15).trans s16).trans s17).trans u2) _ _ upd_same, upd_same, (show 15 + 8 ≤ sizeLine by decide), fun p3 q3 => ?_⟩
    have u3 := same_upd q3 (o := HO.lst [.non, .bl true, .int 0, .int (-7), .int (10 ^ (40 : Int).toNat), .str "", .str "T", .str "x y", .ref a1, .ref a2, .ref a3, .ref a4, .ref a5, .ref a6, .ref a10, .ref a11, .ref a12, .ref a13, .str "full", .ref a14, .str (txtRep (Str.ofString "a") 9), .int (10 ^ (60 : Int).toNat), .ref a17])
    have all0 : Same H _ := ((((((((((((((((((s1.trans s2).trans s3).trans s4).trans s5).trans s7).trans s8).trans s9).trans s10).trans u1).trans s11).trans s12).trans s13).trans s14).trans s15).trans s16).trans s17).trans u2).trans u3)
    have g1 := g.same (((((((((((((((((s1.trans s2).trans s3).trans s4).trans s5).trans s7).trans s8).trans s9).trans s10).trans u1).trans s11).trans s12).trans s13).trans s14).trans s15).trans s16).trans s17).trans u2)
    have g3 := g1.new q3 (o := HO.lst [.non, .bl true, .int 0, .int (-7), .int (10 ^ (40 : Int).toNat), .str "", .str "T", .str "x y", .ref a1, .ref a2, .ref a3, .ref a4, .ref a5, .ref a6, .ref a10, .ref a11, .ref a12, .ref a13, .str "full", .ref a14, .str (txtRep (Str.ofString "a") 9), .int (10 ^ (60 : Int).toNat), .ref a17])
    have hb : hide b H b = none := if_pos rfl
    refine ⟨.ref b, rfl, _, rfl, b, _, _, _, rfl, its_new g1 q3, (fun z => nomatch z), (show 23 ≤ 100000 by decide), g3, nm, fun H' x kp g' hx => ?_⟩
    have nea1 : a1 ≠ b := (g.ne (n1)).symm
    have nea2 : a2 ≠ b := (g.ne (none_back s1 n2)).symm
    have nea3 : a3 ≠ b := (g.ne (none_back (s1.trans s2) n3)).symm
    have nea4 : a4 ≠ b := (g.ne (none_back ((s1.trans s2).trans s3) n4)).symm
    have nea5 : a5 ≠ b := (g.ne (none_back (((s1.trans s2).trans s3).trans s4) n5)).symm
    have nea6 : a6 ≠ b := (g.ne (none_back ((((s1.trans s2).trans s3).trans s4).trans s5) n6)).symm
    have nea7 : a7 ≠ b := (g.ne (none_back (((((s1.trans s2).trans s3).trans s4).trans s5).trans (same_upd n6)) n7)).symm
    have nea8 : a8 ≠ b := (g.ne (none_back (((((s1.trans s2).trans s3).trans s4).trans s5).trans s7) n8)).symm
    have nea9 : a9 ≠ b := (g.ne (none_back ((((((s1.trans s2).trans s3).trans s4).trans s5).trans s7).trans s8) n9)).symm
    have nea10 : a10 ≠ b := (g.ne (none_back (((((((s1.trans s2).trans s3).trans s4).trans s5).trans s7).trans s8).trans s9) n10)).symm
    have nea11 : a11 ≠ b := (g.ne (none_back (((((((((s1.trans s2).trans s3).trans s4).trans s5).trans s7).trans s8).trans s9).trans s10).trans u1) n11)).symm
    have nea12 : a12 ≠ b := (g.ne (none_back ((((((((((s1.trans s2).trans s3).trans s4).trans s5).trans s7).trans s8).trans s9).trans s10).trans u1).trans s11) n12)).symm
    have nea13 : a13 ≠ b := (g.ne (none_back (((((((((((s1.trans s2).trans s3).trans s4).trans s5).trans s7).trans s8).trans s9).trans s10).trans u1).trans s11).trans s12) n13)).symm
    have nea14 : a14 ≠ b := (g.ne (none_back ((((((((((((s1.trans s2).trans s3).trans s4).trans s5).trans s7).trans s8).trans s9).trans s10).trans u1).trans s11).trans s12).trans s13) n14)).symm
    have nea15 : a15 ≠ b := (g.ne (none_back (((((((((((((s1.trans s2).trans s3).trans s4).trans s5).trans s7).trans s8).trans s9).trans s10).trans u1).trans s11).trans s12).trans s13).trans s14) n15)).symm
    have nea16 : a16 ≠ b := (g.ne (none_back ((((((((((((((s1.trans s2).trans s3).trans s4).trans s5).trans s7).trans s8).trans s9).trans s10).trans u1).trans s11).trans s12).trans s13).trans s14).trans s15) n16)).symm
    have nea17 : a17 ≠ b := (g.ne (none_back (((((((((((((((s1.trans s2).trans s3).trans s4).trans s5).trans s7).trans s8).trans s9).trans s10).trans u1).trans s11).trans s12).trans s13).trans s14).trans s15).trans s16) n17)).symm
    have hd := hide_bag g3
    have R : RpA (hide b _) valD [.non, .bl true, .int 0, .int (-7), .int (10 ^ (40 : Int).toNat), .str "", .str "T", .str "x y", .ref a1, .ref a2, .ref a3, .ref a4, .ref a5, .ref a6, .ref a10, .ref a11, .ref a12, .ref a13, .str "full", .ref a14, .str (txtRep (Str.ofString "a") 9), .int (10 ^ (60 : Int).toNat), .ref a17] := ⟨_, _, rfl, rfl, ⟨_, _, rfl, rfl, ⟨_, _, rfl, rfl, ⟨_, _, rfl, rfl, ⟨_, _, rfl, rfl, ⟨_, _, rfl, rfl, ⟨_, _, rfl, rfl, ⟨_, _, rfl, rfl, ⟨_, _, rfl, ⟨a1, _, rfl, (hd _ _ nea1 ((((((((((((((((((s2.trans s3).trans s4).trans s5).trans s7).trans s8).trans s9).trans s10).trans u1).trans s11).trans s12).trans s13).trans s14).trans s15).trans s16).trans s17).trans u2).trans u3) _ _ upd_same)), rfl⟩, ⟨_, _, rfl, ⟨a2, _, rfl, (hd _ _ nea2 (((((((((((((((((s3.trans s4).trans s5).trans s7).trans s8).trans s9).trans s10).trans u1).trans s11).trans s12).trans s13).trans s14).trans s15).trans s16).trans s17).trans u2).trans u3) _ _ upd_same)), ⟨_, _, rfl, rfl, ⟨_, _, rfl, rfl, rfl⟩⟩⟩, ⟨_, _, rfl, ⟨a3, _, rfl, (hd _ _ nea3 ((((((((((((((((s4.trans s5).trans s7).trans s8).trans s9).trans s10).trans u1).trans s11).trans s12).trans s13).trans s14).trans s15).trans s16).trans s17).trans u2).trans u3) _ _ upd_same)), rfl⟩, ⟨_, _, rfl, ⟨a4, _, rfl, (hd _ _ nea4 (((((((((((((((s5.trans s7).trans s8).trans s9).trans s10).trans u1).trans s11).trans s12).trans s13).trans s14).trans s15).trans s16).trans s17).trans u2).trans u3) _ _ upd_same)), ⟨_, _, rfl, rfl, rfl⟩⟩, ⟨_, _, rfl, ⟨a5, _, rfl, (hd _ _ nea5 ((((((((((((((s7.trans s8).trans s9).trans s10).trans u1).trans s11).trans s12).trans s13).trans s14).trans s15).trans s16).trans s17).trans u2).trans u3) _ _ upd_same)), rfl⟩, ⟨_, _, rfl, ⟨a6, _, rfl, (hd _ _ nea6 (((((((((((((s8.trans s9).trans s10).trans u1).trans s11).trans s12).trans s13).trans s14).trans s15).trans s16).trans s17).trans u2).trans u3) _ _ upd_same)), ⟨_, _, _, rfl, rfl, ⟨a7, _, rfl, (hd _ _ nea7 (((((((((((((s8.trans s9).trans s10).trans u1).trans s11).trans s12).trans s13).trans s14).trans s15).trans s16).trans s17).trans u2).trans u3) _ _ ((upd_ne da7).trans upd_same))), ⟨_, _, rfl, rfl, ⟨_, _, rfl, rfl, rfl⟩⟩⟩, rfl⟩⟩, ⟨_, _, rfl, ⟨a10, _, rfl, (hd _ _ nea10 ((((((((((u1.trans s11).trans s12).trans s13).trans s14).trans s15).trans s16).trans s17).trans u2).trans u3) _ _ upd_same)), ⟨_, _, rfl, ⟨a8, _, rfl, (hd _ _ nea8 ((((((((((((s9.trans s10).trans u1).trans s11).trans s12).trans s13).trans s14).trans s15).trans s16).trans s17).trans u2).trans u3) _ _ upd_same)), ⟨_, _, rfl, rfl, rfl⟩⟩, ⟨_, _, rfl, ⟨a9, _, rfl, (hd _ _ nea9 (((((((((((s10.trans u1).trans s11).trans s12).trans s13).trans s14).trans s15).trans s16).trans s17).trans u2).trans u3) _ _ upd_same)), ⟨_, _, rfl, rfl, rfl⟩⟩, rfl⟩⟩⟩, ⟨_, _, rfl, ⟨a11, _, rfl, (hd _ _ nea11 ((((((((s12.trans s13).trans s14).trans s15).trans s16).trans s17).trans u2).trans u3) _ _ upd_same)), ⟨_, _, rfl, rfl, ⟨_, _, rfl, rfl, rfl⟩⟩⟩, ⟨_, _, rfl, ⟨a12, _, rfl, (hd _ _ nea12 (((((((s13.trans s14).trans s15).trans s16).trans s17).trans u2).trans u3) _ _ upd_same)), ⟨_, _, rfl, rfl, ⟨_, _, rfl, rfl, ⟨_, _, rfl, rfl, ⟨_, _, rfl, rfl, ⟨_, _, rfl, rfl, rfl⟩⟩⟩⟩⟩⟩, ⟨_, _, rfl, ⟨a13, _, rfl, (hd _ _ nea13 ((((((s14.trans s15).trans s16).trans s17).trans u2).trans u3) _ _ upd_same)), ⟨_, _, rfl, rfl, rfl⟩⟩, ⟨_, _, rfl, rfl, ⟨_, _, rfl, ⟨a14, _, rfl, (hd _ _ nea14 (((((s15.trans s16).trans s17).trans u2).trans u3) _ _ upd_same)), ⟨_, _, rfl, rfl, rfl⟩⟩, ⟨_, _, rfl, rfl, ⟨_, _, rfl, rfl, ⟨_, _, rfl, ⟨a17, _, rfl, (hd _ _ nea17 ((u2.trans u3) _ _ upd_same)), ⟨_, _, rfl, ⟨a16, _, rfl, (hd _ _ nea16 (((s17.trans u2).trans u3) _ _ upd_same)), ⟨_, _, rfl, ⟨a15, _, rfl, (hd _ _ nea15 ((((s16.trans s17).trans u2).trans u3) _ _ upd_same)), ⟨_, _, rfl, rfl, rfl⟩⟩, rfl⟩⟩, rfl⟩⟩, rfl⟩⟩⟩⟩⟩⟩⟩⟩⟩⟩⟩⟩⟩⟩⟩⟩⟩⟩⟩⟩⟩⟩⟩
    obtain ⟨d, hm, hd'⟩ := R.pick hx
    exact q H' x d ((Keep.of all0).trans kp) g' hm (hd'.same (hide_keep kp))
/-! ### the errors with a field: their __init__, and _law_errors_right -/
/-- an own class of errors with an __init__ that keeps its argument -/
structure KeepC (K : PySem.W.Frag) (f : Str) (C fI : Addr) : Prop where
  T : OwnC K C
  iC : PySem.W.findIn K (.ref C) "__init__" = some (some (.ref fI))
  tI : PySem.W.typeIn K (.ref fI) = some (.type "function")
  no : PySem.W.findIn K (.ref C) f = some none
  X : XfC K C
  E : ExcC K C
def s_init0 : Stmt := inClass s_ParseError 0
theorem sc_init0 : FnScope ["self", "line"] ["self", "line"] (defScope s_init0) := ⟨rfl, rfl, rfl, by decide +kernel, rfl, by decide +kernel, by decide +kernel⟩
theorem ok_init0 {f C fI : Addr} {fd : FuncData} (T : KeepC K "line" C fI) (F : Fun K "__init__" "ParseError.__init__" s_init0 f fd) : FnOk P w K mg base CX0 1 f fd ["self", "line"] (spInit C "line") := by
  refine F.ok sc_init0 (fun vs H Q E h => ?_) (fun cdv A outer s H vs Q E hr h => ?_)
  · obtain ⟨a, v, rfl, _⟩ := h
    rfl
  · obtain ⟨a, v, rfl, ha, q⟩ := h
    exact ⟨_, (pss_one (ps_own (pv 0) (pv 1))), _, rfl, _, rfl, a, C, rfl, T.T, T.no, ha, fun dx nd ne => q dx nd ne⟩
def s_init1 : Stmt := inClass s_UnknownName 0
theorem sc_init1 : FnScope ["self", "wanted"] ["self", "wanted"] (defScope s_init1) := ⟨rfl, rfl, rfl, by decide +kernel, rfl, by decide +kernel, by decide +kernel⟩
theorem ok_init1 {f C fI : Addr} {fd : FuncData} (T : KeepC K "wanted" C fI) (F : Fun K "__init__" "UnknownName.__init__" s_init1 f fd) : FnOk P w K mg base CX0 1 f fd ["self", "wanted"] (spInit C "wanted") := by
  refine F.ok sc_init1 (fun vs H Q E h => ?_) (fun cdv A outer s H vs Q E hr h => ?_)
  · obtain ⟨a, v, rfl, _⟩ := h
    rfl
  · obtain ⟨a, v, rfl, ha, q⟩ := h
    exact ⟨_, (pss_one (ps_own (pv 0) (pv 1))), _, rfl, _, rfl, a, C, rfl, T.T, T.no, ha, fun dx nd ne => q dx nd ne⟩
def s_init2 : Stmt := inClass s_NothingToUndo 0
theorem sc_init2 : FnScope ["self", "many"] ["self", "many"] (defScope s_init2) := ⟨rfl, rfl, rfl, by decide +kernel, rfl, by decide +kernel, by decide +kernel⟩
theorem ok_init2 {f C fI : Addr} {fd : FuncData} (T : KeepC K "many" C fI) (F : Fun K "__init__" "NothingToUndo.__init__" s_init2 f fd) : FnOk P w K mg base CX0 1 f fd ["self", "many"] (spInit C "many") := by
  refine F.ok sc_init2 (fun vs H Q E h => ?_) (fun cdv A outer s H vs Q E hr h => ?_)
  · obtain ⟨a, v, rfl, _⟩ := h
    rfl
  · obtain ⟨a, v, rfl, ha, q⟩ := h
    exact ⟨_, (pss_one (ps_own (pv 0) (pv 1))), _, rfl, _, rfl, a, C, rfl, T.T, T.no, ha, fun dx nd ne => q dx nd ne⟩
def s_init3 : Stmt := inClass s_NotReached 0
theorem sc_init3 : FnScope ["self", "point"] ["self", "point"] (defScope s_init3) := ⟨rfl, rfl, rfl, by decide +kernel, rfl, by decide +kernel, by decide +kernel⟩
theorem ok_init3 {f C fI : Addr} {fd : FuncData} (T : KeepC K "point" C fI) (F : Fun K "__init__" "NotReached.__init__" s_init3 f fd) : FnOk P w K mg base CX0 1 f fd ["self", "point"] (spInit C "point") := by
  refine F.ok sc_init3 (fun vs H Q E h => ?_) (fun cdv A outer s H vs Q E hr h => ?_)
  · obtain ⟨a, v, rfl, _⟩ := h
    rfl
  · obtain ⟨a, v, rfl, ha, q⟩ := h
    exact ⟨_, (pss_one (ps_own (pv 0) (pv 1))), _, rfl, _, rfl, a, C, rfl, T.T, T.no, ha, fun dx nd ne => q dx nd ne⟩
def s_init4 : Stmt := inClass s_TooMany 0
theorem sc_init4 : FnScope ["self", "limit"] ["self", "limit"] (defScope s_init4) := ⟨rfl, rfl, rfl, by decide +kernel, rfl, by decide +kernel, by decide +kernel⟩
theorem ok_init4 {f C fI : Addr} {fd : FuncData} (T : KeepC K "limit" C fI) (F : Fun K "__init__" "TooMany.__init__" s_init4 f fd) : FnOk P w K mg base CX0 1 f fd ["self", "limit"] (spInit C "limit") := by
  refine F.ok sc_init4 (fun vs H Q E h => ?_) (fun cdv A outer s H vs Q E hr h => ?_)
  · obtain ⟨a, v, rfl, _⟩ := h
    rfl
  · obtain ⟨a, v, rfl, ha, q⟩ := h
    exact ⟨_, (pss_one (ps_own (pv 0) (pv 1))), _, rfl, _, rfl, a, C, rfl, T.T, T.no, ha, fun dx nd ne => q dx nd ne⟩
def s_init5 : Stmt := inClass s_Refused 0
theorem sc_init5 : FnScope ["self", "claim"] ["self", "claim"] (defScope s_init5) := ⟨rfl, rfl, rfl, by decide +kernel, rfl, by decide +kernel, by decide +kernel⟩
theorem ok_init5 {f C fI : Addr} {fd : FuncData} (T : KeepC K "claim" C fI) (F : Fun K "__init__" "Refused.__init__" s_init5 f fd) : FnOk P w K mg base CX0 1 f fd ["self", "claim"] (spInit C "claim") := by
  refine F.ok sc_init5 (fun vs H Q E h => ?_) (fun cdv A outer s H vs Q E hr h => ?_)
  · obtain ⟨a, v, rfl, _⟩ := h
    rfl
  · obtain ⟨a, v, rfl, ha, q⟩ := h
    exact ⟨_, (pss_one (ps_own (pv 0) (pv 1))), _, rfl, _, rfl, a, C, rfl, T.T, T.no, ha, fun dx nd ne => q dx nd ne⟩
def s_init6 : Stmt := inClass s_InvalidNumber 0
theorem sc_init6 : FnScope ["self", "given"] ["self", "given"] (defScope s_init6) := ⟨rfl, rfl, rfl, by decide +kernel, rfl, by decide +kernel, by decide +kernel⟩
theorem ok_init6 {f C fI : Addr} {fd : FuncData} (T : KeepC K "given" C fI) (F : Fun K "__init__" "InvalidNumber.__init__" s_init6 f fd) : FnOk P w K mg base CX0 1 f fd ["self", "given"] (spInit C "given") := by
  refine F.ok sc_init6 (fun vs H Q E h => ?_) (fun cdv A outer s H vs Q E hr h => ?_)
  · obtain ⟨a, v, rfl, _⟩ := h
    rfl
  · obtain ⟨a, v, rfl, ha, q⟩ := h
    exact ⟨_, (pss_one (ps_own (pv 0) (pv 1))), _, rfl, _, rfl, a, C, rfl, T.T, T.no, ha, fun dx nd ne => q dx nd ne⟩
theorem eqv_blA : ∀ bs : List Bool, PyData.eqvAll (bs.map .bool) (bs.map .bool) = true
  | [] => rfl
  | b :: r => by
    show (PyData.eqv (.bool b) (.bool b) && PyData.eqvAll (r.map .bool) (r.map .bool)) = true
    rw [eqv_blA r]
    cases b <;> rfl
theorem eqv_bl (bs : List Bool) : PyData.eqv (.list (bs.map .bool)) (.list (bs.map .bool)) = true := eqv_blA bs
theorem put_at {H : Hp} {p : Addr} {o : HO} (_ : H p = none) : L2.upd H p o p = some o := upd_same
theorem rpa7 {H : Hp} {d : PyData} {v : V} (h : Rp H d v) : RpA H [d, d, d, d, d, d, d] [v, v, v, v, v, v, v] := ⟨_, _, rfl, h, _, _, rfl, h, _, _, rfl, h, _, _, rfl, h, _, _, rfl, h, _, _, rfl, h, _, _, rfl, h, rfl⟩
abbrev errN : List Str := ["value", "kept", "told", "own", "python", "spot"]
theorem sc_err : FnScope errN ["value"] (defScope s_L_errors_right) := ⟨rfl, rfl, rfl, by decide +kernel, rfl, by decide +kernel, by decide +kernel⟩
def spErr : Sp := fun vs H Q _ => ∃ (v : V) (d : PyData), vs = [v] ∧ Rp H d v ∧ reprable [d, d, d, d, d, d, d] = true ∧ ∀ H', Same H H' → Q (.bl true) H'
theorem ok_err {f : Addr} {fd fd0 fd1 fd2 fd3 fd4 fd5 fd6 : FuncData} {c0 c1 c2 c3 c4 c5 c6 c7 c8 c9 c10 c11 c12 c13 c14 c15 i0 i1 i2 i3 i4 i5 i6 : Addr} (F : Fun K "_law_errors_right" "_law_errors_right" s_L_errors_right f fd) (mRp : mg "repr" = none) (mR : mg "range" = none) (G : ClsG mg c0 c1 c2 c3 c4 c5 c6 c7 c8 c9 c10 c11 c12 c13 c14 c15) (T0 : KeepC K "line" c9 i0) (J0 : FnOk P w K mg base CX0 1 i0 fd0 ["self", "line"] (spInit c9 "line")) (b0 : Binds K fd0 ["self", "line"] []) (T1 : KeepC K "wanted" c10 i1) (J1 : FnOk P w K mg base CX0 1 i1 fd1 ["self", "wanted"] (spInit c10 "wanted")) (b1 : Binds K fd1 ["self", "wanted"] []) (T2 : KeepC K "many" c11 i2) (J2 : FnOk P w K mg base CX0 1 i2 fd2 ["self", "many"] (spInit c11 "many")) (b2 : Binds K fd2 ["self", "many"] []) (T3 : KeepC K "point" c12 i3) (J3 : FnOk P w K mg base CX0 1 i3 fd3 ["self", "point"] (spInit c12 "point")) (b3 : Binds K fd3 ["self", "point"] []) (T4 : KeepC K "limit" c13 i4) (J4 : FnOk P w K mg base CX0 1 i4 fd4 ["self", "limit"] (spInit c13 "limit")) (b4 : Binds K fd4 ["self", "limit"] []) (T5 : KeepC K "claim" c14 i5) (J5 : FnOk P w K mg base CX0 1 i5 fd5 ["self", "claim"] (spInit c14 "claim")) (b5 : Binds K fd5 ["self", "claim"] []) (T6 : KeepC K "given" c15 i6) (J6 : FnOk P w K mg base CX0 1 i6 fd6 ["self", "given"] (spInit c15 "given")) (b6 : Binds K fd6 ["self", "given"] [])
    (R0 : Row16 K c9 c0 c1 c2 c3 c4 c5 c6 c7 c8 c9 c10 c11 c12 c13 c14 c15 true false false false false false false false false true false false false false false false) (S0 : Row7 K c9 true false false false false false false) (R1 : Row16 K c10 c0 c1 c2 c3 c4 c5 c6 c7 c8 c9 c10 c11 c12 c13 c14 c15 false false false false false false false false false false true false false false false false) (S1 : Row7 K c10 false true true false false false false) (R2 : Row16 K c11 c0 c1 c2 c3 c4 c5 c6 c7 c8 c9 c10 c11 c12 c13 c14 c15 false false false false false false false false false false false true false false false false) (S2 : Row7 K c11 false true false true false false false) (R3 : Row16 K c12 c0 c1 c2 c3 c4 c5 c6 c7 c8 c9 c10 c11 c12 c13 c14 c15 false false false false false false false false false false false false true false false false) (S3 : Row7 K c12 false true false false false false false) (R4 : Row16 K c13 c0 c1 c2 c3 c4 c5 c6 c7 c8 c9 c10 c11 c12 c13 c14 c15 false false false false false false false false false false false false false true false false) (S4 : Row7 K c13 false false false false true true false) (R5 : Row16 K c14 c0 c1 c2 c3 c4 c5 c6 c7 c8 c9 c10 c11 c12 c13 c14 c15 false false false false false false false false false false false false false false true false) (S5 : Row7 K c14 false false false false true false false) (R6 : Row16 K c15 c0 c1 c2 c3 c4 c5 c6 c7 c8 c9 c10 c11 c12 c13 c14 c15 false false false false false false false false false false false false false false false true) (S6 : Row7 K c15 false false false false false false true)
    (cO : Cal P w K mg base 1 "_law_own" (spOwn K c0 c1 c2 c3 c4 c5 c6 c7 c8 c9 c10 c11 c12 c13 c14 c15)) (cP : Cal P w K mg base 1 "_law_python" (spPy K)) (cR : Cal P w K mg base 1 "_law_row" spRow) : FnG P w K mg base 3 f fd ["value"] spErr := by
  refine okG F sc_err (fun vs H Q E h => ?_) (fun cdv A outer s H vs Q E gd hr h => ?_)
  · obtain ⟨v, d, rfl, _⟩ := h
    rfl
  · obtain ⟨v, d, rfl, rv, rp, q⟩ := h
    refine ⟨_, (pss_cons (ps_set (i := 1) sc_err.nd rfl (.inl rfl) (pe_lst (pa_cons (pe_own T0.T T0.iC T0.tI J0 (hr.mono (by omega)) b0 pass0 (by rfl) G.g9 (pa_cons (pv 0) pa_nil)) (pa_cons (pe_own T1.T T1.iC T1.tI J1 (hr.mono (by omega)) b1 pass0 (by rfl) G.g10 (pa_cons (pv 0) pa_nil)) (pa_cons (pe_own T2.T T2.iC T2.tI J2 (hr.mono (by omega)) b2 pass0 (by rfl) G.g11 (pa_cons (pv 0) pa_nil)) (pa_cons (pe_own T3.T T3.iC T3.tI J3 (hr.mono (by omega)) b3 pass0 (by rfl) G.g12 (pa_cons (pv 0) pa_nil)) (pa_cons (pe_own T4.T T4.iC T4.tI J4 (hr.mono (by omega)) b4 pass0 (by rfl) G.g13 (pa_cons (pv 0) pa_nil)) pa_nil)))))))
      (pss_cons (ps_set (i := 1) sc_err.nd rfl (.inl rfl) (pe_op op_cat (pv 1) (pe_lst (pa_cons (pe_own T5.T T5.iC T5.tI J5 (hr.mono (by omega)) b5 pass0 (by rfl) G.g14 (pa_cons (pv 0) pa_nil)) (pa_cons (pe_own T6.T T6.iC T6.tI J6 (hr.mono (by omega)) b6 pass0 (by rfl) G.g15 (pa_cons (pv 0) pa_nil)) pa_nil)))))
      (pss_cons (ps_set (i := 2) sc_err.nd rfl (.inl rfl) (pe_lst (pa_cons (pe_errf rfl (pe_ix ix_list (pv 1) pe_int (fun _ _ => rfl))) (pa_cons (pe_errf rfl (pe_ix ix_list (pv 1) pe_int (fun _ _ => rfl))) (pa_cons (pe_errf rfl (pe_ix ix_list (pv 1) pe_int (fun _ _ => rfl))) (pa_cons (pe_errf rfl (pe_ix ix_list (pv 1) pe_int (fun _ _ => rfl))) (pa_cons (pe_errf rfl (pe_ix ix_list (pv 1) pe_int (fun _ _ => rfl))) (pa_cons (pe_errf rfl (pe_ix ix_list (pv 1) pe_int (fun _ _ => rfl))) (pa_cons (pe_errf rfl (pe_ix ix_list (pv 1) pe_int (fun _ _ => rfl))) pa_nil)))))))))
      (pss_cons (ps_if (pt_cmpR op_ne (pe_callB (call_reprL gd hr) (by rfl) mRp (by decide +kernel) (pa_cons (pv 2) pa_nil)) (pe_callB (call_reprL gd hr) (by rfl) mRp (by decide +kernel) (pa_cons (pe_op op_rep (pe_lst (pa_cons (pv 0) pa_nil)) pe_int) pa_nil)) (nomark _)) (pss_one (ps_ret pe_bl)) pss_nil)
      (pss_cons (ps_set (i := 3) sc_err.nd rfl (.inl rfl) (pe_lst (pa_cons (pe_lst (pa_cons (pe_int) (pa_cons (pe_int) pa_nil))) (pa_cons (pe_lst (pa_cons (pe_int) pa_nil)) (pa_cons (pe_lst (pa_cons (pe_int) pa_nil)) (pa_cons (pe_lst (pa_cons (pe_int) pa_nil)) (pa_cons (pe_lst (pa_cons (pe_int) pa_nil)) (pa_cons (pe_lst (pa_cons (pe_int) pa_nil)) (pa_cons (pe_lst (pa_cons (pe_int) pa_nil)) pa_nil)))))))))
      (pss_cons (ps_set (i := 4) sc_err.nd rfl (.inl rfl) (pe_lst (pa_cons (pe_lst (pa_cons (pe_int) pa_nil)) (pa_cons (pe_lst (pa_cons (pe_int) (pa_cons (pe_int) pa_nil))) (pa_cons (pe_lst (pa_cons (pe_int) (pa_cons (pe_int) pa_nil))) (pa_cons (pe_lst (pa_cons (pe_int) pa_nil)) (pa_cons (pe_lst (pa_cons (pe_int) (pa_cons (pe_int) pa_nil))) (pa_cons (pe_lst (pa_cons (pe_int) pa_nil)) (pa_cons (pe_lst (pa_cons (pe_int) pa_nil)) pa_nil)))))))))
      (pss_cons (ps_for PassesOwn.never rfl (pi_range1 (by rfl) mR (pa_cons (pe_int) pa_nil)) (pg_name (i := 5) sc_err.nd rfl (Or.inl rfl)) (pss_one (ps_if (PW.pt (pw_or (pt_cmpR (op_neD hr.units) (C8.pe_c cO hr (by omega) (by rfl) (pa_cons (pe_ix ix_list (pv 1) (pv 5) (fun _ _ => rfl)) pa_nil)) (C8.pe_c cR hr (by omega) (by rfl) (pa_cons (pe_int) (pa_cons (pe_ix ix_list (pv 3) (pv 5) (fun _ _ => rfl)) pa_nil))) (nomark _))
          (pw_or1 (pt_cmpR (op_neD hr.units) (C8.pe_c cP hr (by omega) (by rfl) (pa_cons (pe_ix ix_list (pv 1) (pv 5) (fun _ _ => rfl)) pa_nil)) (C8.pe_c cR hr (by omega) (by rfl) (pa_cons (pe_int) (pa_cons (pe_ix ix_list (pv 4) (pv 5) (fun _ _ => rfl)) pa_nil))) (nomark _))))) (pss_one (ps_ret pe_bl)) pss_nil)))
      (pss_one (ps_ret pe_bl))))))))), ?_⟩
    refine ⟨_, rfl, (show 1 ≤ 1000 by decide), fun e0 m0 => ⟨e0, v, rfl, upd_same, fun d0 n0 x0 => ⟨rfl, ⟨_, rfl, (show 1 ≤ 1000 by decide), fun e1 m1 => ⟨e1, v, rfl, upd_same, fun d1 n1 x1 => ⟨rfl, ⟨_, rfl, (show 1 ≤ 1000 by decide), fun e2 m2 => ⟨e2, v, rfl, upd_same, fun d2 n2 x2 => ⟨rfl, ⟨_, rfl, (show 1 ≤ 1000 by decide), fun e3 m3 => ⟨e3, v, rfl, upd_same, fun d3 n3 x3 => ⟨rfl, ⟨_, rfl, (show 1 ≤ 1000 by decide), fun e4 m4 => ⟨e4, v, rfl, upd_same, fun d4 n4 x4 => ⟨rfl, ⟨(show 5 ≤ sizeLine by decide), fun p1 q1 => ?_⟩⟩⟩⟩⟩⟩⟩⟩⟩⟩⟩⟩⟩⟩⟩⟩
    have t0 := same_dict (o1 := exo e0 c9 none) (o2 := exd d0 [("line", v)]) (o3 := exo e0 c9 (some d0)) m0 n0
    have t1 := same_dict (o1 := exo e1 c10 none) (o2 := exd d1 [("wanted", v)]) (o3 := exo e1 c10 (some d1)) m1 n1
    have t2 := same_dict (o1 := exo e2 c11 none) (o2 := exd d2 [("many", v)]) (o3 := exo e2 c11 (some d2)) m2 n2
    have t3 := same_dict (o1 := exo e3 c12 none) (o2 := exd d3 [("point", v)]) (o3 := exo e3 c12 (some d3)) m3 n3
    have t4 := same_dict (o1 := exo e4 c13 none) (o2 := exd d4 [("limit", v)]) (o3 := exo e4 c13 (some d4)) m4 n4
    have u1 := same_upd q1 (o := HO.lst ([e0, e1, e2, e3, e4].map V.ref))
    refine ⟨_, rfl, ⟨_, rfl, (show 1 ≤ 1000 by decide), fun e5 m5 => ⟨e5, v, rfl, upd_same, fun d5 n5 x5 => ⟨rfl, ⟨_, rfl, (show 1 ≤ 1000 by decide), fun e6 m6 => ⟨e6, v, rfl, upd_same, fun d6 n6 x6 => ⟨rfl, ⟨(show 2 ≤ sizeLine by decide), fun p2 q2 => ?_⟩⟩⟩⟩⟩⟩⟩⟩
    have t5 := same_dict (o1 := exo e5 c14 none) (o2 := exd d5 [("claim", v)]) (o3 := exo e5 c14 (some d5)) m5 n5
    have t6 := same_dict (o1 := exo e6 c15 none) (o2 := exd d6 [("given", v)]) (o3 := exo e6 c15 (some d6)) m6 n6
    have u2 := same_upd q2 (o := HO.lst ([e5, e6].map V.ref))
    refine ⟨p1, p2, _, _, rfl, rfl, ((t5.trans t6).trans u2) _ _ upd_same, upd_same, (show 5 + 2 ≤ sizeLine by decide), fun p3 q3 => ?_⟩
    have u3 := same_upd q3 (o := HO.lst ([e0, e1, e2, e3, e4, e5, e6].map V.ref))
    have he0 := ((((((((t1.trans t2).trans t3).trans t4).trans u1).trans t5).trans t6).trans u2).trans u3) _ _ (show L2.upd _ e0 (exo e0 c9 (some d0)) e0 = some (exo e0 c9 (some d0)) from upd_same)
    have hd0 := ((((((((t1.trans t2).trans t3).trans t4).trans u1).trans t5).trans t6).trans u2).trans u3) _ _ (show L2.upd _ e0 _ d0 = some (exd d0 [("line", v)]) from (upd_ne x0).trans upd_same)
    have he1 := (((((((t2.trans t3).trans t4).trans u1).trans t5).trans t6).trans u2).trans u3) _ _ (show L2.upd _ e1 (exo e1 c10 (some d1)) e1 = some (exo e1 c10 (some d1)) from upd_same)
    have hd1 := (((((((t2.trans t3).trans t4).trans u1).trans t5).trans t6).trans u2).trans u3) _ _ (show L2.upd _ e1 _ d1 = some (exd d1 [("wanted", v)]) from (upd_ne x1).trans upd_same)
    have he2 := ((((((t3.trans t4).trans u1).trans t5).trans t6).trans u2).trans u3) _ _ (show L2.upd _ e2 (exo e2 c11 (some d2)) e2 = some (exo e2 c11 (some d2)) from upd_same)
    have hd2 := ((((((t3.trans t4).trans u1).trans t5).trans t6).trans u2).trans u3) _ _ (show L2.upd _ e2 _ d2 = some (exd d2 [("many", v)]) from (upd_ne x2).trans upd_same)
    have he3 := (((((t4.trans u1).trans t5).trans t6).trans u2).trans u3) _ _ (show L2.upd _ e3 (exo e3 c12 (some d3)) e3 = some (exo e3 c12 (some d3)) from upd_same)
    have hd3 := (((((t4.trans u1).trans t5).trans t6).trans u2).trans u3) _ _ (show L2.upd _ e3 _ d3 = some (exd d3 [("point", v)]) from (upd_ne x3).trans upd_same)
    have he4 := ((((u1.trans t5).trans t6).trans u2).trans u3) _ _ (show L2.upd _ e4 (exo e4 c13 (some d4)) e4 = some (exo e4 c13 (some d4)) from upd_same)
    have hd4 := ((((u1.trans t5).trans t6).trans u2).trans u3) _ _ (show L2.upd _ e4 _ d4 = some (exd d4 [("limit", v)]) from (upd_ne x4).trans upd_same)
    have he5 := ((t6.trans u2).trans u3) _ _ (show L2.upd _ e5 (exo e5 c14 (some d5)) e5 = some (exo e5 c14 (some d5)) from upd_same)
    have hd5 := ((t6.trans u2).trans u3) _ _ (show L2.upd _ e5 _ d5 = some (exd d5 [("claim", v)]) from (upd_ne x5).trans upd_same)
    have he6 := (u2.trans u3) _ _ (show L2.upd _ e6 (exo e6 c15 (some d6)) e6 = some (exo e6 c15 (some d6)) from upd_same)
    have hd6 := (u2.trans u3) _ _ (show L2.upd _ e6 _ d6 = some (exd d6 [("given", v)]) from (upd_ne x6).trans upd_same)
    have rv3 := rv.same (((((((((t0.trans t1).trans t2).trans t3).trans t4).trans u1).trans t5).trans t6).trans u2).trans u3)
    have hk := put_at q3 (o := HO.lst ([e0, e1, e2, e3, e4, e5, e6].map V.ref))
    have sH : Same H _ := (((((((((t0.trans t1).trans t2).trans t3).trans t4).trans u1).trans t5).trans t6).trans u2).trans u3)
    skip
    refine ⟨_, rfl, p3, _, 0, _, rfl, rfl, .inl (.inl hk), rfl, e0, d0, c9, _, v, rfl, he0, hd0, T0.X, T0.no, rfl, ⟨_, rfl, p3, _, 1, _, rfl, rfl, .inl (.inl hk), rfl, e1, d1, c10, _, v, rfl, he1, hd1, T1.X, T1.no, rfl, ⟨_, rfl, p3, _, 2, _, rfl, rfl, .inl (.inl hk), rfl, e2, d2, c11, _, v, rfl, he2, hd2, T2.X, T2.no, rfl, ⟨_, rfl, p3, _, 3, _, rfl, rfl, .inl (.inl hk), rfl, e3, d3, c12, _, v, rfl, he3, hd3, T3.X, T3.no, rfl, ⟨_, rfl, p3, _, 4, _, rfl, rfl, .inl (.inl hk), rfl, e4, d4, c13, _, v, rfl, he4, hd4, T4.X, T4.no, rfl, ⟨_, rfl, p3, _, 5, _, rfl, rfl, .inl (.inl hk), rfl, e5, d5, c14, _, v, rfl, he5, hd5, T5.X, T5.no, rfl, ⟨_, rfl, p3, _, 6, _, rfl, rfl, .inl (.inl hk), rfl, e6, d6, c15, _, v, rfl, he6, hd6, T6.X, T6.no, rfl, ⟨(show 7 ≤ sizeLine by decide), fun p4 q4 => ?_⟩⟩⟩⟩⟩⟩⟩⟩
    have s4 := same_upd q4 (o := HO.lst [v, v, v, v, v, v, v])
    refine ⟨_, rfl, p4, v, _, [d, d, d, d, d, d, d], rfl, upd_same, rpa7 (rv3.same s4), rp, _, rfl, (show 1 ≤ sizeLine by decide), fun p5 q5 => ⟨p5, 7, [v], rfl, rfl, upd_same, by decide, by decide, (show 1 * 7 ≤ sizeLine by decide), fun p6 q6 => ?_⟩⟩
    have s6 := (s4.trans (same_upd q5 (o := HO.lst [v]))).trans (same_upd q6 (o := HO.lst [v, v, v, v, v, v, v]))
    have s46 := (same_upd q5 (o := HO.lst [v])).trans (same_upd q6 (o := HO.lst [v, v, v, v, v, v, v]))
    refine ⟨p6, v, _, [d, d, d, d, d, d, d], rfl, upd_same, rpa7 (rv3.same s6), rp, rfl, _, rfl, ?_⟩
    rw [decide_eq_true rfl]
    refine iteF ?_
    have he0 := s6 _ _ he0
    have he1 := s6 _ _ he1
    have he2 := s6 _ _ he2
    have he3 := s6 _ _ he3
    have he4 := s6 _ _ he4
    have he5 := s6 _ _ he5
    have he6 := s6 _ _ he6
    have hk := s6 _ _ hk
    have sH := sH.trans s6
    have h4 := s46 _ _ (put_at q4 (o := HO.lst [v, v, v, v, v, v, v]))
    skip
    refine ⟨(show 2 ≤ sizeLine by decide), fun w0 wn0 => ⟨(show 1 ≤ sizeLine by decide), fun w1 wn1 => ⟨(show 1 ≤ sizeLine by decide), fun w2 wn2 => ⟨(show 1 ≤ sizeLine by decide), fun w3 wn3 => ⟨(show 1 ≤ sizeLine by decide), fun w4 wn4 => ⟨(show 1 ≤ sizeLine by decide), fun w5 wn5 => ⟨(show 1 ≤ sizeLine by decide), fun w6 wn6 => ⟨(show 7 ≤ sizeLine by decide), fun w7 wn7 => ?_⟩⟩⟩⟩⟩⟩⟩⟩
    have ws0 := same_upd wn0 (o := HO.lst ([(0 : Int), (9 : Int)].map V.int))
    have ws1 := same_upd wn1 (o := HO.lst ([(10 : Int)].map V.int))
    have ws2 := same_upd wn2 (o := HO.lst ([(11 : Int)].map V.int))
    have ws3 := same_upd wn3 (o := HO.lst ([(12 : Int)].map V.int))
    have ws4 := same_upd wn4 (o := HO.lst ([(13 : Int)].map V.int))
    have ws5 := same_upd wn5 (o := HO.lst ([(14 : Int)].map V.int))
    have ws6 := same_upd wn6 (o := HO.lst ([(15 : Int)].map V.int))
    have ws7 := same_upd wn7 (o := HO.lst [V.ref w0, V.ref w1, V.ref w2, V.ref w3, V.ref w4, V.ref w5, V.ref w6])
    have wh0 := ((((((ws1.trans ws2).trans ws3).trans ws4).trans ws5).trans ws6).trans ws7) _ _ (put_at wn0 (o := HO.lst ([(0 : Int), (9 : Int)].map V.int)))
    have wh1 := (((((ws2.trans ws3).trans ws4).trans ws5).trans ws6).trans ws7) _ _ (put_at wn1 (o := HO.lst ([(10 : Int)].map V.int)))
    have wh2 := ((((ws3.trans ws4).trans ws5).trans ws6).trans ws7) _ _ (put_at wn2 (o := HO.lst ([(11 : Int)].map V.int)))
    have wh3 := (((ws4.trans ws5).trans ws6).trans ws7) _ _ (put_at wn3 (o := HO.lst ([(12 : Int)].map V.int)))
    have wh4 := ((ws5.trans ws6).trans ws7) _ _ (put_at wn4 (o := HO.lst ([(13 : Int)].map V.int)))
    have wh5 := (ws6.trans ws7) _ _ (put_at wn5 (o := HO.lst ([(14 : Int)].map V.int)))
    have wh6 := ws7 _ _ (put_at wn6 (o := HO.lst ([(15 : Int)].map V.int)))
    have wh7 := put_at wn7 (o := HO.lst [V.ref w0, V.ref w1, V.ref w2, V.ref w3, V.ref w4, V.ref w5, V.ref w6])
    have wS := (((((((ws0.trans ws1).trans ws2).trans ws3).trans ws4).trans ws5).trans ws6).trans ws7)
    refine ⟨(show 1 ≤ sizeLine by decide), fun y0 yn0 => ⟨(show 2 ≤ sizeLine by decide), fun y1 yn1 => ⟨(show 2 ≤ sizeLine by decide), fun y2 yn2 => ⟨(show 1 ≤ sizeLine by decide), fun y3 yn3 => ⟨(show 2 ≤ sizeLine by decide), fun y4 yn4 => ⟨(show 1 ≤ sizeLine by decide), fun y5 yn5 => ⟨(show 1 ≤ sizeLine by decide), fun y6 yn6 => ⟨(show 7 ≤ sizeLine by decide), fun y7 yn7 => ?_⟩⟩⟩⟩⟩⟩⟩⟩
    have ys0 := same_upd yn0 (o := HO.lst ([(0 : Int)].map V.int))
    have ys1 := same_upd yn1 (o := HO.lst ([(1 : Int), (2 : Int)].map V.int))
    have ys2 := same_upd yn2 (o := HO.lst ([(1 : Int), (3 : Int)].map V.int))
    have ys3 := same_upd yn3 (o := HO.lst ([(1 : Int)].map V.int))
    have ys4 := same_upd yn4 (o := HO.lst ([(4 : Int), (5 : Int)].map V.int))
    have ys5 := same_upd yn5 (o := HO.lst ([(4 : Int)].map V.int))
    have ys6 := same_upd yn6 (o := HO.lst ([(6 : Int)].map V.int))
    have ys7 := same_upd yn7 (o := HO.lst [V.ref y0, V.ref y1, V.ref y2, V.ref y3, V.ref y4, V.ref y5, V.ref y6])
    have yh0 := ((((((ys1.trans ys2).trans ys3).trans ys4).trans ys5).trans ys6).trans ys7) _ _ (put_at yn0 (o := HO.lst ([(0 : Int)].map V.int)))
    have yh1 := (((((ys2.trans ys3).trans ys4).trans ys5).trans ys6).trans ys7) _ _ (put_at yn1 (o := HO.lst ([(1 : Int), (2 : Int)].map V.int)))
    have yh2 := ((((ys3.trans ys4).trans ys5).trans ys6).trans ys7) _ _ (put_at yn2 (o := HO.lst ([(1 : Int), (3 : Int)].map V.int)))
    have yh3 := (((ys4.trans ys5).trans ys6).trans ys7) _ _ (put_at yn3 (o := HO.lst ([(1 : Int)].map V.int)))
    have yh4 := ((ys5.trans ys6).trans ys7) _ _ (put_at yn4 (o := HO.lst ([(4 : Int), (5 : Int)].map V.int)))
    have yh5 := (ys6.trans ys7) _ _ (put_at yn5 (o := HO.lst ([(4 : Int)].map V.int)))
    have yh6 := ys7 _ _ (put_at yn6 (o := HO.lst ([(6 : Int)].map V.int)))
    have yh7 := put_at yn7 (o := HO.lst [V.ref y0, V.ref y1, V.ref y2, V.ref y3, V.ref y4, V.ref y5, V.ref y6])
    have yS := (((((((ys0.trans ys1).trans ys2).trans ys3).trans ys4).trans ys5).trans ys6).trans ys7)
    have he0 := yS _ _ (wS _ _ he0)
    have hd0 := yS _ _ (wS _ _ (s6 _ _ hd0))
    have er0 : ErrAt _ e0 c9 := .inr ⟨_, _, he0, hd0⟩
    have wh0 := yS _ _ wh0
    have he1 := yS _ _ (wS _ _ he1)
    have hd1 := yS _ _ (wS _ _ (s6 _ _ hd1))
    have er1 : ErrAt _ e1 c10 := .inr ⟨_, _, he1, hd1⟩
    have wh1 := yS _ _ wh1
    have he2 := yS _ _ (wS _ _ he2)
    have hd2 := yS _ _ (wS _ _ (s6 _ _ hd2))
    have er2 : ErrAt _ e2 c11 := .inr ⟨_, _, he2, hd2⟩
    have wh2 := yS _ _ wh2
    have he3 := yS _ _ (wS _ _ he3)
    have hd3 := yS _ _ (wS _ _ (s6 _ _ hd3))
    have er3 : ErrAt _ e3 c12 := .inr ⟨_, _, he3, hd3⟩
    have wh3 := yS _ _ wh3
    have he4 := yS _ _ (wS _ _ he4)
    have hd4 := yS _ _ (wS _ _ (s6 _ _ hd4))
    have er4 : ErrAt _ e4 c13 := .inr ⟨_, _, he4, hd4⟩
    have wh4 := yS _ _ wh4
    have he5 := yS _ _ (wS _ _ he5)
    have hd5 := yS _ _ (wS _ _ (s6 _ _ hd5))
    have er5 : ErrAt _ e5 c14 := .inr ⟨_, _, he5, hd5⟩
    have wh5 := yS _ _ wh5
    have he6 := yS _ _ (wS _ _ he6)
    have hd6 := yS _ _ (wS _ _ (s6 _ _ hd6))
    have er6 : ErrAt _ e6 c15 := .inr ⟨_, _, he6, hd6⟩
    have wh6 := yS _ _ wh6
    have wh7 := yS _ _ wh7
    have hk := yS _ _ (wS _ _ hk)
    have sH := (sH.trans wS).trans yS
    refine ⟨_, rfl, by decide, by decide, ?_⟩
    refine for_range (n := 7) (fun i σ' H' => (∃ x5 : Option V, σ' = [some v, some (.ref p3), some (.ref p4), some (.ref w7), some (.ref y7), x5]) ∧ Same _ H') ⟨⟨_, rfl⟩, .refl _⟩ (fun i σ' H' hi hP => ?_) (fun σ' H' hP => q H' (sH.trans hP.2))
    obtain ⟨⟨x5, rfl⟩, sm⟩ := hP
    have i7 : i = 0 ∨ i = 1 ∨ i = 2 ∨ i = 3 ∨ i = 4 ∨ i = 5 ∨ i = 6 := by omega
    rcases i7 with rfl | rfl | rfl | rfl | rfl | rfl | rfl
    · refine ⟨_, rfl, _, rfl, p3, _, _, .ref e0, rfl, rfl, .inl (.inl (sm _ _ hk)), rfl, e0, c9, true, false, false, false, false, false, false, false, false, true, false, false, false, false, false, false, rfl, er0.ext sm, T0.E, R0, fun H1 pa s1 h1 => ?_⟩
      refine ⟨_, rfl, _, rfl, w7, _, _, .ref w0, rfl, rfl, .inl (.inl (s1 _ _ (sm _ _ wh7))), rfl, 16, w0, [(0 : Int), (9 : Int)], rfl, by decide, s1 _ _ (sm _ _ wh0), fun H2 pb s2 h2 => ?_⟩
      refine ⟨.list ([true, false, false, false, false, false, false, false, false, true, false, false, false, false, false, false].map .bool), .list ([true, false, false, false, false, false, false, false, false, true, false, false, false, false, false, false].map .bool), .lst (.inl (.inl (s2 _ _ h1))) (dp_bools [true, false, false, false, false, false, false, false, false, true, false, false, false, false, false, false]), .lst (.inl (.inl (show H2 pb = some (.lst ([true, false, false, false, false, false, false, false, false, true, false, false, false, false, false, false].map V.bl)) from h2))) (dp_bools [true, false, false, false, false, false, false, false, false, true, false, false, false, false, false, false]), rfl, rfl, _, rfl, ?_⟩
      rw [eqv_bl]
      refine iteF ?_
      have sm2 := (sm.trans s1).trans s2
      refine ⟨_, rfl, _, rfl, p3, _, _, .ref e0, rfl, rfl, .inl (.inl (sm2 _ _ hk)), rfl, e0, c9, true, false, false, false, false, false, false, rfl, er0.ext sm2, T0.E, S0, fun H3 pc s3 h3 => ?_⟩
      refine ⟨_, rfl, _, rfl, y7, _, _, .ref y0, rfl, rfl, .inl (.inl (s3 _ _ (sm2 _ _ yh7))), rfl, 7, y0, [(0 : Int)], rfl, by decide, s3 _ _ (sm2 _ _ yh0), fun H4 pd s4 h4 => ?_⟩
      refine ⟨.list ([true, false, false, false, false, false, false].map .bool), .list ([true, false, false, false, false, false, false].map .bool), .lst (.inl (.inl (s4 _ _ h3))) (dp_bools [true, false, false, false, false, false, false]), .lst (.inl (.inl (show H4 pd = some (.lst ([true, false, false, false, false, false, false].map V.bl)) from h4))) (dp_bools [true, false, false, false, false, false, false]), rfl, rfl, _, rfl, ?_⟩
      rw [eqv_bl]
      exact iteF ⟨⟨_, rfl⟩, (sm2.trans s3).trans s4⟩
    · refine ⟨_, rfl, _, rfl, p3, _, _, .ref e1, rfl, rfl, .inl (.inl (sm _ _ hk)), rfl, e1, c10, false, false, false, false, false, false, false, false, false, false, true, false, false, false, false, false, rfl, er1.ext sm, T1.E, R1, fun H1 pa s1 h1 => ?_⟩
      refine ⟨_, rfl, _, rfl, w7, _, _, .ref w1, rfl, rfl, .inl (.inl (s1 _ _ (sm _ _ wh7))), rfl, 16, w1, [(10 : Int)], rfl, by decide, s1 _ _ (sm _ _ wh1), fun H2 pb s2 h2 => ?_⟩
      refine ⟨.list ([false, false, false, false, false, false, false, false, false, false, true, false, false, false, false, false].map .bool), .list ([false, false, false, false, false, false, false, false, false, false, true, false, false, false, false, false].map .bool), .lst (.inl (.inl (s2 _ _ h1))) (dp_bools [false, false, false, false, false, false, false, false, false, false, true, false, false, false, false, false]), .lst (.inl (.inl (show H2 pb = some (.lst ([false, false, false, false, false, false, false, false, false, false, true, false, false, false, false, false].map V.bl)) from h2))) (dp_bools [false, false, false, false, false, false, false, false, false, false, true, false, false, false, false, false]), rfl, rfl, _, rfl, ?_⟩
      rw [eqv_bl]
      refine iteF ?_
      have sm2 := (sm.trans s1).trans s2
      refine ⟨_, rfl, _, rfl, p3, _, _, .ref e1, rfl, rfl, .inl (.inl (sm2 _ _ hk)), rfl, e1, c10, false, true, true, false, false, false, false, rfl, er1.ext sm2, T1.E, S1, fun H3 pc s3 h3 => ?_⟩
      refine ⟨_, rfl, _, rfl, y7, _, _, .ref y1, rfl, rfl, .inl (.inl (s3 _ _ (sm2 _ _ yh7))), rfl, 7, y1, [(1 : Int), (2 : Int)], rfl, by decide, s3 _ _ (sm2 _ _ yh1), fun H4 pd s4 h4 => ?_⟩
      refine ⟨.list ([false, true, true, false, false, false, false].map .bool), .list ([false, true, true, false, false, false, false].map .bool), .lst (.inl (.inl (s4 _ _ h3))) (dp_bools [false, true, true, false, false, false, false]), .lst (.inl (.inl (show H4 pd = some (.lst ([false, true, true, false, false, false, false].map V.bl)) from h4))) (dp_bools [false, true, true, false, false, false, false]), rfl, rfl, _, rfl, ?_⟩
      rw [eqv_bl]
      exact iteF ⟨⟨_, rfl⟩, (sm2.trans s3).trans s4⟩
    · refine ⟨_, rfl, _, rfl, p3, _, _, .ref e2, rfl, rfl, .inl (.inl (sm _ _ hk)), rfl, e2, c11, false, false, false, false, false, false, false, false, false, false, false, true, false, false, false, false, rfl, er2.ext sm, T2.E, R2, fun H1 pa s1 h1 => ?_⟩
      refine ⟨_, rfl, _, rfl, w7, _, _, .ref w2, rfl, rfl, .inl (.inl (s1 _ _ (sm _ _ wh7))), rfl, 16, w2, [(11 : Int)], rfl, by decide, s1 _ _ (sm _ _ wh2), fun H2 pb s2 h2 => ?_⟩
      refine ⟨.list ([false, false, false, false, false, false, false, false, false, false, false, true, false, false, false, false].map .bool), .list ([false, false, false, false, false, false, false, false, false, false, false, true, false, false, false, false].map .bool), .lst (.inl (.inl (s2 _ _ h1))) (dp_bools [false, false, false, false, false, false, false, false, false, false, false, true, false, false, false, false]), .lst (.inl (.inl (show H2 pb = some (.lst ([false, false, false, false, false, false, false, false, false, false, false, true, false, false, false, false].map V.bl)) from h2))) (dp_bools [false, false, false, false, false, false, false, false, false, false, false, true, false, false, false, false]), rfl, rfl, _, rfl, ?_⟩
      rw [eqv_bl]
      refine iteF ?_
      have sm2 := (sm.trans s1).trans s2
      refine ⟨_, rfl, _, rfl, p3, _, _, .ref e2, rfl, rfl, .inl (.inl (sm2 _ _ hk)), rfl, e2, c11, false, true, false, true, false, false, false, rfl, er2.ext sm2, T2.E, S2, fun H3 pc s3 h3 => ?_⟩
      refine ⟨_, rfl, _, rfl, y7, _, _, .ref y2, rfl, rfl, .inl (.inl (s3 _ _ (sm2 _ _ yh7))), rfl, 7, y2, [(1 : Int), (3 : Int)], rfl, by decide, s3 _ _ (sm2 _ _ yh2), fun H4 pd s4 h4 => ?_⟩
      refine ⟨.list ([false, true, false, true, false, false, false].map .bool), .list ([false, true, false, true, false, false, false].map .bool), .lst (.inl (.inl (s4 _ _ h3))) (dp_bools [false, true, false, true, false, false, false]), .lst (.inl (.inl (show H4 pd = some (.lst ([false, true, false, true, false, false, false].map V.bl)) from h4))) (dp_bools [false, true, false, true, false, false, false]), rfl, rfl, _, rfl, ?_⟩
      rw [eqv_bl]
      exact iteF ⟨⟨_, rfl⟩, (sm2.trans s3).trans s4⟩
    · refine ⟨_, rfl, _, rfl, p3, _, _, .ref e3, rfl, rfl, .inl (.inl (sm _ _ hk)), rfl, e3, c12, false, false, false, false, false, false, false, false, false, false, false, false, true, false, false, false, rfl, er3.ext sm, T3.E, R3, fun H1 pa s1 h1 => ?_⟩
      refine ⟨_, rfl, _, rfl, w7, _, _, .ref w3, rfl, rfl, .inl (.inl (s1 _ _ (sm _ _ wh7))), rfl, 16, w3, [(12 : Int)], rfl, by decide, s1 _ _ (sm _ _ wh3), fun H2 pb s2 h2 => ?_⟩
      refine ⟨.list ([false, false, false, false, false, false, false, false, false, false, false, false, true, false, false, false].map .bool), .list ([false, false, false, false, false, false, false, false, false, false, false, false, true, false, false, false].map .bool), .lst (.inl (.inl (s2 _ _ h1))) (dp_bools [false, false, false, false, false, false, false, false, false, false, false, false, true, false, false, false]), .lst (.inl (.inl (show H2 pb = some (.lst ([false, false, false, false, false, false, false, false, false, false, false, false, true, false, false, false].map V.bl)) from h2))) (dp_bools [false, false, false, false, false, false, false, false, false, false, false, false, true, false, false, false]), rfl, rfl, _, rfl, ?_⟩
      rw [eqv_bl]
      refine iteF ?_
      have sm2 := (sm.trans s1).trans s2
      refine ⟨_, rfl, _, rfl, p3, _, _, .ref e3, rfl, rfl, .inl (.inl (sm2 _ _ hk)), rfl, e3, c12, false, true, false, false, false, false, false, rfl, er3.ext sm2, T3.E, S3, fun H3 pc s3 h3 => ?_⟩
      refine ⟨_, rfl, _, rfl, y7, _, _, .ref y3, rfl, rfl, .inl (.inl (s3 _ _ (sm2 _ _ yh7))), rfl, 7, y3, [(1 : Int)], rfl, by decide, s3 _ _ (sm2 _ _ yh3), fun H4 pd s4 h4 => ?_⟩
      refine ⟨.list ([false, true, false, false, false, false, false].map .bool), .list ([false, true, false, false, false, false, false].map .bool), .lst (.inl (.inl (s4 _ _ h3))) (dp_bools [false, true, false, false, false, false, false]), .lst (.inl (.inl (show H4 pd = some (.lst ([false, true, false, false, false, false, false].map V.bl)) from h4))) (dp_bools [false, true, false, false, false, false, false]), rfl, rfl, _, rfl, ?_⟩
      rw [eqv_bl]
      exact iteF ⟨⟨_, rfl⟩, (sm2.trans s3).trans s4⟩
    · refine ⟨_, rfl, _, rfl, p3, _, _, .ref e4, rfl, rfl, .inl (.inl (sm _ _ hk)), rfl, e4, c13, false, false, false, false, false, false, false, false, false, false, false, false, false, true, false, false, rfl, er4.ext sm, T4.E, R4, fun H1 pa s1 h1 => ?_⟩
      refine ⟨_, rfl, _, rfl, w7, _, _, .ref w4, rfl, rfl, .inl (.inl (s1 _ _ (sm _ _ wh7))), rfl, 16, w4, [(13 : Int)], rfl, by decide, s1 _ _ (sm _ _ wh4), fun H2 pb s2 h2 => ?_⟩
      refine ⟨.list ([false, false, false, false, false, false, false, false, false, false, false, false, false, true, false, false].map .bool), .list ([false, false, false, false, false, false, false, false, false, false, false, false, false, true, false, false].map .bool), .lst (.inl (.inl (s2 _ _ h1))) (dp_bools [false, false, false, false, false, false, false, false, false, false, false, false, false, true, false, false]), .lst (.inl (.inl (show H2 pb = some (.lst ([false, false, false, false, false, false, false, false, false, false, false, false, false, true, false, false].map V.bl)) from h2))) (dp_bools [false, false, false, false, false, false, false, false, false, false, false, false, false, true, false, false]), rfl, rfl, _, rfl, ?_⟩
      rw [eqv_bl]
      refine iteF ?_
      have sm2 := (sm.trans s1).trans s2
      refine ⟨_, rfl, _, rfl, p3, _, _, .ref e4, rfl, rfl, .inl (.inl (sm2 _ _ hk)), rfl, e4, c13, false, false, false, false, true, true, false, rfl, er4.ext sm2, T4.E, S4, fun H3 pc s3 h3 => ?_⟩
      refine ⟨_, rfl, _, rfl, y7, _, _, .ref y4, rfl, rfl, .inl (.inl (s3 _ _ (sm2 _ _ yh7))), rfl, 7, y4, [(4 : Int), (5 : Int)], rfl, by decide, s3 _ _ (sm2 _ _ yh4), fun H4 pd s4 h4 => ?_⟩
      refine ⟨.list ([false, false, false, false, true, true, false].map .bool), .list ([false, false, false, false, true, true, false].map .bool), .lst (.inl (.inl (s4 _ _ h3))) (dp_bools [false, false, false, false, true, true, false]), .lst (.inl (.inl (show H4 pd = some (.lst ([false, false, false, false, true, true, false].map V.bl)) from h4))) (dp_bools [false, false, false, false, true, true, false]), rfl, rfl, _, rfl, ?_⟩
      rw [eqv_bl]
      exact iteF ⟨⟨_, rfl⟩, (sm2.trans s3).trans s4⟩
    · refine ⟨_, rfl, _, rfl, p3, _, _, .ref e5, rfl, rfl, .inl (.inl (sm _ _ hk)), rfl, e5, c14, false, false, false, false, false, false, false, false, false, false, false, false, false, false, true, false, rfl, er5.ext sm, T5.E, R5, fun H1 pa s1 h1 => ?_⟩
      refine ⟨_, rfl, _, rfl, w7, _, _, .ref w5, rfl, rfl, .inl (.inl (s1 _ _ (sm _ _ wh7))), rfl, 16, w5, [(14 : Int)], rfl, by decide, s1 _ _ (sm _ _ wh5), fun H2 pb s2 h2 => ?_⟩
      refine ⟨.list ([false, false, false, false, false, false, false, false, false, false, false, false, false, false, true, false].map .bool), .list ([false, false, false, false, false, false, false, false, false, false, false, false, false, false, true, false].map .bool), .lst (.inl (.inl (s2 _ _ h1))) (dp_bools [false, false, false, false, false, false, false, false, false, false, false, false, false, false, true, false]), .lst (.inl (.inl (show H2 pb = some (.lst ([false, false, false, false, false, false, false, false, false, false, false, false, false, false, true, false].map V.bl)) from h2))) (dp_bools [false, false, false, false, false, false, false, false, false, false, false, false, false, false, true, false]), rfl, rfl, _, rfl, ?_⟩
      rw [eqv_bl]
      refine iteF ?_
      have sm2 := (sm.trans s1).trans s2
      refine ⟨_, rfl, _, rfl, p3, _, _, .ref e5, rfl, rfl, .inl (.inl (sm2 _ _ hk)), rfl, e5, c14, false, false, false, false, true, false, false, rfl, er5.ext sm2, T5.E, S5, fun H3 pc s3 h3 => ?_⟩
      refine ⟨_, rfl, _, rfl, y7, _, _, .ref y5, rfl, rfl, .inl (.inl (s3 _ _ (sm2 _ _ yh7))), rfl, 7, y5, [(4 : Int)], rfl, by decide, s3 _ _ (sm2 _ _ yh5), fun H4 pd s4 h4 => ?_⟩
      refine ⟨.list ([false, false, false, false, true, false, false].map .bool), .list ([false, false, false, false, true, false, false].map .bool), .lst (.inl (.inl (s4 _ _ h3))) (dp_bools [false, false, false, false, true, false, false]), .lst (.inl (.inl (show H4 pd = some (.lst ([false, false, false, false, true, false, false].map V.bl)) from h4))) (dp_bools [false, false, false, false, true, false, false]), rfl, rfl, _, rfl, ?_⟩
      rw [eqv_bl]
      exact iteF ⟨⟨_, rfl⟩, (sm2.trans s3).trans s4⟩
    · refine ⟨_, rfl, _, rfl, p3, _, _, .ref e6, rfl, rfl, .inl (.inl (sm _ _ hk)), rfl, e6, c15, false, false, false, false, false, false, false, false, false, false, false, false, false, false, false, true, rfl, er6.ext sm, T6.E, R6, fun H1 pa s1 h1 => ?_⟩
      refine ⟨_, rfl, _, rfl, w7, _, _, .ref w6, rfl, rfl, .inl (.inl (s1 _ _ (sm _ _ wh7))), rfl, 16, w6, [(15 : Int)], rfl, by decide, s1 _ _ (sm _ _ wh6), fun H2 pb s2 h2 => ?_⟩
      refine ⟨.list ([false, false, false, false, false, false, false, false, false, false, false, false, false, false, false, true].map .bool), .list ([false, false, false, false, false, false, false, false, false, false, false, false, false, false, false, true].map .bool), .lst (.inl (.inl (s2 _ _ h1))) (dp_bools [false, false, false, false, false, false, false, false, false, false, false, false, false, false, false, true]), .lst (.inl (.inl (show H2 pb = some (.lst ([false, false, false, false, false, false, false, false, false, false, false, false, false, false, false, true].map V.bl)) from h2))) (dp_bools [false, false, false, false, false, false, false, false, false, false, false, false, false, false, false, true]), rfl, rfl, _, rfl, ?_⟩
      rw [eqv_bl]
      refine iteF ?_
      have sm2 := (sm.trans s1).trans s2
      refine ⟨_, rfl, _, rfl, p3, _, _, .ref e6, rfl, rfl, .inl (.inl (sm2 _ _ hk)), rfl, e6, c15, false, false, false, false, false, false, true, rfl, er6.ext sm2, T6.E, S6, fun H3 pc s3 h3 => ?_⟩
      refine ⟨_, rfl, _, rfl, y7, _, _, .ref y6, rfl, rfl, .inl (.inl (s3 _ _ (sm2 _ _ yh7))), rfl, 7, y6, [(6 : Int)], rfl, by decide, s3 _ _ (sm2 _ _ yh6), fun H4 pd s4 h4 => ?_⟩
      refine ⟨.list ([false, false, false, false, false, false, true].map .bool), .list ([false, false, false, false, false, false, true].map .bool), .lst (.inl (.inl (s4 _ _ h3))) (dp_bools [false, false, false, false, false, false, true]), .lst (.inl (.inl (show H4 pd = some (.lst ([false, false, false, false, false, false, true].map V.bl)) from h4))) (dp_bools [false, false, false, false, false, false, true]), rfl, rfl, _, rfl, ?_⟩
      rw [eqv_bl]
      exact iteF ⟨⟨_, rfl⟩, (sm2.trans s3).trans s4⟩
/-! ### the law -/
mutual
theorem Rp.ext {H H' : Hp} (k : LamX.ExtN H H') : ∀ {d : PyData} {v : V}, Rp H d v → Rp H' d v
  | .none, _, h => h
  | .bool _, _, h => h
  | .int _, _, h => h
  | .str _, _, h => h
  | .list ds, _, ⟨a, xs, e, h1, h2⟩ => ⟨a, xs, e, k _ _ h1 (fun _ z => nomatch z), RpA.ext k h2⟩
  | .tuple ds, _, ⟨a, xs, e, h1, h2⟩ => ⟨a, xs, e, k _ _ h1 (fun _ z => nomatch z), RpA.ext k h2⟩
  | .dict kvs, _, ⟨a, ks, e, h1, h2⟩ => ⟨a, ks, e, k _ _ h1 (fun _ z => nomatch z), RpK.ext k h2⟩
theorem RpA.ext {H H' : Hp} (k : LamX.ExtN H H') : ∀ {ds : List PyData} {xs : List V}, RpA H ds xs → RpA H' ds xs
  | [], _, h => h
  | d :: ds, _, ⟨y, ys, e, h1, h2⟩ => ⟨y, ys, e, Rp.ext k h1, RpA.ext k h2⟩
theorem RpK.ext {H H' : Hp} (k : LamX.ExtN H H') : ∀ {kvs : List (PyData × PyData)} {ks : List (Key × V)}, RpK H kvs ks → RpK H' kvs ks
  | [], _, h => h
  | (d, e) :: r, _, ⟨z, y, ys, e1, e2, h1, h2⟩ => ⟨z, y, ys, e1, e2, Rp.ext k h1, RpK.ext k h2⟩
end
theorem extN_put {HB H0 H : Hp} {l : Addr} {o : HO} (x0 : LamX.ExtN HB H0) (n : H0 l = none) (x : LamX.ExtN HB H) : LamX.ExtN HB (L2.upd H l o) := fun b u e nt => by
  have h : b ≠ l := fun z => by
    have y := x0 b u e nt
    rw [z, n] at y
    cases y
  rw [upd_ne h]
  exact x b u e nt
theorem tabs_put {T : List (Addr × Str)} {H : Hp} {l : Addr} {xs : List V} {o : HO} (t : LamX.Tabs T H) (e : H l = some (.lst xs)) : LamX.Tabs T (L2.upd H l o) := fun p hp => by
  obtain ⟨ps, h1, h2, h3⟩ := t p hp
  refine ⟨ps, ?_, h2, fun pos cv hc => ?_⟩
  · rw [upd_ne (fun z => by rw [z, e] at h1; cases h1)]
    exact h1
  · obtain ⟨c, e1, e2⟩ := h3 pos cv hc
    refine ⟨c, e1, ?_⟩
    rw [upd_ne (fun z => by rw [z, e] at e2; have e3 := Option.some.inj e2; unfold LamX.CodeO at e3; cases e3)]
    exact e2
theorem sc_refused : FnScope ["call"] ["call"] (defScope s_L_refused) := ⟨rfl, rfl, rfl, by decide +kernel, rfl, by decide +kernel, by decide +kernel⟩
theorem pe_ref {X : Cx} {g c P CS : Addr} {fdg : FuncData} {k : Nat} {params : Arguments} {body : Expr} {scope : Scope} {t : XK → TE} {p lpos pos : Pos} (FR : Fun X.K "_law_refused" "_law_refused" s_L_refused g fdg) (bR : Binds X.K fdg ["call"] []) (mR : X.mg "_law_refused" = some (.ref g))
    (T : XcP X.K X.mg "InvalidWord" CS) (hg : Gl X "_law_refused") (TB : LamX.TabB X.base X.mg c P) (hcode : X.env.code = .ref c) (hr : Room (k + 2) X.A) (L : LamX.LamS X.env.scope scope) (hdef : defaultsOf params X.env = ([], []))
    (hbind : ∀ (q : Str) (cl : List (Str × Addr)) (pm cv ctv : Value), bindArgs (PySem.W.kla_fn "<lambda>" q params body scope cl pm cv ctv) ⟨[], []⟩ = pure [])
    (hbody : ∀ (A : Around) (outer : List Env) (s : Shared) (H : Hp) (E : XK) (f c' : Addr), Room k (A.deeper (LamX.lamEnv X scope s.heap.objs.size f c')) → PE (LamX.lamCx X A outer s H E scope f c') body (t E)) :
    PE X (.Call (.Name "_law_refused" p) [.Lambda params body scope lpos] [] pos) (LamX.tLam [(P, X.env.qual ++ "<lambda>")] (TTref X.K CS) t) := by
  obtain ⟨oc, od, kV, doc, pm, an, cdv, ct, osl, rfl, lk, hcd⟩ := FR.ex
  exact LamX.pe_lamcall (a := "call") (Ng := ["call"]) hg mR FR.kp lk hcd bR sc_refused rfl (.inl rfl) (refused_gives T) TB hcode (List.mem_singleton.mpr rfl) (fun p hp _ => by cases List.mem_singleton.mp hp; rfl) hr L hdef hbind hbody
/-- a def whose code object is known -/
theorem okGc {x qual : Str} {st : Stmt} {f c : Addr} {oc : Value} {od an : Option Addr} {osl : Array (Option Value)} {kV doc pm ct : Value} {N ps : List Str} {k : Nat} {sp : Sp} (lk : K.lookup f = some ⟨oc, od, .func (PySem.W.fnOf x qual (defArgs st) (defBody st) (defScope st) .none kV doc pm an (.ref c) ct), osl⟩)
    (hcd : PySem.W.codeIn K (.ref c) qual = true) (S : FnScope N ps (defScope st)) (len : ∀ vs H Q E, sp vs H Q E → vs.length = ps.length)
    (hbody : ∀ (A : Around) (outer : List Env) (s : Shared) (H : Hp) (vs : List V) (Q : VK) (E : XK), (A.deeper (envOfC qual (defScope st) s.heap.objs.size f (.ref c))).guards = some [] → Room k (A.deeper (envOfC qual (defScope st) s.heap.objs.size f (.ref c))) → sp vs H Q E →
      ∃ t, PSs (cxOf CX0 P w K mg base N qual (defScope st) f (.ref c) A outer s H E).nox (defBody st) t ∧ t { nx := fun _ H' => Q .non H', rt := Q } (start N vs) H) : FnG P w K mg base (k + 1) f (PySem.W.fnOf x qual (defArgs st) (defBody st) (defScope st) .none kV doc pm an (.ref c) ct) ps sp := by
  refine ⟨len, fun A outer s H args us vs Q E hg hr e0 hb r h => LamX.run_ofS lk hcd S hr e0 hb r (len _ _ _ _ h) fun hr' => ?_⟩
  obtain ⟨t, b, q⟩ := hbody A outer s H vs Q E (guards_deeper hg) hr' h
  exact ⟨t, b.nox, q⟩
abbrev lawN : List Str := ["script", "told", "spot", "one", "at", "bag", "value", "names", "fields", "part", "good", "word"]
theorem scLaw : FnScope lawN ["script"] (defScope s_law) := ⟨rfl, rfl, rfl, by decide +kernel, rfl, by decide +kernel, by decide +kernel⟩
/-! ### what the drawn values are -/
def smallP : PyData → Bool
  | .str x => decide (x.length ≤ 100000)
  | _ => true
def nameP : PyData → Bool
  | .str x => isName x
  | _ => false
def itemsP : PyData → Bool
  | .tuple ds => ds.all smallP
  | _ => true
def strsP : List PyData → Option (List Str)
  | [] => some []
  | .str x :: r => (strsP r).map (x :: ·)
  | _ :: _ => none
def fieldsB (zs : List Str) : Bool := decide (1 ≤ zs.length) && decide (zs.length ≤ 4) && zs.all isName && decide zs.Nodup
def badP : PyData → Bool
  | .tuple ds => match strsP ds with | some zs => !fieldsB zs | none => true
  | _ => true
theorem rp_dat {H : Hp} : ∀ {d : PyData} {v : V}, Rp H d v → smallP d = true → Dat H v
  | .none, _, h, _ => by cases (show _ = V.non from h); exact True.intro
  | .bool b, _, h, _ => by cases (show _ = V.bl b from h); exact True.intro
  | .int i, _, h, _ => by cases (show _ = V.int i from h); exact True.intro
  | .str x, _, h, s => by cases (show _ = V.str x from h); exact (show x.length ≤ 100000 from of_decide_eq_true (show decide (x.length ≤ 100000) = true from s))
  | .list ds, _, ⟨a, xs, e, h1, _⟩, _ => by subst e; exact .inl ⟨_, h1⟩
  | .tuple ds, _, ⟨a, xs, e, h1, _⟩, _ => by subst e; exact .inr (.inl ⟨_, h1⟩)
  | .dict kvs, _, ⟨a, ks, e, h1, _⟩, _ => by subst e; exact .inr (.inr ⟨_, h1⟩)
theorem rpA_dat {H : Hp} : ∀ {ds : List PyData} {xs : List V}, RpA H ds xs → ds.all smallP = true → ∀ x ∈ xs, Dat H x
  | [], _, e, _, x, hx => by subst e; cases hx
  | d :: ds, _, ⟨y, ys, e, h1, h2⟩, s, x, hx => by
    subst e
    rw [List.all_cons, Bool.and_eq_true] at s
    cases hx with
    | head => exact rp_dat h1 s.1
    | tail _ hx => exact rpA_dat h2 s.2 x hx
theorem rp_items {H : Hp} {d : PyData} {v : V} (h : Rp H d v) (s : itemsP d = true) : ∀ a xs, v = .ref a → H a = some (.tup xs) → ∀ x ∈ xs, Dat H x := fun a xs e e2 => by
  cases d with
  | tuple ds =>
    obtain ⟨a', xs', e', h1, h2⟩ := h
    rw [e] at e'
    cases e'
    rw [e2] at h1
    cases h1
    exact rpA_dat h2 s
  | list ds =>
    obtain ⟨a', xs', e', h1, h2⟩ := h
    rw [e] at e'
    cases e'
    rw [e2] at h1
    cases h1
  | dict ds =>
    obtain ⟨a', xs', e', h1, h2⟩ := h
    rw [e] at e'
    cases e'
    rw [e2] at h1
    cases h1
  | none => rw [e] at h; cases (show V.ref a = V.non from h)
  | bool b => rw [e] at h; cases (show V.ref a = V.bl b from h)
  | int i => rw [e] at h; cases (show V.ref a = V.int i from h)
  | str x => rw [e] at h; cases (show V.ref a = V.str x from h)
theorem rp_name {H : Hp} {d : PyData} {v : V} (h : Rp H d v) : nameV v = nameP d := by
  cases d with
  | tuple ds => obtain ⟨_, _, rfl, _⟩ := h; rfl
  | list ds => obtain ⟨_, _, rfl, _⟩ := h; rfl
  | dict ds => obtain ⟨_, _, rfl, _⟩ := h; rfl
  | none => cases (show v = V.non from h); rfl
  | bool b => cases (show v = V.bl b from h); rfl
  | int i => cases (show v = V.int i from h); rfl
  | str x => cases (show v = V.str x from h); rfl
theorem rp_strs {H : Hp} : ∀ {ds : List PyData} {zs : List Str}, RpA H ds (zs.map V.str) → strsP ds = some zs
  | [], [], _ => rfl
  | [], z :: zs, h => by cases (show V.str z :: zs.map V.str = [] from h)
  | d :: ds, [], ⟨_, _, e, _⟩ => by cases e
  | d :: ds, z :: zs, ⟨y, ys, e, h1, h2⟩ => by
    injection e with e1 e2
    subst e1 e2
    cases d with
    | str x =>
      cases (show V.str z = V.str x from h1)
      show (strsP ds).map (z :: ·) = _
      rw [rp_strs h2]
      rfl
    | none => cases (show V.str z = V.non from h1)
    | bool b => cases (show V.str z = V.bl b from h1)
    | int i => cases (show V.str z = V.int i from h1)
    | tuple ds => obtain ⟨_, _, e, _⟩ := h1; cases e
    | list ds => obtain ⟨_, _, e, _⟩ := h1; cases e
    | dict ds => obtain ⟨_, _, e, _⟩ := h1; cases e
theorem rp_bad {H : Hp} {d : PyData} {v : V} (h : Rp H d v) (hb : badP d = true) : ¬ FieldsV H v := fun ⟨a, zs, e, e2, ok⟩ => by
  cases d with
  | tuple ds =>
    obtain ⟨a', xs', e', h1, h2⟩ := h
    rw [e] at e'
    cases e'
    rw [e2] at h1
    cases h1
    have b' : (match strsP ds with | some zs => !fieldsB zs | none => true) = true := hb
    rw [rp_strs h2] at b'
    have f : fieldsB zs = true := by
      obtain ⟨o1, o2, o3, o4⟩ := ok
      unfold fieldsB
      rw [decide_eq_true o1, decide_eq_true o2, decide_eq_true o4, List.all_eq_true.mpr o3]
      rfl
    rw [show (match some zs with | some zs => !fieldsB zs | none => true) = !fieldsB zs from rfl, f] at b'
    cases b'
  | list ds =>
    obtain ⟨a', xs', e', h1, h2⟩ := h
    rw [e] at e'
    cases e'
    rw [e2] at h1
    cases h1
  | dict ds =>
    obtain ⟨a', xs', e', h1, h2⟩ := h
    rw [e] at e'
    cases e'
    rw [e2] at h1
    cases h1
  | none => rw [e] at h; cases (show V.ref a = V.non from h)
  | bool b => rw [e] at h; cases (show V.ref a = V.bl b from h)
  | int i => rw [e] at h; cases (show V.ref a = V.int i from h)
  | str x => rw [e] at h; cases (show V.ref a = V.str x from h)
theorem val_all : valD.all (fun d => smallP d && itemsP d && !nameP d && badP d && reprable [d, d, d, d, d, d, d]) = true := by decide +kernel
theorem val_facts {d : PyData} (h : d ∈ valD) : smallP d = true ∧ itemsP d = true ∧ nameP d = false ∧ badP d = true ∧ reprable [d, d, d, d, d, d, d] = true := by
  have := List.all_eq_true.mp val_all d h
  simp only [Bool.and_eq_true, Bool.not_eq_true'] at this
  exact ⟨this.1.1.1.1, this.1.1.1.2, this.1.1.2, this.1.2, this.2⟩
variable {P0 : Program}
def spPartX (C : Addr) : Sp := fun vs H Q E => spPartA vs H Q E ∨ spPartBad C vs H Q E
def spLaw (K : PySem.W.Frag) (P : Addr) : Sp := fun vs H Q _ => ∃ (a : Addr) (ns : List Int), vs = [.ref a] ∧ SqL K H a (ns.map V.int) ∧ ns.length ≤ 63 ∧ H P = some (.tbl #[]) ∧ ∀ H', Q (.bl true) H'
theorem keep_same {b : Addr} {H0 H1 H2 : Hp} (s : Same H0 H1) (n : H0 b = none) (k : Keep b H1 H2) : Same H0 H2 := fun a o e => k a o (ne_of_none e n) (s a o e)
abbrev lamT (P : Addr) : List (Addr × Str) := [(P, (envOfC "law" (defScope s_law) 0 0 Value.none).qual ++ "<lambda>")]
theorem sq_ext {H H' : Hp} {a : Addr} {xs : List V} (k : LamX.ExtN H H') (h : SqL K H a xs) : SqL K H' a xs := by
  rcases h with (h | ⟨o, h⟩) | h
  · exact .inl (.inl (k _ _ h (fun _ z => nomatch z)))
  · exact .inl (.inr ⟨o, k _ _ h (fun _ z => nomatch z)⟩)
  · exact .inr h
theorem pa_lift {X : Cx} {k : Nat} {x : Str} {sp : Sp} (c : CalX X.prog X.w X.K X.mg X.base k x sp) : CalX X.prog X.w X.K X.mg X.base k x sp := c
set_option maxHeartbeats 8000000 in
theorem ok_law {fdg : FuncData} {f c P g CS : Addr} {oc : Value} {od an : Option Addr} {osl : Array (Option Value)} {kV doc pm ct : Value} {c0 c1 c2 c3 c4 c5 c6 c7 c8 c9 c10 c11 c12 c13 c14 c15 : Addr} (lk : K.lookup f = some ⟨oc, od, .func (PySem.W.fnOf "law" "law" (defArgs s_law) (defBody s_law) (defScope s_law) .none kV doc pm an (.ref c) ct), osl⟩) (hcd : PySem.W.codeIn K (.ref c) "law" = true)
    (FR : Fun K "_law_refused" "_law_refused" s_L_refused g fdg) (bR : Binds K fdg ["call"] []) (mR : mg "_law_refused" = some (.ref g)) (T : XcP K mg "InvalidWord" CS) (TB : LamX.TabB base mg c P)
    (mr : mg "range" = none) (mx : mg "max" = none) (mn : mg "min" = none) (ml : mg "len" = none) (mI : mg "isinstance" = none) (mT : mg "tuple" = none) (mE : mg "enumerate" = none) (mS : mg "str" = none) (mB : mg "bool" = none)
    {fe : Addr} {fde : FuncData} (eR : FnG P0 w K mg base 3 fe fde ["value"] spErr) (mE2 : mg "_law_errors_right" = some (.ref fe)) (kE : PySem.W.keepIn K (.ref fe) = true) (bE : Binds K fde ["value"] [])
    (G : True) (EC : ∀ i < 9, True)
    (cB : Cal P0 w K mg base 1 "_law_bag" (spBag K)) (cR : Cal P0 w K mg base 1 "_law_roll" spRoll) (cO : Cal P0 w K mg base 2 "_law_one" (spOne K)) (cV : Cal P0 w K mg base 3 "_law_value" spValue) (cNs : Cal P0 w K mg base 4 "_law_names" spNames)
    (cF : Cal P0 w K mg base 3 "is_fields" spFields) (cN : Cal P0 w K mg base 1 "is_name" spIsName) (cIn : Cal P0 w K mg base 1 "is_integer" spInt) (cPA : Cal P0 w K mg base 4 "is_part" spPartA)
    (cOw : Cal P0 w K mg base 1 "_law_own" (spOwn K c0 c1 c2 c3 c4 c5 c6 c7 c8 c9 c10 c11 c12 c13 c14 c15)) (cPy : Cal P0 w K mg base 1 "_law_python" (spPy K)) (cRw : Cal P0 w K mg base 1 "_law_row" spRow) (cPl : Cal P0 w K mg base 1 "_law_plain" (spPlain c0 c1 c2 c3 c4 c5 c6 c7 c8))
    (xO : CalX P0 w K mg base 3 "do_overlap" (spOverX CS)) (xP : CalX P0 w K mg base 4 "is_part" (spPartX CS))
    (E0 : ExcC K c0) (Q0 : Row16 K c0 c0 c1 c2 c3 c4 c5 c6 c7 c8 c9 c10 c11 c12 c13 c14 c15 true false false false false false false false false false false false false false false false) (Y0 : Row7 K c0 true false false false false false false) (E1 : ExcC K c1) (Q1 : Row16 K c1 c0 c1 c2 c3 c4 c5 c6 c7 c8 c9 c10 c11 c12 c13 c14 c15 true true false false false false false false false false false false false false false false) (Y1 : Row7 K c1 true false false false false false false) (E2 : ExcC K c2) (Q2 : Row16 K c2 c0 c1 c2 c3 c4 c5 c6 c7 c8 c9 c10 c11 c12 c13 c14 c15 true false true false false false false false false false false false false false false false) (Y2 : Row7 K c2 true false false false false false false) (E3 : ExcC K c3) (Q3 : Row16 K c3 c0 c1 c2 c3 c4 c5 c6 c7 c8 c9 c10 c11 c12 c13 c14 c15 true false false true false false false false false false false false false false false false) (Y3 : Row7 K c3 true false false false false false false) (E4 : ExcC K c4) (Q4 : Row16 K c4 c0 c1 c2 c3 c4 c5 c6 c7 c8 c9 c10 c11 c12 c13 c14 c15 true false false false true false false false false false false false false false false false) (Y4 : Row7 K c4 true false false false false false false) (E5 : ExcC K c5) (Q5 : Row16 K c5 c0 c1 c2 c3 c4 c5 c6 c7 c8 c9 c10 c11 c12 c13 c14 c15 true false false false false true false false false false false false false false false false) (Y5 : Row7 K c5 true false false false false false false) (E6 : ExcC K c6) (Q6 : Row16 K c6 c0 c1 c2 c3 c4 c5 c6 c7 c8 c9 c10 c11 c12 c13 c14 c15 true false false false false false true false false false false false false false false false) (Y6 : Row7 K c6 true false false false false false false) (E7 : ExcC K c7) (Q7 : Row16 K c7 c0 c1 c2 c3 c4 c5 c6 c7 c8 c9 c10 c11 c12 c13 c14 c15 true false false false false false false true false false false false false false false false) (Y7 : Row7 K c7 true false false false false false false) (E8 : ExcC K c8) (Q8 : Row16 K c8 c0 c1 c2 c3 c4 c5 c6 c7 c8 c9 c10 c11 c12 c13 c14 c15 true false false false false false false false true false false false false false false false) (Y8 : Row7 K c8 true false false false false false false) :
    FnG P0 w K mg base 7 f (PySem.W.fnOf "law" "law" (defArgs s_law) (defBody s_law) (defScope s_law) .none kV doc pm an (.ref c) ct) ["script"] (spLaw K P) := by
  refine okGc lk hcd scLaw (fun vs H Q E h => ?_) (fun A outer s H vs Q E gd hr h => ?_)
  · obtain ⟨a, ns, rfl, _⟩ := h
    rfl
  · obtain ⟨a, ns, rfl, hS, few, tb, q⟩ := h
    refine ⟨_, (pss_cons (ps_set (i := 1) scLaw.nd rfl (.inl rfl) (pe_lst (pa_cons (pe_ref (k := 4) FR bR mR T (by rfl) TB rfl (hr.mono (by omega)) (LamX.lamS_by (sc := defScope s_law) (by decide +kernel)) rfl (fun _ _ _ _ _ => rfl) (fun A2 outer2 s2 H2 E2 f2 c2 hr2 => pe_cX (E := fun _ => E2) xO hr2 (by omega) (by rfl) (fun σ => passAt (takes_of rfl rfl rfl rfl) σ) (pa_cons (pe_str) (pa_cons (pe_str) pa_nil)))) pa_nil)))
      (pss_cons (ps_expr (pe_bm PySem.F.plainAttrs_list PySem.F.slot_list_append PySem.F.type_list_append mt_append (pv 1) (pa_cons (pe_ref (k := 4) FR bR mR T (by rfl) TB rfl (hr.mono (by omega)) (LamX.lamS_by (sc := defScope s_law) (by decide +kernel)) rfl (fun _ _ _ _ _ => rfl) (fun A2 outer2 s2 H2 E2 f2 c2 hr2 => pe_cX (E := fun _ => E2) xO hr2 (by omega) (by rfl) (fun σ => passAt (takes_of rfl rfl rfl rfl) σ) (pa_cons (pe_str) (pa_cons (pe_str) pa_nil)))) pa_nil)))
      (pss_cons (ps_if (pt_cmpR (op_neD hr.units) (pv 1) (pe_lst (pa_cons (pe_bl) (pa_cons (pe_bl) pa_nil))) (nomark _)) (pss_one (ps_ret pe_bl)) pss_nil)
      (Evl.pss_cut (ps_for PassesOwn.never rfl (pi_enum (by rfl) mE (pa_cons (pe_c0 cPl hr (by omega) (by rfl)) pa_nil)) (pg_tup (by rfl) (pgs_cons (pg_name (i := 2) scLaw.nd rfl (Or.inl rfl)) (pgs_cons (pg_name (i := 3) scLaw.nd rfl (Or.inl rfl)) pgs_nil))) (pss_one (ps_if (PW.pt (pw_or (pt_cmpR (op_neD hr.units) (C8.pe_c cOw hr (by omega) (by rfl) (pa_cons (pv 3) pa_nil)) (C8.pe_c cRw hr (by omega) (by rfl) (pa_cons (pe_int) (pa_cons (pe_lst (pa_cons (pe_int) (pa_cons (pv 2) pa_nil))) pa_nil))) (nomark _)) (pw_or1 (pt_cmpR (op_neD hr.units) (C8.pe_c cPy hr (by omega) (by rfl) (pa_cons (pv 3) pa_nil)) (C8.pe_c cRw hr (by omega) (by rfl) (pa_cons (pe_int) (pa_cons (pe_lst (pa_cons (pe_int) pa_nil)) pa_nil))) (nomark _))))) (pss_one (ps_ret pe_bl)) pss_nil)))
      (pss_cons (ps_for PassesOwn.never rfl (pi_range1 (by rfl) mr (pa_cons (pe_callB (call_max2 rfl) (by rfl) mx (by decide +kernel) (pa_cons (pe_int) (pa_cons (pe_callB (call_min2 rfl) (by rfl) mn (by decide +kernel) (pa_cons (pe_int) (pa_cons (pe_callB call_len_seq (by rfl) ml PySem.boot_len (pa_cons (pv 0) pa_nil)) pa_nil))) pa_nil))) pa_nil))
          (pg_name (i := 4) scLaw.nd rfl (Or.inl rfl)) (pss_cons (ps_set (i := 5) scLaw.nd rfl (.inl rfl) (C8.pe_c cB hr (by omega) (by rfl) (pa_cons (pv 0) (pa_cons (pv 4) pa_nil))))
      (pss_cons (ps_asg (pe_tup (pa_cons (C8.pe_c cV hr (by omega) (by rfl) (pa_cons (pv 5) pa_nil)) (pa_cons (C8.pe_c cNs hr (by omega) (by rfl) (pa_cons (pv 5) (pa_cons (pe_int) pa_nil))) pa_nil))) (pg_tup (by rfl) (pgs_cons (pg_name (i := 6) scLaw.nd rfl (Or.inr rfl)) (pgs_cons (pg_name (i := 7) scLaw.nd rfl (Or.inl rfl)) pgs_nil))))
      (pss_cons (ps_asg (pe_tup (pa_cons (pe_callTy call_tuple_of (by rfl) mT (by decide +kernel) (pa_cons (pe_slice sl_list (pv 7) po_none (po_some (pe_op op_add pe_int (C8.pe_c cR hr (by omega) (by rfl) (pa_cons (pv 5) (pa_cons (pe_int) pa_nil)))))) pa_nil)) (pa_cons (C8.pe_c cO hr (by omega) (by rfl) (pa_cons (pv 5) (pa_cons (pe_op op_cat (pv 7) (pe_lst (pa_cons (pe_str) pa_nil))) pa_nil))) pa_nil))) (pg_tup (by rfl) (pgs_cons (pg_name (i := 8) scLaw.nd rfl (Or.inr rfl)) (pgs_cons (pg_name (i := 9) scLaw.nd rfl (Or.inr rfl)) pgs_nil))))
      (pss_cons (ps_if (pt_not (pt_val (pe_cG eR gd (hr.mono (by omega)) (by rfl) mE2 kE bE (pa_cons (pv 6) pa_nil)))) (pss_one (ps_ret pe_bl)) pss_nil)
      (pss_cons (ps_set (i := 10) scLaw.nd rfl (.inl rfl) (C8.pe_c cF hr (by omega) (by rfl) (pa_cons (pv 6) pa_nil)))
      (pss_cons (ps_if (pt_cmpR op_eq (pe_ref (k := 4) FR bR mR T (by rfl) TB rfl (hr.mono (by omega)) (LamX.lamS_by (sc := defScope s_law) (by decide +kernel)) rfl (fun _ _ _ _ _ => rfl) (fun A2 outer2 s2 H2 E2 f2 c2 hr2 => pe_cX (E := fun _ => E2) xP hr2 (by omega) (by rfl) (fun σ => passAt (takes_of rfl rfl rfl rfl) σ) (pa_cons (pv 6) (pa_cons (pv 9) pa_nil)))) (pv 10) (nomark _)) (pss_one (ps_ret pe_bl)) pss_nil)
      (pss_cons (ps_if (pt_val (pe_ref (k := 4) FR bR mR T (by rfl) TB rfl (hr.mono (by omega)) (LamX.lamS_by (sc := defScope s_law) (by decide +kernel)) rfl (fun _ _ _ _ _ => rfl) (fun A2 outer2 s2 H2 E2 f2 c2 hr2 => pe_cX (E := fun _ => E2) xP hr2 (by omega) (by rfl) (fun σ => passAt (takes_of rfl rfl rfl rfl) σ) (pa_cons (pv 8) (pa_cons (pv 6) pa_nil))))) (pss_one (ps_ret pe_bl)) pss_nil)
      (Evl.pss_cut (ps_set (i := 11) scLaw.nd rfl (.inl rfl) (pe_or (C8.pe_c cN hr (by omega) (by rfl) (pa_cons (pv 6) pa_nil)) (pe_one (pe_and (pe_callB call_isi (by rfl) mI (by decide +kernel) (pa_cons (pv 6) (pa_cons (pe_bltn (by rfl) mS (by decide +kernel) (v := .ty "str") rfl) pa_nil))) (pe_one (pe_cmpR (op_eqS (roomN hr)) (pv 6) pe_str (nomark _)))))))
      (pss_cons (ps_set (i := 1) scLaw.nd rfl (.inl rfl) (pe_lst (pa_cons (pe_ref (k := 4) FR bR mR T (by rfl) TB rfl (hr.mono (by omega)) (LamX.lamS_by (sc := defScope s_law) (by decide +kernel)) rfl (fun _ _ _ _ _ => rfl) (fun A2 outer2 s2 H2 E2 f2 c2 hr2 => pe_cX (E := fun _ => E2) xO hr2 (by omega) (by rfl) (fun σ => passAt (takes_of rfl rfl rfl rfl) σ) (pa_cons (pv 6) (pa_cons (pv 9) pa_nil)))) pa_nil)))
      (pss_cons (ps_expr (pe_bm PySem.F.plainAttrs_list PySem.F.slot_list_append PySem.F.type_list_append mt_append (pv 1) (pa_cons (pe_ref (k := 4) FR bR mR T (by rfl) TB rfl (hr.mono (by omega)) (LamX.lamS_by (sc := defScope s_law) (by decide +kernel)) rfl (fun _ _ _ _ _ => rfl) (fun A2 outer2 s2 H2 E2 f2 c2 hr2 => pe_cX (E := fun _ => E2) xO hr2 (by omega) (by rfl) (fun σ => passAt (takes_of rfl rfl rfl rfl) σ) (pa_cons (pv 9) (pa_cons (pv 6) pa_nil)))) pa_nil)))
      (pss_cons (ps_expr (pe_bm PySem.F.plainAttrs_list PySem.F.slot_list_append PySem.F.type_list_append mt_append (pv 1) (pa_cons (pe_ref (k := 4) FR bR mR T (by rfl) TB rfl (hr.mono (by omega)) (LamX.lamS_by (sc := defScope s_law) (by decide +kernel)) rfl (fun _ _ _ _ _ => rfl) (fun A2 outer2 s2 H2 E2 f2 c2 hr2 => pe_cX (E := fun _ => E2) xO hr2 (by omega) (by rfl) (fun σ => passAt (takes_of rfl rfl rfl rfl) σ) (pa_cons (pv 6) (pa_cons (pv 6) pa_nil)))) pa_nil)))
      (pss_cons (ps_expr (pe_bm PySem.F.plainAttrs_list PySem.F.slot_list_append PySem.F.type_list_append mt_append (pv 1) (pa_cons (pe_ref (k := 4) FR bR mR T (by rfl) TB rfl (hr.mono (by omega)) (LamX.lamS_by (sc := defScope s_law) (by decide +kernel)) rfl (fun _ _ _ _ _ => rfl) (fun A2 outer2 s2 H2 E2 f2 c2 hr2 => pe_cX (E := fun _ => E2) xO hr2 (by omega) (by rfl) (fun σ => passAt (takes_of rfl rfl rfl rfl) σ) (pa_cons (pv 9) (pa_cons (pv 9) pa_nil)))) pa_nil)))
      (pss_cons (ps_if (pt_cmpR (op_neD hr.units) (pv 1) (pe_lst (pa_cons (pe_not (pv 11)) (pa_cons (pe_not (pv 11)) (pa_cons (pe_not (pv 11)) (pa_cons (pe_bl) pa_nil))))) (nomark _)) (pss_one (ps_ret pe_bl)) pss_nil)
      (pss_cons (ps_set (i := 1) scLaw.nd rfl (.inl rfl) (pe_lst (pa_cons (C8.pe_c cIn hr (by omega) (by rfl) (pa_cons (pv 6) pa_nil)) (pa_cons (pv 10) (pa_cons (C8.pe_c cN hr (by omega) (by rfl) (pa_cons (pv 6) pa_nil)) (pa_cons (C8.pe_c cPA hr (by omega) (by rfl) (pa_cons (pv 8) (pa_cons (pe_ix ix_tup (pv 8) pe_int (fun _ _ => rfl)) pa_nil))) (pa_cons (C8.pe_c cPA hr (by omega) (by rfl) (pa_cons (pv 8) (pa_cons (pv 6) pa_nil))) pa_nil)))))))
      (pss_one (ps_if (PW.pt (pw_or (pt_cmpR (op_neNilL (roomN hr)) (pe_lc (own := [("one", 3)]) (g := gName 3) rfl scLaw.nd (pi_list (pv 1)) (blkOk_by (N := lawN) (sc := defScope s_law) (by decide +kernel))
            (fun _ _ _ _ _ => pg_name (i := 3) scLaw.nd rfl (Or.inl rfl)) (fun _ _ _ _ _ => pts_one (pt_not (pt_val (pe_callB (isi_K (K := K) rfl) (by rfl) mI (by decide +kernel) (pa_cons (pv 3) (pa_cons (pe_bltn (by rfl) mB (by decide +kernel) (v := .ty "bool") rfl) pa_nil)))))) (fun _ _ _ _ _ => pv 3)) (pe_lst pa_nil) (nomark _))
          (pw_or1 (pt_not (pt_val (pe_ix ix_list (pv 1) pe_int (fun _ _ => rfl))))))) (pss_one (ps_ret pe_bl)) pss_nil)))))))))))))))))
      (pss_one (ps_ret pe_bl))))))), ?_⟩
    have oT : openV (.str "T") = false := by decide +kernel
    have dE : ∀ H', Dat H' (.str "") := fun _ => (by decide : (Str.ofString "").length ≤ 100000)
    have dT : ∀ H', Dat H' (.str "T") := fun _ => (by decide : (Str.ofString "T").length ≤ 100000)
    have tabs0 : ∀ qn, LamX.Tabs [(P, qn)] H := fun qn p hp => by
      cases List.mem_singleton.mp hp
      exact LamX.TabS.nil tb
    refine ⟨tabs0 _, fun H1 x1 t1 => ⟨.str "", .str "T", rfl, dE _, dT _, (fun _ h => absurd h (by rw [oT]; decide)), fun _ H2 s2 => ⟨rfl, (show 1 ≤ sizeLine by decide), fun l nl => ?_⟩⟩⟩
    have x2 := x1.trans (.of s2)
    have xA := x2.trans (.of (same_upd nl (o := HO.lst [V.bl true])))
    have tA := (t1.ext s2).ext (same_upd nl (o := HO.lst [V.bl true]))
    refine ⟨_, rfl, .inl ⟨rfl, [V.bl true], .inl (.inl upd_same)⟩, tA, fun H3 x3 t3 => ⟨.str "T", .str "", rfl, dT _, dE _, (fun h => absurd h (by rw [oT]; decide)), fun _ H4 s4 => ⟨rfl, ?_⟩⟩⟩
    have h4 := s4 _ _ (x3 _ _ (put_at nl (o := HO.lst [V.bl true])) (fun _ z => nomatch z))
    have x4 := (xA.trans x3).trans (.of s4)
    refine ⟨l, [V.bl true], .bl true, rfl, rfl, h4, (show 1 < sizeLine by decide), ?_⟩
    have x5 := extN_put (o := HO.lst ([V.bl true] ++ [V.bl true])) x2 nl x4
    have t5 := tabs_put (o := HO.lst ([V.bl true] ++ [V.bl true])) (t3.ext s4) h4
    refine ⟨_, rfl, (show 2 ≤ sizeLine by decide), fun p np => ⟨.list ([true, true].map .bool), .list ([true, true].map .bool), .lst (.inl (.inl (same_upd np _ _ upd_same))) (dp_bools [true, true]), .lst (.inl (.inl upd_same)) (dp_bools [true, true]), rfl, rfl, _, rfl, ?_⟩⟩
    rw [eqv_bl]
    refine iteF ?_
    have x6 := x5.trans (.of (same_upd np (o := HO.lst [V.bl true, V.bl true])))
    have t6 := t5.ext (same_upd np (o := HO.lst [V.bl true, V.bl true]))
    have hS6 := sq_ext x6 hS
    generalize L2.upd (L2.upd H4 l (HO.lst ([V.bl true] ++ [V.bl true]))) p (HO.lst [V.bl true, V.bl true]) = H6 at t6 hS6
    clear x6 t5 x5 np h4 x4 t3 x3 s4 tA xA x2 nl s2 t1 x1 tabs0 tb hS
    refine ⟨fun σ9 H9 => (∃ y2 y3 : Option V, σ9 = [some (.ref a), some (.ref l), y2, y3, none, none, none, none, none, none, none, none]) ∧ LamX.ExtN H6 H9 ∧ LamX.Tabs (lamT P) H9, ?_, ?_⟩
    · refine ⟨rfl, fun H7 p7 es s7 h7 pe7 => ?_⟩
      match es, pe7 with
      | [e0, e1, e2, e3, e4, e5, e6, e7, e8], .cons r0 (.cons r1 (.cons r2 (.cons r3 (.cons r4 (.cons r5 (.cons r6 (.cons r7 (.cons r8 .nil)))))))) =>
        refine ⟨p7, _, rfl, .inl (.inl h7), for_it walk_enum (fun i σ H' => (∃ y2 y3 : Option V, σ = [some (.ref a), some (.ref l), y2, y3, none, none, none, none, none, none, none, none]) ∧ Same H7 H') ⟨⟨none, none, rfl⟩, .refl _⟩ (fun i σ H' _ hP => .inl (.inl (hP.2 _ _ h7))) ?_ (fun σ H' hP => ⟨hP.1, .of (s7.trans hP.2), t6.ext (s7.trans hP.2)⟩)⟩
        rintro i y σ H3 H4 hi ⟨⟨y2, y3, rfl⟩, sm0⟩ ⟨TT, x, z, rfl, nT, rfl, hx, hz⟩
        have sm := sm0.trans (same_upd nT (o := HO.tup [x, z]))
        have hi9 : i < 9 := hi
        have i9 : i = 0 ∨ i = 1 ∨ i = 2 ∨ i = 3 ∨ i = 4 ∨ i = 5 ∨ i = 6 ∨ i = 7 ∨ i = 8 := by omega
        rcases i9 with rfl | rfl | rfl | rfl | rfl | rfl | rfl | rfl | rfl
        · cases hx
          cases hz
          refine ⟨TT, _, rfl, .inl (.inl upd_same), rfl, _, _, rfl, _, _, rfl, rfl, ?_⟩
          refine ⟨_, rfl, e0, c0, true, false, false, false, false, false, false, false, false, false, false, false, false, false, false, false, rfl, r0.ext sm, E0, Q0, fun H5 pa s1 h1 => ?_⟩
          refine ⟨_, rfl, (show 2 ≤ sizeLine by decide), fun pi ni => ⟨16, pi, [0, (0 : Int)], rfl, by decide, upd_same, fun H8 pb s2 h2 => ?_⟩⟩
          have s3 := (same_upd ni (o := HO.lst [V.int 0, V.int ((0 : Nat) : Int)])).trans s2
          refine ⟨.list ([true, false, false, false, false, false, false, false, false, false, false, false, false, false, false, false].map .bool), .list ([true, false, false, false, false, false, false, false, false, false, false, false, false, false, false, false].map .bool), .lst (.inl (.inl (s3 _ _ h1))) (dp_bools [true, false, false, false, false, false, false, false, false, false, false, false, false, false, false, false]), .lst (.inl (.inl (show H8 pb = some (.lst ([true, false, false, false, false, false, false, false, false, false, false, false, false, false, false, false].map V.bl)) from h2))) (dp_bools [true, false, false, false, false, false, false, false, false, false, false, false, false, false, false, false]), rfl, rfl, _, rfl, ?_⟩
          rw [eqv_bl]
          refine iteF ?_
          have sm2 := (sm.trans s1).trans s3
          refine ⟨_, rfl, e0, c0, true, false, false, false, false, false, false, rfl, r0.ext sm2, E0, Y0, fun H10 pc s4 h4 => ?_⟩
          refine ⟨(show 1 ≤ sizeLine by decide), fun pj nj => ⟨7, pj, [0], rfl, by decide, upd_same, fun H11 pd s5 h5 => ?_⟩⟩
          have s6 := (same_upd nj (o := HO.lst [V.int 0])).trans s5
          refine ⟨.list ([true, false, false, false, false, false, false].map .bool), .list ([true, false, false, false, false, false, false].map .bool), .lst (.inl (.inl (s6 _ _ h4))) (dp_bools [true, false, false, false, false, false, false]), .lst (.inl (.inl (show H11 pd = some (.lst ([true, false, false, false, false, false, false].map V.bl)) from h5))) (dp_bools [true, false, false, false, false, false, false]), rfl, rfl, _, rfl, ?_⟩
          rw [eqv_bl]
          exact iteF ⟨⟨_, _, rfl⟩, (sm2.trans s4).trans s6⟩
        · cases hx
          cases hz
          refine ⟨TT, _, rfl, .inl (.inl upd_same), rfl, _, _, rfl, _, _, rfl, rfl, ?_⟩
          refine ⟨_, rfl, e1, c1, true, true, false, false, false, false, false, false, false, false, false, false, false, false, false, false, rfl, r1.ext sm, E1, Q1, fun H5 pa s1 h1 => ?_⟩
          refine ⟨_, rfl, (show 2 ≤ sizeLine by decide), fun pi ni => ⟨16, pi, [0, (1 : Int)], rfl, by decide, upd_same, fun H8 pb s2 h2 => ?_⟩⟩
          have s3 := (same_upd ni (o := HO.lst [V.int 0, V.int ((1 : Nat) : Int)])).trans s2
          refine ⟨.list ([true, true, false, false, false, false, false, false, false, false, false, false, false, false, false, false].map .bool), .list ([true, true, false, false, false, false, false, false, false, false, false, false, false, false, false, false].map .bool), .lst (.inl (.inl (s3 _ _ h1))) (dp_bools [true, true, false, false, false, false, false, false, false, false, false, false, false, false, false, false]), .lst (.inl (.inl (show H8 pb = some (.lst ([true, true, false, false, false, false, false, false, false, false, false, false, false, false, false, false].map V.bl)) from h2))) (dp_bools [true, true, false, false, false, false, false, false, false, false, false, false, false, false, false, false]), rfl, rfl, _, rfl, ?_⟩
          rw [eqv_bl]
          refine iteF ?_
          have sm2 := (sm.trans s1).trans s3
          refine ⟨_, rfl, e1, c1, true, false, false, false, false, false, false, rfl, r1.ext sm2, E1, Y1, fun H10 pc s4 h4 => ?_⟩
          refine ⟨(show 1 ≤ sizeLine by decide), fun pj nj => ⟨7, pj, [0], rfl, by decide, upd_same, fun H11 pd s5 h5 => ?_⟩⟩
          have s6 := (same_upd nj (o := HO.lst [V.int 0])).trans s5
          refine ⟨.list ([true, false, false, false, false, false, false].map .bool), .list ([true, false, false, false, false, false, false].map .bool), .lst (.inl (.inl (s6 _ _ h4))) (dp_bools [true, false, false, false, false, false, false]), .lst (.inl (.inl (show H11 pd = some (.lst ([true, false, false, false, false, false, false].map V.bl)) from h5))) (dp_bools [true, false, false, false, false, false, false]), rfl, rfl, _, rfl, ?_⟩
          rw [eqv_bl]
          exact iteF ⟨⟨_, _, rfl⟩, (sm2.trans s4).trans s6⟩
        · cases hx
          cases hz
          refine ⟨TT, _, rfl, .inl (.inl upd_same), rfl, _, _, rfl, _, _, rfl, rfl, ?_⟩
          refine ⟨_, rfl, e2, c2, true, false, true, false, false, false, false, false, false, false, false, false, false, false, false, false, rfl, r2.ext sm, E2, Q2, fun H5 pa s1 h1 => ?_⟩
          refine ⟨_, rfl, (show 2 ≤ sizeLine by decide), fun pi ni => ⟨16, pi, [0, (2 : Int)], rfl, by decide, upd_same, fun H8 pb s2 h2 => ?_⟩⟩
          have s3 := (same_upd ni (o := HO.lst [V.int 0, V.int ((2 : Nat) : Int)])).trans s2
          refine ⟨.list ([true, false, true, false, false, false, false, false, false, false, false, false, false, false, false, false].map .bool), .list ([true, false, true, false, false, false, false, false, false, false, false, false, false, false, false, false].map .bool), .lst (.inl (.inl (s3 _ _ h1))) (dp_bools [true, false, true, false, false, false, false, false, false, false, false, false, false, false, false, false]), .lst (.inl (.inl (show H8 pb = some (.lst ([true, false, true, false, false, false, false, false, false, false, false, false, false, false, false, false].map V.bl)) from h2))) (dp_bools [true, false, true, false, false, false, false, false, false, false, false, false, false, false, false, false]), rfl, rfl, _, rfl, ?_⟩
          rw [eqv_bl]
          refine iteF ?_
          have sm2 := (sm.trans s1).trans s3
          refine ⟨_, rfl, e2, c2, true, false, false, false, false, false, false, rfl, r2.ext sm2, E2, Y2, fun H10 pc s4 h4 => ?_⟩
          refine ⟨(show 1 ≤ sizeLine by decide), fun pj nj => ⟨7, pj, [0], rfl, by decide, upd_same, fun H11 pd s5 h5 => ?_⟩⟩
          have s6 := (same_upd nj (o := HO.lst [V.int 0])).trans s5
          refine ⟨.list ([true, false, false, false, false, false, false].map .bool), .list ([true, false, false, false, false, false, false].map .bool), .lst (.inl (.inl (s6 _ _ h4))) (dp_bools [true, false, false, false, false, false, false]), .lst (.inl (.inl (show H11 pd = some (.lst ([true, false, false, false, false, false, false].map V.bl)) from h5))) (dp_bools [true, false, false, false, false, false, false]), rfl, rfl, _, rfl, ?_⟩
          rw [eqv_bl]
          exact iteF ⟨⟨_, _, rfl⟩, (sm2.trans s4).trans s6⟩
        · cases hx
          cases hz
          refine ⟨TT, _, rfl, .inl (.inl upd_same), rfl, _, _, rfl, _, _, rfl, rfl, ?_⟩
          refine ⟨_, rfl, e3, c3, true, false, false, true, false, false, false, false, false, false, false, false, false, false, false, false, rfl, r3.ext sm, E3, Q3, fun H5 pa s1 h1 => ?_⟩
          refine ⟨_, rfl, (show 2 ≤ sizeLine by decide), fun pi ni => ⟨16, pi, [0, (3 : Int)], rfl, by decide, upd_same, fun H8 pb s2 h2 => ?_⟩⟩
          have s3 := (same_upd ni (o := HO.lst [V.int 0, V.int ((3 : Nat) : Int)])).trans s2
          refine ⟨.list ([true, false, false, true, false, false, false, false, false, false, false, false, false, false, false, false].map .bool), .list ([true, false, false, true, false, false, false, false, false, false, false, false, false, false, false, false].map .bool), .lst (.inl (.inl (s3 _ _ h1))) (dp_bools [true, false, false, true, false, false, false, false, false, false, false, false, false, false, false, false]), .lst (.inl (.inl (show H8 pb = some (.lst ([true, false, false, true, false, false, false, false, false, false, false, false, false, false, false, false].map V.bl)) from h2))) (dp_bools [true, false, false, true, false, false, false, false, false, false, false, false, false, false, false, false]), rfl, rfl, _, rfl, ?_⟩
          rw [eqv_bl]
          refine iteF ?_
          have sm2 := (sm.trans s1).trans s3
          refine ⟨_, rfl, e3, c3, true, false, false, false, false, false, false, rfl, r3.ext sm2, E3, Y3, fun H10 pc s4 h4 => ?_⟩
          refine ⟨(show 1 ≤ sizeLine by decide), fun pj nj => ⟨7, pj, [0], rfl, by decide, upd_same, fun H11 pd s5 h5 => ?_⟩⟩
          have s6 := (same_upd nj (o := HO.lst [V.int 0])).trans s5
          refine ⟨.list ([true, false, false, false, false, false, false].map .bool), .list ([true, false, false, false, false, false, false].map .bool), .lst (.inl (.inl (s6 _ _ h4))) (dp_bools [true, false, false, false, false, false, false]), .lst (.inl (.inl (show H11 pd = some (.lst ([true, false, false, false, false, false, false].map V.bl)) from h5))) (dp_bools [true, false, false, false, false, false, false]), rfl, rfl, _, rfl, ?_⟩
          rw [eqv_bl]
          exact iteF ⟨⟨_, _, rfl⟩, (sm2.trans s4).trans s6⟩
        · cases hx
          cases hz
          refine ⟨TT, _, rfl, .inl (.inl upd_same), rfl, _, _, rfl, _, _, rfl, rfl, ?_⟩
          refine ⟨_, rfl, e4, c4, true, false, false, false, true, false, false, false, false, false, false, false, false, false, false, false, rfl, r4.ext sm, E4, Q4, fun H5 pa s1 h1 => ?_⟩
          refine ⟨_, rfl, (show 2 ≤ sizeLine by decide), fun pi ni => ⟨16, pi, [0, (4 : Int)], rfl, by decide, upd_same, fun H8 pb s2 h2 => ?_⟩⟩
          have s3 := (same_upd ni (o := HO.lst [V.int 0, V.int ((4 : Nat) : Int)])).trans s2
          refine ⟨.list ([true, false, false, false, true, false, false, false, false, false, false, false, false, false, false, false].map .bool), .list ([true, false, false, false, true, false, false, false, false, false, false, false, false, false, false, false].map .bool), .lst (.inl (.inl (s3 _ _ h1))) (dp_bools [true, false, false, false, true, false, false, false, false, false, false, false, false, false, false, false]), .lst (.inl (.inl (show H8 pb = some (.lst ([true, false, false, false, true, false, false, false, false, false, false, false, false, false, false, false].map V.bl)) from h2))) (dp_bools [true, false, false, false, true, false, false, false, false, false, false, false, false, false, false, false]), rfl, rfl, _, rfl, ?_⟩
          rw [eqv_bl]
          refine iteF ?_
          have sm2 := (sm.trans s1).trans s3
          refine ⟨_, rfl, e4, c4, true, false, false, false, false, false, false, rfl, r4.ext sm2, E4, Y4, fun H10 pc s4 h4 => ?_⟩
          refine ⟨(show 1 ≤ sizeLine by decide), fun pj nj => ⟨7, pj, [0], rfl, by decide, upd_same, fun H11 pd s5 h5 => ?_⟩⟩
          have s6 := (same_upd nj (o := HO.lst [V.int 0])).trans s5
          refine ⟨.list ([true, false, false, false, false, false, false].map .bool), .list ([true, false, false, false, false, false, false].map .bool), .lst (.inl (.inl (s6 _ _ h4))) (dp_bools [true, false, false, false, false, false, false]), .lst (.inl (.inl (show H11 pd = some (.lst ([true, false, false, false, false, false, false].map V.bl)) from h5))) (dp_bools [true, false, false, false, false, false, false]), rfl, rfl, _, rfl, ?_⟩
          rw [eqv_bl]
          exact iteF ⟨⟨_, _, rfl⟩, (sm2.trans s4).trans s6⟩
        · cases hx
          cases hz
          refine ⟨TT, _, rfl, .inl (.inl upd_same), rfl, _, _, rfl, _, _, rfl, rfl, ?_⟩
          refine ⟨_, rfl, e5, c5, true, false, false, false, false, true, false, false, false, false, false, false, false, false, false, false, rfl, r5.ext sm, E5, Q5, fun H5 pa s1 h1 => ?_⟩
          refine ⟨_, rfl, (show 2 ≤ sizeLine by decide), fun pi ni => ⟨16, pi, [0, (5 : Int)], rfl, by decide, upd_same, fun H8 pb s2 h2 => ?_⟩⟩
          have s3 := (same_upd ni (o := HO.lst [V.int 0, V.int ((5 : Nat) : Int)])).trans s2
          refine ⟨.list ([true, false, false, false, false, true, false, false, false, false, false, false, false, false, false, false].map .bool), .list ([true, false, false, false, false, true, false, false, false, false, false, false, false, false, false, false].map .bool), .lst (.inl (.inl (s3 _ _ h1))) (dp_bools [true, false, false, false, false, true, false, false, false, false, false, false, false, false, false, false]), .lst (.inl (.inl (show H8 pb = some (.lst ([true, false, false, false, false, true, false, false, false, false, false, false, false, false, false, false].map V.bl)) from h2))) (dp_bools [true, false, false, false, false, true, false, false, false, false, false, false, false, false, false, false]), rfl, rfl, _, rfl, ?_⟩
          rw [eqv_bl]
          refine iteF ?_
          have sm2 := (sm.trans s1).trans s3
          refine ⟨_, rfl, e5, c5, true, false, false, false, false, false, false, rfl, r5.ext sm2, E5, Y5, fun H10 pc s4 h4 => ?_⟩
          refine ⟨(show 1 ≤ sizeLine by decide), fun pj nj => ⟨7, pj, [0], rfl, by decide, upd_same, fun H11 pd s5 h5 => ?_⟩⟩
          have s6 := (same_upd nj (o := HO.lst [V.int 0])).trans s5
          refine ⟨.list ([true, false, false, false, false, false, false].map .bool), .list ([true, false, false, false, false, false, false].map .bool), .lst (.inl (.inl (s6 _ _ h4))) (dp_bools [true, false, false, false, false, false, false]), .lst (.inl (.inl (show H11 pd = some (.lst ([true, false, false, false, false, false, false].map V.bl)) from h5))) (dp_bools [true, false, false, false, false, false, false]), rfl, rfl, _, rfl, ?_⟩
          rw [eqv_bl]
          exact iteF ⟨⟨_, _, rfl⟩, (sm2.trans s4).trans s6⟩
        · cases hx
          cases hz
          refine ⟨TT, _, rfl, .inl (.inl upd_same), rfl, _, _, rfl, _, _, rfl, rfl, ?_⟩
          refine ⟨_, rfl, e6, c6, true, false, false, false, false, false, true, false, false, false, false, false, false, false, false, false, rfl, r6.ext sm, E6, Q6, fun H5 pa s1 h1 => ?_⟩
          refine ⟨_, rfl, (show 2 ≤ sizeLine by decide), fun pi ni => ⟨16, pi, [0, (6 : Int)], rfl, by decide, upd_same, fun H8 pb s2 h2 => ?_⟩⟩
          have s3 := (same_upd ni (o := HO.lst [V.int 0, V.int ((6 : Nat) : Int)])).trans s2
          refine ⟨.list ([true, false, false, false, false, false, true, false, false, false, false, false, false, false, false, false].map .bool), .list ([true, false, false, false, false, false, true, false, false, false, false, false, false, false, false, false].map .bool), .lst (.inl (.inl (s3 _ _ h1))) (dp_bools [true, false, false, false, false, false, true, false, false, false, false, false, false, false, false, false]), .lst (.inl (.inl (show H8 pb = some (.lst ([true, false, false, false, false, false, true, false, false, false, false, false, false, false, false, false].map V.bl)) from h2))) (dp_bools [true, false, false, false, false, false, true, false, false, false, false, false, false, false, false, false]), rfl, rfl, _, rfl, ?_⟩
          rw [eqv_bl]
          refine iteF ?_
          have sm2 := (sm.trans s1).trans s3
          refine ⟨_, rfl, e6, c6, true, false, false, false, false, false, false, rfl, r6.ext sm2, E6, Y6, fun H10 pc s4 h4 => ?_⟩
          refine ⟨(show 1 ≤ sizeLine by decide), fun pj nj => ⟨7, pj, [0], rfl, by decide, upd_same, fun H11 pd s5 h5 => ?_⟩⟩
          have s6 := (same_upd nj (o := HO.lst [V.int 0])).trans s5
          refine ⟨.list ([true, false, false, false, false, false, false].map .bool), .list ([true, false, false, false, false, false, false].map .bool), .lst (.inl (.inl (s6 _ _ h4))) (dp_bools [true, false, false, false, false, false, false]), .lst (.inl (.inl (show H11 pd = some (.lst ([true, false, false, false, false, false, false].map V.bl)) from h5))) (dp_bools [true, false, false, false, false, false, false]), rfl, rfl, _, rfl, ?_⟩
          rw [eqv_bl]
          exact iteF ⟨⟨_, _, rfl⟩, (sm2.trans s4).trans s6⟩
        · cases hx
          cases hz
          refine ⟨TT, _, rfl, .inl (.inl upd_same), rfl, _, _, rfl, _, _, rfl, rfl, ?_⟩
          refine ⟨_, rfl, e7, c7, true, false, false, false, false, false, false, true, false, false, false, false, false, false, false, false, rfl, r7.ext sm, E7, Q7, fun H5 pa s1 h1 => ?_⟩
          refine ⟨_, rfl, (show 2 ≤ sizeLine by decide), fun pi ni => ⟨16, pi, [0, (7 : Int)], rfl, by decide, upd_same, fun H8 pb s2 h2 => ?_⟩⟩
          have s3 := (same_upd ni (o := HO.lst [V.int 0, V.int ((7 : Nat) : Int)])).trans s2
          refine ⟨.list ([true, false, false, false, false, false, false, true, false, false, false, false, false, false, false, false].map .bool), .list ([true, false, false, false, false, false, false, true, false, false, false, false, false, false, false, false].map .bool), .lst (.inl (.inl (s3 _ _ h1))) (dp_bools [true, false, false, false, false, false, false, true, false, false, false, false, false, false, false, false]), .lst (.inl (.inl (show H8 pb = some (.lst ([true, false, false, false, false, false, false, true, false, false, false, false, false, false, false, false].map V.bl)) from h2))) (dp_bools [true, false, false, false, false, false, false, true, false, false, false, false, false, false, false, false]), rfl, rfl, _, rfl, ?_⟩
          rw [eqv_bl]
          refine iteF ?_
          have sm2 := (sm.trans s1).trans s3
          refine ⟨_, rfl, e7, c7, true, false, false, false, false, false, false, rfl, r7.ext sm2, E7, Y7, fun H10 pc s4 h4 => ?_⟩
          refine ⟨(show 1 ≤ sizeLine by decide), fun pj nj => ⟨7, pj, [0], rfl, by decide, upd_same, fun H11 pd s5 h5 => ?_⟩⟩
          have s6 := (same_upd nj (o := HO.lst [V.int 0])).trans s5
          refine ⟨.list ([true, false, false, false, false, false, false].map .bool), .list ([true, false, false, false, false, false, false].map .bool), .lst (.inl (.inl (s6 _ _ h4))) (dp_bools [true, false, false, false, false, false, false]), .lst (.inl (.inl (show H11 pd = some (.lst ([true, false, false, false, false, false, false].map V.bl)) from h5))) (dp_bools [true, false, false, false, false, false, false]), rfl, rfl, _, rfl, ?_⟩
          rw [eqv_bl]
          exact iteF ⟨⟨_, _, rfl⟩, (sm2.trans s4).trans s6⟩
        · cases hx
          cases hz
          refine ⟨TT, _, rfl, .inl (.inl upd_same), rfl, _, _, rfl, _, _, rfl, rfl, ?_⟩
          refine ⟨_, rfl, e8, c8, true, false, false, false, false, false, false, false, true, false, false, false, false, false, false, false, rfl, r8.ext sm, E8, Q8, fun H5 pa s1 h1 => ?_⟩
          refine ⟨_, rfl, (show 2 ≤ sizeLine by decide), fun pi ni => ⟨16, pi, [0, (8 : Int)], rfl, by decide, upd_same, fun H8 pb s2 h2 => ?_⟩⟩
          have s3 := (same_upd ni (o := HO.lst [V.int 0, V.int ((8 : Nat) : Int)])).trans s2
          refine ⟨.list ([true, false, false, false, false, false, false, false, true, false, false, false, false, false, false, false].map .bool), .list ([true, false, false, false, false, false, false, false, true, false, false, false, false, false, false, false].map .bool), .lst (.inl (.inl (s3 _ _ h1))) (dp_bools [true, false, false, false, false, false, false, false, true, false, false, false, false, false, false, false]), .lst (.inl (.inl (show H8 pb = some (.lst ([true, false, false, false, false, false, false, false, true, false, false, false, false, false, false, false].map V.bl)) from h2))) (dp_bools [true, false, false, false, false, false, false, false, true, false, false, false, false, false, false, false]), rfl, rfl, _, rfl, ?_⟩
          rw [eqv_bl]
          refine iteF ?_
          have sm2 := (sm.trans s1).trans s3
          refine ⟨_, rfl, e8, c8, true, false, false, false, false, false, false, rfl, r8.ext sm2, E8, Y8, fun H10 pc s4 h4 => ?_⟩
          refine ⟨(show 1 ≤ sizeLine by decide), fun pj nj => ⟨7, pj, [0], rfl, by decide, upd_same, fun H11 pd s5 h5 => ?_⟩⟩
          have s6 := (same_upd nj (o := HO.lst [V.int 0])).trans s5
          refine ⟨.list ([true, false, false, false, false, false, false].map .bool), .list ([true, false, false, false, false, false, false].map .bool), .lst (.inl (.inl (s6 _ _ h4))) (dp_bools [true, false, false, false, false, false, false]), .lst (.inl (.inl (show H11 pd = some (.lst ([true, false, false, false, false, false, false].map V.bl)) from h5))) (dp_bools [true, false, false, false, false, false, false]), rfl, rfl, _, rfl, ?_⟩
          rw [eqv_bl]
          exact iteF ⟨⟨_, _, rfl⟩, (sm2.trans s4).trans s6⟩
    rintro σ9 H9 ⟨⟨y2, y3, rfl⟩, x9, t9⟩
    have hS9 := sq_ext x9 hS6
    refine ⟨.ref a, rfl, a, _, rfl, .inl hS9, _, _, rfl, _, _, rfl, _, rfl, by split <;> split <;> omega, by split <;> split <;> omega, ?_⟩
    generalize (if (if ((ns.map V.int).length : Int) < 8 then ((ns.map V.int).length : Int) else 8) > 1 then (if ((ns.map V.int).length : Int) < 8 then ((ns.map V.int).length : Int) else 8) else 1) = turns
    refine for_range (n := turns.toNat) (fun i σ' H' => (∃ y1 y2 y3 y4 y5 y6 y7 y8 y9 y10 y11 : Option V, σ' = [some (.ref a), y1, y2, y3, y4, y5, y6, y7, y8, y9, y10, y11]) ∧ LamX.ExtN H9 H' ∧ LamX.Tabs (lamT P) H')
      ⟨⟨_, _, _, _, _, _, _, _, _, _, _, rfl⟩, LamX.ExtN.refl _, t9⟩ (fun i σ' H' hi hP => ?_) (fun σ' H' hP => q H')
    obtain ⟨⟨y1, y2, y3, y4, y5, y6, y7, y8, y9, y10, y11, rfl⟩, xi, ti⟩ := hP
    have hSi := sq_ext xi hS9
    refine ⟨_, rfl, _, rfl, a, ns, i, (by show [V.ref a, V.int ((0 : Int) + (i : Int))] = _; rw [Int.zero_add]), hSi, fun H1 b s1 nb g1 => ?_⟩
    refine ⟨_, rfl, b, 0, rfl, g1, by decide, fun H2 v d kp2 g2 hd rv2 => ⟨_, rfl, b, 4, _, rfl, by decide, g2, by decide, fun H3 pn zs kp3 npn g3 hpn zl zok => ⟨(show 2 ≤ sizeLine by decide), fun tp ntp => ⟨tp, _, rfl, .inl (.inl upd_same), rfl, _, _, rfl, _, _, rfl, rfl, ?_⟩⟩⟩⟩
    have s4 := same_upd ntp (o := HO.tup [v, V.ref pn])
    have g4 := g3.same s4
    have hpn4 := s4 _ _ hpn
    have rv4 := (rv2.same (hide_keep kp3)).same (hide_keep (.of s4))
    have k4 := ((kp2.trans kp3).trans (.of s4))
    generalize L2.upd H3 tp (HO.tup [v, V.ref pn]) = H4 at *
    refine ⟨_, rfl, _, rfl, b, 4, _, rfl, by decide, by decide, g4, by decide, fun H5 r kp5 g5 c1 c2 => ?_⟩
    have hpn5 := kp5 _ _ (g4.strs hpn4) hpn4
    obtain ⟨m, rfl⟩ : ∃ m : Nat, r = (m : Int) := ⟨r.toNat, by omega⟩
    have m4 : m < 4 := by omega
    refine ⟨_, _, rfl, rfl, _, rfl, pn, _, rfl, .inl (.inl hpn5), fun p1 np1 => ?_⟩
    have eC : cutV (zs.map V.str) none (some (1 + (m : Int))) = (zs.take (1 + m)).map V.str := by
      rw [show (1 + (m : Int)) = ((1 + m : Nat) : Int) by omega]
      exact cut_to zs (1 + m)
    rw [eC]
    refine ⟨p1, _, rfl, .inl ⟨.inl (.inl upd_same), fun t nt => ?_⟩⟩
    refine ⟨_, rfl, _, rfl, (show 1 ≤ sizeLine by decide), fun p2 np2 => ?_⟩
    have sA := same_upd np1 (o := HO.lst ((zs.take (1 + m)).map V.str))
    have sB := same_upd nt (o := HO.tup ((zs.take (1 + m)).map V.str))
    have sC := same_upd np2 (o := HO.lst [V.str (Str.ofString "")])
    have gB := g5.same sA
    have bt := (gB.ne nt).symm
    have gC := (gB.same sB).same sC
    have htC := sC _ _ (put_at nt (o := HO.tup ((zs.take (1 + m)).map V.str)))
    have kC := ((k4.trans kp5).trans (.of sA)).trans ((Keep.of sB).trans (.of sC))
    have rvC := rv4.same (hide_keep (((kp5.trans (.of sA)).trans (.of sB)).trans (.of sC)))
    refine ⟨pn, p2, _, _, rfl, rfl, sC _ _ (sB _ _ (sA _ _ hpn5)), upd_same, (by rw [List.length_map, zl]; decide), fun p3 np3 => ?_⟩
    have sD := same_upd np3 (o := HO.lst (zs.map V.str ++ [V.str (Str.ofString "")]))
    refine ⟨b, .ref p3, _, _, rfl, its_new gC np3, (by simp), (by rw [List.length_append, List.length_map, zl]; decide), gC.same sD, by decide, fun H8 x kp8 g8 hx => ⟨(show 2 ≤ sizeLine by decide), fun tq ntq => ⟨tq, _, rfl, .inl (.inl upd_same), rfl, _, _, rfl, _, _, rfl, rfl, ?_⟩⟩⟩
    have sE := same_upd ntq (o := HO.tup [V.ref t, x])
    have ht := sE _ _ (kp8 _ _ bt (sD _ _ htC))
    have smB : Same H' _ := keep_same s1 nb (((kC.trans (.of sD)).trans kp8).trans (.of sE))
    have rvB := ((rvC.same (hide_keep (((Keep.of sD).trans kp8).trans (.of sE)))).same hide_same)
    have xB : LamX.ExtN H9 _ := xi.trans (.of smB)
    have tB := ti.ext smB
    generalize L2.upd H8 tq (HO.tup [V.ref t, x]) = HB at *
    obtain ⟨f1, f2, f3, f4, f5⟩ := val_facts hd
    have hnm := (rp_name rvB).trans f3
    have dv := rp_dat rvB f1
    have iv := rp_items rvB f2
    have nf := rp_bad rvB f4
    have fok : FieldsOk (zs.take (1 + m)) := ⟨by rw [List.length_take, zl]; omega, by rw [List.length_take, zl]; omega, fun z hz => zok.names (List.mem_of_mem_take hz), zok.nodup.sublist (List.take_sublist _ _)⟩
    refine ⟨_, rfl, v, d, rfl, rvB, f5, fun HC sC2 => ⟨true, rfl, iteF ?_⟩⟩
    have rvC2 := rvB.same sC2
    refine ⟨_, rfl, v, rfl, rp_dat rvC2 f1, rp_items rvC2 f2, fun HD r sD2 hr' => ?_⟩
    obtain rfl : r = false := by
      cases r with
      | false => rfl
      | true => exact absurd (hr'.mp rfl) (rp_bad rvC2 f4)
    have rvD := rvC2.same sD2
    refine ⟨tB.ext (sC2.trans sD2), fun HE xE tE => ⟨_, rfl, _, rfl, .inr ⟨v, x, rfl, rp_dat (rvD.ext xE) f1, rp_items (rvD.ext xE) f2, rp_bad (rvD.ext xE) f4, fun HF sF => ⟨rfl, _, rfl, rfl, _, rfl, ?_⟩⟩⟩⟩
    rw [decide_eq_false (fun e => by cases e)]
    refine iteF ?_
    have rvF := (rvD.ext xE).same sF
    have xBF : LamX.ExtN HB HF := ((LamX.ExtN.of (sC2.trans sD2)).trans xE).trans (.of sF)
    have htF := xBF _ _ ht (fun _ z => nomatch z)
    refine ⟨tE.ext sF, fun HG xG tG => ⟨_, rfl, _, rfl, .inl ⟨t, zs.take (1 + m), v, rfl, xG _ _ htF (fun _ z => nomatch z), fok, rp_dat (rvF.ext xG) f1, fun HI sI => ⟨false, rfl, iteF ?_⟩⟩⟩⟩
    have rvI := (rvF.ext xG).same sI
    have htI := sI _ _ (xG _ _ htF (fun _ z => nomatch z))
    have xBI := (xBF.trans xG).trans (.of sI)
    have tI := tG.ext sI
    refine ⟨fun σ9 Hw => σ9 = [some (.ref a), y1, y2, y3, some (.int ((0 : Int) + (i : Int))), some (.ref b), some v, some (.ref pn), some (.ref t), some x, some (.bl false), some (.bl (decide (v = .str (Str.ofString ""))))] ∧ Same HI Hw, ?_, ?_⟩
    · refine ⟨_, rfl, v, rfl, rp_dat rvI f1, fun HJ sJ => ⟨_, rfl, ?_⟩⟩
      rw [hnm]
      refine iteF ?_
      have dJ := rp_dat (rvI.same sJ) f1
      obtain ⟨ty, hty, _, _, hs⟩ := dat_is (K := K) dJ
      refine ⟨_, rfl, v, .ty "str", _, _, isTxt v, rfl, .ty _, hty, hs, _, rfl, ?_⟩
      cases ht0 : isTxt v with
      | true => exact iteT ⟨_, rfl, _, rfl, dat_x dJ, rfl, sJ⟩
      | false =>
        rw [decide_eq_false (fun e => by rw [e] at ht0; cases ht0)]
        exact iteF ⟨rfl, sJ⟩
    rintro _ Hw ⟨rfl, sw⟩
    have rvW := rvI.same sw
    have htW := sw _ _ htI
    have xBW := xBI.trans (.of sw)
    have tW := tI.ext sw
    clear rvI htI xBI tI sw rvF htF xBF rvD rvC2
    obtain ⟨z, rfl, oz, lz⟩ : ∃ z : Str, x = .str z ∧ openV (.str z) = true ∧ z.length ≤ 100000 := by
      rcases List.mem_append.mp hx with h | h
      · obtain ⟨z, hz, rfl⟩ := List.mem_map.mp h
        have hn := zok.names hz
        exact ⟨z, rfl, by show (_ || isName z) = true; rw [hn, Bool.or_true], Nat.le_trans (name_size hn).2 (by decide)⟩
      · cases List.mem_singleton.mp h
        exact ⟨_, rfl, by decide +kernel, by decide⟩
    have dz : ∀ H', Dat H' (.str z) := fun _ => lz
    have ov : openV v = decide (v = .str (Str.ofString "")) := by
      unfold openV
      rw [hnm, Bool.or_false]
    obtain ⟨z0, zr, hzt⟩ : ∃ z0 zr, zs.take (1 + m) = z0 :: zr := by
      cases h : zs.take (1 + m) with
      | nil =>
        have := fok.1
        rw [h] at this
        cases this
      | cons z0 zr => exact ⟨z0, zr, rfl⟩
    have hat : atI ((zs.take (1 + m)).map V.str) 0 = some (.str z0) := by
      rw [hzt]
      exact atI_nat (show (V.str z0 :: zr.map V.str)[0]? = some (V.str z0) from rfl)
    have hpt : partV (zs.take (1 + m)) (.str z0) = true := decide_eq_true (.inr (by rw [hzt]; exact List.mem_cons_self))
    have z0s : ∀ H', Dat H' (.str z0) := fun _ => Nat.le_trans (name_size (fok.2.2.1 z0 (by rw [hzt]; exact List.mem_cons_self))).2 (by decide)
    generalize zs.take (1 + m) = zt at *
    cases hw : decide (v = .str (Str.ofString "")) with
    | true =>
      refine ⟨tW, fun Ha xa ta => ⟨_, rfl, _, rfl, v, .str z, rfl, rp_dat (rvW.ext xa) f1, dz _, (fun _ _ _ Ka sa => ?_), (fun h => absurd h (by rw [ov, hw, oz]; decide))⟩⟩
      refine ⟨(show 1 ≤ sizeLine by decide), fun l2 nl => ?_⟩
      have xa := xa.trans (.of sa)
      have xb0 := xa.trans (.of (same_upd nl (o := HO.lst [V.bl false])))
      have tb0 := (ta.ext sa).ext (same_upd nl (o := HO.lst [V.bl false]))
      have hb0 := put_at nl (o := HO.lst [V.bl false])
      have rvb := rvW.ext xb0
      refine ⟨_, rfl, .inl ⟨rfl, [V.bl false], .inl (.inl hb0)⟩, tb0, fun Hb xb tb => ⟨_, rfl, _, rfl, .str z, v, rfl, dz _, rp_dat (rvb.ext xb) f1, (fun _ _ _ Kb sb => ?_), (fun h => absurd h (by rw [oz, ov, hw]; decide))⟩⟩
      have hb := sb _ _ (xb _ _ hb0 (fun _ z => nomatch z))
      have xb1 := (xb0.trans xb).trans (.of sb)
      refine ⟨l2, [V.bl false], .bl false, rfl, rfl, hb, (show 1 < sizeLine by decide), ?_⟩
      have xb2 := extN_put (o := HO.lst ([V.bl false] ++ [V.bl false])) xa nl xb1
      have tb2 := tabs_put (o := HO.lst ([V.bl false] ++ [V.bl false])) (tb.ext sb) hb
      have hb2 : L2.upd Kb l2 (HO.lst ([V.bl false] ++ [V.bl false])) l2 = _ := upd_same
      have rvc := rvW.ext xb2
      refine ⟨_, rfl, .inl ⟨rfl, [V.bl false] ++ [V.bl false], .inl (.inl hb2)⟩, tb2, fun Hc xc tc => ⟨_, rfl, _, rfl, v, v, rfl, rp_dat (rvc.ext xc) f1, rp_dat (rvc.ext xc) f1, (fun _ _ _ Kc sc => ?_), (fun h => absurd h (by rw [ov, hw]; decide))⟩⟩
      have hc := sc _ _ (xc _ _ hb2 (fun _ z => nomatch z))
      have xc1 := (xb2.trans xc).trans (.of sc)
      refine ⟨l2, [V.bl false] ++ [V.bl false], .bl false, rfl, rfl, hc, (show 2 < sizeLine by decide), ?_⟩
      have xc2 := extN_put (o := HO.lst (([V.bl false] ++ [V.bl false]) ++ [V.bl false])) xa nl xc1
      have tc2 := tabs_put (o := HO.lst (([V.bl false] ++ [V.bl false]) ++ [V.bl false])) (tc.ext sc) hc
      have hc2 : L2.upd Kc l2 (HO.lst (([V.bl false] ++ [V.bl false]) ++ [V.bl false])) l2 = _ := upd_same
      have rvd := rvW.ext xc2
      refine ⟨_, rfl, .inl ⟨rfl, ([V.bl false] ++ [V.bl false]) ++ [V.bl false], .inl (.inl hc2)⟩, tc2, fun Hd xd td => ⟨_, rfl, _, rfl, .str z, .str z, rfl, dz _, dz _, (fun _ _ _ Kd sd => ?_), (fun h => absurd h (by rw [oz]; decide))⟩⟩
      have hd := sd _ _ (xd _ _ hc2 (fun _ z => nomatch z))
      have xd1 := (xc2.trans xd).trans (.of sd)
      refine ⟨l2, ([V.bl false] ++ [V.bl false]) ++ [V.bl false], .bl false, rfl, rfl, hd, (show 3 < sizeLine by decide), ?_⟩
      have xd2 := extN_put (o := HO.lst ((([V.bl false] ++ [V.bl false]) ++ [V.bl false]) ++ [V.bl false])) xa nl xd1
      have td2 := tabs_put (o := HO.lst ((([V.bl false] ++ [V.bl false]) ++ [V.bl false]) ++ [V.bl false])) (td.ext sd) hd
      have hd2 : L2.upd Kd l2 (HO.lst ((([V.bl false] ++ [V.bl false]) ++ [V.bl false]) ++ [V.bl false])) l2 = _ := upd_same
      refine ⟨_, rfl, _, rfl, true, rfl, _, rfl, true, rfl, _, rfl, true, rfl, (show 4 ≤ sizeLine by decide), fun p np => ⟨.list ([false, false, false, false].map .bool), .list ([false, false, false, false].map .bool), .lst (.inl (.inl (same_upd np _ _ hd2))) (dp_bools [false, false, false, false]), .lst (.inl (.inl upd_same)) (dp_bools [false, false, false, false]), rfl, rfl, _, rfl, ?_⟩⟩
      rw [eqv_bl]
      refine iteF ?_
      have sp := same_upd np (o := HO.lst [V.bl false, V.bl false, V.bl false, V.bl false])
      have xe := xd2.trans (.of sp)
      have te := td2.ext sp
      have rve := rvW.ext xe
      have hte := xe _ _ htW (fun _ z => nomatch z)
      have xE2 := (xB.trans xBW).trans xe
      clear hd2 hb0 xb0 tb0
      refine ⟨_, rfl, v, rfl, rp_dat rve f1, _, rfl, _, rfl, v, rfl, rp_dat rve f1, fun Hm sm1 => ⟨_, rfl, _, rfl, t, _, _, .str z0, rfl, rfl, .inl (.inl (sm1 _ _ hte)), hat, t, zt, .str z0, rfl, sm1 _ _ hte, fok, z0s _, fun Hn sn1 => ⟨_, rfl, _, rfl, t, zt, v, rfl, sn1 _ _ (sm1 _ _ hte), fok, rp_dat ((rve.same sm1).same sn1) f1, fun Ho so1 => ⟨(show 5 ≤ sizeLine by decide), fun l3 nl3 => ?_⟩⟩⟩⟩
      rw [hpt]
      generalize intV v = b0
      generalize nameV v = b2
      generalize partV zt v = b4
      have s3 := ((sm1.trans sn1).trans so1).trans (same_upd nl3 (o := HO.lst [V.bl b0, V.bl false, V.bl b2, V.bl true, V.bl b4]))
      have h3 := put_at nl3 (o := HO.lst [V.bl b0, V.bl false, V.bl b2, V.bl true, V.bl b4])
      refine ⟨_, rfl, l3, rfl, ⟨_, .inl (.inl h3)⟩, fun D nD => ?_⟩
      refine lc_vals (vals := [V.bl b0, V.bl false, V.bl b2, V.bl true, V.bl b4]) walk_list (fun _ => false) id (show 5 ≤ 100000 by decide) nD (fun H5 s5 => .inl (.inl (s5 _ _ h3))) (fun y H5 Ky Kn hy s5 k1 k0 => ?_) (fun H5 s5 e5 => ?_)
      · obtain ⟨c, rfl⟩ : ∃ c, y = V.bl c := by
          simp only [List.mem_cons, List.not_mem_nil, or_false] at hy
          rcases hy with rfl | rfl | rfl | rfl | rfl <;> exact ⟨_, rfl⟩
        exact ⟨rfl, _, rfl, .bl c, .ty "bool", _, _, true, rfl, .ty _, .base (.bl c), kit_ty (by decide +kernel), true, rfl, iteF (k0 _ (.refl _) rfl)⟩
      refine ⟨Nat.zero_le _, fun p6 np6 => ⟨D, p6, [], rfl, rfl, .inl (.inl (same_upd np6 _ _ (by simpa using e5))), .inl (.inl upd_same), _, rfl, iteF ?_⟩⟩
      have s6 := (s3.trans s5).trans (same_upd np6 (o := HO.lst []))
      refine ⟨_, rfl, l3, _, _, .bl true, rfl, rfl, .inl (.inl (same_upd np6 _ _ (s5 _ _ h3))), rfl, true, rfl, iteF ?_⟩
      exact ⟨⟨_, _, _, _, _, _, _, _, _, _, _, rfl⟩, xE2.trans (.of s6), te.ext s6⟩
    | false =>
      refine ⟨tW, fun Ha xa ta => ⟨_, rfl, _, rfl, v, .str z, rfl, rp_dat (rvW.ext xa) f1, dz _, (fun h => absurd h (by rw [ov, hw]; decide)), (fun _ Ka sa => ⟨rfl, ?_⟩)⟩⟩
      refine ⟨(show 1 ≤ sizeLine by decide), fun l2 nl => ?_⟩
      have xa := xa.trans (.of sa)
      have xb0 := xa.trans (.of (same_upd nl (o := HO.lst [V.bl true])))
      have tb0 := (ta.ext sa).ext (same_upd nl (o := HO.lst [V.bl true]))
      have hb0 := put_at nl (o := HO.lst [V.bl true])
      have rvb := rvW.ext xb0
      refine ⟨_, rfl, .inl ⟨rfl, [V.bl true], .inl (.inl hb0)⟩, tb0, fun Hb xb tb => ⟨_, rfl, _, rfl, .str z, v, rfl, dz _, rp_dat (rvb.ext xb) f1, (fun _ h => absurd h (by rw [ov, hw]; decide)), (fun _ Kb sb => ⟨rfl, ?_⟩)⟩⟩
      have hb := sb _ _ (xb _ _ hb0 (fun _ z => nomatch z))
      have xb1 := (xb0.trans xb).trans (.of sb)
      refine ⟨l2, [V.bl true], .bl true, rfl, rfl, hb, (show 1 < sizeLine by decide), ?_⟩
      have xb2 := extN_put (o := HO.lst ([V.bl true] ++ [V.bl true])) xa nl xb1
      have tb2 := tabs_put (o := HO.lst ([V.bl true] ++ [V.bl true])) (tb.ext sb) hb
      have hb2 : L2.upd Kb l2 (HO.lst ([V.bl true] ++ [V.bl true])) l2 = _ := upd_same
      have rvc := rvW.ext xb2
      refine ⟨_, rfl, .inl ⟨rfl, [V.bl true] ++ [V.bl true], .inl (.inl hb2)⟩, tb2, fun Hc xc tc => ⟨_, rfl, _, rfl, v, v, rfl, rp_dat (rvc.ext xc) f1, rp_dat (rvc.ext xc) f1, (fun h => absurd h (by rw [ov, hw]; decide)), (fun _ Kc sc => ⟨rfl, ?_⟩)⟩⟩
      have hc := sc _ _ (xc _ _ hb2 (fun _ z => nomatch z))
      have xc1 := (xb2.trans xc).trans (.of sc)
      refine ⟨l2, [V.bl true] ++ [V.bl true], .bl true, rfl, rfl, hc, (show 2 < sizeLine by decide), ?_⟩
      have xc2 := extN_put (o := HO.lst (([V.bl true] ++ [V.bl true]) ++ [V.bl true])) xa nl xc1
      have tc2 := tabs_put (o := HO.lst (([V.bl true] ++ [V.bl true]) ++ [V.bl true])) (tc.ext sc) hc
      have hc2 : L2.upd Kc l2 (HO.lst (([V.bl true] ++ [V.bl true]) ++ [V.bl true])) l2 = _ := upd_same
      have rvd := rvW.ext xc2
      refine ⟨_, rfl, .inl ⟨rfl, ([V.bl true] ++ [V.bl true]) ++ [V.bl true], .inl (.inl hc2)⟩, tc2, fun Hd xd td => ⟨_, rfl, _, rfl, .str z, .str z, rfl, dz _, dz _, (fun _ _ _ Kd sd => ?_), (fun h => absurd h (by rw [oz]; decide))⟩⟩
      have hd := sd _ _ (xd _ _ hc2 (fun _ z => nomatch z))
      have xd1 := (xc2.trans xd).trans (.of sd)
      refine ⟨l2, ([V.bl true] ++ [V.bl true]) ++ [V.bl true], .bl false, rfl, rfl, hd, (show 3 < sizeLine by decide), ?_⟩
      have xd2 := extN_put (o := HO.lst ((([V.bl true] ++ [V.bl true]) ++ [V.bl true]) ++ [V.bl false])) xa nl xd1
      have td2 := tabs_put (o := HO.lst ((([V.bl true] ++ [V.bl true]) ++ [V.bl true]) ++ [V.bl false])) (td.ext sd) hd
      have hd2 : L2.upd Kd l2 (HO.lst ((([V.bl true] ++ [V.bl true]) ++ [V.bl true]) ++ [V.bl false])) l2 = _ := upd_same
      refine ⟨_, rfl, _, rfl, false, rfl, _, rfl, false, rfl, _, rfl, false, rfl, (show 4 ≤ sizeLine by decide), fun p np => ⟨.list ([true, true, true, false].map .bool), .list ([true, true, true, false].map .bool), .lst (.inl (.inl (same_upd np _ _ hd2))) (dp_bools [true, true, true, false]), .lst (.inl (.inl upd_same)) (dp_bools [true, true, true, false]), rfl, rfl, _, rfl, ?_⟩⟩
      rw [eqv_bl]
      refine iteF ?_
      have sp := same_upd np (o := HO.lst [V.bl true, V.bl true, V.bl true, V.bl false])
      have xe := xd2.trans (.of sp)
      have te := td2.ext sp
      have rve := rvW.ext xe
      have hte := xe _ _ htW (fun _ z => nomatch z)
      have xE2 := (xB.trans xBW).trans xe
      clear hd2 hb0 xb0 tb0
      refine ⟨_, rfl, v, rfl, rp_dat rve f1, _, rfl, _, rfl, v, rfl, rp_dat rve f1, fun Hm sm1 => ⟨_, rfl, _, rfl, t, _, _, .str z0, rfl, rfl, .inl (.inl (sm1 _ _ hte)), hat, t, zt, .str z0, rfl, sm1 _ _ hte, fok, z0s _, fun Hn sn1 => ⟨_, rfl, _, rfl, t, zt, v, rfl, sn1 _ _ (sm1 _ _ hte), fok, rp_dat ((rve.same sm1).same sn1) f1, fun Ho so1 => ⟨(show 5 ≤ sizeLine by decide), fun l3 nl3 => ?_⟩⟩⟩⟩
      rw [hpt]
      generalize intV v = b0
      generalize nameV v = b2
      generalize partV zt v = b4
      have s3 := ((sm1.trans sn1).trans so1).trans (same_upd nl3 (o := HO.lst [V.bl b0, V.bl false, V.bl b2, V.bl true, V.bl b4]))
      have h3 := put_at nl3 (o := HO.lst [V.bl b0, V.bl false, V.bl b2, V.bl true, V.bl b4])
      refine ⟨_, rfl, l3, rfl, ⟨_, .inl (.inl h3)⟩, fun D nD => ?_⟩
      refine lc_vals (vals := [V.bl b0, V.bl false, V.bl b2, V.bl true, V.bl b4]) walk_list (fun _ => false) id (show 5 ≤ 100000 by decide) nD (fun H5 s5 => .inl (.inl (s5 _ _ h3))) (fun y H5 Ky Kn hy s5 k1 k0 => ?_) (fun H5 s5 e5 => ?_)
      · obtain ⟨c, rfl⟩ : ∃ c, y = V.bl c := by
          simp only [List.mem_cons, List.not_mem_nil, or_false] at hy
          rcases hy with rfl | rfl | rfl | rfl | rfl <;> exact ⟨_, rfl⟩
        exact ⟨rfl, _, rfl, .bl c, .ty "bool", _, _, true, rfl, .ty _, .base (.bl c), kit_ty (by decide +kernel), true, rfl, iteF (k0 _ (.refl _) rfl)⟩
      refine ⟨Nat.zero_le _, fun p6 np6 => ⟨D, p6, [], rfl, rfl, .inl (.inl (same_upd np6 _ _ (by simpa using e5))), .inl (.inl upd_same), _, rfl, iteF ?_⟩⟩
      have s6 := (s3.trans s5).trans (same_upd np6 (o := HO.lst []))
      refine ⟨_, rfl, l3, _, _, .bl true, rfl, rfl, .inl (.inl (same_upd np6 _ _ (s5 _ _ h3))), rfl, true, rfl, iteF ?_⟩
      exact ⟨⟨_, _, _, _, _, _, _, _, _, _, _, rfl⟩, xE2.trans (.of s6), te.ext s6⟩
set_option maxHeartbeats 0 in
theorem all_mk {l : PySem.W.OpenLaw} {w : World} {K : PySem.W.Frag} {h : Heap} {mg : Str → Option Value} {fa : Addr} (X : K.In h) (G : h.Ns mainGlobals mg) (hfa : mg "law" = some (.ref fa))
    {f0 : Addr} {od0 an0 : Option Addr} {sl0 : Array (Option Value)} {oc0 kV0 dc0 pm0 cd0 ct0 : Value}
    {f1 : Addr} {od1 an1 : Option Addr} {sl1 : Array (Option Value)} {oc1 kV1 dc1 pm1 cd1 ct1 : Value}
    {f2 : Addr} {od2 an2 : Option Addr} {sl2 : Array (Option Value)} {oc2 kV2 dc2 pm2 cd2 ct2 : Value}
    {f3 : Addr} {od3 an3 : Option Addr} {sl3 : Array (Option Value)} {oc3 kV3 dc3 pm3 cd3 ct3 : Value}
    {f4 : Addr} {od4 an4 : Option Addr} {sl4 : Array (Option Value)} {oc4 kV4 dc4 pm4 cd4 ct4 : Value}
    {f5 : Addr} {od5 an5 : Option Addr} {sl5 : Array (Option Value)} {oc5 kV5 dc5 pm5 cd5 ct5 : Value}
    {f6 : Addr} {od6 an6 : Option Addr} {sl6 : Array (Option Value)} {oc6 kV6 dc6 pm6 cd6 ct6 : Value}
    {f7 : Addr} {od7 an7 : Option Addr} {sl7 : Array (Option Value)} {oc7 kV7 dc7 pm7 cd7 ct7 : Value}
    {f8 : Addr} {od8 an8 : Option Addr} {sl8 : Array (Option Value)} {oc8 kV8 dc8 pm8 cd8 ct8 : Value}
    {f9 : Addr} {od9 an9 : Option Addr} {sl9 : Array (Option Value)} {oc9 kV9 dc9 pm9 cd9 ct9 : Value}
    {f10 : Addr} {od10 an10 : Option Addr} {sl10 : Array (Option Value)} {oc10 kV10 dc10 pm10 cd10 ct10 : Value}
    {f11 : Addr} {od11 an11 : Option Addr} {sl11 : Array (Option Value)} {oc11 kV11 dc11 pm11 cd11 ct11 : Value}
    {f12 : Addr} {od12 an12 : Option Addr} {sl12 : Array (Option Value)} {oc12 kV12 dc12 pm12 cd12 ct12 : Value}
    {f13 : Addr} {od13 an13 : Option Addr} {sl13 : Array (Option Value)} {oc13 kV13 dc13 pm13 cd13 ct13 : Value}
    {f14 : Addr} {od14 an14 : Option Addr} {sl14 : Array (Option Value)} {oc14 kV14 dc14 pm14 cd14 ct14 : Value}
    {f15 : Addr} {od15 an15 : Option Addr} {sl15 : Array (Option Value)} {oc15 kV15 dc15 pm15 cd15 ct15 : Value}
    {f16 : Addr} {od16 an16 : Option Addr} {sl16 : Array (Option Value)} {oc16 kV16 dc16 pm16 cd16 ct16 : Value}
    {f17 : Addr} {od17 an17 : Option Addr} {sl17 : Array (Option Value)} {oc17 kV17 dc17 pm17 cd17 ct17 : Value}
    {f18 : Addr} {od18 an18 : Option Addr} {sl18 : Array (Option Value)} {oc18 kV18 dc18 pm18 cd18 ct18 : Value}
    (a0 : PySem.W.nsIn K mainGlobals "is_integer" = some (some (.ref f0)))
    (l0 : K.lookup f0 = some ⟨oc0, od0, .func (PySem.W.fnOf "is_integer" "is_integer" (defArgs s_is_integer) (defBody s_is_integer) (defScope s_is_integer) .none kV0 dc0 pm0 an0 cd0 ct0), sl0⟩)
    (q0 : PySem.W.codeIn K cd0 "is_integer" = true)
    (k0 : PySem.W.keepIn K (.ref f0) = true)
    (a1 : PySem.W.nsIn K mainGlobals "is_name" = some (some (.ref f1)))
    (l1 : K.lookup f1 = some ⟨oc1, od1, .func (PySem.W.fnOf "is_name" "is_name" (defArgs s_is_name) (defBody s_is_name) (defScope s_is_name) .none kV1 dc1 pm1 an1 cd1 ct1), sl1⟩)
    (q1 : PySem.W.codeIn K cd1 "is_name" = true)
    (k1 : PySem.W.keepIn K (.ref f1) = true)
    (a2 : PySem.W.nsIn K mainGlobals "are_different_names" = some (some (.ref f2)))
    (l2 : K.lookup f2 = some ⟨oc2, od2, .func (PySem.W.fnOf "are_different_names" "are_different_names" (defArgs s_are_different_names) (defBody s_are_different_names) (defScope s_are_different_names) .none kV2 dc2 pm2 an2 cd2 ct2), sl2⟩)
    (q2 : PySem.W.codeIn K cd2 "are_different_names" = true)
    (k2 : PySem.W.keepIn K (.ref f2) = true)
    (a3 : PySem.W.nsIn K mainGlobals "is_fields" = some (some (.ref f3)))
    (l3 : K.lookup f3 = some ⟨oc3, od3, .func (PySem.W.fnOf "is_fields" "is_fields" (defArgs s_is_fields) (defBody s_is_fields) (defScope s_is_fields) .none kV3 dc3 pm3 an3 cd3 ct3), sl3⟩)
    (q3 : PySem.W.codeIn K cd3 "is_fields" = true)
    (k3 : PySem.W.keepIn K (.ref f3) = true)
    (a4 : PySem.W.nsIn K mainGlobals "is_part" = some (some (.ref f4)))
    (l4 : K.lookup f4 = some ⟨oc4, od4, .func (PySem.W.fnOf "is_part" "is_part" (defArgs s_is_part) (defBody s_is_part) (defScope s_is_part) .none kV4 dc4 pm4 an4 cd4 ct4), sl4⟩)
    (q4 : PySem.W.codeIn K cd4 "is_part" = true)
    (k4 : PySem.W.keepIn K (.ref f4) = true)
    (a5 : PySem.W.nsIn K mainGlobals "is_any_part" = some (some (.ref f5)))
    (l5 : K.lookup f5 = some ⟨oc5, od5, .func (PySem.W.fnOf "is_any_part" "is_any_part" (defArgs s_is_any_part) (defBody s_is_any_part) (defScope s_is_any_part) .none kV5 dc5 pm5 an5 cd5 ct5), sl5⟩)
    (q5 : PySem.W.codeIn K cd5 "is_any_part" = true)
    (k5 : PySem.W.keepIn K (.ref f5) = true)
    (a6 : PySem.W.nsIn K mainGlobals "do_overlap" = some (some (.ref f6)))
    (l6 : K.lookup f6 = some ⟨oc6, od6, .func (PySem.W.fnOf "do_overlap" "do_overlap" (defArgs s_do_overlap) (defBody s_do_overlap) (defScope s_do_overlap) .none kV6 dc6 pm6 an6 cd6 ct6), sl6⟩)
    (q6 : PySem.W.codeIn K cd6 "do_overlap" = true)
    (k6 : PySem.W.keepIn K (.ref f6) = true)
    (a7 : PySem.W.nsIn K mainGlobals "_law_bag" = some (some (.ref f7)))
    (l7 : K.lookup f7 = some ⟨oc7, od7, .func (PySem.W.fnOf "_law_bag" "_law_bag" (defArgs s_L_bag) (defBody s_L_bag) (defScope s_L_bag) .none kV7 dc7 pm7 an7 cd7 ct7), sl7⟩)
    (q7 : PySem.W.codeIn K cd7 "_law_bag" = true)
    (k7 : PySem.W.keepIn K (.ref f7) = true)
    (a8 : PySem.W.nsIn K mainGlobals "_law_roll" = some (some (.ref f8)))
    (l8 : K.lookup f8 = some ⟨oc8, od8, .func (PySem.W.fnOf "_law_roll" "_law_roll" (defArgs s_L_roll) (defBody s_L_roll) (defScope s_L_roll) .none kV8 dc8 pm8 an8 cd8 ct8), sl8⟩)
    (q8 : PySem.W.codeIn K cd8 "_law_roll" = true)
    (k8 : PySem.W.keepIn K (.ref f8) = true)
    (a9 : PySem.W.nsIn K mainGlobals "_law_one" = some (some (.ref f9)))
    (l9 : K.lookup f9 = some ⟨oc9, od9, .func (PySem.W.fnOf "_law_one" "_law_one" (defArgs s_L_one) (defBody s_L_one) (defScope s_L_one) .none kV9 dc9 pm9 an9 cd9 ct9), sl9⟩)
    (q9 : PySem.W.codeIn K cd9 "_law_one" = true)
    (k9 : PySem.W.keepIn K (.ref f9) = true)
    (a10 : PySem.W.nsIn K mainGlobals "_law_word" = some (some (.ref f10)))
    (l10 : K.lookup f10 = some ⟨oc10, od10, .func (PySem.W.fnOf "_law_word" "_law_word" (defArgs s_L_word) (defBody s_L_word) (defScope s_L_word) .none kV10 dc10 pm10 an10 cd10 ct10), sl10⟩)
    (q10 : PySem.W.codeIn K cd10 "_law_word" = true)
    (k10 : PySem.W.keepIn K (.ref f10) = true)
    (a11 : PySem.W.nsIn K mainGlobals "_law_names" = some (some (.ref f11)))
    (l11 : K.lookup f11 = some ⟨oc11, od11, .func (PySem.W.fnOf "_law_names" "_law_names" (defArgs s_L_names) (defBody s_L_names) (defScope s_L_names) .none kV11 dc11 pm11 an11 cd11 ct11), sl11⟩)
    (q11 : PySem.W.codeIn K cd11 "_law_names" = true)
    (k11 : PySem.W.keepIn K (.ref f11) = true)
    (a12 : PySem.W.nsIn K mainGlobals "_law_own" = some (some (.ref f12)))
    (l12 : K.lookup f12 = some ⟨oc12, od12, .func (PySem.W.fnOf "_law_own" "_law_own" (defArgs s_L_own) (defBody s_L_own) (defScope s_L_own) .none kV12 dc12 pm12 an12 cd12 ct12), sl12⟩)
    (q12 : PySem.W.codeIn K cd12 "_law_own" = true)
    (k12 : PySem.W.keepIn K (.ref f12) = true)
    (a13 : PySem.W.nsIn K mainGlobals "_law_python" = some (some (.ref f13)))
    (l13 : K.lookup f13 = some ⟨oc13, od13, .func (PySem.W.fnOf "_law_python" "_law_python" (defArgs s_L_python) (defBody s_L_python) (defScope s_L_python) .none kV13 dc13 pm13 an13 cd13 ct13), sl13⟩)
    (q13 : PySem.W.codeIn K cd13 "_law_python" = true)
    (k13 : PySem.W.keepIn K (.ref f13) = true)
    (a14 : PySem.W.nsIn K mainGlobals "_law_row" = some (some (.ref f14)))
    (l14 : K.lookup f14 = some ⟨oc14, od14, .func (PySem.W.fnOf "_law_row" "_law_row" (defArgs s_L_row) (defBody s_L_row) (defScope s_L_row) .none kV14 dc14 pm14 an14 cd14 ct14), sl14⟩)
    (q14 : PySem.W.codeIn K cd14 "_law_row" = true)
    (k14 : PySem.W.keepIn K (.ref f14) = true)
    (a15 : PySem.W.nsIn K mainGlobals "_law_plain" = some (some (.ref f15)))
    (l15 : K.lookup f15 = some ⟨oc15, od15, .func (PySem.W.fnOf "_law_plain" "_law_plain" (defArgs s_L_plain) (defBody s_L_plain) (defScope s_L_plain) .none kV15 dc15 pm15 an15 cd15 ct15), sl15⟩)
    (q15 : PySem.W.codeIn K cd15 "_law_plain" = true)
    (k15 : PySem.W.keepIn K (.ref f15) = true)
    (a16 : PySem.W.nsIn K mainGlobals "_law_value" = some (some (.ref f16)))
    (l16 : K.lookup f16 = some ⟨oc16, od16, .func (PySem.W.fnOf "_law_value" "_law_value" (defArgs s_L_value) (defBody s_L_value) (defScope s_L_value) .none kV16 dc16 pm16 an16 cd16 ct16), sl16⟩)
    (q16 : PySem.W.codeIn K cd16 "_law_value" = true)
    (k16 : PySem.W.keepIn K (.ref f16) = true)
    (a17 : PySem.W.nsIn K mainGlobals "_law_refused" = some (some (.ref f17)))
    (l17 : K.lookup f17 = some ⟨oc17, od17, .func (PySem.W.fnOf "_law_refused" "_law_refused" (defArgs s_L_refused) (defBody s_L_refused) (defScope s_L_refused) .none kV17 dc17 pm17 an17 cd17 ct17), sl17⟩)
    (q17 : PySem.W.codeIn K cd17 "_law_refused" = true)
    (k17 : PySem.W.keepIn K (.ref f17) = true)
    (a18 : PySem.W.nsIn K mainGlobals "_law_errors_right" = some (some (.ref f18)))
    (l18 : K.lookup f18 = some ⟨oc18, od18, .func (PySem.W.fnOf "_law_errors_right" "_law_errors_right" (defArgs s_L_errors_right) (defBody s_L_errors_right) (defScope s_L_errors_right) .none kV18 dc18 pm18 an18 cd18 ct18), sl18⟩)
    (q18 : PySem.W.codeIn K cd18 "_law_errors_right" = true)
    (k18 : PySem.W.keepIn K (.ref f18) = true)
    {fL cL PP : Addr} {odL anL : Option Addr} {slL slC : Array (Option Value)} {ocL kVL dcL pmL ctL eC : Value} {ddC : Option Addr} {vC : Array Value}
    (aL : PySem.W.nsIn K mainGlobals "law" = some (some (.ref fL)))
    (lL : K.lookup fL = some ⟨ocL, odL, .func (PySem.W.fnOf "law" "law" (defArgs s_law) (defBody s_law) (defScope s_law) .none kVL dcL pmL anL (.ref cL) ctL), slL⟩)
    (qL : PySem.W.codeIn K (.ref cL) "law" = true)
    (lC : K.lookup cL = some ⟨eC, ddC, .fields vC, slC⟩)
    (lP : vC[11]? = some (.ref PP))
    (nP : K.lookup PP = none)
    (hC : PySem.W.codeHdIn K cL PP = true)
    {pKEYWORDS : Addr} {odKEYWORDS : Option Addr} {itsKEYWORDS : Array Value} {nKEYWORDS : Nat} {slKEYWORDS : Array (Option Value)}
    (gKEYWORDS : PySem.W.nsIn K mainGlobals "KEYWORDS" = some (some (.ref pKEYWORDS)))
    (wKEYWORDS : K.lookup pKEYWORDS = some ⟨.type "tuple", odKEYWORDS, .seq itsKEYWORDS nKEYWORDS, slKEYWORDS⟩)
    (vKEYWORDS : itsKEYWORDS.size ≤ sizeLine ∧ Vals (keywordsL.map V.str) itsKEYWORDS.toList)
    {tLETTERS : Tok}
    (gLETTERS : PySem.W.nsIn K mainGlobals "LETTERS" = some (some (.str "abcdefghijklmnopqrstuvwxyz" tLETTERS)))
    {tMAX_LETTERS : Tok}
    (gMAX_LETTERS : PySem.W.nsIn K mainGlobals "MAX_LETTERS" = some (some (.int 8 tMAX_LETTERS)))
    {tMAX_FIELDS : Tok}
    (gMAX_FIELDS : PySem.W.nsIn K mainGlobals "MAX_FIELDS" = some (some (.int 4 tMAX_FIELDS)))
    (zisinstance : PySem.W.nsIn K mainGlobals "isinstance" = some none)
    (zstr : PySem.W.nsIn K mainGlobals "str" = some none)
    (zbool : PySem.W.nsIn K mainGlobals "bool" = some none)
    (zlen : PySem.W.nsIn K mainGlobals "len" = some none)
    (zall : PySem.W.nsIn K mainGlobals "all" = some none)
    (zset : PySem.W.nsIn K mainGlobals "set" = some none)
    (ztuple : PySem.W.nsIn K mainGlobals "tuple" = some none)
    (zlist : PySem.W.nsIn K mainGlobals "list" = some none)
    (zrange : PySem.W.nsIn K mainGlobals "range" = some none)
    (zmax : PySem.W.nsIn K mainGlobals "max" = some none)
    (zmin : PySem.W.nsIn K mainGlobals "min" = some none)
    (zint : PySem.W.nsIn K mainGlobals "int" = some none)
    (zabs : PySem.W.nsIn K mainGlobals "abs" = some none)
    (zenumerate : PySem.W.nsIn K mainGlobals "enumerate" = some none)
    (zrepr : PySem.W.nsIn K mainGlobals "repr" = some none)
    (zValueError : PySem.W.nsIn K mainGlobals "ValueError" = some none)
    (zLookupError : PySem.W.nsIn K mainGlobals "LookupError" = some none)
    (zKeyError : PySem.W.nsIn K mainGlobals "KeyError" = some none)
    (zIndexError : PySem.W.nsIn K mainGlobals "IndexError" = some none)
    (zArithmeticError : PySem.W.nsIn K mainGlobals "ArithmeticError" = some none)
    (zOverflowError : PySem.W.nsIn K mainGlobals "OverflowError" = some none)
    (zRuntimeError : PySem.W.nsIn K mainGlobals "RuntimeError" = some none)
    {C0 C1 C2 C3 C4 C5 C6 C7 C8 C9 C10 C11 C12 C13 C14 C15 : Addr}
    (Gc0 : PySem.W.nsIn K mainGlobals "LoanError" = some (some (.ref C0)))
    (Gc1 : PySem.W.nsIn K mainGlobals "InvalidWord" = some (some (.ref C1)))
    (Gc2 : PySem.W.nsIn K mainGlobals "InvalidFunction" = some (some (.ref C2)))
    (Gc3 : PySem.W.nsIn K mainGlobals "InvalidProgram" = some (some (.ref C3)))
    (Gc4 : PySem.W.nsIn K mainGlobals "InvalidState" = some (some (.ref C4)))
    (Gc5 : PySem.W.nsIn K mainGlobals "InvalidWalk" = some (some (.ref C5)))
    (Gc6 : PySem.W.nsIn K mainGlobals "InvalidTable" = some (some (.ref C6)))
    (Gc7 : PySem.W.nsIn K mainGlobals "InvalidContract" = some (some (.ref C7)))
    (Gc8 : PySem.W.nsIn K mainGlobals "InvalidOperation" = some (some (.ref C8)))
    (Gc9 : PySem.W.nsIn K mainGlobals "ParseError" = some (some (.ref C9)))
    (Gc10 : PySem.W.nsIn K mainGlobals "UnknownName" = some (some (.ref C10)))
    (Gc11 : PySem.W.nsIn K mainGlobals "NothingToUndo" = some (some (.ref C11)))
    (Gc12 : PySem.W.nsIn K mainGlobals "NotReached" = some (some (.ref C12)))
    (Gc13 : PySem.W.nsIn K mainGlobals "TooMany" = some (some (.ref C13)))
    (Gc14 : PySem.W.nsIn K mainGlobals "Refused" = some (some (.ref C14)))
    (Gc15 : PySem.W.nsIn K mainGlobals "InvalidNumber" = some (some (.ref C15)))
    (ha : PySem.W.specialIn K (.builtin "object.__class__") "__get__" = some (some (.builtin "getset_descriptor.__get__")))
    (ht : PySem.W.takesIn K (.builtin "object.__class__") = some true)
    (Ea0 : PySem.W.findIn K (.ref C0) "__getattribute__" = some (some (.builtin "BaseException.__getattribute__")))
    (Eb0 : PySem.W.findIn K (.ref C0) "__getattr__" = some none)
    (Ec0 : PySem.W.subIn K (.ref C0) (.type "BaseException") = some true)
    (Ed0 : PySem.W.hasDictIn K C0 = true)
    (Ee0 : PySem.W.findIn K (.ref C0) "__class__" = some (some (.builtin "object.__class__")))
    (Em0 : PySem.W.mroIn K C0 (.type "object") = some true)
    (Ek0 : PySem.W.keepIn K (.ref C0) = true)
    (Er0 : Row16 K C0 C0 C1 C2 C3 C4 C5 C6 C7 C8 C9 C10 C11 C12 C13 C14 C15 true false false false false false false false false false false false false false false false)
    (Es0 : Row7 K C0 true false false false false false false)
    (Ex0 : PySem.W.excIn K C0 [.type "ValueError", .type "Exception", .type "BaseException", .type "object"] "ValueError.__new__" = true)
    (Ea1 : PySem.W.findIn K (.ref C1) "__getattribute__" = some (some (.builtin "BaseException.__getattribute__")))
    (Eb1 : PySem.W.findIn K (.ref C1) "__getattr__" = some none)
    (Ec1 : PySem.W.subIn K (.ref C1) (.type "BaseException") = some true)
    (Ed1 : PySem.W.hasDictIn K C1 = true)
    (Ee1 : PySem.W.findIn K (.ref C1) "__class__" = some (some (.builtin "object.__class__")))
    (Em1 : PySem.W.mroIn K C1 (.type "object") = some true)
    (Ek1 : PySem.W.keepIn K (.ref C1) = true)
    (Er1 : Row16 K C1 C0 C1 C2 C3 C4 C5 C6 C7 C8 C9 C10 C11 C12 C13 C14 C15 true true false false false false false false false false false false false false false false)
    (Es1 : Row7 K C1 true false false false false false false)
    (Ex1 : PySem.W.excIn K C1 [.type "ValueError", .type "Exception", .type "BaseException", .type "object"] "ValueError.__new__" = true)
    (Ea2 : PySem.W.findIn K (.ref C2) "__getattribute__" = some (some (.builtin "BaseException.__getattribute__")))
    (Eb2 : PySem.W.findIn K (.ref C2) "__getattr__" = some none)
    (Ec2 : PySem.W.subIn K (.ref C2) (.type "BaseException") = some true)
    (Ed2 : PySem.W.hasDictIn K C2 = true)
    (Ee2 : PySem.W.findIn K (.ref C2) "__class__" = some (some (.builtin "object.__class__")))
    (Em2 : PySem.W.mroIn K C2 (.type "object") = some true)
    (Ek2 : PySem.W.keepIn K (.ref C2) = true)
    (Er2 : Row16 K C2 C0 C1 C2 C3 C4 C5 C6 C7 C8 C9 C10 C11 C12 C13 C14 C15 true false true false false false false false false false false false false false false false)
    (Es2 : Row7 K C2 true false false false false false false)
    (Ex2 : PySem.W.excIn K C2 [.type "ValueError", .type "Exception", .type "BaseException", .type "object"] "ValueError.__new__" = true)
    (Ea3 : PySem.W.findIn K (.ref C3) "__getattribute__" = some (some (.builtin "BaseException.__getattribute__")))
    (Eb3 : PySem.W.findIn K (.ref C3) "__getattr__" = some none)
    (Ec3 : PySem.W.subIn K (.ref C3) (.type "BaseException") = some true)
    (Ed3 : PySem.W.hasDictIn K C3 = true)
    (Ee3 : PySem.W.findIn K (.ref C3) "__class__" = some (some (.builtin "object.__class__")))
    (Em3 : PySem.W.mroIn K C3 (.type "object") = some true)
    (Ek3 : PySem.W.keepIn K (.ref C3) = true)
    (Er3 : Row16 K C3 C0 C1 C2 C3 C4 C5 C6 C7 C8 C9 C10 C11 C12 C13 C14 C15 true false false true false false false false false false false false false false false false)
    (Es3 : Row7 K C3 true false false false false false false)
    (Ex3 : PySem.W.excIn K C3 [.type "ValueError", .type "Exception", .type "BaseException", .type "object"] "ValueError.__new__" = true)
    (Ea4 : PySem.W.findIn K (.ref C4) "__getattribute__" = some (some (.builtin "BaseException.__getattribute__")))
    (Eb4 : PySem.W.findIn K (.ref C4) "__getattr__" = some none)
    (Ec4 : PySem.W.subIn K (.ref C4) (.type "BaseException") = some true)
    (Ed4 : PySem.W.hasDictIn K C4 = true)
    (Ee4 : PySem.W.findIn K (.ref C4) "__class__" = some (some (.builtin "object.__class__")))
    (Em4 : PySem.W.mroIn K C4 (.type "object") = some true)
    (Ek4 : PySem.W.keepIn K (.ref C4) = true)
    (Er4 : Row16 K C4 C0 C1 C2 C3 C4 C5 C6 C7 C8 C9 C10 C11 C12 C13 C14 C15 true false false false true false false false false false false false false false false false)
    (Es4 : Row7 K C4 true false false false false false false)
    (Ex4 : PySem.W.excIn K C4 [.type "ValueError", .type "Exception", .type "BaseException", .type "object"] "ValueError.__new__" = true)
    (Ea5 : PySem.W.findIn K (.ref C5) "__getattribute__" = some (some (.builtin "BaseException.__getattribute__")))
    (Eb5 : PySem.W.findIn K (.ref C5) "__getattr__" = some none)
    (Ec5 : PySem.W.subIn K (.ref C5) (.type "BaseException") = some true)
    (Ed5 : PySem.W.hasDictIn K C5 = true)
    (Ee5 : PySem.W.findIn K (.ref C5) "__class__" = some (some (.builtin "object.__class__")))
    (Em5 : PySem.W.mroIn K C5 (.type "object") = some true)
    (Ek5 : PySem.W.keepIn K (.ref C5) = true)
    (Er5 : Row16 K C5 C0 C1 C2 C3 C4 C5 C6 C7 C8 C9 C10 C11 C12 C13 C14 C15 true false false false false true false false false false false false false false false false)
    (Es5 : Row7 K C5 true false false false false false false)
    (Ex5 : PySem.W.excIn K C5 [.type "ValueError", .type "Exception", .type "BaseException", .type "object"] "ValueError.__new__" = true)
    (Ea6 : PySem.W.findIn K (.ref C6) "__getattribute__" = some (some (.builtin "BaseException.__getattribute__")))
    (Eb6 : PySem.W.findIn K (.ref C6) "__getattr__" = some none)
    (Ec6 : PySem.W.subIn K (.ref C6) (.type "BaseException") = some true)
    (Ed6 : PySem.W.hasDictIn K C6 = true)
    (Ee6 : PySem.W.findIn K (.ref C6) "__class__" = some (some (.builtin "object.__class__")))
    (Em6 : PySem.W.mroIn K C6 (.type "object") = some true)
    (Ek6 : PySem.W.keepIn K (.ref C6) = true)
    (Er6 : Row16 K C6 C0 C1 C2 C3 C4 C5 C6 C7 C8 C9 C10 C11 C12 C13 C14 C15 true false false false false false true false false false false false false false false false)
    (Es6 : Row7 K C6 true false false false false false false)
    (Ex6 : PySem.W.excIn K C6 [.type "ValueError", .type "Exception", .type "BaseException", .type "object"] "ValueError.__new__" = true)
    (Ea7 : PySem.W.findIn K (.ref C7) "__getattribute__" = some (some (.builtin "BaseException.__getattribute__")))
    (Eb7 : PySem.W.findIn K (.ref C7) "__getattr__" = some none)
    (Ec7 : PySem.W.subIn K (.ref C7) (.type "BaseException") = some true)
    (Ed7 : PySem.W.hasDictIn K C7 = true)
    (Ee7 : PySem.W.findIn K (.ref C7) "__class__" = some (some (.builtin "object.__class__")))
    (Em7 : PySem.W.mroIn K C7 (.type "object") = some true)
    (Ek7 : PySem.W.keepIn K (.ref C7) = true)
    (Er7 : Row16 K C7 C0 C1 C2 C3 C4 C5 C6 C7 C8 C9 C10 C11 C12 C13 C14 C15 true false false false false false false true false false false false false false false false)
    (Es7 : Row7 K C7 true false false false false false false)
    (Ex7 : PySem.W.excIn K C7 [.type "ValueError", .type "Exception", .type "BaseException", .type "object"] "ValueError.__new__" = true)
    (Ea8 : PySem.W.findIn K (.ref C8) "__getattribute__" = some (some (.builtin "BaseException.__getattribute__")))
    (Eb8 : PySem.W.findIn K (.ref C8) "__getattr__" = some none)
    (Ec8 : PySem.W.subIn K (.ref C8) (.type "BaseException") = some true)
    (Ed8 : PySem.W.hasDictIn K C8 = true)
    (Ee8 : PySem.W.findIn K (.ref C8) "__class__" = some (some (.builtin "object.__class__")))
    (Em8 : PySem.W.mroIn K C8 (.type "object") = some true)
    (Ek8 : PySem.W.keepIn K (.ref C8) = true)
    (Er8 : Row16 K C8 C0 C1 C2 C3 C4 C5 C6 C7 C8 C9 C10 C11 C12 C13 C14 C15 true false false false false false false false true false false false false false false false)
    (Es8 : Row7 K C8 true false false false false false false)
    (Ex8 : PySem.W.excIn K C8 [.type "ValueError", .type "Exception", .type "BaseException", .type "object"] "ValueError.__new__" = true)
    (Ea9 : PySem.W.findIn K (.ref C9) "__getattribute__" = some (some (.builtin "BaseException.__getattribute__")))
    (Eb9 : PySem.W.findIn K (.ref C9) "__getattr__" = some none)
    (Ec9 : PySem.W.subIn K (.ref C9) (.type "BaseException") = some true)
    (Ed9 : PySem.W.hasDictIn K C9 = true)
    (Ee9 : PySem.W.findIn K (.ref C9) "__class__" = some (some (.builtin "object.__class__")))
    (Em9 : PySem.W.mroIn K C9 (.type "object") = some true)
    (Ek9 : PySem.W.keepIn K (.ref C9) = true)
    (Er9 : Row16 K C9 C0 C1 C2 C3 C4 C5 C6 C7 C8 C9 C10 C11 C12 C13 C14 C15 true false false false false false false false false true false false false false false false)
    (Es9 : Row7 K C9 true false false false false false false)
    (Ea10 : PySem.W.findIn K (.ref C10) "__getattribute__" = some (some (.builtin "BaseException.__getattribute__")))
    (Eb10 : PySem.W.findIn K (.ref C10) "__getattr__" = some none)
    (Ec10 : PySem.W.subIn K (.ref C10) (.type "BaseException") = some true)
    (Ed10 : PySem.W.hasDictIn K C10 = true)
    (Ee10 : PySem.W.findIn K (.ref C10) "__class__" = some (some (.builtin "object.__class__")))
    (Em10 : PySem.W.mroIn K C10 (.type "object") = some true)
    (Ek10 : PySem.W.keepIn K (.ref C10) = true)
    (Er10 : Row16 K C10 C0 C1 C2 C3 C4 C5 C6 C7 C8 C9 C10 C11 C12 C13 C14 C15 false false false false false false false false false false true false false false false false)
    (Es10 : Row7 K C10 false true true false false false false)
    (Ea11 : PySem.W.findIn K (.ref C11) "__getattribute__" = some (some (.builtin "BaseException.__getattribute__")))
    (Eb11 : PySem.W.findIn K (.ref C11) "__getattr__" = some none)
    (Ec11 : PySem.W.subIn K (.ref C11) (.type "BaseException") = some true)
    (Ed11 : PySem.W.hasDictIn K C11 = true)
    (Ee11 : PySem.W.findIn K (.ref C11) "__class__" = some (some (.builtin "object.__class__")))
    (Em11 : PySem.W.mroIn K C11 (.type "object") = some true)
    (Ek11 : PySem.W.keepIn K (.ref C11) = true)
    (Er11 : Row16 K C11 C0 C1 C2 C3 C4 C5 C6 C7 C8 C9 C10 C11 C12 C13 C14 C15 false false false false false false false false false false false true false false false false)
    (Es11 : Row7 K C11 false true false true false false false)
    (Ea12 : PySem.W.findIn K (.ref C12) "__getattribute__" = some (some (.builtin "BaseException.__getattribute__")))
    (Eb12 : PySem.W.findIn K (.ref C12) "__getattr__" = some none)
    (Ec12 : PySem.W.subIn K (.ref C12) (.type "BaseException") = some true)
    (Ed12 : PySem.W.hasDictIn K C12 = true)
    (Ee12 : PySem.W.findIn K (.ref C12) "__class__" = some (some (.builtin "object.__class__")))
    (Em12 : PySem.W.mroIn K C12 (.type "object") = some true)
    (Ek12 : PySem.W.keepIn K (.ref C12) = true)
    (Er12 : Row16 K C12 C0 C1 C2 C3 C4 C5 C6 C7 C8 C9 C10 C11 C12 C13 C14 C15 false false false false false false false false false false false false true false false false)
    (Es12 : Row7 K C12 false true false false false false false)
    (Ea13 : PySem.W.findIn K (.ref C13) "__getattribute__" = some (some (.builtin "BaseException.__getattribute__")))
    (Eb13 : PySem.W.findIn K (.ref C13) "__getattr__" = some none)
    (Ec13 : PySem.W.subIn K (.ref C13) (.type "BaseException") = some true)
    (Ed13 : PySem.W.hasDictIn K C13 = true)
    (Ee13 : PySem.W.findIn K (.ref C13) "__class__" = some (some (.builtin "object.__class__")))
    (Em13 : PySem.W.mroIn K C13 (.type "object") = some true)
    (Ek13 : PySem.W.keepIn K (.ref C13) = true)
    (Er13 : Row16 K C13 C0 C1 C2 C3 C4 C5 C6 C7 C8 C9 C10 C11 C12 C13 C14 C15 false false false false false false false false false false false false false true false false)
    (Es13 : Row7 K C13 false false false false true true false)
    (Ea14 : PySem.W.findIn K (.ref C14) "__getattribute__" = some (some (.builtin "BaseException.__getattribute__")))
    (Eb14 : PySem.W.findIn K (.ref C14) "__getattr__" = some none)
    (Ec14 : PySem.W.subIn K (.ref C14) (.type "BaseException") = some true)
    (Ed14 : PySem.W.hasDictIn K C14 = true)
    (Ee14 : PySem.W.findIn K (.ref C14) "__class__" = some (some (.builtin "object.__class__")))
    (Em14 : PySem.W.mroIn K C14 (.type "object") = some true)
    (Ek14 : PySem.W.keepIn K (.ref C14) = true)
    (Er14 : Row16 K C14 C0 C1 C2 C3 C4 C5 C6 C7 C8 C9 C10 C11 C12 C13 C14 C15 false false false false false false false false false false false false false false true false)
    (Es14 : Row7 K C14 false false false false true false false)
    (Ea15 : PySem.W.findIn K (.ref C15) "__getattribute__" = some (some (.builtin "BaseException.__getattribute__")))
    (Eb15 : PySem.W.findIn K (.ref C15) "__getattr__" = some none)
    (Ec15 : PySem.W.subIn K (.ref C15) (.type "BaseException") = some true)
    (Ed15 : PySem.W.hasDictIn K C15 = true)
    (Ee15 : PySem.W.findIn K (.ref C15) "__class__" = some (some (.builtin "object.__class__")))
    (Em15 : PySem.W.mroIn K C15 (.type "object") = some true)
    (Ek15 : PySem.W.keepIn K (.ref C15) = true)
    (Er15 : Row16 K C15 C0 C1 C2 C3 C4 C5 C6 C7 C8 C9 C10 C11 C12 C13 C14 C15 false false false false false false false false false false false false false false false true)
    (Es15 : Row7 K C15 false false false false false false true)
    (Wt : PySem.W.typeIn K (.ref C1) = some (.type "type"))
    (Wi : PySem.W.isClsIn K C1 = true)
    (Ws : PySem.W.subIn K (.ref C1) (.ref C1) = some true)
    {nm9 qn9 : Str} {N9 I9 : Addr} {bs9 : List Value} {sn9 : List Str} {su9 : List Value} {ab9 : Bool} {co9 : Option Bool} {dd9 : Option Addr} {r9 s9 u9 x9 y9 : Option Value} {jd9 jn9 : Option Addr} {js9 : Array (Option Value)} {jc9 jv9 jo9 jp9 je9 jt9 : Value}
    (O9 : K.lookup C9 = some (excClassObj nm9 qn9 C9 N9 bs9 (.ref C0 :: [.type "ValueError", .type "Exception", .type "BaseException", .type "object"]) true sn9 su9 ab9 co9 dd9 r9 s9 u9 x9 y9 "ValueError.__new__"))
    (Os9 : PySem.W.findIn K (.ref C9) "__setattr__" = some (some (.builtin "object.__setattr__")))
    (Oi9 : PySem.W.findIn K (.ref C9) "__init__" = some (some (.ref I9)))
    (Ot9 : PySem.W.typeIn K (.ref I9) = some (.type "function"))
    (On9 : PySem.W.findIn K (.ref C9) "line" = some none)
    (Ol9 : K.lookup I9 = some ⟨jc9, jd9, .func (PySem.W.fnOf "__init__" "ParseError.__init__" (defArgs s_init0) (defBody s_init0) (defScope s_init0) .none jv9 jo9 jp9 jn9 je9 jt9), js9⟩)
    (Oq9 : PySem.W.codeIn K je9 "ParseError.__init__" = true)
    (Ok9 : PySem.W.keepIn K (.ref I9) = true)
    {nm10 qn10 : Str} {N10 I10 : Addr} {bs10 : List Value} {sn10 : List Str} {su10 : List Value} {ab10 : Bool} {co10 : Option Bool} {dd10 : Option Addr} {r10 s10 u10 x10 y10 : Option Value} {jd10 jn10 : Option Addr} {js10 : Array (Option Value)} {jc10 jv10 jo10 jp10 je10 jt10 : Value}
    (O10 : K.lookup C10 = some (excClassObj nm10 qn10 C10 N10 bs10 ([.type "KeyError", .type "LookupError", .type "Exception", .type "BaseException", .type "object"]) true sn10 su10 ab10 co10 dd10 r10 s10 u10 x10 y10 "LookupError.__new__"))
    (Os10 : PySem.W.findIn K (.ref C10) "__setattr__" = some (some (.builtin "object.__setattr__")))
    (Oi10 : PySem.W.findIn K (.ref C10) "__init__" = some (some (.ref I10)))
    (Ot10 : PySem.W.typeIn K (.ref I10) = some (.type "function"))
    (On10 : PySem.W.findIn K (.ref C10) "wanted" = some none)
    (Ol10 : K.lookup I10 = some ⟨jc10, jd10, .func (PySem.W.fnOf "__init__" "UnknownName.__init__" (defArgs s_init1) (defBody s_init1) (defScope s_init1) .none jv10 jo10 jp10 jn10 je10 jt10), js10⟩)
    (Oq10 : PySem.W.codeIn K je10 "UnknownName.__init__" = true)
    (Ok10 : PySem.W.keepIn K (.ref I10) = true)
    {nm11 qn11 : Str} {N11 I11 : Addr} {bs11 : List Value} {sn11 : List Str} {su11 : List Value} {ab11 : Bool} {co11 : Option Bool} {dd11 : Option Addr} {r11 s11 u11 x11 y11 : Option Value} {jd11 jn11 : Option Addr} {js11 : Array (Option Value)} {jc11 jv11 jo11 jp11 je11 jt11 : Value}
    (O11 : K.lookup C11 = some (excClassObj nm11 qn11 C11 N11 bs11 ([.type "IndexError", .type "LookupError", .type "Exception", .type "BaseException", .type "object"]) true sn11 su11 ab11 co11 dd11 r11 s11 u11 x11 y11 "IndexError.__new__"))
    (Os11 : PySem.W.findIn K (.ref C11) "__setattr__" = some (some (.builtin "object.__setattr__")))
    (Oi11 : PySem.W.findIn K (.ref C11) "__init__" = some (some (.ref I11)))
    (Ot11 : PySem.W.typeIn K (.ref I11) = some (.type "function"))
    (On11 : PySem.W.findIn K (.ref C11) "many" = some none)
    (Ol11 : K.lookup I11 = some ⟨jc11, jd11, .func (PySem.W.fnOf "__init__" "NothingToUndo.__init__" (defArgs s_init2) (defBody s_init2) (defScope s_init2) .none jv11 jo11 jp11 jn11 je11 jt11), js11⟩)
    (Oq11 : PySem.W.codeIn K je11 "NothingToUndo.__init__" = true)
    (Ok11 : PySem.W.keepIn K (.ref I11) = true)
    {nm12 qn12 : Str} {N12 I12 : Addr} {bs12 : List Value} {sn12 : List Str} {su12 : List Value} {ab12 : Bool} {co12 : Option Bool} {dd12 : Option Addr} {r12 s12 u12 x12 y12 : Option Value} {jd12 jn12 : Option Addr} {js12 : Array (Option Value)} {jc12 jv12 jo12 jp12 je12 jt12 : Value}
    (O12 : K.lookup C12 = some (excClassObj nm12 qn12 C12 N12 bs12 ([.type "LookupError", .type "Exception", .type "BaseException", .type "object"]) true sn12 su12 ab12 co12 dd12 r12 s12 u12 x12 y12 "LookupError.__new__"))
    (Os12 : PySem.W.findIn K (.ref C12) "__setattr__" = some (some (.builtin "object.__setattr__")))
    (Oi12 : PySem.W.findIn K (.ref C12) "__init__" = some (some (.ref I12)))
    (Ot12 : PySem.W.typeIn K (.ref I12) = some (.type "function"))
    (On12 : PySem.W.findIn K (.ref C12) "point" = some none)
    (Ol12 : K.lookup I12 = some ⟨jc12, jd12, .func (PySem.W.fnOf "__init__" "NotReached.__init__" (defArgs s_init3) (defBody s_init3) (defScope s_init3) .none jv12 jo12 jp12 jn12 je12 jt12), js12⟩)
    (Oq12 : PySem.W.codeIn K je12 "NotReached.__init__" = true)
    (Ok12 : PySem.W.keepIn K (.ref I12) = true)
    {nm13 qn13 : Str} {N13 I13 : Addr} {bs13 : List Value} {sn13 : List Str} {su13 : List Value} {ab13 : Bool} {co13 : Option Bool} {dd13 : Option Addr} {r13 s13 u13 x13 y13 : Option Value} {jd13 jn13 : Option Addr} {js13 : Array (Option Value)} {jc13 jv13 jo13 jp13 je13 jt13 : Value}
    (O13 : K.lookup C13 = some (excClassObj nm13 qn13 C13 N13 bs13 ([.type "OverflowError", .type "ArithmeticError", .type "Exception", .type "BaseException", .type "object"]) true sn13 su13 ab13 co13 dd13 r13 s13 u13 x13 y13 "OverflowError.__new__"))
    (Os13 : PySem.W.findIn K (.ref C13) "__setattr__" = some (some (.builtin "object.__setattr__")))
    (Oi13 : PySem.W.findIn K (.ref C13) "__init__" = some (some (.ref I13)))
    (Ot13 : PySem.W.typeIn K (.ref I13) = some (.type "function"))
    (On13 : PySem.W.findIn K (.ref C13) "limit" = some none)
    (Ol13 : K.lookup I13 = some ⟨jc13, jd13, .func (PySem.W.fnOf "__init__" "TooMany.__init__" (defArgs s_init4) (defBody s_init4) (defScope s_init4) .none jv13 jo13 jp13 jn13 je13 jt13), js13⟩)
    (Oq13 : PySem.W.codeIn K je13 "TooMany.__init__" = true)
    (Ok13 : PySem.W.keepIn K (.ref I13) = true)
    {nm14 qn14 : Str} {N14 I14 : Addr} {bs14 : List Value} {sn14 : List Str} {su14 : List Value} {ab14 : Bool} {co14 : Option Bool} {dd14 : Option Addr} {r14 s14 u14 x14 y14 : Option Value} {jd14 jn14 : Option Addr} {js14 : Array (Option Value)} {jc14 jv14 jo14 jp14 je14 jt14 : Value}
    (O14 : K.lookup C14 = some (excClassObj nm14 qn14 C14 N14 bs14 ([.type "ArithmeticError", .type "Exception", .type "BaseException", .type "object"]) true sn14 su14 ab14 co14 dd14 r14 s14 u14 x14 y14 "ArithmeticError.__new__"))
    (Os14 : PySem.W.findIn K (.ref C14) "__setattr__" = some (some (.builtin "object.__setattr__")))
    (Oi14 : PySem.W.findIn K (.ref C14) "__init__" = some (some (.ref I14)))
    (Ot14 : PySem.W.typeIn K (.ref I14) = some (.type "function"))
    (On14 : PySem.W.findIn K (.ref C14) "claim" = some none)
    (Ol14 : K.lookup I14 = some ⟨jc14, jd14, .func (PySem.W.fnOf "__init__" "Refused.__init__" (defArgs s_init5) (defBody s_init5) (defScope s_init5) .none jv14 jo14 jp14 jn14 je14 jt14), js14⟩)
    (Oq14 : PySem.W.codeIn K je14 "Refused.__init__" = true)
    (Ok14 : PySem.W.keepIn K (.ref I14) = true)
    {nm15 qn15 : Str} {N15 I15 : Addr} {bs15 : List Value} {sn15 : List Str} {su15 : List Value} {ab15 : Bool} {co15 : Option Bool} {dd15 : Option Addr} {r15 s15 u15 x15 y15 : Option Value} {jd15 jn15 : Option Addr} {js15 : Array (Option Value)} {jc15 jv15 jo15 jp15 je15 jt15 : Value}
    (O15 : K.lookup C15 = some (excClassObj nm15 qn15 C15 N15 bs15 ([.type "RuntimeError", .type "Exception", .type "BaseException", .type "object"]) true sn15 su15 ab15 co15 dd15 r15 s15 u15 x15 y15 "RuntimeError.__new__"))
    (Os15 : PySem.W.findIn K (.ref C15) "__setattr__" = some (some (.builtin "object.__setattr__")))
    (Oi15 : PySem.W.findIn K (.ref C15) "__init__" = some (some (.ref I15)))
    (Ot15 : PySem.W.typeIn K (.ref I15) = some (.type "function"))
    (On15 : PySem.W.findIn K (.ref C15) "given" = some none)
    (Ol15 : K.lookup I15 = some ⟨jc15, jd15, .func (PySem.W.fnOf "__init__" "InvalidNumber.__init__" (defArgs s_init6) (defBody s_init6) (defScope s_init6) .none jv15 jo15 jp15 jn15 je15 jt15), js15⟩)
    (Oq15 : PySem.W.codeIn K je15 "InvalidNumber.__init__" = true)
    (Ok15 : PySem.W.keepIn K (.ref I15) = true)
    : LawG l w K 7 63 "script" mg fa := by
  have e := hfa.symm.trans (PySem.W.mg_of X G aL)
  cases e
  have F0 := fun_mk (st := s_is_integer) l0 q0 k0
  have b0 := F0.binds (ps := ["value"]) fun _ _ _ _ _ _ us hl => match us, hl with | [_], _ => rfl
  have m0 := PySem.W.mg_of X G a0
  have F1 := fun_mk (st := s_is_name) l1 q1 k1
  have b1 := F1.binds (ps := ["value"]) fun _ _ _ _ _ _ us hl => match us, hl with | [_], _ => rfl
  have m1 := PySem.W.mg_of X G a1
  have F2 := fun_mk (st := s_are_different_names) l2 q2 k2
  have b2 := F2.binds (ps := ["values"]) fun _ _ _ _ _ _ us hl => match us, hl with | [_], _ => rfl
  have m2 := PySem.W.mg_of X G a2
  have F3 := fun_mk (st := s_is_fields) l3 q3 k3
  have b3 := F3.binds (ps := ["value"]) fun _ _ _ _ _ _ us hl => match us, hl with | [_], _ => rfl
  have m3 := PySem.W.mg_of X G a3
  have F4 := fun_mk (st := s_is_part) l4 q4 k4
  have b4 := F4.binds (ps := ["fields", "value"]) fun _ _ _ _ _ _ us hl => match us, hl with | [_, _], _ => rfl
  have m4 := PySem.W.mg_of X G a4
  have F5 := fun_mk (st := s_is_any_part) l5 q5 k5
  have b5 := F5.binds (ps := ["value"]) fun _ _ _ _ _ _ us hl => match us, hl with | [_], _ => rfl
  have m5 := PySem.W.mg_of X G a5
  have F6 := fun_mk (st := s_do_overlap) l6 q6 k6
  have b6 := F6.binds (ps := ["one", "other"]) fun _ _ _ _ _ _ us hl => match us, hl with | [_, _], _ => rfl
  have m6 := PySem.W.mg_of X G a6
  have F7 := fun_mk (st := s_L_bag) l7 q7 k7
  have b7 := F7.binds (ps := ["script", "at"]) fun _ _ _ _ _ _ us hl => match us, hl with | [_, _], _ => rfl
  have m7 := PySem.W.mg_of X G a7
  have F8 := fun_mk (st := s_L_roll) l8 q8 k8
  have b8 := F8.binds (ps := ["bag", "total"]) fun _ _ _ _ _ _ us hl => match us, hl with | [_, _], _ => rfl
  have m8 := PySem.W.mg_of X G a8
  have F9 := fun_mk (st := s_L_one) l9 q9 k9
  have b9 := F9.binds (ps := ["bag", "items"]) fun _ _ _ _ _ _ us hl => match us, hl with | [_, _], _ => rfl
  have m9 := PySem.W.mg_of X G a9
  have F10 := fun_mk (st := s_L_word) l10 q10 k10
  have b10 := F10.binds (ps := ["bag"]) fun _ _ _ _ _ _ us hl => match us, hl with | [_], _ => rfl
  have m10 := PySem.W.mg_of X G a10
  have F11 := fun_mk (st := s_L_names) l11 q11 k11
  have b11 := F11.binds (ps := ["bag", "many"]) fun _ _ _ _ _ _ us hl => match us, hl with | [_, _], _ => rfl
  have m11 := PySem.W.mg_of X G a11
  have F12 := fun_mk (st := s_L_own) l12 q12 k12
  have b12 := F12.binds (ps := ["e"]) fun _ _ _ _ _ _ us hl => match us, hl with | [_], _ => rfl
  have m12 := PySem.W.mg_of X G a12
  have F13 := fun_mk (st := s_L_python) l13 q13 k13
  have b13 := F13.binds (ps := ["e"]) fun _ _ _ _ _ _ us hl => match us, hl with | [_], _ => rfl
  have m13 := PySem.W.mg_of X G a13
  have F14 := fun_mk (st := s_L_row) l14 q14 k14
  have b14 := F14.binds (ps := ["many", "places"]) fun _ _ _ _ _ _ us hl => match us, hl with | [_, _], _ => rfl
  have m14 := PySem.W.mg_of X G a14
  have F15 := fun_mk (st := s_L_plain) l15 q15 k15
  have b15 := F15.binds (ps := []) fun _ _ _ _ _ _ us hl => match us, hl with | [], _ => rfl
  have m15 := PySem.W.mg_of X G a15
  have F16 := fun_mk (st := s_L_value) l16 q16 k16
  have b16 := F16.binds (ps := ["bag"]) fun _ _ _ _ _ _ us hl => match us, hl with | [_], _ => rfl
  have m16 := PySem.W.mg_of X G a16
  have F17 := fun_mk (st := s_L_refused) l17 q17 k17
  have b17 := F17.binds (ps := ["call"]) fun _ _ _ _ _ _ us hl => match us, hl with | [_], _ => rfl
  have m17 := PySem.W.mg_of X G a17
  have F18 := fun_mk (st := s_L_errors_right) l18 q18 k18
  have b18 := F18.binds (ps := ["value"]) fun _ _ _ _ _ _ us hl => match us, hl with | [_], _ => rfl
  have m18 := PySem.W.mg_of X G a18
  have mKEYWORDS := PySem.W.mg_of X G gKEYWORDS
  have mLETTERS := PySem.W.mg_of X G gLETTERS
  have mMAX_LETTERS := PySem.W.mg_of X G gMAX_LETTERS
  have mMAX_FIELDS := PySem.W.mg_of X G gMAX_FIELDS
  have nisinstance := PySem.W.mg_none_of X G zisinstance
  have nstr := PySem.W.mg_none_of X G zstr
  have nbool := PySem.W.mg_none_of X G zbool
  have nlen := PySem.W.mg_none_of X G zlen
  have nall := PySem.W.mg_none_of X G zall
  have nset := PySem.W.mg_none_of X G zset
  have ntuple := PySem.W.mg_none_of X G ztuple
  have nlist := PySem.W.mg_none_of X G zlist
  have nrange := PySem.W.mg_none_of X G zrange
  have nmax := PySem.W.mg_none_of X G zmax
  have nmin := PySem.W.mg_none_of X G zmin
  have nint := PySem.W.mg_none_of X G zint
  have nabs := PySem.W.mg_none_of X G zabs
  have nenumerate := PySem.W.mg_none_of X G zenumerate
  have nrepr := PySem.W.mg_none_of X G zrepr
  have nValueError := PySem.W.mg_none_of X G zValueError
  have nLookupError := PySem.W.mg_none_of X G zLookupError
  have nKeyError := PySem.W.mg_none_of X G zKeyError
  have nIndexError := PySem.W.mg_none_of X G zIndexError
  have nArithmeticError := PySem.W.mg_none_of X G zArithmeticError
  have nOverflowError := PySem.W.mg_none_of X G zOverflowError
  have nRuntimeError := PySem.W.mg_none_of X G zRuntimeError
  have J9 := fun_mk (st := s_init0) Ol9 Oq9 Ok9
  have B9 := J9.binds (ps := ["self", "line"]) fun _ _ _ _ _ _ us hl => match us, hl with | [_, _], _ => rfl
  have J10 := fun_mk (st := s_init1) Ol10 Oq10 Ok10
  have B10 := J10.binds (ps := ["self", "wanted"]) fun _ _ _ _ _ _ us hl => match us, hl with | [_, _], _ => rfl
  have J11 := fun_mk (st := s_init2) Ol11 Oq11 Ok11
  have B11 := J11.binds (ps := ["self", "many"]) fun _ _ _ _ _ _ us hl => match us, hl with | [_, _], _ => rfl
  have J12 := fun_mk (st := s_init3) Ol12 Oq12 Ok12
  have B12 := J12.binds (ps := ["self", "point"]) fun _ _ _ _ _ _ us hl => match us, hl with | [_, _], _ => rfl
  have J13 := fun_mk (st := s_init4) Ol13 Oq13 Ok13
  have B13 := J13.binds (ps := ["self", "limit"]) fun _ _ _ _ _ _ us hl => match us, hl with | [_, _], _ => rfl
  have J14 := fun_mk (st := s_init5) Ol14 Oq14 Ok14
  have B14 := J14.binds (ps := ["self", "claim"]) fun _ _ _ _ _ _ us hl => match us, hl with | [_, _], _ => rfl
  have J15 := fun_mk (st := s_init6) Ol15 Oq15 Ok15
  have B15 := J15.binds (ps := ["self", "given"]) fun _ _ _ _ _ _ us hl => match us, hl with | [_, _], _ => rfl
  have E0 : ExcC K C0 := ⟨Ea0, Eb0, Ec0, Ed0, Ee0, ha, ht, Em0⟩
  have E1 : ExcC K C1 := ⟨Ea1, Eb1, Ec1, Ed1, Ee1, ha, ht, Em1⟩
  have E2 : ExcC K C2 := ⟨Ea2, Eb2, Ec2, Ed2, Ee2, ha, ht, Em2⟩
  have E3 : ExcC K C3 := ⟨Ea3, Eb3, Ec3, Ed3, Ee3, ha, ht, Em3⟩
  have E4 : ExcC K C4 := ⟨Ea4, Eb4, Ec4, Ed4, Ee4, ha, ht, Em4⟩
  have E5 : ExcC K C5 := ⟨Ea5, Eb5, Ec5, Ed5, Ee5, ha, ht, Em5⟩
  have E6 : ExcC K C6 := ⟨Ea6, Eb6, Ec6, Ed6, Ee6, ha, ht, Em6⟩
  have E7 : ExcC K C7 := ⟨Ea7, Eb7, Ec7, Ed7, Ee7, ha, ht, Em7⟩
  have E8 : ExcC K C8 := ⟨Ea8, Eb8, Ec8, Ed8, Ee8, ha, ht, Em8⟩
  have E9 : ExcC K C9 := ⟨Ea9, Eb9, Ec9, Ed9, Ee9, ha, ht, Em9⟩
  have E10 : ExcC K C10 := ⟨Ea10, Eb10, Ec10, Ed10, Ee10, ha, ht, Em10⟩
  have E11 : ExcC K C11 := ⟨Ea11, Eb11, Ec11, Ed11, Ee11, ha, ht, Em11⟩
  have E12 : ExcC K C12 := ⟨Ea12, Eb12, Ec12, Ed12, Ee12, ha, ht, Em12⟩
  have E13 : ExcC K C13 := ⟨Ea13, Eb13, Ec13, Ed13, Ee13, ha, ht, Em13⟩
  have E14 : ExcC K C14 := ⟨Ea14, Eb14, Ec14, Ed14, Ee14, ha, ht, Em14⟩
  have E15 : ExcC K C15 := ⟨Ea15, Eb15, Ec15, Ed15, Ee15, ha, ht, Em15⟩
  have T9 : KeepC K "line" C9 I9 := ⟨⟨⟨_, _, _, _, _, _, _, _, _, _, _, _, _, _, _, _, _, _, _, O9, PySem.F.excBase_ValueError, row_value.under _⟩, Os9, Ek9⟩, Oi9, Ot9, On9, ⟨Ea9, Eb9, Ec9, Ed9⟩, E9⟩
  have T10 : KeepC K "wanted" C10 I10 := ⟨⟨⟨_, _, _, _, _, _, _, _, _, _, _, _, _, _, _, _, _, _, _, O10, PySem.F.excBase_LookupError, row_key⟩, Os10, Ek10⟩, Oi10, Ot10, On10, ⟨Ea10, Eb10, Ec10, Ed10⟩, E10⟩
  have T11 : KeepC K "many" C11 I11 := ⟨⟨⟨_, _, _, _, _, _, _, _, _, _, _, _, _, _, _, _, _, _, _, O11, PySem.F.excBase_IndexError, row_index⟩, Os11, Ek11⟩, Oi11, Ot11, On11, ⟨Ea11, Eb11, Ec11, Ed11⟩, E11⟩
  have T12 : KeepC K "point" C12 I12 := ⟨⟨⟨_, _, _, _, _, _, _, _, _, _, _, _, _, _, _, _, _, _, _, O12, PySem.F.excBase_LookupError, row_lookup⟩, Os12, Ek12⟩, Oi12, Ot12, On12, ⟨Ea12, Eb12, Ec12, Ed12⟩, E12⟩
  have T13 : KeepC K "limit" C13 I13 := ⟨⟨⟨_, _, _, _, _, _, _, _, _, _, _, _, _, _, _, _, _, _, _, O13, PySem.F.excBase_OverflowError, row_over⟩, Os13, Ek13⟩, Oi13, Ot13, On13, ⟨Ea13, Eb13, Ec13, Ed13⟩, E13⟩
  have T14 : KeepC K "claim" C14 I14 := ⟨⟨⟨_, _, _, _, _, _, _, _, _, _, _, _, _, _, _, _, _, _, _, O14, PySem.F.excBase_ArithmeticError, row_arith⟩, Os14, Ek14⟩, Oi14, Ot14, On14, ⟨Ea14, Eb14, Ec14, Ed14⟩, E14⟩
  have T15 : KeepC K "given" C15 I15 := ⟨⟨⟨_, _, _, _, _, _, _, _, _, _, _, _, _, _, _, _, _, _, _, O15, PySem.F.excBase_RuntimeError, row_run⟩, Os15, Ek15⟩, Oi15, Ot15, On15, ⟨Ea15, Eb15, Ec15, Ed15⟩, E15⟩
  have GC : ClsG mg C0 C1 C2 C3 C4 C5 C6 C7 C8 C9 C10 C11 C12 C13 C14 C15 := ⟨PySem.W.mg_of X G Gc0, PySem.W.mg_of X G Gc1, PySem.W.mg_of X G Gc2, PySem.W.mg_of X G Gc3, PySem.W.mg_of X G Gc4, PySem.W.mg_of X G Gc5, PySem.W.mg_of X G Gc6, PySem.W.mg_of X G Gc7, PySem.W.mg_of X G Gc8, PySem.W.mg_of X G Gc9, PySem.W.mg_of X G Gc10, PySem.W.mg_of X G Gc11, PySem.W.mg_of X G Gc12, PySem.W.mg_of X G Gc13, PySem.W.mg_of X G Gc14, PySem.W.mg_of X G Gc15⟩
  have GP : PyG mg := ⟨nValueError, nLookupError, nKeyError, nIndexError, nArithmeticError, nOverflowError, nRuntimeError⟩
  have XW : XcP K mg "InvalidWord" C1 := ⟨PySem.W.mg_of X G Gc1, Ex1, Ek1, Ec1, Wt, Wi, Ws⟩
  have KW : ∃ a, mg "KEYWORDS" = some (.ref a) ∧ WrT K a (keywordsL.map V.str) := ⟨_, mKEYWORDS, _, _, _, wKEYWORDS, rfl, rfl, vKEYWORDS.1, vKEYWORDS.2⟩
  have NT : NameTxt K mg := ⟨KW, ⟨_, mLETTERS⟩, ⟨_, mMAX_LETTERS⟩, nisinstance, nstr, nlen, nall⟩
  refine ⟨PySem.W.fnOf "law" "law" (defArgs s_law) (defBody s_law) (defScope s_law) .none kVL dcL pmL anL (.ref cL) ctL, cL, PP, _, _, _, _, _, spLaw K PP, lL, rfl, rfl, lC, lP, nP, hC, fun s v => .of_eq rfl, fun H a ns hl tb hS => ⟨a, ns, rfl, hS, hl, tb, fun _ => rfl⟩, fun base _ _ TB => ?_⟩
  have cIn : Cal l.prog w K mg base 1 "is_integer" spInt := mkCal (ok_int F0 nisinstance nbool nint nabs) F0 b0 m0
  have cN : Cal l.prog w K mg base 1 "is_name" spIsName := mkCal (ok_isName F1 NT) F1 b1 m1
  have cDf : Cal l.prog w K mg base 2 "are_different_names" (spDiff K) := mkCal (ok_diff F2 nall nlen nset cN) F2 b2 m2
  have cF : Cal l.prog w K mg base 3 "is_fields" spFields := mkCal (ok_fields F3 nisinstance ntuple nlen ⟨_, mMAX_FIELDS⟩ cDf) F3 b3 m3
  have fPA := ok_partA F4 cF
  have cPA : Cal l.prog w K mg base 4 "is_part" spPartA := mkCal (fPA) F4 b4 m4
  have cAn : Cal l.prog w K mg base 2 "is_any_part" spAnyD := mkCal (ok_anyD F5 cN) F5 b5 m5
  have xO : CalX l.prog w K mg base 3 "do_overlap" (spOverX C1) := mkCalX (ok_overX XW F6 cAn) F6 b6 m6
  have xP : CalX l.prog w K mg base 4 "is_part" (spPartX C1) := mkCalX (FnOk.two (FnOk.lift fPA) (ok_partBad XW F4 cF) fun _ _ _ _ h => h) F4 b4 m4
  have cB : Cal l.prog w K mg base 1 "_law_bag" (spBag K) := mkCal (ok_bag F7 nlen nint nabs nmax) F7 b7 m7
  have cR : Cal l.prog w K mg base 1 "_law_roll" spRoll := mkCal (ok_roll F8 nint) F8 b8 m8
  have cO : Cal l.prog w K mg base 2 "_law_one" (spOne K) := mkCal (ok_one F9 nlen cR) F9 b9 m9
  have cWo : Cal l.prog w K mg base 3 "_law_word" spWord := mkCal (ok_word F10 nrange cR cO) F10 b10 m10
  have cNs : Cal l.prog w K mg base 4 "_law_names" spNames := mkCal (ok_names F11 nrange cWo) F11 b11 m11
  have cOw : Cal l.prog w K mg base 1 "_law_own" (spOwn K C0 C1 C2 C3 C4 C5 C6 C7 C8 C9 C10 C11 C12 C13 C14 C15) := mkCal (ok_spOwn F12 nisinstance GC) F12 b12 m12
  have cPy : Cal l.prog w K mg base 1 "_law_python" (spPy K) := mkCal (ok_spPy F13 nisinstance GP) F13 b13 m13
  have cRw : Cal l.prog w K mg base 1 "_law_row" spRow := mkCal (ok_row F14 nrange) F14 b14 m14
  have cPl : Cal l.prog w K mg base 1 "_law_plain" (spPlain C0 C1 C2 C3 C4 C5 C6 C7 C8) := mkCal (ok_plain F15 GC ⟨Ex0, Ek0⟩ ⟨Ex1, Ek1⟩ ⟨Ex2, Ek2⟩ ⟨Ex3, Ek3⟩ ⟨Ex4, Ek4⟩ ⟨Ex5, Ek5⟩ ⟨Ex6, Ek6⟩ ⟨Ex7, Ek7⟩ ⟨Ex8, Ek8⟩) F15 b15 m15
  have cV : Cal l.prog w K mg base 3 "_law_value" spValue := mkCal (ok_value F16 cO) F16 b16 m16
  have eR := ok_err F18 nrepr nrange GC T9 (ok_init0 T9 J9) B9 T10 (ok_init1 T10 J10) B10 T11 (ok_init2 T11 J11) B11 T12 (ok_init3 T12 J12) B12 T13 (ok_init4 T13 J13) B13 T14 (ok_init5 T14 J14) B14 T15 (ok_init6 T15 J15) B15 Er9 Es9 Er10 Es10 Er11 Es11 Er12 Es12 Er13 Es13 Er14 Es14 Er15 Es15 cOw cPy cRw
  exact ok_law lL qL F17 b17 m17 XW TB nrange nmax nmin nlen nisinstance ntuple nenumerate nstr nbool eR m18 k18 b18 trivial (fun _ _ => trivial) cB cR cO cV cNs cF cN cIn cPA cOw cPy cRw cPl xO xP E0 Er0 Es0 E1 Er1 Es1 E2 Er2 Es2 E3 Er3 Es3 E4 Er4 Es4 E5 Er5 Es5 E6 Er6 Es6 E7 Er7 Es7 E8 Er8 Es8
end
end Lp
open PySem PySem.W PyProof.Rows
set_option maxHeartbeats 0 in
theorem PySem.Challenge.cw_loanpairs_k04_errors_of_words_holds : PySem.Challenge.rw_loanpairs_k04_errors_of_words.Holds := by
  w_on; o_law; k_head; (case hw => w_witness2)
  k_fill
  refine Lp.walk_ownG (l := PySem.Challenge.rw_loanpairs_k04_errors_of_words) (n := 63) (k := 7) (x := "script") rfl (by decide) rfl ⟨rfl, by decide, by decide⟩ ?rec (fun w h Y => PySem.W.km_in_of Y) ?F
  case rec => first | rfl | decide +kernel
  case F =>
    intro w mg fa h KX G hmg
    refine' Lp.all_mk KX G hmg ?a0 ?l0 ?q0 ?k0 ?a1 ?l1 ?q1 ?k1 ?a2 ?l2 ?q2 ?k2 ?a3 ?l3 ?q3 ?k3 ?a4 ?l4 ?q4 ?k4 ?a5 ?l5 ?q5 ?k5 ?a6 ?l6 ?q6 ?k6 ?a7 ?l7 ?q7 ?k7 ?a8 ?l8 ?q8 ?k8 ?a9 ?l9 ?q9 ?k9 ?a10 ?l10 ?q10 ?k10 ?a11 ?l11 ?q11 ?k11 ?a12 ?l12 ?q12 ?k12 ?a13 ?l13 ?q13 ?k13 ?a14 ?l14 ?q14 ?k14 ?a15 ?l15 ?q15 ?k15 ?a16 ?l16 ?q16 ?k16 ?a17 ?l17 ?q17 ?k17 ?a18 ?l18 ?q18 ?k18 ?aL ?lL ?qL ?lC ?lP ?nP ?hC ?gKEYWORDS ?wKEYWORDS ?vKEYWORDS ?gLETTERS ?gMAX_LETTERS ?gMAX_FIELDS ?zisinstance ?zstr ?zbool ?zlen ?zall ?zset ?ztuple ?zlist ?zrange ?zmax ?zmin ?zint ?zabs ?zenumerate ?zrepr ?zValueError ?zLookupError ?zKeyError ?zIndexError ?zArithmeticError ?zOverflowError ?zRuntimeError ?Gc0 ?Gc1 ?Gc2 ?Gc3 ?Gc4 ?Gc5 ?Gc6 ?Gc7 ?Gc8 ?Gc9 ?Gc10 ?Gc11 ?Gc12 ?Gc13 ?Gc14 ?Gc15 ?ha ?ht ?Ea0 ?Eb0 ?Ec0 ?Ed0 ?Ee0 ?Em0 ?Ek0 ?Er0 ?Es0 ?Ex0 ?Ea1 ?Eb1 ?Ec1 ?Ed1 ?Ee1 ?Em1 ?Ek1 ?Er1 ?Es1 ?Ex1 ?Ea2 ?Eb2 ?Ec2 ?Ed2 ?Ee2 ?Em2 ?Ek2 ?Er2 ?Es2 ?Ex2 ?Ea3 ?Eb3 ?Ec3 ?Ed3 ?Ee3 ?Em3 ?Ek3 ?Er3 ?Es3 ?Ex3 ?Ea4 ?Eb4 ?Ec4 ?Ed4 ?Ee4 ?Em4 ?Ek4 ?Er4 ?Es4 ?Ex4 ?Ea5 ?Eb5 ?Ec5 ?Ed5 ?Ee5 ?Em5 ?Ek5 ?Er5 ?Es5 ?Ex5 ?Ea6 ?Eb6 ?Ec6 ?Ed6 ?Ee6 ?Em6 ?Ek6 ?Er6 ?Es6 ?Ex6 ?Ea7 ?Eb7 ?Ec7 ?Ed7 ?Ee7 ?Em7 ?Ek7 ?Er7 ?Es7 ?Ex7 ?Ea8 ?Eb8 ?Ec8 ?Ed8 ?Ee8 ?Em8 ?Ek8 ?Er8 ?Es8 ?Ex8 ?Ea9 ?Eb9 ?Ec9 ?Ed9 ?Ee9 ?Em9 ?Ek9 ?Er9 ?Es9 ?Ea10 ?Eb10 ?Ec10 ?Ed10 ?Ee10 ?Em10 ?Ek10 ?Er10 ?Es10 ?Ea11 ?Eb11 ?Ec11 ?Ed11 ?Ee11 ?Em11 ?Ek11 ?Er11 ?Es11 ?Ea12 ?Eb12 ?Ec12 ?Ed12 ?Ee12 ?Em12 ?Ek12 ?Er12 ?Es12 ?Ea13 ?Eb13 ?Ec13 ?Ed13 ?Ee13 ?Em13 ?Ek13 ?Er13 ?Es13 ?Ea14 ?Eb14 ?Ec14 ?Ed14 ?Ee14 ?Em14 ?Ek14 ?Er14 ?Es14 ?Ea15 ?Eb15 ?Ec15 ?Ed15 ?Ee15 ?Em15 ?Ek15 ?Er15 ?Es15 ?Wt ?Wi ?Ws ?O9 ?Os9 ?Oi9 ?Ot9 ?On9 ?Ol9 ?Oq9 ?Ok9 ?O10 ?Os10 ?Oi10 ?Ot10 ?On10 ?Ol10 ?Oq10 ?Ok10 ?O11 ?Os11 ?Oi11 ?Ot11 ?On11 ?Ol11 ?Oq11 ?Ok11 ?O12 ?Os12 ?Oi12 ?Ot12 ?On12 ?Ol12 ?Oq12 ?Ok12 ?O13 ?Os13 ?Oi13 ?Ot13 ?On13 ?Ol13 ?Oq13 ?Ok13 ?O14 ?Os14 ?Oi14 ?Ot14 ?On14 ?Ol14 ?Oq14 ?Ok14 ?O15 ?Os15 ?Oi15 ?Ot15 ?On15 ?Ol15 ?Oq15 ?Ok15
    (case a0 => k_is)
    (case l0 => k_is)
    (case q0 => k_is)
    (case k0 => k_is)
    (case a1 => k_is)
    (case l1 => k_is)
    (case q1 => k_is)
    (case k1 => k_is)
    (case a2 => k_is)
    (case l2 => k_is)
    (case q2 => k_is)
    (case k2 => k_is)
    (case a3 => k_is)
    (case l3 => k_is)
    (case q3 => k_is)
    (case k3 => k_is)
    (case a4 => k_is)
    (case l4 => k_is)
    (case q4 => k_is)
    (case k4 => k_is)
    (case a5 => k_is)
    (case l5 => k_is)
    (case q5 => k_is)
    (case k5 => k_is)
    (case a6 => k_is)
    (case l6 => k_is)
    (case q6 => k_is)
    (case k6 => k_is)
    (case a7 => k_is)
    (case l7 => k_is)
    (case q7 => k_is)
    (case k7 => k_is)
    (case a8 => k_is)
    (case l8 => k_is)
    (case q8 => k_is)
    (case k8 => k_is)
    (case a9 => k_is)
    (case l9 => k_is)
    (case q9 => k_is)
    (case k9 => k_is)
    (case a10 => k_is)
    (case l10 => k_is)
    (case q10 => k_is)
    (case k10 => k_is)
    (case a11 => k_is)
    (case l11 => k_is)
    (case q11 => k_is)
    (case k11 => k_is)
    (case a12 => k_is)
    (case l12 => k_is)
    (case q12 => k_is)
    (case k12 => k_is)
    (case a13 => k_is)
    (case l13 => k_is)
    (case q13 => k_is)
    (case k13 => k_is)
    (case a14 => k_is)
    (case l14 => k_is)
    (case q14 => k_is)
    (case k14 => k_is)
    (case a15 => k_is)
    (case l15 => k_is)
    (case q15 => k_is)
    (case k15 => k_is)
    (case a16 => k_is)
    (case l16 => k_is)
    (case q16 => k_is)
    (case k16 => k_is)
    (case a17 => k_is)
    (case l17 => k_is)
    (case q17 => k_is)
    (case k17 => k_is)
    (case a18 => k_is)
    (case l18 => k_is)
    (case q18 => k_is)
    (case k18 => k_is)
    (case aL => k_is)
    (case lL => k_is)
    (case qL => k_is)
    (case lC => k_is)
    (case lP => rfl)
    (case nP => first | k_is | rfl)
    (case hC => first | k_is | rfl | decide)
    (case gKEYWORDS => k_is)
    (case wKEYWORDS => k_is)
    (case vKEYWORDS => exact ⟨by decide, by repeat (first | exact .nil | refine .cons ⟨_, rfl⟩ ?_)⟩)
    (case gLETTERS => k_is)
    (case gMAX_LETTERS => k_is)
    (case gMAX_FIELDS => k_is)
    (case zisinstance => k_is)
    (case zstr => k_is)
    (case zbool => k_is)
    (case zlen => k_is)
    (case zall => k_is)
    (case zset => k_is)
    (case ztuple => k_is)
    (case zlist => k_is)
    (case zrange => k_is)
    (case zmax => k_is)
    (case zmin => k_is)
    (case zint => k_is)
    (case zabs => k_is)
    (case zenumerate => k_is)
    (case zrepr => k_is)
    (case zValueError => k_is)
    (case zLookupError => k_is)
    (case zKeyError => k_is)
    (case zIndexError => k_is)
    (case zArithmeticError => k_is)
    (case zOverflowError => k_is)
    (case zRuntimeError => k_is)
    (case Gc0 => k_is)
    (case Gc1 => k_is)
    (case Gc2 => k_is)
    (case Gc3 => k_is)
    (case Gc4 => k_is)
    (case Gc5 => k_is)
    (case Gc6 => k_is)
    (case Gc7 => k_is)
    (case Gc8 => k_is)
    (case Gc9 => k_is)
    (case Gc10 => k_is)
    (case Gc11 => k_is)
    (case Gc12 => k_is)
    (case Gc13 => k_is)
    (case Gc14 => k_is)
    (case Gc15 => k_is)
    (case ha => k_is)
    (case ht => k_is)
    (case Ea0 => k_is)
    (case Eb0 => k_is)
    (case Ec0 => k_is)
    (case Ed0 => k_is)
    (case Ee0 => k_is)
    (case Em0 => k_is)
    (case Ek0 => k_is)
    (case Er0 => exact ⟨by first | kit_is | k_is | rfl, by first | kit_is | k_is | rfl, by first | kit_is | k_is | rfl, by first | kit_is | k_is | rfl, by first | kit_is | k_is | rfl, by first | kit_is | k_is | rfl, by first | kit_is | k_is | rfl, by first | kit_is | k_is | rfl, by first | kit_is | k_is | rfl, by first | kit_is | k_is | rfl, by first | kit_is | k_is | rfl, by first | kit_is | k_is | rfl, by first | kit_is | k_is | rfl, by first | kit_is | k_is | rfl, by first | kit_is | k_is | rfl, by first | kit_is | k_is | rfl⟩)
    (case Es0 => exact ⟨by first | kit_is | k_is | rfl, by first | kit_is | k_is | rfl, by first | kit_is | k_is | rfl, by first | kit_is | k_is | rfl, by first | kit_is | k_is | rfl, by first | kit_is | k_is | rfl, by first | kit_is | k_is | rfl⟩)
    (case Ex0 => k_exc)
    (case Ea1 => k_is)
    (case Eb1 => k_is)
    (case Ec1 => k_is)
    (case Ed1 => k_is)
    (case Ee1 => k_is)
    (case Em1 => k_is)
    (case Ek1 => k_is)
    (case Er1 => exact ⟨by first | kit_is | k_is | rfl, by first | kit_is | k_is | rfl, by first | kit_is | k_is | rfl, by first | kit_is | k_is | rfl, by first | kit_is | k_is | rfl, by first | kit_is | k_is | rfl, by first | kit_is | k_is | rfl, by first | kit_is | k_is | rfl, by first | kit_is | k_is | rfl, by first | kit_is | k_is | rfl, by first | kit_is | k_is | rfl, by first | kit_is | k_is | rfl, by first | kit_is | k_is | rfl, by first | kit_is | k_is | rfl, by first | kit_is | k_is | rfl, by first | kit_is | k_is | rfl⟩)
    (case Es1 => exact ⟨by first | kit_is | k_is | rfl, by first | kit_is | k_is | rfl, by first | kit_is | k_is | rfl, by first | kit_is | k_is | rfl, by first | kit_is | k_is | rfl, by first | kit_is | k_is | rfl, by first | kit_is | k_is | rfl⟩)
    (case Ex1 => k_exc)
    (case Ea2 => k_is)
    (case Eb2 => k_is)
    (case Ec2 => k_is)
    (case Ed2 => k_is)
    (case Ee2 => k_is)
    (case Em2 => k_is)
    (case Ek2 => k_is)
    (case Er2 => exact ⟨by first | kit_is | k_is | rfl, by first | kit_is | k_is | rfl, by first | kit_is | k_is | rfl, by first | kit_is | k_is | rfl, by first | kit_is | k_is | rfl, by first | kit_is | k_is | rfl, by first | kit_is | k_is | rfl, by first | kit_is | k_is | rfl, by first | kit_is | k_is | rfl, by first | kit_is | k_is | rfl, by first | kit_is | k_is | rfl, by first | kit_is | k_is | rfl, by first | kit_is | k_is | rfl, by first | kit_is | k_is | rfl, by first | kit_is | k_is | rfl, by first | kit_is | k_is | rfl⟩)
    (case Es2 => exact ⟨by first | kit_is | k_is | rfl, by first | kit_is | k_is | rfl, by first | kit_is | k_is | rfl, by first | kit_is | k_is | rfl, by first | kit_is | k_is | rfl, by first | kit_is | k_is | rfl, by first | kit_is | k_is | rfl⟩)
    (case Ex2 => k_exc)
    (case Ea3 => k_is)
    (case Eb3 => k_is)
    (case Ec3 => k_is)
    (case Ed3 => k_is)
    (case Ee3 => k_is)
    (case Em3 => k_is)
    (case Ek3 => k_is)
    (case Er3 => exact ⟨by first | kit_is | k_is | rfl, by first | kit_is | k_is | rfl, by first | kit_is | k_is | rfl, by first | kit_is | k_is | rfl, by first | kit_is | k_is | rfl, by first | kit_is | k_is | rfl, by first | kit_is | k_is | rfl, by first | kit_is | k_is | rfl, by first | kit_is | k_is | rfl, by first | kit_is | k_is | rfl, by first | kit_is | k_is | rfl, by first | kit_is | k_is | rfl, by first | kit_is | k_is | rfl, by first | kit_is | k_is | rfl, by first | kit_is | k_is | rfl, by first | kit_is | k_is | rfl⟩)
    (case Es3 => exact ⟨by first | kit_is | k_is | rfl, by first | kit_is | k_is | rfl, by first | kit_is | k_is | rfl, by first | kit_is | k_is | rfl, by first | kit_is | k_is | rfl, by first | kit_is | k_is | rfl, by first | kit_is | k_is | rfl⟩)
    (case Ex3 => k_exc)
    (case Ea4 => k_is)
    (case Eb4 => k_is)
    (case Ec4 => k_is)
    (case Ed4 => k_is)
    (case Ee4 => k_is)
    (case Em4 => k_is)
    (case Ek4 => k_is)
    (case Er4 => exact ⟨by first | kit_is | k_is | rfl, by first | kit_is | k_is | rfl, by first | kit_is | k_is | rfl, by first | kit_is | k_is | rfl, by first | kit_is | k_is | rfl, by first | kit_is | k_is | rfl, by first | kit_is | k_is | rfl, by first | kit_is | k_is | rfl, by first | kit_is | k_is | rfl, by first | kit_is | k_is | rfl, by first | kit_is | k_is | rfl, by first | kit_is | k_is | rfl, by first | kit_is | k_is | rfl, by first | kit_is | k_is | rfl, by first | kit_is | k_is | rfl, by first | kit_is | k_is | rfl⟩)
    (case Es4 => exact ⟨by first | kit_is | k_is | rfl, by first | kit_is | k_is | rfl, by first | kit_is | k_is | rfl, by first | kit_is | k_is | rfl, by first | kit_is | k_is | rfl, by first | kit_is | k_is | rfl, by first | kit_is | k_is | rfl⟩)
    (case Ex4 => k_exc)
    (case Ea5 => k_is)
    (case Eb5 => k_is)
    (case Ec5 => k_is)
    (case Ed5 => k_is)
    (case Ee5 => k_is)
    (case Em5 => k_is)
    (case Ek5 => k_is)
    (case Er5 => exact ⟨by first | kit_is | k_is | rfl, by first | kit_is | k_is | rfl, by first | kit_is | k_is | rfl, by first | kit_is | k_is | rfl, by first | kit_is | k_is | rfl, by first | kit_is | k_is | rfl, by first | kit_is | k_is | rfl, by first | kit_is | k_is | rfl, by first | kit_is | k_is | rfl, by first | kit_is | k_is | rfl, by first | kit_is | k_is | rfl, by first | kit_is | k_is | rfl, by first | kit_is | k_is | rfl, by first | kit_is | k_is | rfl, by first | kit_is | k_is | rfl, by first | kit_is | k_is | rfl⟩)
    (case Es5 => exact ⟨by first | kit_is | k_is | rfl, by first | kit_is | k_is | rfl, by first | kit_is | k_is | rfl, by first | kit_is | k_is | rfl, by first | kit_is | k_is | rfl, by first | kit_is | k_is | rfl, by first | kit_is | k_is | rfl⟩)
    (case Ex5 => k_exc)
    (case Ea6 => k_is)
    (case Eb6 => k_is)
    (case Ec6 => k_is)
    (case Ed6 => k_is)
    (case Ee6 => k_is)
    (case Em6 => k_is)
    (case Ek6 => k_is)
    (case Er6 => exact ⟨by first | kit_is | k_is | rfl, by first | kit_is | k_is | rfl, by first | kit_is | k_is | rfl, by first | kit_is | k_is | rfl, by first | kit_is | k_is | rfl, by first | kit_is | k_is | rfl, by first | kit_is | k_is | rfl, by first | kit_is | k_is | rfl, by first | kit_is | k_is | rfl, by first | kit_is | k_is | rfl, by first | kit_is | k_is | rfl, by first | kit_is | k_is | rfl, by first | kit_is | k_is | rfl, by first | kit_is | k_is | rfl, by first | kit_is | k_is | rfl, by first | kit_is | k_is | rfl⟩)
    (case Es6 => exact ⟨by first | kit_is | k_is | rfl, by first | kit_is | k_is | rfl, by first | kit_is | k_is | rfl, by first | kit_is | k_is | rfl, by first | kit_is | k_is | rfl, by first | kit_is | k_is | rfl, by first | kit_is | k_is | rfl⟩)
    (case Ex6 => k_exc)
    (case Ea7 => k_is)
    (case Eb7 => k_is)
    (case Ec7 => k_is)
    (case Ed7 => k_is)
    (case Ee7 => k_is)
    (case Em7 => k_is)
    (case Ek7 => k_is)
    (case Er7 => exact ⟨by first | kit_is | k_is | rfl, by first | kit_is | k_is | rfl, by first | kit_is | k_is | rfl, by first | kit_is | k_is | rfl, by first | kit_is | k_is | rfl, by first | kit_is | k_is | rfl, by first | kit_is | k_is | rfl, by first | kit_is | k_is | rfl, by first | kit_is | k_is | rfl, by first | kit_is | k_is | rfl, by first | kit_is | k_is | rfl, by first | kit_is | k_is | rfl, by first | kit_is | k_is | rfl, by first | kit_is | k_is | rfl, by first | kit_is | k_is | rfl, by first | kit_is | k_is | rfl⟩)
    (case Es7 => exact ⟨by first | kit_is | k_is | rfl, by first | kit_is | k_is | rfl, by first | kit_is | k_is | rfl, by first | kit_is | k_is | rfl, by first | kit_is | k_is | rfl, by first | kit_is | k_is | rfl, by first | kit_is | k_is | rfl⟩)
    (case Ex7 => k_exc)
    (case Ea8 => k_is)
    (case Eb8 => k_is)
    (case Ec8 => k_is)
    (case Ed8 => k_is)
    (case Ee8 => k_is)
    (case Em8 => k_is)
    (case Ek8 => k_is)
    (case Er8 => exact ⟨by first | kit_is | k_is | rfl, by first | kit_is | k_is | rfl, by first | kit_is | k_is | rfl, by first | kit_is | k_is | rfl, by first | kit_is | k_is | rfl, by first | kit_is | k_is | rfl, by first | kit_is | k_is | rfl, by first | kit_is | k_is | rfl, by first | kit_is | k_is | rfl, by first | kit_is | k_is | rfl, by first | kit_is | k_is | rfl, by first | kit_is | k_is | rfl, by first | kit_is | k_is | rfl, by first | kit_is | k_is | rfl, by first | kit_is | k_is | rfl, by first | kit_is | k_is | rfl⟩)
    (case Es8 => exact ⟨by first | kit_is | k_is | rfl, by first | kit_is | k_is | rfl, by first | kit_is | k_is | rfl, by first | kit_is | k_is | rfl, by first | kit_is | k_is | rfl, by first | kit_is | k_is | rfl, by first | kit_is | k_is | rfl⟩)
    (case Ex8 => k_exc)
    (case Ea9 => k_is)
    (case Eb9 => k_is)
    (case Ec9 => k_is)
    (case Ed9 => k_is)
    (case Ee9 => k_is)
    (case Em9 => k_is)
    (case Ek9 => k_is)
    (case Er9 => exact ⟨by first | kit_is | k_is | rfl, by first | kit_is | k_is | rfl, by first | kit_is | k_is | rfl, by first | kit_is | k_is | rfl, by first | kit_is | k_is | rfl, by first | kit_is | k_is | rfl, by first | kit_is | k_is | rfl, by first | kit_is | k_is | rfl, by first | kit_is | k_is | rfl, by first | kit_is | k_is | rfl, by first | kit_is | k_is | rfl, by first | kit_is | k_is | rfl, by first | kit_is | k_is | rfl, by first | kit_is | k_is | rfl, by first | kit_is | k_is | rfl, by first | kit_is | k_is | rfl⟩)
    (case Es9 => exact ⟨by first | kit_is | k_is | rfl, by first | kit_is | k_is | rfl, by first | kit_is | k_is | rfl, by first | kit_is | k_is | rfl, by first | kit_is | k_is | rfl, by first | kit_is | k_is | rfl, by first | kit_is | k_is | rfl⟩)
    (case Ea10 => k_is)
    (case Eb10 => k_is)
    (case Ec10 => k_is)
    (case Ed10 => k_is)
    (case Ee10 => k_is)
    (case Em10 => k_is)
    (case Ek10 => k_is)
    (case Er10 => exact ⟨by first | kit_is | k_is | rfl, by first | kit_is | k_is | rfl, by first | kit_is | k_is | rfl, by first | kit_is | k_is | rfl, by first | kit_is | k_is | rfl, by first | kit_is | k_is | rfl, by first | kit_is | k_is | rfl, by first | kit_is | k_is | rfl, by first | kit_is | k_is | rfl, by first | kit_is | k_is | rfl, by first | kit_is | k_is | rfl, by first | kit_is | k_is | rfl, by first | kit_is | k_is | rfl, by first | kit_is | k_is | rfl, by first | kit_is | k_is | rfl, by first | kit_is | k_is | rfl⟩)
    (case Es10 => exact ⟨by first | kit_is | k_is | rfl, by first | kit_is | k_is | rfl, by first | kit_is | k_is | rfl, by first | kit_is | k_is | rfl, by first | kit_is | k_is | rfl, by first | kit_is | k_is | rfl, by first | kit_is | k_is | rfl⟩)
    (case Ea11 => k_is)
    (case Eb11 => k_is)
    (case Ec11 => k_is)
    (case Ed11 => k_is)
    (case Ee11 => k_is)
    (case Em11 => k_is)
    (case Ek11 => k_is)
    (case Er11 => exact ⟨by first | kit_is | k_is | rfl, by first | kit_is | k_is | rfl, by first | kit_is | k_is | rfl, by first | kit_is | k_is | rfl, by first | kit_is | k_is | rfl, by first | kit_is | k_is | rfl, by first | kit_is | k_is | rfl, by first | kit_is | k_is | rfl, by first | kit_is | k_is | rfl, by first | kit_is | k_is | rfl, by first | kit_is | k_is | rfl, by first | kit_is | k_is | rfl, by first | kit_is | k_is | rfl, by first | kit_is | k_is | rfl, by first | kit_is | k_is | rfl, by first | kit_is | k_is | rfl⟩)
    (case Es11 => exact ⟨by first | kit_is | k_is | rfl, by first | kit_is | k_is | rfl, by first | kit_is | k_is | rfl, by first | kit_is | k_is | rfl, by first | kit_is | k_is | rfl, by first | kit_is | k_is | rfl, by first | kit_is | k_is | rfl⟩)
    (case Ea12 => k_is)
    (case Eb12 => k_is)
    (case Ec12 => k_is)
    (case Ed12 => k_is)
    (case Ee12 => k_is)
    (case Em12 => k_is)
    (case Ek12 => k_is)
    (case Er12 => exact ⟨by first | kit_is | k_is | rfl, by first | kit_is | k_is | rfl, by first | kit_is | k_is | rfl, by first | kit_is | k_is | rfl, by first | kit_is | k_is | rfl, by first | kit_is | k_is | rfl, by first | kit_is | k_is | rfl, by first | kit_is | k_is | rfl, by first | kit_is | k_is | rfl, by first | kit_is | k_is | rfl, by first | kit_is | k_is | rfl, by first | kit_is | k_is | rfl, by first | kit_is | k_is | rfl, by first | kit_is | k_is | rfl, by first | kit_is | k_is | rfl, by first | kit_is | k_is | rfl⟩)
    (case Es12 => exact ⟨by first | kit_is | k_is | rfl, by first | kit_is | k_is | rfl, by first | kit_is | k_is | rfl, by first | kit_is | k_is | rfl, by first | kit_is | k_is | rfl, by first | kit_is | k_is | rfl, by first | kit_is | k_is | rfl⟩)
    (case Ea13 => k_is)
    (case Eb13 => k_is)
    (case Ec13 => k_is)
    (case Ed13 => k_is)
    (case Ee13 => k_is)
    (case Em13 => k_is)
    (case Ek13 => k_is)
    (case Er13 => exact ⟨by first | kit_is | k_is | rfl, by first | kit_is | k_is | rfl, by first | kit_is | k_is | rfl, by first | kit_is | k_is | rfl, by first | kit_is | k_is | rfl, by first | kit_is | k_is | rfl, by first | kit_is | k_is | rfl, by first | kit_is | k_is | rfl, by first | kit_is | k_is | rfl, by first | kit_is | k_is | rfl, by first | kit_is | k_is | rfl, by first | kit_is | k_is | rfl, by first | kit_is | k_is | rfl, by first | kit_is | k_is | rfl, by first | kit_is | k_is | rfl, by first | kit_is | k_is | rfl⟩)
    (case Es13 => exact ⟨by first | kit_is | k_is | rfl, by first | kit_is | k_is | rfl, by first | kit_is | k_is | rfl, by first | kit_is | k_is | rfl, by first | kit_is | k_is | rfl, by first | kit_is | k_is | rfl, by first | kit_is | k_is | rfl⟩)
    (case Ea14 => k_is)
    (case Eb14 => k_is)
    (case Ec14 => k_is)
    (case Ed14 => k_is)
    (case Ee14 => k_is)
    (case Em14 => k_is)
    (case Ek14 => k_is)
    (case Er14 => exact ⟨by first | kit_is | k_is | rfl, by first | kit_is | k_is | rfl, by first | kit_is | k_is | rfl, by first | kit_is | k_is | rfl, by first | kit_is | k_is | rfl, by first | kit_is | k_is | rfl, by first | kit_is | k_is | rfl, by first | kit_is | k_is | rfl, by first | kit_is | k_is | rfl, by first | kit_is | k_is | rfl, by first | kit_is | k_is | rfl, by first | kit_is | k_is | rfl, by first | kit_is | k_is | rfl, by first | kit_is | k_is | rfl, by first | kit_is | k_is | rfl, by first | kit_is | k_is | rfl⟩)
    (case Es14 => exact ⟨by first | kit_is | k_is | rfl, by first | kit_is | k_is | rfl, by first | kit_is | k_is | rfl, by first | kit_is | k_is | rfl, by first | kit_is | k_is | rfl, by first | kit_is | k_is | rfl, by first | kit_is | k_is | rfl⟩)
    (case Ea15 => k_is)
    (case Eb15 => k_is)
    (case Ec15 => k_is)
    (case Ed15 => k_is)
    (case Ee15 => k_is)
    (case Em15 => k_is)
    (case Ek15 => k_is)
    (case Er15 => exact ⟨by first | kit_is | k_is | rfl, by first | kit_is | k_is | rfl, by first | kit_is | k_is | rfl, by first | kit_is | k_is | rfl, by first | kit_is | k_is | rfl, by first | kit_is | k_is | rfl, by first | kit_is | k_is | rfl, by first | kit_is | k_is | rfl, by first | kit_is | k_is | rfl, by first | kit_is | k_is | rfl, by first | kit_is | k_is | rfl, by first | kit_is | k_is | rfl, by first | kit_is | k_is | rfl, by first | kit_is | k_is | rfl, by first | kit_is | k_is | rfl, by first | kit_is | k_is | rfl⟩)
    (case Es15 => exact ⟨by first | kit_is | k_is | rfl, by first | kit_is | k_is | rfl, by first | kit_is | k_is | rfl, by first | kit_is | k_is | rfl, by first | kit_is | k_is | rfl, by first | kit_is | k_is | rfl, by first | kit_is | k_is | rfl⟩)
    (case Wt => k_is)
    (case Wi => k_is)
    (case Ws => first | rfl | k_is)
    (case O9 => k_is)
    (case Os9 => k_is)
    (case Oi9 => k_is)
    (case Ot9 => k_is)
    (case On9 => k_is)
    (case Ol9 => k_is)
    (case Oq9 => k_is)
    (case Ok9 => k_is)
    (case O10 => k_is)
    (case Os10 => k_is)
    (case Oi10 => k_is)
    (case Ot10 => k_is)
    (case On10 => k_is)
    (case Ol10 => k_is)
    (case Oq10 => k_is)
    (case Ok10 => k_is)
    (case O11 => k_is)
    (case Os11 => k_is)
    (case Oi11 => k_is)
    (case Ot11 => k_is)
    (case On11 => k_is)
    (case Ol11 => k_is)
    (case Oq11 => k_is)
    (case Ok11 => k_is)
    (case O12 => k_is)
    (case Os12 => k_is)
    (case Oi12 => k_is)
    (case Ot12 => k_is)
    (case On12 => k_is)
    (case Ol12 => k_is)
    (case Oq12 => k_is)
    (case Ok12 => k_is)
    (case O13 => k_is)
    (case Os13 => k_is)
    (case Oi13 => k_is)
    (case Ot13 => k_is)
    (case On13 => k_is)
    (case Ol13 => k_is)
    (case Oq13 => k_is)
    (case Ok13 => k_is)
    (case O14 => k_is)
    (case Os14 => k_is)
    (case Oi14 => k_is)
    (case Ot14 => k_is)
    (case On14 => k_is)
    (case Ol14 => k_is)
    (case Oq14 => k_is)
    (case Ok14 => k_is)
    (case O15 => k_is)
    (case Os15 => k_is)
    (case Oi15 => k_is)
    (case Ot15 => k_is)
    (case On15 => k_is)
    (case Ol15 => k_is)
    (case Oq15 => k_is)
    (case Ok15 => k_is)
