import PyProof.Rows.All
import Wide.All
import OpenK.AllK
import Wide.FinOn
import HandS.ForMost
import HandS.Strs
import HandS.Zip
import HandS.IsInst
import HandS.Walk
import HandS.Defaults
import HandS.MakeKw
import HandS.Wide
import HandS.WideBits
import HandS.More
import HandS.HeadHook2
import HandS.Text
import HandS.FStr
import HandS.StrMore
import KE.IntTextLaws
import HandS.FStrTup
import HandS.ExcInit
import HandS.RaiseMore
import HandS.OwnEq
import PyProof.ReprNest
import HandS.Dict
import HandS.Lambda
import KE.KLam
import KE.SortKeyHeap
import HandS.ExcSuper
import KE.GoesNew
import KE.GoesMore
import HandS.NoneIn
import HandS.DictTup
import HandS.ListItems
import HandS.DictComp
import KE.KDictList
import PyProof.DictMoreH
import HandS.Deep
import HandS.ForExc
import HandS.ExcField
import HandS.HeadHook1
import KE.KExcIs
import HandS.MakeKwOnly
import HandS.TupAny
import HandS.Exc
import HandS.ExcOwn
import HandS.DeepEq
import KE.DataCmp
import HandS.Iter
import KE.KeyNested
import KE.KDictKeyed
import KE.KDictCopyH
import KE.KDictWalk
import HandS.ExcInitHot
import HandS.SuiteRaise
import HandS.RaiseFrom
import HandS.Conv
import HandS.SortInts
import HandS.Head0
import KE.KStateDown
import HandS.Head1
import HandS.Head2
import HandS.HeadEnd
import HandS.HeadHook3
import HandS.HeadHook4
import HandS.HeadWalk
import PySem.Challenge.RW_kindsofday_k61_whole_numbers_never_twice
set_option Elab.async false
set_option linter.all false
set_option maxRecDepth 100000
set_option maxHeartbeats 0
/-! len(set(xs)) where xs is a list or a tuple of texts of any number -/
namespace KdS
open PySem PySem.Spec PyProof.Rows
/-- how many unlike ones the first i have -/
def dcn (xs : List Str) : Nat → Nat
  | 0 => 0
  | i + 1 => if (xs.take i).any (· == xs.getD i Str.empty) = true then dcn xs i else dcn xs i + 1
theorem dcn_le (xs : List Str) : ∀ i, dcn xs i ≤ i
  | 0 => Nat.le_refl _
  | i + 1 => by
    have h := dcn_le xs i
    unfold dcn
    split <;> omega
theorem take_any (xs : List Str) {i : Nat} (h : i < xs.length) (k : Str) : (xs.take (i + 1)).any (· == k) = ((xs.take i).any (· == k) || decide (k = xs.getD i Str.empty)) := by
  have e : xs.getD i Str.empty = xs[i] := by simp [h]
  rw [List.take_succ_eq_append_getElem h, List.any_append, e]
  have e2 : ([xs[i]].any fun x => x == k) = decide (k = xs[i]) := by
    by_cases q : k = xs[i]
    · simp [q]
    · have q2 : ¬ xs[i] = k := fun z => q z.symm
      simp [q, q2]
  rw [e2]
theorem dcn_nodup {xs : List Str} (hn : xs.Nodup) : ∀ i, i ≤ xs.length → dcn xs i = i
  | 0, _ => rfl
  | i + 1, h => by
    have ih := dcn_nodup hn i (by omega)
    unfold dcn
    rw [if_neg, ih]
    intro hc
    obtain ⟨y, hy, e⟩ := List.any_eq_true.mp hc
    have hi : i < xs.length := h
    have eg : xs.getD i Str.empty = xs[i] := by simp [hi]
    rw [eg] at e
    have e1 : y = xs[i] := by simpa using e
    obtain ⟨j, hj, ej⟩ := List.getElem_of_mem hy
    rw [List.length_take] at hj
    rw [List.getElem_take] at ej
    have e3 : xs[j]'(by omega) = xs[i] := ej.trans e1
    have := (List.getElem_inj hn).mp e3
    omega
section
variable {prog : Program} {w : World} {A : Around} {R : Result → Shared → Prop} {I : Addr} {fp wr : List Addr} {G : Array GenState → Array GenState → Prop} {n : Nat} {P : Nat → Value → Prop} {St : Nat → Shared → Prop}
/-- what the set at S holds behind i items -/
abbrev Held (prog : Program) (w : World) (S : Addr) (xs : List Str) (i : Nat) (h : Heap) : Prop := h.SetOf (PySem.strKind prog w) S (fun k => (xs.take i).any (· == k)) (dcn xs i)
theorem Held.kept {S : Addr} {xs : List Str} {i : Nat} {h h' : Heap} (q : Held prog w S xs i h) (k : ∀ o, h.get? S = some o → h'.get? S = some o) : Held prog w S xs i h' := by
  obtain ⟨o, es, ep, t, ho, rest⟩ := q
  exact ⟨o, es, ep, t, k o ho, rest⟩
theorem grow (W : WalksS prog w A.in1 I fp wr G n P St) (S : Addr) (nS : S ∉ fp) (xs : List Str) (hx : xs.length = n) (hb : n + 1 < scanBound) (hv : ∀ i v, P i v → ∃ t, v = .str (xs.getD i Str.empty) t) :
    ∀ (k i : Nat) (s : Shared), n - i = k → i ≤ n → St i s → Held prog w S xs i s.heap → (∀ s', Moved (S :: wr) G s s' → Held prog w S xs n s'.heap → R (.ok (.ret .none)) s') →
      codeAny (model prog w) A (.builtin "set.update.loop" ⟨[.ref S, .ref I], []⟩) R s := by
  have nW : S ∉ wr := fun z => nS (W.sub _ z)
  have up : ∀ b ∈ wr, b ∈ S :: wr := fun b z => List.mem_cons_of_mem _ z
  intro k
  induction k with
  | zero =>
    intro i s hk hi st hS out
    obtain rfl : i = n := by omega
    refine codeAny_builtin PyProof.Rows.F.entry_set_update_loop (by
      rw [Around.under_plainId PyProof.Rows.F.plain_set_update_loop _]
      show wpAny _ A.in1 (pyNext (.ref I) >>= _) _ _ s
      exact wpAny_bind (W.done s _ _ st fun s1 mv => wpAny_pure (out s1 (mv.mono up) (hS.kept fun o q => mv.heap S _ nW q))))
  | succ k ih =>
    intro i s hk hi st hS out
    have hlt : i < n := by omega
    refine codeAny_builtin PyProof.Rows.F.entry_set_update_loop (by
      rw [Around.under_plainId PyProof.Rows.F.plain_set_update_loop _]
      show wpAny _ A.in1 (pyNext (.ref I) >>= _) _ _ s
      refine wpAny_bind (W.item i s _ _ hlt st fun v s1 hP st1 mv => ?_)
      obtain ⟨t, rfl⟩ := hv i v hP
      have hS1 : Held prog w S xs i s1.heap := hS.kept fun o q => mv.heap S _ nW q
      show wpAny _ A.in1 (holding [Value.str (xs.getD i Str.empty) t] (setAdd S (.str (xs.getD i Str.empty) t)) >>= _) _ _ s1
      refine wpAny_bind (wpAny_holding ?_)
      unfold setAdd
      refine wpAny_holding (wpAny_bind ((PySem.strKind prog w).pyHash (k := xs.getD i Str.empty) (strKind_is _ _ _ _) ?_))
      refine wpAny_setAddHashed_of (knd := PySem.strKind prog w) (s := { s1 with toks := s1.toks + 1 }) (strKind_is _ _ _ _) rfl hS1 (by have := dcn_le xs i; omega) fun h2 sb hS2 => ?_
      have hS3 : Held prog w S xs (i + 1) h2 := SetOf_congr hS2 (fun k => (take_any xs (by omega) k).symm) rfl
      refine wpAny_pure ⟨plainId_quiet PyProof.Rows.F.plain_set_update_loop _, ih (i + 1) _ (by omega) hlt (W.frame _ s1 _ _ st1 (Nat.le_succ _) fun b z o q => ?_) hS3 fun s4 mv4 hS4 => ?_⟩
      · rw [sb.2 b (fun z2 : b = S => nS (z2 ▸ z))]
        exact q
      · refine out s4 (Moved.trans W.gtrans ((mv.mono up).then_heap (Nat.le_succ _) fun b o z q => ?_) mv4) hS4
        rw [sb.2 b (fun z2 : b = S => z (by rw [z2]; exact List.mem_cons_self))]
        exact q)
end
section
variable {prog : Program} {w : World} {A : Around} {E : Value → Shared → Prop} {s : Shared}
abbrev setObj (led : Bool) : Obj := { cls := .type "set", dict := none, data := .set #[] 0 (.fresh 0 0 led) }
set_option maxHeartbeats 3200000 in
/-- set(v), by what __init__ does with the new empty set -/
theorem set_by {v : Value} {Q : Value → Shared → Prop} {P : Shared → Prop} (hi : ∀ led : Bool, wpAny (model prog w) A.in1.in1 (Builtin.«set.__init__» ⟨[.ref s.heap.objs.size, v], []⟩) (fun r s2 => r = .done (.ret .none) ∧ P s2) E { s with heap := s.heap.push (setObj led) })
    (h : ∀ s2, P s2 → Q (.ref s.heap.objs.size) s2) : wpAny (model prog w) A (call (.type "set") [v]) Q E s := by
  obtain ⟨c, tl, hmro⟩ := PySem.F.called_set.mro
  have f1 := PySem.F.called_set.made
  have f2 := PySem.F.called_set.sub
  have f3 := PySem.F.called_set.notType
  have f4 := PySem.F.called_set.canCreate
  have f5 := PySem.F.typeCall_set_1 v
  refine wpAny_call (codeAny_of_tree (show wpAny _ _ (callAny (.type "set") _) _ _ _ from wpAny_pure ⟨Code.quiet_builtin _ (by decide +kernel), codeAny_builtin PySem.F.entry_type_call (by
    rw [Around.under_plain (weight_type_call_type "set" [v] []) rfl]
    repeat (any_goals (first | assumption | wp_step))
    refine codeAny_mono (code_set_new_1 v (E := E) (Q₁ := fun ob s1 => ∃ led : Bool, ob = .ref s.heap.objs.size ∧ s1 = { s with heap := s.heap.push (setObj led) }) fun led => ⟨led, rfl, rfl⟩) fun r s1 hr => ?_
    cases r with
    | error e => exact hr
    | ok fl =>
      cases fl with
      | ret ob =>
        obtain ⟨led, rfl, rfl⟩ := hr
        have g0 : (s.heap.push (setObj led)).get? s.heap.objs.size = some (setObj led) := Heap.get?_push_size _ rfl
        have gT : Shared.TypeIs { s with heap := s.heap.push (setObj led) } (.ref s.heap.objs.size) "set" := ⟨_, g0, rfl⟩
        have f6 := PySem.F.called_set.init.lookup
        have f7 := PySem.F.called_set.init.bind (.ref s.heap.objs.size)
        repeat (any_goals (first | assumption | wp_step))
        refine codeAny_mono (codeAny_call_builtin (R := wants (fun r s2 => r = .none ∧ P s2) E) PySem.F.called_set.init.plain PySem.F.entry_set_init (check_set_init_1 gT (wpAny_mono (hi led) (fun r s2 q => ?_) fun _ _ q => q))) fun r2 s2 q2 => ?_
        · obtain ⟨rfl, q⟩ := q
          exact ⟨rfl, q⟩
        · cases r2 with
          | error e => exact q2
          | ok fl2 =>
            cases fl2 with
            | ret r3 =>
              obtain ⟨rfl, q⟩ := q2
              repeat (any_goals (first | assumption | wp_step))
              exact h _ q
            | _ => exact q2.elim
      | _ => exact hr.elim)⟩))
/-- the list's way and the tuple's way of __init__: what is held behind it -/
def After (prog : Program) (w : World) (s : Shared) (xs : List Str) (s2 : Shared) : Prop := ∃ h2 tk, s2 = { s with heap := h2, toks := tk } ∧ Held prog w s.heap.objs.size xs xs.length h2 ∧ ∀ b o, b < s.heap.objs.size → s.heap.get? b = some o → h2.get? b = some o
theorem fresh_held {led : Bool} {it : Obj} {xs : List Str} : Held prog w s.heap.objs.size xs 0 ((s.heap.push (setObj led)).push it) :=
  SetOf_congr ((PyProof.Rows.setObjOf_fresh (knd := PySem.strKind prog w) led).setOf (Heap.get?_push_of_some _ (Heap.get?_push_size _ rfl)) (by unfold scanBound; omega)) (fun _ => rfl) rfl
theorem after_moved {G : Array GenState → Array GenState → Prop} {led : Bool} {it : Obj} {xs : List Str} {s2 : Shared} (hG : ∀ a b, G a b → b = a)
    (mv : Moved (s.heap.objs.size :: [(s.heap.push (setObj led)).objs.size]) G { s with heap := (s.heap.push (setObj led)).push it } s2) (q : Held prog w s.heap.objs.size xs xs.length s2.heap) : After prog w s xs s2 := by
  obtain ⟨h2, g2, d2, t2, o2⟩ := s2
  obtain rfl : g2 = s.gens := hG _ _ mv.gens
  obtain rfl : d2 = s.drawn := mv.drawn
  obtain rfl : o2 = s.os := mv.os
  refine ⟨h2, t2, rfl, q, fun b o hb e => mv.heap b o (fun z => ?_) (Heap.get?_push_of_some _ (Heap.get?_push_of_some _ e))⟩
  rw [Heap.size_push] at z
  rcases List.mem_cons.mp z with z | z
  · exact absurd z (Nat.ne_of_lt hb)
  · exact absurd (List.mem_singleton.mp z) (Nat.ne_of_lt (Nat.lt_succ_of_lt hb))
theorem strAt {items : Array Value} {xs : List Str} (hi : StrsAre items.toList xs) (i : Nat) (v : Value) (hv : items[i]? = some v) : ∃ t, v = .str (xs.getD i Str.empty) t := SS.strs_at hi i v (by rw [Array.getElem?_toList]; exact hv)
set_option maxHeartbeats 3200000 in
theorem init_list {l : Addr} {items : Array Value} {xs : List Str} {led : Bool} (hh : A.in1.in1.in1.handled = none) (hl : s.heap.IsList l items) (hi : StrsAre items.toList xs) (hb : xs.length + 1 < scanBound) :
    wpAny (model prog w) A.in1.in1 (Builtin.«set.__init__» ⟨[.ref s.heap.objs.size, .ref l], []⟩) (fun r s2 => r = .done (.ret .none) ∧ After prog w s xs s2) E { s with heap := s.heap.push (setObj led) } := by
  have hsz : xs.length = items.size := by rw [← StrsAre.len_eq hi, Array.length_toList]
  obtain ⟨⟨oc, od, dt, sl⟩, ho, hc, m, hd⟩ := hl
  simp only at hc hd
  subst hc hd
  have ho1 := Heap.get?_push_of_some (setObj led) ho
  have hl1 : (s.heap.push (setObj led)).IsList l items := ⟨_, ho1, rfl, m, rfl⟩
  have f1 := PySem.F.sub_list_set
  have f2 := PySem.F.sub_list_frozenset
  have f3 : (Value.type "list" == Value.type "dict") = false := by decide
  unfold Builtin.«set.__init__» noKeywords Builtin.Frozenset.updateFrom
  generalize hPI : pyIter = PI
  wp_walk
  subst hPI
  refine wpAny_pyIter_list hl1 (wpAny_bind (wpAny_runValue ?_))
  have hS : l < s.heap.objs.size := Heap.lt_size ho
  have n1 : l ≠ (s.heap.push (setObj led)).objs.size := by rw [Heap.size_push]; exact Nat.ne_of_lt (Nat.lt_succ_of_lt hS)
  have n2 : s.heap.objs.size ∉ [(s.heap.push (setObj led)).objs.size, l] := by
    rw [Heap.size_push]
    intro z
    rcases List.mem_cons.mp z with z | z
    · exact absurd z (Nat.ne_of_lt (Nat.lt_succ_self _))
    · exact absurd (List.mem_singleton.mp z) (Nat.ne_of_gt hS)
  refine grow ((Walks.list hh _ l n1 items).toS) s.heap.objs.size n2 xs hsz (by omega) (strAt hi) (items.size - 0) 0 _ (by omega) (Nat.zero_le _) ⟨⟨_, Heap.get?_push_size _ rfl, rfl, rfl⟩, hl1.push _⟩ fresh_held fun s2 mv q => ?_
  rw [← hsz] at q
  exact wpAny_pure (wpAny_pure ⟨rfl, after_moved (fun _ _ z => z) mv q⟩)
set_option maxHeartbeats 3200000 in
theorem init_tup {l : Addr} {items : Array Value} {xs : List Str} {led : Bool} (hh : A.in1.in1.in1.handled = none) (hl : s.heap.IsTuple l items) (hi : StrsAre items.toList xs) (hb : xs.length + 1 < scanBound) :
    wpAny (model prog w) A.in1.in1 (Builtin.«set.__init__» ⟨[.ref s.heap.objs.size, .ref l], []⟩) (fun r s2 => r = .done (.ret .none) ∧ After prog w s xs s2) E { s with heap := s.heap.push (setObj led) } := by
  have hsz : xs.length = items.size := by rw [← StrsAre.len_eq hi, Array.length_toList]
  obtain ⟨⟨oc, od, dt, sl⟩, ho, hc, m, hd⟩ := hl
  simp only at hc hd
  subst hc hd
  have ho1 := Heap.get?_push_of_some (setObj led) ho
  have hl1 : (s.heap.push (setObj led)).IsTuple l items := ⟨_, ho1, rfl, m, rfl⟩
  have f1 := PySem.F.sub_tuple_set
  have f2 := PySem.F.sub_tuple_frozenset
  have f3 : (Value.type "tuple" == Value.type "dict") = false := by decide
  unfold Builtin.«set.__init__» noKeywords Builtin.Frozenset.updateFrom
  generalize hPI : pyIter = PI
  wp_walk
  subst hPI
  refine wpAny_pyIter_tuple hl1 (wpAny_bind (wpAny_runValue ?_))
  have hS : l < s.heap.objs.size := Heap.lt_size ho
  have n1 : l ≠ (s.heap.push (setObj led)).objs.size := by rw [Heap.size_push]; exact Nat.ne_of_lt (Nat.lt_succ_of_lt hS)
  have n2 : s.heap.objs.size ∉ [(s.heap.push (setObj led)).objs.size, l] := by
    rw [Heap.size_push]
    intro z
    rcases List.mem_cons.mp z with z | z
    · exact absurd z (Nat.ne_of_lt (Nat.lt_succ_self _))
    · exact absurd (List.mem_singleton.mp z) (Nat.ne_of_gt hS)
  refine grow ((Walks.tuple hh _ l n1 items).toS) s.heap.objs.size n2 xs hsz (by omega) (strAt hi) (items.size - 0) 0 _ (by omega) (Nat.zero_le _) ⟨⟨_, Heap.get?_push_size _ rfl, rfl, rfl⟩, hl1.push _⟩ fresh_held fun s2 mv q => ?_
  rw [← hsz] at q
  exact wpAny_pure (wpAny_pure ⟨rfl, after_moved (fun _ _ z => z) mv q⟩)
end
end KdS
namespace Kd
open PySem PySem.Spec PyProof.Rows L2
theorem strs_vals : ∀ {xs : List Str} {us : List Value}, Vals (xs.map V.str) us → StrsAre us xs
  | [], _, .nil => .nil
  | x :: xs, _, .cons r t => by
    obtain ⟨k, rfl⟩ := r
    exact .cons x k (strs_vals t)
/-- a list or a tuple of texts -/
def Txs (K : PySem.W.Frag) (H : Hp) (l : Addr) (xs : List Str) : Prop := SqL K H l (xs.map V.str) ∨ SqT K H l (xs.map V.str)
def tLenSetS (K : PySem.W.Frag) (ta : TE) : TE := fun σ H Q => ta σ H fun x H1 => ∃ (l : Addr) (xs : List Str), x = .ref l ∧ Txs K H1 l xs ∧ xs.length ≤ 4000 ∧ Q (.int (KdS.dcn xs xs.length : Nat)) H1
theorem pe_lenSetS {X : Cx} {a : Expr} {ta : TE} {p p2 q pos : Pos} (hg : Gl X "len") (hm : X.mg "len" = none) (hg2 : Gl X "set") (hm2 : X.mg "set" = none) (ha : PE X a ta) (hc : X.calm = true := by rfl)
    (na : starEach [a] X.env = (false, eval a X.env) :: starEach [] X.env := by rfl) : PE X (.Call (.Name "len" p) [.Call (.Name "set" p2) [a] [] q] [] pos) (tLenSetS X.K ta) := by
  refine ⟨fun pins s σ H Q I h => Call_ (ld_blt I hg hm boot_len (PyProof.Rows.callWith_builtin1 (PyProof.Rows.args_cons ?_ rfl) rfl rfl))⟩
  refine Call_ (ld_blt I hg2 hm2 boot_set (PyProof.Rows.callWith_type1 (PyProof.Rows.args_cons (thn (ha.run pins s σ H _ I h) fun v s1 ⟨x, H1, I1, r1, q1⟩ => PyProof.Rows.args_nil ?_) na) na rfl))
  obtain ⟨l, xs, rfl, hq, hl, q1⟩ := q1
  cases r1
  have hh := I1.ok.hd hc
  have hb : xs.length + 1 < scanBound := by unfold scanBound; omega
  refine KdS.set_by (P := KdS.After X.prog X.w s1 xs) (fun led => ?_) fun s2 af => ?_
  · rcases hq with hq | hq
    · obtain ⟨its, r, pl, hz⟩ := I1.list hq
      exact KdS.init_list (by simp [hh]) pl.isList (by simpa using strs_vals r) hb
    · obtain ⟨its, r, pl, hz⟩ := I1.tuple hq
      exact KdS.init_tup (by simp [hh]) pl (by simpa using strs_vals r) hb
  · obtain ⟨h2, tk, rfl, hS, hk⟩ := af
    obtain ⟨o, es, ep, t, ho, hex, hd, _, _, _, hf, hn⟩ := hS
    have I2 : Inv X pins σ H1 { s1 with heap := h2, toks := tk } := I1.kept fun b o e => hk b o (Heap.lt_size e) e
    have hle := KdS.dcn_le xs xs.length
    exact PyProof.Rows.args_nil (call_len_set ho hex hd hf (by rw [hn] <;> omega) ⟨.int (KdS.dcn xs xs.length : Nat), H1, I2.tok _, ⟨_, by rw [hn]⟩, q1⟩)
end Kd

namespace Kd
open PySem PySem.Spec PyProof.Rows L2
/-! ### heaps -/
section
variable {K : PySem.W.Frag} {H H' : Hp} {a g b p l : Addr} {o : HO}
theorem same_new (h : H p = Option.none) : Same H (upd H p o) := fun b u e => by rw [upd_ne (ne_of_none e h)]; exact e
theorem Same.to_new {H1 : Hp} (s : Same H H1) (h : H1 p = Option.none) : Same H (upd H1 p o) := s.trans (same_new h)
theorem Same.seqT {xs : List V} (e : Same H H') (h : SqT K H a xs) : SqT K H' a xs := by
  rcases h with (h | ⟨o, h⟩) | h
  · exact .inl (.inl (e _ _ h))
  · exact .inl (.inr ⟨o, e _ _ h⟩)
  · exact .inr h
theorem Same.txs {xs : List Str} (e : Same H H') (h : Txs K H l xs) : Txs K H' l xs := h.elim (fun q => .inl (e.seq q)) fun q => .inr (Same.seqT e q)
/-- the two objects of a tray cut out -/
def ct (a g : Addr) (H : Hp) : Hp := fun b => if b = a ∨ b = g then Option.none else H b
theorem ct_sub : Same (ct a g H) H := fun b o e => by
  unfold ct at e
  split at e
  · cases e
  · exact e
theorem ct_ne (e : ct a g H b = some o) : b ≠ a ∧ b ≠ g := by
  unfold ct at e
  split at e
  · cases e
  · rename_i h
    exact ⟨fun z => h (.inl z), fun z => h (.inr z)⟩
theorem ct_of (e : H b = some o) (ha : b ≠ a) (hg : b ≠ g) : ct a g H b = some o := by
  unfold ct
  rw [if_neg (fun z => z.elim ha hg)]
  exact e
theorem ct_upda : ct a g (upd H a o) = ct a g H := by
  funext b
  unfold ct upd
  by_cases e : b = a
  · rw [if_pos (.inl e), if_pos (.inl e)]
  · rw [if_neg e]
theorem ct_updg : ct a g (upd H g o) = ct a g H := by
  funext b
  unfold ct upd
  by_cases e : b = g
  · rw [if_pos (.inr e), if_pos (.inr e)]
  · rw [if_neg e]
theorem ct_same (s : Same H H') : Same (ct a g H) (ct a g H') := fun b o e => ct_of (s b o (ct_sub b o e)) (ct_ne e).1 (ct_ne e).2
end
/-! ### data -/
section
variable {K : PySem.W.Frag} {H H' : Hp}
mutual
theorem Dp.same (e : Same H H') : ∀ (d : PyData) (v : V), Dp K H v d → Dp K H' v d
  | .none, _, h => by cases h; exact .non
  | .bool b, _, h => by cases h; exact .bl b
  | .int i, _, h => by cases h; exact .int i
  | .str x, _, h => by cases h; exact .str x
  | .list ds, _, h => by
    cases h with
    | lst q r => exact .lst (e.seq q) (DpAll.same e ds _ r)
  | .tuple ds, _, h => by
    cases h with
    | tup q r => exact .tup (Same.seqT e q) (DpAll.same e ds _ r)
  | .dict _, _, h => by cases h
theorem DpAll.same (e : Same H H') : ∀ (ds : List PyData) (vs : List V), DpAll K H vs ds → DpAll K H' vs ds
  | [], _, h => by cases h; exact .nil
  | d :: ds, _, h => by
    cases h with
    | cons q r => exact .cons (Dp.same e d _ q) (DpAll.same e ds _ r)
end
theorem DpAll.len : ∀ {vs : List V} {ds : List PyData}, DpAll K H vs ds → vs.length = ds.length
  | _, _, .nil => rfl
  | _, _, .cons _ r => congrArg Nat.succ (DpAll.len r)
theorem DpAll.at_ : ∀ {vs : List V} {ds : List PyData} {i : Nat} {v : V}, DpAll K H vs ds → vs[i]? = some v → ∃ d, ds[i]? = some d ∧ Dp K H v d
  | _, _, i, v, .nil, e => by simp at e
  | _, _, 0, v, .cons q _, e => ⟨_, rfl, by have e2 : _ = v := Option.some.inj e; rw [← e2]; exact q⟩
  | _, _, i + 1, v, .cons _ r, e => DpAll.at_ (i := i) r e
theorem DpAll.strs : ∀ (xs : List Str), DpAll K H (xs.map V.str) (xs.map PyData.str)
  | [] => .nil
  | x :: xs => .cons (.str x) (DpAll.strs xs)
end
/-! ### texts of small letters -/
def Low (z : Str) : Prop := ∀ c ∈ z.cps.toList, 97 ≤ c ∧ c ≤ 122
structure IsNm (z : Str) : Prop where
  low : Low z
  pos : 1 ≤ z.length
  le8 : z.length ≤ 8
theorem Low.append {x y : Str} (h1 : Low x) (h2 : Low y) : Low (x ++ y) := fun c hc => by
  have e : (x ++ y).cps.toList = x.cps.toList ++ y.cps.toList := TL.tl_append x y
  rw [e] at hc
  exact (List.mem_append.mp hc).elim (h1 c) (h2 c)
theorem Low.one {c : Nat} (h : 97 ≤ c ∧ c ≤ 122) : Low ⟨#[c]⟩ := fun d hd => by
  have e : d = c := by simpa using hd
  rw [e]
  exact h
theorem Low.empty : Low Str.empty := fun c hc => by
  have : c ∈ ([] : List Nat) := hc
  cases this
/-- the written letters -/
abbrev abc : Str := "abcdefghijklmnopqrstuvwxyz"
theorem abc_list : abc.cps.toList = List.range' 97 26 := by decide +kernel
theorem mem_abc {c : Nat} : c ∈ abc.cps.toList ↔ 97 ≤ c ∧ c ≤ 122 := by
  rw [abc_list, List.mem_range'_1]
  omega
theorem Low.abc : Low abc := fun c hc => mem_abc.mp hc
theorem IsNm.one {c : Nat} (h : 97 ≤ c ∧ c ≤ 122) : IsNm ⟨#[c]⟩ := ⟨.one h, by show 1 ≤ 1; decide, by show 1 ≤ 8; decide⟩
/-! ### a comprehension, by what it has made and the heap without it -/
/-- the heap without the object at D -/
def cd (D : Addr) (H : Hp) : Hp := ct D D H
theorem cd_sub {D : Addr} {H : Hp} : Same (cd D H) H := ct_sub
theorem cd_upd {D : Addr} {H : Hp} {o : HO} : cd D (upd H D o) = cd D H := ct_upda
theorem cd_free {D : Addr} {H : Hp} (h : H D = Option.none) : cd D H = H := by
  funext b
  unfold cd ct
  by_cases e : b = D
  · subst e
    rw [if_pos (.inl rfl), h]
  · rw [if_neg (fun z => z.elim e e)]
theorem cd_of {D b : Addr} {H : Hp} {o : HO} (e : H b = some o) (n : b ≠ D) : cd D H b = some o := ct_of e n n
theorem cd_same {D : Addr} {H H' : Hp} (s : Same H H') : Same (cd D H) (cd D H') := ct_same s
/-- what was there ahead of D is in the rest -/
theorem Same.cd {H0 H : Hp} {D : Addr} (s : Same H0 H) (h : H0 D = Option.none) : Same H0 (cd D H) := fun b o e => cd_of (s b o e) (ne_of_none e h)
theorem Same.upd {H0 H : Hp} {D : Addr} {o : HO} (s : Same H0 H) (h : H0 D = Option.none) : Same H0 (upd H D o) := fun b u e => by rw [upd_ne (ne_of_none e h)]; exact s b u e
/-- between two turns: the list at D is ys, no longer than the turns, and Pv of the heap without it -/
def LcNx (D : Addr) (Pv : Nat → List V → Hp → Prop) (i : Nat) (H : Hp) : Prop := ∃ ys, H D = some (.lst ys) ∧ ys.length ≤ i ∧ Pv i ys (cd D H)
theorem LcNx.add {D : Addr} {Pv : Nat → List V → Hp → Prop} {i : Nat} {ys : List V} {y : V} {H : Hp} (e : H D = some (.lst ys)) (l : ys.length ≤ i) (hi : i < 4000) (p : Pv (i + 1) (ys ++ [y]) (cd D H)) :
    ∃ acc, H D = some (.lst acc) ∧ acc.length < sizeLine ∧ LcNx D Pv (i + 1) (upd H D (.lst (acc ++ [y]))) :=
  ⟨ys, e, Nat.lt_of_le_of_lt (by omega : ys.length ≤ 4000) (by decide), ys ++ [y], upd_same, by rw [List.length_append]; show ys.length + 1 ≤ i + 1; omega, by rw [cd_upd]; exact p⟩
theorem LcNx.skip {D : Addr} {Pv : Nat → List V → Hp → Prop} {i : Nat} {ys : List V} {H : Hp} (e : H D = some (.lst ys)) (l : ys.length ≤ i) (p : Pv (i + 1) ys (cd D H)) : LcNx D Pv (i + 1) H := ⟨ys, e, by omega, p⟩
theorem lc_build {J : It} {n : Nat} {G : Hp → Prop} {Y : Nat → Hp → V → Hp → Prop} (w : Walk J n G Y) {g : TG} {tt : TT} {te : TE} {vs : List Nat} {σ : L2.St} {H1 : Hp} {D : Addr} {Qd : Hp → Prop} (hD : H1 D = Option.none)
    (Pv : Nat → List V → Hp → Prop) (h0 : Pv 0 [] H1) (hG : ∀ i ys H, i ≤ n → Pv i ys (cd D H) → G H)
    (hs : ∀ i ys x H H', i < n → H D = some (.lst ys) → ys.length ≤ i → Pv i ys (cd D H) → Y i H x H' → g x (wipe σ vs) H' fun σ2 H2 => wipe σ2 vs = wipe σ vs ∧ tt σ2 H2 fun b H3 =>
      if b = true then te σ2 H3 fun y H4 => ∃ acc, H4 D = some (.lst acc) ∧ acc.length < sizeLine ∧ LcNx D Pv (i + 1) (L2.upd H4 D (.lst (acc ++ [y]))) else LcNx D Pv (i + 1) H3) (hd : ∀ ys H, H D = some (.lst ys) → ys.length ≤ n → Pv n ys (cd D H) → Qd H) :
    ∃ W : Nat → Nat → Hp → Prop, (∃ m, W 0 m (L2.upd H1 D (.lst []))) ∧ ∀ i m H, W i m H →
      (J.stop i H ∧ Qd H) ∨ (J.go i H ∧ ∃ Nx : Hp → Prop, (∀ H', Nx H' → ∃ m', m' < m ∧ W (i + 1) m' H') ∧ ∀ x H', J.yld i H x H' → g x (wipe σ vs) H' fun σ2 H2 => wipe σ2 vs = wipe σ vs ∧ tt σ2 H2 fun b H3 =>
        if b = true then te σ2 H3 fun y H4 => ∃ acc, H4 D = some (.lst acc) ∧ acc.length < sizeLine ∧ Nx (L2.upd H4 D (.lst (acc ++ [y]))) else Nx H3) :=
  lc_it w (LcNx D Pv) ⟨[], upd_same, Nat.le_refl _, by rw [cd_upd, cd_free hD]; exact h0⟩ (fun i H hi ⟨ys, _, _, p⟩ => hG i ys H hi p) (fun i x H H' hi ⟨ys, e, l, p⟩ hY => hs i ys x H H' hi e l p hY) (fun H ⟨ys, e, l, p⟩ => hd ys H e l p)
theorem yes {σ : L2.St} {H : Hp} {A B : Hp → Prop} (h : A H) : tYes σ H fun b H3 => if b = true then A H3 else B H3 := by
  show if true = true then A H else B H
  rw [if_pos rfl]
  exact h
theorem le_line {n : Nat} (h : n ≤ 4000) : n ≤ sizeLine := Nat.le_trans h (by decide)
theorem cd_is0 {D : Addr} {H H0 : Hp} (e : cd D H = H0) : Same H0 H := by rw [← e]; exact cd_sub
theorem seqT_list0 {K : PySem.W.Frag} {H : Hp} {l r : Addr} {L xs : List V} (hl : H l = some (.lst L)) (h : SqT K H r xs) : SqT K (cd l H) r xs := by
  rcases h with (q | ⟨o, q⟩) | q
  · exact .inl (.inl (cd_of q (ne_of q hl (fun z => nomatch z))))
  · exact .inl (.inr ⟨o, cd_of q (ne_of q hl (fun z => nomatch z))⟩)
  · exact .inr q
end Kd

namespace Kd
open PySem PySem.Spec PyProof.Rows L2
def top (i : Nat) : Stmt := PySem.Challenge.pw_kindsofday_k61_whole_numbers_never_twice.main.body.getD i (.Pass ⟨0, 0, 0, 0⟩)
abbrev s_DayError_init : Stmt := inClass (top 2) 0
abbrev s_NoRow_init : Stmt := inClass (top 4) 0
abbrev s_NoFact_init : Stmt := inClass (top 5) 0
abbrev s_is_name : Stmt := top 15
abbrev s_is_made_of : Stmt := top 16
abbrev s_Plan_init : Stmt := inClass (top 21) 0
abbrev s_Plan_dimensions : Stmt := inClass (top 21) 1
abbrev s_Plan_measures : Stmt := inClass (top 21) 2
abbrev s_first_fault : Stmt := top 22
abbrev s_are_faulty : Stmt := top 23
abbrev s_attributes_of : Stmt := top 24
abbrev s_things_named : Stmt := top 26
abbrev s_look : Stmt := top 27
abbrev s_has_form : Stmt := top 28
abbrev s_kind_fits : Stmt := top 29
abbrev s_fact_fits : Stmt := top 30
abbrev s_stretches : Stmt := top 32
abbrev s_opening_kinds : Stmt := top 33
abbrev s_changes_day : Stmt := top 34
abbrev s_version_values : Stmt := top 35
abbrev s_day_value : Stmt := top 36
abbrev s_steady_value : Stmt := top 37
abbrev s_last_and_unlike : Stmt := top 38
abbrev s_Things_init : Stmt := inClass (top 40) 0
abbrev s_Things_knows : Stmt := inClass (top 40) 1
abbrev s_Things_take_kind : Stmt := inClass (top 40) 2
abbrev s_Things_meet : Stmt := inClass (top 40) 3
abbrev s_Things_part : Stmt := inClass (top 40) 4
abbrev s_Things_number_anew : Stmt := inClass (top 40) 5
abbrev s_Things_with_numbers : Stmt := inClass (top 40) 6
abbrev s_Things_version_on : Stmt := inClass (top 40) 7
abbrev s_House_init : Stmt := inClass (top 51) 0
abbrev s_House_tell : Stmt := inClass (top 51) 1
abbrev s_House_take_kind : Stmt := inClass (top 51) 2
abbrev s_House_take_fact : Stmt := inClass (top 51) 3
abbrev s_House_take_forget : Stmt := inClass (top 51) 4
abbrev s_House_part_from : Stmt := inClass (top 51) 5
abbrev s_House_fact_days : Stmt := inClass (top 51) 6
abbrev s_House_led : Stmt := inClass (top 51) 7
abbrev s_House_versions : Stmt := inClass (top 51) 9
abbrev s_House_keys_of : Stmt := inClass (top 51) 10
abbrev s_House_facts : Stmt := inClass (top 51) 11
abbrev s_l_bag : Stmt := top 53
abbrev s_l_draw : Stmt := top 54
abbrev s_l_plan : Stmt := top 55
abbrev s_l_day : Stmt := top 56
abbrev s_l_value : Stmt := top 57
abbrev s_l_kind : Stmt := top 58
abbrev s_l_fact : Stmt := top 59
abbrev s_l_rows : Stmt := top 60
abbrev s_l_house : Stmt := top 62
abbrev s_l_all : Stmt := top 63
abbrev s_l_meets : Stmt := top 64
abbrev s_l_led : Stmt := top 65
abbrev s_l_counts : Stmt := top 66
abbrev s_law : Stmt := top 67
abbrev FnP (K : PySem.W.Frag) (x qual : Str) (st : Stmt) (f : Addr) (fd : FuncData) : Prop := FunD K x qual (defArgs st) (defBody st) (defScope st) [] [] f fd
section
variable {P : Program} {w : World} {K : PySem.W.Frag} {mg : Str → Option Value} {base : Heap} {f : Addr} {fd : FuncData}
/-! ### is_name -/
def nmB (z : Str) : Bool := decide (1 ≤ z.length) && (decide (z.length ≤ 8) && z.cps.toList.all fun c => decide (97 ≤ c ∧ c ≤ 122))
def spIsName : Sp := fun vs H Q _ => ∃ z : Str, vs = [.str z] ∧ z.length ≤ 4000 ∧ ∀ H', Same H H' → Q (.bl (nmB z)) H'
/-! ### is_made_of -/
def madeB (z s : Str) : Bool := z.cps.toList.all fun c => decide (c ∈ s.cps.toList)
theorem made_abc (z : Str) : madeB z abc = z.cps.toList.all fun c => decide (97 ≤ c ∧ c ≤ 122) := by
  unfold madeB
  congr 1
  funext c
  simp only [mem_abc]
def spMade : Sp := fun vs H Q _ => ∃ z s : Str, vs = [.str z, .str s] ∧ z.length ≤ 4000 ∧ ∀ H', Same H H' → Q (.bl (madeB z s)) H'
theorem sc_made : FnScope ["text", "signs", "sign"] ["text", "signs"] (defScope s_is_made_of) := ⟨rfl, rfl, rfl, by decide +kernel, rfl, by decide +kernel, by decide +kernel⟩
theorem ok_made (F : FnP K "is_made_of" "is_made_of" s_is_made_of f fd) (ga : mg "all" = none) : FnOk P w K mg base CX0 1 f fd ["text", "signs"] spMade := by
  refine F.ok sc_made (fun vs H Q E h => ?_) (fun cdv A outer s H vs Q E hr h => ?_)
  · obtain ⟨z, s, rfl, _⟩ := h
    rfl
  · obtain ⟨z, s2, rfl, hz, k⟩ := h
    refine ⟨_, PSs.nox (pss_one (ps_ret (pe_callB (cr_all rfl) (by rfl) ga (by decide +kernel) (pa_cons (pe_lc (own := [("sign", 2)]) (g := gName 2) (tt := tYes) rfl sc_made.nd (pi_str (pv 0)) (blkOk_by (own := [("sign", 2)]) (N := ["text", "signs", "sign"]) (sc := defScope s_is_made_of) (by decide +kernel))
        (fun _ _ _ _ _ => pg_name (i := 2) sc_made.nd rfl (Or.inl rfl)) (fun _ _ _ _ _ => pts_nil) (fun _ _ _ _ _ => pe_cmpR op_in_sign (pv 2) (pv 1) (by rfl))) pa_nil)))), ?_⟩
    have ez : z.length = z.cps.toList.length := by rw [Array.length_toList]; rfl
    refine ⟨_, rfl, z, rfl, fun D hD => lc_build walk_str hD (fun i ys R => Same H R ∧ ys = (z.cps.toList.take i).map fun c => V.bl (decide (c ∈ s2.cps.toList))) ⟨Same.refl H, rfl⟩ (fun _ _ _ _ _ => trivial) ?_ ?_⟩
    · rintro i ys x H2 H2' hi e l ⟨sm, rfl⟩ ⟨rfl, c, hc, rfl⟩
      refine ⟨rfl, yes ?_⟩
      refine ⟨_, rfl, _, rfl, c, s2, rfl, rfl, LcNx.add e l (by have : z.length = z.cps.size := rfl; omega) ⟨sm, ?_⟩⟩
      have hc2 : z.cps.toList[i]? = some c := by rw [Array.getElem?_toList]; exact hc
      obtain ⟨h1, h2⟩ := List.getElem?_eq_some_iff.mp hc2
      rw [List.take_succ_eq_append_getElem h1, List.map_append, h2]
      rfl
    · rintro ys H2 e l ⟨sm, rfl⟩
      refine ⟨D, (z.cps.toList.take z.cps.size).map fun c => decide (c ∈ s2.cps.toList), rfl, SqL.of (by rw [List.map_map]; exact e), ?_⟩
      have e1 : madeB z s2 = (((z.cps.toList.take z.cps.size).map fun c => decide (c ∈ s2.cps.toList)).all id) := by
        have et : z.cps.toList.take z.cps.size = z.cps.toList := List.take_of_length_le (by rw [Array.length_toList]; exact Nat.le_refl _)
        unfold madeB
        rw [et, List.all_map]
        rfl
      rw [← e1]
      exact k H2 (sm.trans cd_sub)
theorem sc_is_name : FnScope ["text"] ["text"] (defScope s_is_name) := ⟨rfl, rfl, rfl, by decide +kernel, rfl, by decide +kernel, by decide +kernel⟩
theorem ok_is_name {fM : Addr} {fdM : FuncData} (F : FnP K "is_name" "is_name" s_is_name f fd) (GM : FnOk P w K mg base CX0 1 fM fdM ["text", "signs"] spMade) (kM : PySem.W.keepIn K (.ref fM) = true) (bM : Binds K fdM ["text", "signs"] []) (gM : mg "is_made_of" = some (.ref fM)) (gl : mg "len" = none) {t1 t2 : Nat} (gS : mg "SMALL_LETTERS" = some (.str abc t1)) (gL : mg "LONGEST_NAME" = some (.int 8 t2)) : FnOk P w K mg base CX0 2 f fd ["text"] spIsName := by
  refine F.ok sc_is_name (fun vs H Q E h => ?_) (fun cdv A outer s H vs Q E hr h => ?_)
  · obtain ⟨z, rfl, _⟩ := h
    rfl
  · obtain ⟨z, rfl, hz, k⟩ := h
    refine ⟨_, PSs.nox (pss_one (ps_ret (pe_and (pe_chain op_le op_le pe_int (pe_callB call_len_str (by rfl) gl boot_len (pa_cons (pv 0) pa_nil)) (pe_glob (v := .int 8) rfl gL ⟨_, rfl⟩))
      (pe_one (pe_call GM hr rfl gM kM bM .nil pass0 (pa_cons (pv 0) (pa_cons (pe_glob (v := .str abc) rfl gS ⟨_, rfl⟩) pa_nil))))))), ?_⟩
    refine ⟨_, rfl, z, rfl, le_line hz, _, _, rfl, rfl, _, rfl, ?_⟩
    refine ite2 (fun c1 => ?_) (fun c1 => ?_)
    · have c1 : (1 : Int) ≤ (z.length : Int) := of_decide_eq_true c1
      refine ⟨_, _, rfl, rfl, _, rfl, ?_⟩
      refine ite2 (fun c2 => ?_) (fun c2 => ?_)
      · have c2 : (z.length : Int) ≤ 8 := of_decide_eq_true c2
        refine ⟨_, rfl, z, abc, rfl, hz, fun H2 s2 => ?_⟩
        have e1 : nmB z = madeB z abc := by
          unfold nmB
          rw [made_abc, decide_eq_true (by omega : 1 ≤ z.length), decide_eq_true (by omega : z.length ≤ 8)]
          simp only [Bool.true_and]
        rw [← e1]
        exact k H2 s2
      · have c2 : ¬ (z.length : Int) ≤ 8 := fun q => c2 (decide_eq_true q)
        have e1 : nmB z = false := by
          unfold nmB
          rw [decide_eq_false (by omega : ¬ z.length ≤ 8), Bool.false_and, Bool.and_false]
        rw [e1] at k
        exact k H (Same.refl H)
    · have c1 : ¬ (1 : Int) ≤ (z.length : Int) := fun q => c1 (decide_eq_true q)
      have e1 : nmB z = false := by
        unfold nmB
        rw [decide_eq_false (by omega : ¬ 1 ≤ z.length), Bool.false_and]
      rw [e1] at k
      exact ⟨_, rfl, iteF (k H (Same.refl H))⟩
/-! ### are_faulty -/
def fltB (xs : List Str) (m : Int) : Bool := decide (m < (xs.length : Int)) || (decide (((KdS.dcn xs xs.length : Nat) : Int) < (xs.length : Int)) || !(xs.all nmB))
def spFaulty (K : PySem.W.Frag) : Sp := fun vs H Q _ => ∃ (l : Addr) (xs : List Str) (m : Int), vs = [.ref l, .int m] ∧ Txs K H l xs ∧ xs.length ≤ 4000 ∧ (∀ z ∈ xs, z.length ≤ 4000) ∧ ∀ H', Same H H' → Q (.bl (fltB xs m)) H'
theorem sc_are_faulty : FnScope ["names", "most", "name"] ["names", "most"] (defScope s_are_faulty) := ⟨rfl, rfl, rfl, by decide +kernel, rfl, by decide +kernel, by decide +kernel⟩
theorem flt_end {xs : List Str} {m : Int} (h1 : ¬ m < (xs.length : Int)) (h2 : ¬ ((KdS.dcn xs xs.length : Nat) : Int) < (xs.length : Int)) : fltB xs m = !((xs.take xs.length).map nmB).all id := by
  unfold fltB
  rw [decide_eq_false h1, decide_eq_false h2, List.take_length, List.all_map, Bool.false_or, Bool.false_or]
  rfl
theorem strs_at {xs : List Str} {i : Nat} {x : V} (h : (xs.map V.str)[i]? = some x) : ∃ z, x = .str z ∧ xs[i]? = some z := by
  rw [List.getElem?_map] at h
  cases e : xs[i]? with
  | none => rw [e] at h; cases h
  | some z => rw [e] at h; exact ⟨z, (Option.some.inj h).symm, rfl⟩
theorem take_nm {xs : List Str} {i : Nat} {z : Str} (h : xs[i]? = some z) : ((xs.take i).map fun z => V.bl (nmB z)) ++ [V.bl (nmB z)] = (xs.take (i + 1)).map fun z => V.bl (nmB z) := by
  obtain ⟨h1, h2⟩ := List.getElem?_eq_some_iff.mp h
  rw [List.take_succ_eq_append_getElem h1, List.map_append, h2]
  rfl
theorem ok_are_faulty {fI : Addr} {fdI : FuncData} (F : FnP K "are_faulty" "are_faulty" s_are_faulty f fd) (GI : FnOk P w K mg base CX0 2 fI fdI ["text"] spIsName) (kI : PySem.W.keepIn K (.ref fI) = true) (bI : Binds K fdI ["text"] []) (gI : mg "is_name" = some (.ref fI))
    (gl : mg "len" = none) (gs : mg "set" = none) (ga : mg "all" = none) : FnOk P w K mg base CX0 3 f fd ["names", "most"] (spFaulty K) := by
  refine F.ok sc_are_faulty (fun vs H Q E h => ?_) (fun cdv A outer s H vs Q E hr h => ?_)
  · obtain ⟨l, xs, m, rfl, _⟩ := h
    rfl
  · obtain ⟨l, xs, m, rfl, hx, hn, hz, k⟩ := h
    rcases hx with hx | hx
    · refine ⟨_, PSs.nox (pss_cons (ps_if (PW.pt (pw_or (pt_cmpR op_gt (pe_callB call_len_seq (by rfl) gl boot_len (pa_cons (pv 0) pa_nil)) (pv 1) (nomark _)) (pw_or1 (pt_cmpR op_lt (pe_lenSetS rfl gl rfl gs (pv 0)) (pe_callB call_len_seq (by rfl) gl boot_len (pa_cons (pv 0) pa_nil)) (nomark _))))) (pss_one (ps_ret pe_bl)) pss_nil)
        (pss_one (ps_ret (pe_not (pe_callB (cr_all rfl) (by rfl) ga (by decide +kernel) (pa_cons (pe_lc (own := [("name", 2)]) (g := gName 2) (tt := tYes) rfl sc_are_faulty.nd (pi_list (pv 0)) (blkOk_by (own := [("name", 2)]) (N := ["names", "most", "name"]) (sc := defScope s_are_faulty) (by decide +kernel))
          (fun _ _ _ _ _ => pg_name (i := 2) sc_are_faulty.nd rfl (Or.inl rfl)) (fun _ _ _ _ _ => pts_nil) (fun _ _ _ _ _ => pe_call GI hr rfl gI kI bI .nil pass0 (pa_cons (pv 2) pa_nil))) pa_nil)))))), ?_⟩
      refine ⟨_, rfl, l, _, rfl, .inl hx, _, rfl, _, _, rfl, rfl, _, rfl, ?_⟩
      refine ite2 (fun c1 => ?_) (fun c1 => ?_)
      · have c1 : m < ((xs.map V.str).length : Int) := of_decide_eq_true c1
        rw [List.length_map] at c1
        have e1 : fltB xs m = true := by unfold fltB; rw [decide_eq_true c1, Bool.true_or]
        rw [e1] at k
        exact iteT (k H (Same.refl H))
      · have c1 : ¬ m < ((xs.map V.str).length : Int) := fun q => c1 (decide_eq_true q)
        rw [List.length_map] at c1
        refine ⟨_, rfl, l, xs, rfl, .inl hx, hn, _, rfl, l, _, rfl, .inl hx, _, _, rfl, rfl, _, rfl, ?_⟩
        refine ite2 (fun c2 => ?_) (fun c2 => ?_)
        · have c2 : ((KdS.dcn xs xs.length : Nat) : Int) < ((xs.map V.str).length : Int) := of_decide_eq_true c2
          rw [List.length_map] at c2
          have e1 : fltB xs m = true := by unfold fltB; rw [decide_eq_true c2, Bool.true_or, Bool.or_true]
          rw [e1] at k
          exact k H (Same.refl H)
        · have c2 : ¬ ((KdS.dcn xs xs.length : Nat) : Int) < ((xs.map V.str).length : Int) := fun q => c2 (decide_eq_true q)
          rw [List.length_map] at c2
          refine ⟨_, rfl, l, rfl, ⟨_, hx⟩, fun D hD => lc_build (walk_list (K := K) (a := l)) hD (fun i ys R => Same H R ∧ ys = (xs.take i).map fun z => V.bl (nmB z)) ⟨Same.refl H, rfl⟩ (fun _ _ _ _ p => Same.seq (p.1.trans cd_sub) hx) ?_ ?_⟩
          · rintro i ys x H2 H2' hi e ly ⟨sm, rfl⟩ ⟨rfl, hy⟩
            obtain ⟨z, rfl, hy2⟩ := strs_at hy
            refine ⟨rfl, yes ?_⟩
            refine ⟨_, rfl, z, rfl, hz z (List.mem_of_getElem? hy2), fun H3 s3 => LcNx.add (s3 _ _ e) ly (by rw [List.length_map] at hi; omega) ⟨sm.trans (cd_same s3), ?_⟩⟩
            exact take_nm hy2
          · rintro ys H2 e ly ⟨sm, rfl⟩
            rw [List.length_map] at e
            refine ⟨D, (xs.take xs.length).map nmB, rfl, SqL.of (by rw [List.map_map]; exact e), _, rfl, ?_⟩
            have e2 := flt_end c1 c2
            rw [e2] at k
            exact k H2 (sm.trans cd_sub)
    · refine ⟨_, PSs.nox (pss_cons (ps_if (PW.pt (pw_or (pt_cmpR op_gt (pe_callB call_len_seq (by rfl) gl boot_len (pa_cons (pv 0) pa_nil)) (pv 1) (nomark _)) (pw_or1 (pt_cmpR op_lt (pe_lenSetS rfl gl rfl gs (pv 0)) (pe_callB call_len_seq (by rfl) gl boot_len (pa_cons (pv 0) pa_nil)) (nomark _))))) (pss_one (ps_ret pe_bl)) pss_nil)
        (pss_one (ps_ret (pe_not (pe_callB (cr_all rfl) (by rfl) ga (by decide +kernel) (pa_cons (pe_lc (own := [("name", 2)]) (g := gName 2) (tt := tYes) rfl sc_are_faulty.nd (pi_tup (pv 0)) (blkOk_by (own := [("name", 2)]) (N := ["names", "most", "name"]) (sc := defScope s_are_faulty) (by decide +kernel))
          (fun _ _ _ _ _ => pg_name (i := 2) sc_are_faulty.nd rfl (Or.inl rfl)) (fun _ _ _ _ _ => pts_nil) (fun _ _ _ _ _ => pe_call GI hr rfl gI kI bI .nil pass0 (pa_cons (pv 2) pa_nil))) pa_nil)))))), ?_⟩
      refine ⟨_, rfl, l, _, rfl, .inr hx, _, rfl, _, _, rfl, rfl, _, rfl, ?_⟩
      refine ite2 (fun c1 => ?_) (fun c1 => ?_)
      · have c1 : m < ((xs.map V.str).length : Int) := of_decide_eq_true c1
        rw [List.length_map] at c1
        have e1 : fltB xs m = true := by unfold fltB; rw [decide_eq_true c1, Bool.true_or]
        rw [e1] at k
        exact iteT (k H (Same.refl H))
      · have c1 : ¬ m < ((xs.map V.str).length : Int) := fun q => c1 (decide_eq_true q)
        rw [List.length_map] at c1
        refine ⟨_, rfl, l, xs, rfl, .inr hx, hn, _, rfl, l, _, rfl, .inr hx, _, _, rfl, rfl, _, rfl, ?_⟩
        refine ite2 (fun c2 => ?_) (fun c2 => ?_)
        · have c2 : ((KdS.dcn xs xs.length : Nat) : Int) < ((xs.map V.str).length : Int) := of_decide_eq_true c2
          rw [List.length_map] at c2
          have e1 : fltB xs m = true := by unfold fltB; rw [decide_eq_true c2, Bool.true_or, Bool.or_true]
          rw [e1] at k
          exact k H (Same.refl H)
        · have c2 : ¬ ((KdS.dcn xs xs.length : Nat) : Int) < ((xs.map V.str).length : Int) := fun q => c2 (decide_eq_true q)
          rw [List.length_map] at c2
          refine ⟨_, rfl, l, rfl, ⟨_, hx⟩, fun D hD => lc_build (walk_tup (K := K) (a := l)) hD (fun i ys R => Same H R ∧ ys = (xs.take i).map fun z => V.bl (nmB z)) ⟨Same.refl H, rfl⟩ (fun _ _ _ _ p => Same.seqT (p.1.trans cd_sub) hx) ?_ ?_⟩
          · rintro i ys x H2 H2' hi e ly ⟨sm, rfl⟩ ⟨rfl, hy⟩
            obtain ⟨z, rfl, hy2⟩ := strs_at hy
            refine ⟨rfl, yes ?_⟩
            refine ⟨_, rfl, z, rfl, hz z (List.mem_of_getElem? hy2), fun H3 s3 => LcNx.add (s3 _ _ e) ly (by rw [List.length_map] at hi; omega) ⟨sm.trans (cd_same s3), ?_⟩⟩
            exact take_nm hy2
          · rintro ys H2 e ly ⟨sm, rfl⟩
            rw [List.length_map] at e
            refine ⟨D, (xs.take xs.length).map nmB, rfl, SqL.of (by rw [List.map_map]; exact e), _, rfl, ?_⟩
            have e2 := flt_end c1 c2
            rw [e2] at k
            exact k H2 (sm.trans cd_sub)
/-! ### a plan's lists in the heap -/
def AttAt (K : PySem.W.Frag) (H : Hp) (y : V) (a : Str × Str) : Prop := ∃ r, y = .ref r ∧ SqT K H r [.str a.1, .str a.2]
def AttsAt (K : PySem.W.Frag) (H : Hp) (q : Addr) (as : List (Str × Str)) : Prop := ∃ ys, SqT K H q ys ∧ Paired (AttAt K H) ys as
def DimAt (K : PySem.W.Frag) (H : Hp) (x : V) (d : Str × List (Str × Str)) : Prop := ∃ p q, x = .ref p ∧ SqT K H p [.str d.1, .ref q] ∧ AttsAt K H q d.2
def DimsAt (K : PySem.W.Frag) (H : Hp) (l : Addr) (ds : List (Str × List (Str × Str))) : Prop := ∃ xs, SqL K H l xs ∧ Paired (DimAt K H) xs ds
theorem AttAt.same {H H' : Hp} {y : V} {a : Str × Str} (e : Same H H') : AttAt K H y a → AttAt K H' y a := fun ⟨r, h1, h2⟩ => ⟨r, h1, Same.seqT e h2⟩
theorem AttsAt.same {H H' : Hp} {q : Addr} {as : List (Str × Str)} (e : Same H H') : AttsAt K H q as → AttsAt K H' q as := fun ⟨ys, h1, h2⟩ => ⟨ys, Same.seqT e h1, PySem.Paired.mono (fun _ _ => AttAt.same e) h2⟩
theorem DimAt.same {H H' : Hp} {x : V} {d : Str × List (Str × Str)} (e : Same H H') : DimAt K H x d → DimAt K H' x d := fun ⟨p, q, h1, h2, h3⟩ => ⟨p, q, h1, Same.seqT e h2, h3.same e⟩
theorem DimsAt.same {H H' : Hp} {l : Addr} {ds : List (Str × List (Str × Str))} (e : Same H H') : DimsAt K H l ds → DimsAt K H' l ds := fun ⟨xs, h1, h2⟩ => ⟨xs, e.seq h1, PySem.Paired.mono (fun _ _ => DimAt.same e) h2⟩
theorem paired_at {α β : Type} {R : α → β → Prop} : ∀ {l : List α} {m : List β} {i : Nat} {a : α}, Paired R l m → l[i]? = some a → ∃ b, m[i]? = some b ∧ R a b
  | _, _, i, a, .nil, e => by simp at e
  | _, _, 0, a, .cons h _, e => ⟨_, rfl, by have e2 : _ = a := Option.some.inj e; rw [← e2]; exact h⟩
  | _, _, i + 1, a, .cons _ r, e => paired_at (i := i) r e
theorem take_snoc {α β : Type} {g : α → β} {l : List α} {i : Nat} {a : α} (h : l[i]? = some a) : (l.take i).map g ++ [g a] = (l.take (i + 1)).map g := by
  obtain ⟨h1, h2⟩ := List.getElem?_eq_some_iff.mp h
  rw [List.take_succ_eq_append_getElem h1, List.map_append, h2]
  rfl
structure Szd (ds : List (Str × List (Str × Str))) (ms : List Str) : Prop where
  dl : ds.length ≤ 4000
  dn : ∀ d ∈ ds, d.1.length ≤ 4000 ∧ d.2.length ≤ 4000 ∧ ∀ a ∈ d.2, a.1.length ≤ 4000
  ml : ms.length ≤ 4000
  mn : ∀ m ∈ ms, m.length ≤ 4000
/-! ### first_fault -/
def ffV (ds : List (Str × List (Str × Str))) (ms : List Str) : V := if (ds.isEmpty || fltB (ds.map (·.1)) 4) = true then .str "dimensions" else if ds.any (fun d => fltB (d.2.map (·.1)) 5) = true then .str "attributes" else if fltB ms 4 = true then .str "measures" else .non
def spFirst (K : PySem.W.Frag) : Sp := fun vs H Q _ => ∃ (l m : Addr) (ds : List (Str × List (Str × Str))) (ms : List Str), vs = [.ref l, .ref m] ∧ DimsAt K H l ds ∧ Txs K H m ms ∧ Szd ds ms ∧ ∀ H', Same H H' → Q (ffV ds ms) H'
theorem sc_first : FnScope ["dimensions", "measures", "name", "attributes", "names", "attribute", "way"] ["dimensions", "measures"] (defScope s_first_fault) := ⟨rfl, rfl, rfl, by decide +kernel, rfl, by decide +kernel, by decide +kernel⟩
theorem ok_first {fF : Addr} {fdF : FuncData} (F : FnP K "first_fault" "first_fault" s_first_fault f fd) (GF : FnOk P w K mg base CX0 3 fF fdF ["names", "most"] (spFaulty K)) (kF : PySem.W.keepIn K (.ref fF) = true) (bF : Binds K fdF ["names", "most"] []) (gF : mg "are_faulty" = some (.ref fF))
    {t1 t2 t3 : Nat} (g1 : mg "MOST_DIMENSIONS" = some (.int 4 t1)) (g2 : mg "MOST_ATTRIBUTES" = some (.int 5 t2)) (g3 : mg "MOST_MEASURES" = some (.int 4 t3)) : FnOk P w K mg base CX0 4 f fd ["dimensions", "measures"] (spFirst K) := by
  refine F.ok sc_first (fun vs H Q E h => ?_) (fun cdv A outer s H vs Q E hr h => ?_)
  · obtain ⟨l, m, ds, ms, rfl, _⟩ := h
    rfl
  · obtain ⟨l, m, ds, ms, rfl, ⟨xs, hl, hp⟩, hm, sz, k⟩ := h
    have nd := sc_first.nd
    refine ⟨_, PSs.nox (pss_cons (ps_setLc (i := 4) (own := [("name", 2), ("attributes", 3)]) (g := gTup K 2 (gCons (gName 2) (gCons (gName 3) gNil))) (tt := tYes) rfl nd rfl rfl (sw_true rfl rfl rfl (by decide +kernel)) (pi_list (pv 0)) (blkOk_by (own := [("name", 2), ("attributes", 3)]) (N := ["dimensions", "measures", "name", "attributes", "names", "attribute", "way"]) (sc := defScope s_first_fault) (by decide +kernel))
        (fun _ _ _ _ _ => pg_tup rfl (pgs_cons (pg_name (i := 2) nd rfl (Or.inl rfl)) (pgs_cons (pg_name (i := 3) nd rfl (Or.inl rfl)) pgs_nil))) (fun _ _ _ _ _ => pts_nil) (fun _ _ _ _ _ => pv 2))
      (pss_cons (ps_if (PW.pt (pw_or (pt_not (pt_truth (pv 4) (by intro _; rfl))) (pw_or1 (pt_val (pe_call GF hr rfl gF kF bF .nil pass0 (pa_cons (pv 4) (pa_cons (pe_glob (v := .int 4) rfl g1 ⟨_, rfl⟩) pa_nil))))))) (pss_one (ps_ret pe_str)) pss_nil)
      (pss_cons (ps_for PassesOwn.never rfl (pi_list (pv 0)) (pg_tup rfl (pgs_cons (pg_name (i := 2) nd rfl (Or.inl rfl)) (pgs_cons (pg_name (i := 3) nd rfl (Or.inl rfl)) pgs_nil)))
        (pss_one (ps_if (pt_val (pe_call GF hr rfl gF kF bF .nil pass0 (pa_cons (pe_lc (own := [("attribute", 5), ("way", 6)]) (g := gTup K 2 (gCons (gName 5) (gCons (gName 6) gNil))) (tt := tYes) rfl nd (pi_tup (pv 3)) (blkOk_by (own := [("attribute", 5), ("way", 6)]) (N := ["dimensions", "measures", "name", "attributes", "names", "attribute", "way"]) (sc := defScope s_first_fault) (by decide +kernel))
          (fun _ _ _ _ _ => pg_tup rfl (pgs_cons (pg_name (i := 5) nd rfl (Or.inl rfl)) (pgs_cons (pg_name (i := 6) nd rfl (Or.inl rfl)) pgs_nil))) (fun _ _ _ _ _ => pts_nil) (fun _ _ _ _ _ => pv 5)) (pa_cons (pe_glob (v := .int 5) rfl g2 ⟨_, rfl⟩) pa_nil)))) (pss_one (ps_ret pe_str)) pss_nil)))
      (pss_cons (ps_if (pt_val (pe_call GF hr rfl gF kF bF .nil pass0 (pa_cons (pv 1) (pa_cons (pe_glob (v := .int 4) rfl g3 ⟨_, rfl⟩) pa_nil)))) (pss_one (ps_ret pe_str)) pss_nil)
      (pss_one (ps_ret pe_non)))))), ?_⟩
    refine ⟨_, rfl, l, rfl, ⟨_, hl⟩, fun D hD => lc_build (walk_list (K := K) (a := l)) hD (fun i ys R => Same H R ∧ ys = (ds.take i).map fun d => V.str d.1) ⟨Same.refl H, rfl⟩ (fun _ _ _ _ p => Same.seq (p.1.trans cd_sub) hl) ?_ ?_⟩
    · rintro i ys x H2 H2' hi e ly ⟨sm, rfl⟩ ⟨rfl, hy⟩
      obtain ⟨d, hd, p, q, rfl, h1, h2⟩ := paired_at hp hy
      have sz1 := sz.dl
      have hlen := hp.length
      refine ⟨p, _, rfl, Same.seqT (sm.trans cd_sub) h1, rfl, _, _, rfl, _, _, rfl, rfl, rfl, yes ?_⟩
      refine ⟨_, rfl, LcNx.add e ly (by omega) ⟨sm, take_snoc hd⟩⟩
    · rintro ys H2 e ly ⟨sm, rfl⟩
      have hlen := hp.length
      have eN : (ds.take xs.length).map (fun d => V.str d.1) = (ds.map (·.1)).map V.str := by
        rw [hlen, List.take_length, List.map_map]
        rfl
      rw [eN] at e
      have s2 : Same H H2 := sm.trans cd_sub
      have l1 := sz.dl
      have hnm : ∀ z ∈ ds.map (·.1), z.length ≤ 4000 := fun z hz => by
        obtain ⟨d, hd, rfl⟩ := List.mem_map.mp hz
        exact (sz.dn d hd).1
      refine ⟨_, rfl, _, .inl ⟨_, SqL.of e, rfl⟩, ?_⟩
      by_cases e0 : ds = []
      · subst e0
        exact iteT (iteT (k H2 s2))
      · have ne : (!((ds.map (·.1)).map V.str).isEmpty) = true := by
          cases ds with
          | nil => exact absurd rfl e0
          | cons d r => rfl
        rw [ne]
        refine iteF ⟨_, rfl, D, ds.map (·.1), 4, rfl, .inl (SqL.of e), by rw [List.length_map]; exact l1, hnm, fun H3 s3 => ⟨_, rfl, ?_⟩⟩
        have ie : ds.isEmpty = false := by
          cases ds with
          | nil => exact absurd rfl e0
          | cons d r => rfl
        have s03 : Same H H3 := s2.trans s3
        by_cases c1 : fltB (ds.map (·.1)) 4 = true
        · rw [c1]
          have ev : ffV ds ms = .str "dimensions" := by unfold ffV; rw [ie, c1]; rfl
          rw [ev] at k
          exact iteT (k H3 s03)
        · have c1 : fltB (ds.map (·.1)) 4 = false := by simpa using c1
          rw [c1]
          refine iteF ?_
          refine ⟨_, rfl, l, rfl, ⟨_, s03.seq hl⟩, for_list (K := K) (a := l) (xs := xs) (fun i σ H4 => ∃ u v, σ = [some (.ref l), some (.ref m), u, v, some (.ref D), none, none] ∧ Same H H4 ∧ (ds.take i).any (fun d => fltB (d.2.map (·.1)) 5) = false) ⟨_, _, rfl, s03, rfl⟩ (fun i σ H4 _ ⟨_, _, _, s4, _⟩ => s4.seq hl) ?_ ?_⟩
          · rintro i x σ H4 hi ⟨u, v, rfl, s4, na⟩
            obtain ⟨d, hd, p, q, rfl, h1, ys, h2, h3⟩ := paired_at hp hi
            have hdm := List.mem_of_getElem? hd
            obtain ⟨_, la, lz⟩ := sz.dn d hdm
            have hyl := h3.length
            refine ⟨p, _, rfl, Same.seqT s4 h1, rfl, _, _, rfl, _, _, rfl, rfl, ?_⟩
            refine ⟨_, rfl, q, rfl, ⟨_, Same.seqT s4 h2⟩, fun B hB => lc_build (walk_tup (K := K) (a := q)) hB (fun i ys R => Same H4 R ∧ ys = (d.2.take i).map fun d => V.str d.1) ⟨Same.refl H4, rfl⟩ (fun _ _ _ _ p => Same.seqT (s4.trans (p.1.trans cd_sub)) h2) ?_ ?_⟩
            · rintro j zs x H5 H5' hj e5 lz5 ⟨s5, rfl⟩ ⟨rfl, hy⟩
              obtain ⟨a, ha, r, rfl, h4⟩ := paired_at h3 hy
              refine ⟨r, _, rfl, Same.seqT (s4.trans (s5.trans cd_sub)) h4, rfl, _, _, rfl, _, _, rfl, rfl, rfl, yes ?_⟩
              refine ⟨_, rfl, LcNx.add e5 lz5 (by omega) ⟨s5, take_snoc ha⟩⟩
            · rintro zs H5 e5 lz5 ⟨s5, rfl⟩
              have eA : (d.2.take ys.length).map (fun d => V.str d.1) = (d.2.map (·.1)).map V.str := by
                rw [hyl, List.take_length, List.map_map]
                rfl
              rw [eA] at e5
              refine ⟨B, d.2.map (·.1), 5, rfl, .inl (SqL.of e5), by rw [List.length_map]; exact la, fun z hz => ?_, fun H6 s6 => ⟨_, rfl, ?_⟩⟩
              · obtain ⟨a, ha, rfl⟩ := List.mem_map.mp hz
                exact lz a ha
              · have s06 : Same H H6 := (s4.trans (s5.trans cd_sub)).trans s6
                by_cases c2 : fltB (d.2.map (·.1)) 5 = true
                · rw [c2]
                  have ea : ds.any (fun d => fltB (d.2.map (·.1)) 5) = true := List.any_eq_true.mpr ⟨d, hdm, c2⟩
                  have ev : ffV ds ms = .str "attributes" := by unfold ffV; rw [ie, c1, ea]; rfl
                  rw [ev] at k
                  exact iteT (k H6 s06)
                · have c2 : fltB (d.2.map (·.1)) 5 = false := by simpa using c2
                  rw [c2]
                  refine iteF ⟨_, _, rfl, s06, ?_⟩
                  obtain ⟨g1, g2⟩ := List.getElem?_eq_some_iff.mp hd
                  rw [List.take_succ_eq_append_getElem g1, List.any_append, na, g2]
                  simp [c2]
          · rintro σ H4 ⟨u, v, rfl, s4, na⟩
            rw [hlen, List.take_length] at na
            refine ⟨_, rfl, m, ms, 4, rfl, Same.txs s4 hm, sz.ml, sz.mn, fun H5 s5 => ⟨_, rfl, ?_⟩⟩
            have s05 : Same H H5 := s4.trans s5
            by_cases c3 : fltB ms 4 = true
            · rw [c3]
              have ev : ffV ds ms = .str "measures" := by unfold ffV; rw [ie, c1, na, c3]; rfl
              rw [ev] at k
              exact iteT (k H5 s05)
            · have c3 : fltB ms 4 = false := by simpa using c3
              rw [c3]
              have ev : ffV ds ms = .non := by unfold ffV; rw [ie, c1, na, c3]; rfl
              rw [ev] at k
              exact iteF (k H5 s05)
end
end Kd

namespace Kd
open PySem PySem.Spec PyProof.Rows L2
section
variable {P : Program} {w : World} {K : PySem.W.Frag} {mg : Str → Option Value} {base : Heap} {f : Addr} {fd : FuncData}
/-! ### the plan as an object -/
def plF (a b : Addr) : List (Str × V) := [("dimension_list", .ref a), ("measure_list", .ref b)]
theorem pl_ne : ¬ (("dimension_list" : Str) = "measure_list") := by decide +kernel
theorem pl_put (a b : Addr) : putF "measure_list" (.ref b) (putF "dimension_list" (.ref a) []) = plF a b := by
  show (if ("dimension_list" : Str) = "measure_list" then [(("dimension_list" : Str), V.ref b)] else (("dimension_list" : Str), V.ref a) :: putF "measure_list" (.ref b) []) = plF a b
  rw [if_neg pl_ne]
  rfl
theorem pl_dim (a b : Addr) : (plF a b).lookup ("dimension_list" : Str) = some (.ref a) := by
  unfold plF
  rw [List.lookup_cons]
  rw [show (("dimension_list" : Str) == "dimension_list") = true by decide +kernel]
theorem pl_mea (a b : Addr) : (plF a b).lookup ("measure_list" : Str) = some (.ref b) := by
  unfold plF
  rw [List.lookup_cons, show (("measure_list" : Str) == "dimension_list") = false by decide +kernel, List.lookup_cons, show (("measure_list" : Str) == "measure_list") = true by decide +kernel]
theorem pl_no0 {a b : Addr} {m : Str} (h1 : (m == ("dimension_list" : Str)) = false) (h2 : (m == ("measure_list" : Str)) = false) : (plF a b).lookup m = none := by
  unfold plF
  rw [List.lookup_cons, h1, List.lookup_cons, h2]
  rfl
/-- a Plan of ds and ms stands at x -/
structure PlanAt (K : PySem.W.Frag) (C : Addr) (H : Hp) (x : Addr) (ds : List (Str × List (Str × Str))) (ms : List Str) : Prop where
  ex : ∃ dx a b xs, H x = some (.ins C dx (plF a b)) ∧ H a = some (.lst xs) ∧ Paired (DimAt K H) xs ds ∧ H b = some (.lst (ms.map V.str))
theorem PlanAt.same {C x : Addr} {H H' : Hp} {ds : List (Str × List (Str × Str))} {ms : List Str} (e : Same H H') (h : PlanAt K C H x ds ms) : PlanAt K C H' x ds ms := by
  obtain ⟨dx, a, b, xs, h1, h2, h3, h4⟩ := h.ex
  exact ⟨dx, a, b, xs, e _ _ h1, e _ _ h2, PySem.Paired.mono (fun _ _ => DimAt.same e) h3, e _ _ h4⟩
/-! data do not lean on an instance -/
theorem seqL_cd {x C dx a : Addr} {H : Hp} {fs : List (Str × V)} {xs : List V} (hx : H x = some (.ins C dx fs)) (h : SqL K H a xs) : SqL K (cd x H) a xs := by
  rcases h with (q | ⟨o, q⟩) | q
  · exact .inl (.inl (cd_of q (ne_of q hx (fun z => nomatch z))))
  · exact .inl (.inr ⟨o, cd_of q (ne_of q hx (fun z => nomatch z))⟩)
  · exact .inr q
theorem seqT_cd {x C dx a : Addr} {H : Hp} {fs : List (Str × V)} {xs : List V} (hx : H x = some (.ins C dx fs)) (h : SqT K H a xs) : SqT K (cd x H) a xs := by
  rcases h with (q | ⟨o, q⟩) | q
  · exact .inl (.inl (cd_of q (ne_of q hx (fun z => nomatch z))))
  · exact .inl (.inr ⟨o, cd_of q (ne_of q hx (fun z => nomatch z))⟩)
  · exact .inr q
theorem txs_cd {x C dx a : Addr} {H : Hp} {fs : List (Str × V)} {xs : List Str} (hx : H x = some (.ins C dx fs)) (h : Txs K H a xs) : Txs K (cd x H) a xs := h.elim (fun q => .inl (seqL_cd hx q)) fun q => .inr (seqT_cd hx q)
theorem dim_cd {x C dx : Addr} {H : Hp} {fs : List (Str × V)} {y : V} {d : Str × List (Str × Str)} (hx : H x = some (.ins C dx fs)) : DimAt K H y d → DimAt K (cd x H) y d :=
  fun ⟨p, q, h1, h2, zs, h3, h4⟩ => ⟨p, q, h1, seqT_cd hx h2, zs, seqT_cd hx h3, PySem.Paired.mono (fun _ _ ⟨r, e1, e2⟩ => ⟨r, e1, seqT_cd hx e2⟩) h4⟩
structure PlTxt (K : PySem.W.Frag) (C : Addr) : Prop where
  cl : Cls K C
  nD : NoAttr K C "dimension_list"
  nM : NoAttr K C "measure_list"
def rTupOf (K : PySem.W.Frag) : List V → Hp → VK → Prop := fun xs H Q => ∃ p ys, xs = [.ref p] ∧ ((SqL K H p ys ∧ ∀ l, H l = none → Q (.ref l) (upd H l (.tup ys))) ∨ (SqT K H p ys ∧ Q (.ref p) H))
def spInit (K : PySem.W.Frag) (C : Addr) : Sp := fun vs H Q _ => ∃ (x dx l m : Addr) (ds : List (Str × List (Str × Str))) (ms : List Str), vs = [.ref x, .ref l, .ref m] ∧ H x = some (.ins C dx []) ∧ DimsAt K H l ds ∧ Txs K H m ms ∧ Szd ds ms ∧ ffV ds ms = .non ∧
  ∀ (H' : Hp) (a b : Addr) (xs : List V), H a = none → H b = none → H' x = some (.ins C dx (plF a b)) → H' a = some (.lst xs) → Paired (DimAt K H') xs ds → H' b = some (.lst (ms.map V.str)) → Same (cd x H) (cd x H') → Q .non H'
theorem sc_init : FnScope ["self", "dimensions", "measures", "fault", "name", "attributes"] ["self", "dimensions", "measures"] (defScope s_Plan_init) := ⟨rfl, rfl, rfl, by decide +kernel, rfl, by decide +kernel, by decide +kernel⟩
theorem ok_init {fF C : Addr} {fdF : FuncData} {dvs : List V} (F : FunD K "__init__" "Plan.__init__" (defArgs s_Plan_init) (defBody s_Plan_init) (defScope s_Plan_init) dvs [] f fd) (T : PlTxt K C) (GF : FnOk P w K mg base CX0 4 fF fdF ["dimensions", "measures"] (spFirst K)) (kF : PySem.W.keepIn K (.ref fF) = true) (bF : Binds K fdF ["dimensions", "measures"] []) (gF : mg "first_fault" = some (.ref fF))
    (gt : mg "tuple" = none) (gl : mg "list" = none) : FnOk P w K mg base CX0 5 f fd ["self", "dimensions", "measures"] (spInit K C) := by
  refine F.ok sc_init (fun vs H Q E h => ?_) (fun cdv A outer s H vs Q E hr h => ?_)
  · obtain ⟨x, dx, l, m, ds, ms, rfl, _⟩ := h
    rfl
  · obtain ⟨x, dx, l, m, ds, ms, rfl, hx, hl, hm, sz, ev, k⟩ := h
    have nd := sc_init.nd
    refine ⟨_, PSs.nox (pss_cons (ps_set (i := 3) nd rfl (Or.inl rfl) (pe_call GF hr rfl gF kF bF .nil pass0 (pa_cons (pv 1) (pa_cons (pv 2) pa_nil))))
      (pss_cons (ps_if (pt_cmp (pc_notN (pv 3))) (pss_one ps_never) pss_nil)
      (pss_cons (ps_fld (pv 0) (pe_lc (own := [("name", 4), ("attributes", 5)]) (g := gTup K 2 (gCons (gName 4) (gCons (gName 5) gNil))) (tt := tYes) (te := tTup (tCons (tVar 4) (tCons (tCB (rTupOf K) (tCons (tVar 5) tNil)) tNil))) rfl nd (pi_list (pv 1)) (blkOk_by (own := [("name", 4), ("attributes", 5)]) (N := ["self", "dimensions", "measures", "fault", "name", "attributes"]) (sc := defScope s_Plan_init) (by decide +kernel))
        (fun _ _ _ _ _ => pg_tup rfl (pgs_cons (pg_name (i := 4) nd rfl (Or.inl rfl)) (pgs_cons (pg_name (i := 5) nd rfl (Or.inl rfl)) pgs_nil))) (fun _ _ _ _ _ => pts_nil) (fun _ _ _ _ _ => pe_tup (pa_cons (pv 4) (pa_cons (pe_callTy call_tuple_of (by rfl) gt (by decide +kernel) (pa_cons (pv 5) pa_nil)) pa_nil)))) rfl)
      (pss_one (ps_fld (pv 0) (pe_callTy call_list_of (by rfl) gl (by decide +kernel) (pa_cons (pv 2) pa_nil)) rfl))))), ?_⟩
    refine ⟨_, rfl, _, rfl, l, m, ds, ms, rfl, hl, hm, sz, fun H1 s1 => ?_⟩
    rw [ev]
    refine ⟨_, rfl, _, rfl, ?_⟩
    refine iteF ?_
    obtain ⟨xs, hl1, hp⟩ := DimsAt.same s1 hl
    have hlen := hp.length
    have l1 := sz.dl
    refine ⟨_, rfl, l, rfl, ⟨_, hl1⟩, fun D hD => lc_build (walk_list (K := K) (a := l)) hD (fun i ys R => Same H1 R ∧ Paired (DimAt K R) ys (ds.take i)) ⟨Same.refl H1, .nil⟩ (fun _ _ _ _ p => Same.seq (p.1.trans cd_sub) hl1) ?_ ?_⟩
    · rintro i ys y H2 H2' hi e ly ⟨sm, py⟩ ⟨rfl, hy⟩
      obtain ⟨d, hd, p, q, rfl, h1, h2⟩ := paired_at hp hy
      refine ⟨p, _, rfl, Same.seqT (sm.trans cd_sub) h1, rfl, _, _, rfl, _, _, rfl, rfl, rfl, yes ?_⟩
      obtain ⟨zs, h3, h4⟩ := id h2
      refine ⟨_, rfl, _, rfl, q, zs, rfl, .inr ⟨Same.seqT (sm.trans cd_sub) h3, by show 2 ≤ sizeLine; decide, fun t ht => ?_⟩⟩
      have nDt : D ≠ t := ne_of_none e ht
      have s3 : Same (cd D H2') (cd D (upd H2' t (.tup [.str d.1, .ref q]))) := cd_same (same_new ht)
      refine LcNx.add (by rw [upd_ne nDt]; exact e) ly (by omega) ⟨sm.trans s3, ?_⟩
      obtain ⟨g1, g2⟩ := List.getElem?_eq_some_iff.mp hd
      rw [List.take_succ_eq_append_getElem g1, g2]
      exact PySem.Paired.snoc (PySem.Paired.mono (fun _ _ => DimAt.same s3) py) ⟨t, q, rfl, SqT.of (cd_of upd_same nDt.symm), AttsAt.same (sm.trans s3) h2⟩
    · rintro ys H2 e ly ⟨sm, py⟩
      rw [hlen, List.take_length] at py
      have s2 : Same H1 H2 := sm.trans cd_sub
      have hx2 : H2 x = some (.ins C dx []) := s2 _ _ (s1 _ _ hx)
      have nDx : D ≠ x := (ne_of_none (s1 _ _ hx) hD).symm
      refine ⟨_, rfl, x, C, dx, _, rfl, hx2, T.cl, T.nD, (by show 0 < 1000; decide), ?_⟩
      have s3 : Same (cd x H2) (upd H2 x (.ins C dx (putF "dimension_list" (.ref D) []))) := fun c o q => by rw [upd_ne (ct_ne q).1]; exact cd_sub _ _ q
      have hm3 : Txs K (upd H2 x (.ins C dx (putF "dimension_list" (.ref D) []))) m ms := Same.txs s3 (txs_cd hx2 (Same.txs (s1.trans s2) hm))
      refine ⟨_, rfl, m, ms.map V.str, rfl, hm3, fun b hb => ?_⟩
      have nxb : x ≠ b := ne_of_none upd_same hb
      have hDb : D ≠ b := fun z => by
        rw [← z, upd_ne nDx] at hb
        rw [e] at hb
        cases hb
      refine ⟨_, rfl, x, C, dx, _, rfl, (by rw [upd_ne nxb]; exact upd_same), T.cl, T.nM, (by show 1 < 1000; decide), ?_⟩
      have e1 : putF "measure_list" (V.ref b) (putF "dimension_list" (V.ref D) []) = plF D b := pl_put D b
      have s4 : Same (cd x H2) (upd (upd (upd H2 x (.ins C dx (putF "dimension_list" (.ref D) []))) b (.lst (ms.map V.str))) x (.ins C dx (putF "measure_list" (V.ref b) (putF "dimension_list" (V.ref D) [])))) := fun c o q => by
        have nc := (ct_ne q).1
        have qc := cd_sub _ _ q
        have ncb : c ≠ b := ne_of_none (show upd H2 x (.ins C dx (putF "dimension_list" (.ref D) [])) c = some o by rw [upd_ne nc]; exact qc) hb
        rw [upd_ne nc, upd_ne ncb, upd_ne nc]
        exact qc
      have py2 : Paired (DimAt K (cd x H2)) ys ds := PySem.Paired.mono (fun y d q => dim_cd hx2 (DimAt.same cd_sub q)) py
      refine k _ D b ys (s1.free hD) ?_ (Eq.trans upd_same (congrArg (fun z => some (HO.ins C dx z)) e1)) (s4 _ _ (cd_of e nDx)) (PySem.Paired.mono (fun _ _ => DimAt.same s4) py2) ?_ ?_
      · have hb2 : H2 b = none := by
          rw [upd_ne nxb.symm] at hb
          exact hb
        exact (s1.trans s2).free hb2
      · rw [upd_ne nxb.symm, upd_same]
      · have s5 : Same (cd x H) (cd x H2) := cd_same (s1.trans s2)
        have s6 := cd_same (D := x) s4
        exact s5.trans (fun c o q => s6 c o (cd_of q (ct_ne q).1))
end
end Kd
namespace Kd
open PySem PySem.Spec PyProof.Rows L2
section
variable {P : Program} {w : World} {K : PySem.W.Frag} {mg : Str → Option Value} {base : Heap} {f : Addr} {fd : FuncData}
def spDims (K : PySem.W.Frag) (C : Addr) : Sp := fun vs H Q _ => ∃ (x : Addr) (ds : List (Str × List (Str × Str))) (ms : List Str), vs = [.ref x] ∧ PlanAt K C H x ds ms ∧ ∀ l xs, H l = none → Paired (DimAt K H) xs ds → Q (.ref l) (upd H l (.lst xs))
def spMeas (K : PySem.W.Frag) (C : Addr) : Sp := fun vs H Q _ => ∃ (x : Addr) (ds : List (Str × List (Str × Str))) (ms : List Str), vs = [.ref x] ∧ PlanAt K C H x ds ms ∧ ∀ l, H l = none → Q (.ref l) (upd H l (.lst (ms.map V.str)))
theorem sc_dims : FnScope ["self"] ["self"] (defScope s_Plan_dimensions) := ⟨rfl, rfl, rfl, by decide +kernel, rfl, by decide +kernel, by decide +kernel⟩
theorem ok_dims {C : Addr} (F : FnP K "dimensions" "Plan.dimensions" s_Plan_dimensions f fd) (T : PlTxt K C) (gl : mg "list" = none) : FnOk P w K mg base CX0 1 f fd ["self"] (spDims K C) := by
  refine F.ok sc_dims (fun vs H Q E h => ?_) (fun cdv A outer s H vs Q E hr h => ?_)
  · obtain ⟨x, ds, ms, rfl, _⟩ := h
    rfl
  · obtain ⟨x, ds, ms, rfl, ⟨dx, a, b, xs, h1, h2, h3, h4⟩, k⟩ := h
    refine ⟨_, PSs.nox (pss_one (ps_ret (pe_callTy call_list_of (by rfl) gl (by decide +kernel) (pa_cons (pe_fld (pv 0) rfl) pa_nil)))), ?_⟩
    exact ⟨_, rfl, x, C, dx, _, _, rfl, h1, T.cl, T.nD, pl_dim a b, a, xs, rfl, .inl (SqL.of h2), fun l hl => k l xs hl h3⟩
theorem sc_meas : FnScope ["self"] ["self"] (defScope s_Plan_measures) := ⟨rfl, rfl, rfl, by decide +kernel, rfl, by decide +kernel, by decide +kernel⟩
theorem ok_meas {C : Addr} (F : FnP K "measures" "Plan.measures" s_Plan_measures f fd) (T : PlTxt K C) (gl : mg "list" = none) : FnOk P w K mg base CX0 1 f fd ["self"] (spMeas K C) := by
  refine F.ok sc_meas (fun vs H Q E h => ?_) (fun cdv A outer s H vs Q E hr h => ?_)
  · obtain ⟨x, ds, ms, rfl, _⟩ := h
    rfl
  · obtain ⟨x, ds, ms, rfl, ⟨dx, a, b, xs, h1, h2, h3, h4⟩, k⟩ := h
    refine ⟨_, PSs.nox (pss_one (ps_ret (pe_callTy call_list_of (by rfl) gl (by decide +kernel) (pa_cons (pe_fld (pv 0) rfl) pa_nil)))), ?_⟩
    exact ⟨_, rfl, x, C, dx, _, _, rfl, h1, T.cl, T.nM, pl_mea a b, b, _, rfl, .inl (SqL.of h4), fun l hl => k l hl⟩
end
end Kd

namespace Kd
open PySem PySem.Spec PyProof.Rows L2
/-! ### the writing of a plan, as a mirror -/
abbrev Dm := Str × List (Str × Str)
/-- a way of the four -/
def IsWay (z : Str) : Prop := z ∈ (["first", "last", "day", "before"] : List Str)
theorem IsWay.nm {z : Str} (h : IsWay z) : Low z ∧ z.length ≤ 8 := by
  have h1 : ∀ z ∈ (["first", "last", "day", "before"] : List Str), (z.cps.toList.all fun c => decide (97 ≤ c ∧ c ≤ 122)) = true ∧ z.length ≤ 8 := by decide +kernel
  obtain ⟨a, b⟩ := h1 z h
  exact ⟨fun c hc => of_decide_eq_true (List.all_eq_true.mp a c hc), b⟩
theorem Low.free {z : Str} (h : Low z) {c : Nat} (hc : c < 97) : c ∉ TL.tl z := fun e => by
  have := (h c e).1
  omega
/-! ### lengths -/
end Kd

namespace Kd
open PySem PySem.Spec PyProof.Rows L2
/-! ### a whole number in figures -/
def Wh (i : Int) : Prop := i.natAbs < 10 ^ 60
end Kd

namespace KdEx
open PySem PySem.Spec PyProof.Rows L2
section
variable {prog : Program} {w : World} {A : Around} {E : Value → Shared → Prop} {s : Shared}
end
section
variable {X : Cx}
/-- a value of which repr is known whatever is under way, and its text -/
def flatT : V → Str
  | .str z => reprText z
  | .non => "None"
  | .int i => toString i
  | _ => ""
def Flat1 : V → Prop
  | .str z => (∀ c ∈ z.cps.toList, c < 16 ^ 8) ∧ z.length ≤ 4000
  | .non => True
  | _ => False
theorem flat_len {v : V} (h : Flat1 v) : (flatT v).length ≤ 50000 := by
  cases v with
  | str z =>
    have := StrLaws.reprText_len z h.1
    show (reprText z).length ≤ 50000
    have h2 := h.2
    omega
  | non => show ("None" : Str).length ≤ 50000; decide +kernel
  | _ => exact h.elim
end
section
variable {X : Cx} {CX : CXT} {k : Nat} {f C : Addr} {fd : FuncData} {ps : List Str} {sp : Sp} {dvs : List V} {ds : List Value} {E : XK} {x m : Str} {p1 p2 pos : Pos} {e : Expr} {es : List Expr} {t : TA}
/-- C.m(e, ..), C a class of the program, m a def of it -/
structure ClsFn (K : PySem.W.Frag) (C f : Addr) (m : Str) : Prop where
  sp : PySem.W.specialIn K (.ref C) "__getattribute__" = some (some (.builtin "type.__getattribute__"))
  rd : PySem.W.readsIn K C (.type "type") = true
  fi : PySem.W.findCls K (.ref C) (.type "type") m = some (.val (.ref f))
  kp : PySem.W.keepIn K (.ref f) = true
theorem pe_clsfn {pl : Sem Bool} (hg : Gl X x) (hm : X.mg x = some (.ref C)) (T : ClsFn X.K C f m) (F : FnOk X.prog X.w X.K X.mg X.base CX k f fd ps sp) (hr : Room k X.A) (hb : Binds X.K fd ps ds) (hd : Vals dvs ds) (hx : Passes CX X E) (ha : PA X (e :: es) t)
    (hdb : (x == ("__debug__" : Str)) = false := by decide)
    (hc : eval (.Call (.Attribute (.Name x p1) m p2) (e :: es) [] pos) X.env = (do
      let ov ← eval (.Name x p1) X.env
      standAt p2.atName
      let (f, first) ← holding [ov] (getMethod ov m pl)
      callWith pos f first (backTo pos (starEach (e :: es) X.env)) (backToKw pos (keywordEach [] X.env))) := by rfl)
    (he : starEach (e :: es) X.env = (false, eval e X.env) :: starEach es X.env := by rfl) (hpl : (backTo pos (starEach es X.env)).any (·.1) = false := by rfl) :
    PE X (.Call (.Attribute (.Name x p1) m p2) (e :: es) [] pos) (tCall sp dvs E t) := by
  refine ⟨fun pins s σ H Q I h => ?_⟩
  refine PySem.W.methodCall_KW (ld_glob I hg hm ?_ hdb) hc
  refine PySem.W.method_cls I.kIn T.sp ?_
  refine PySem.W.cls_value I.kIn T.rd T.fi rfl ?_
  show wpAny _ _ (callWith pos (Value.ref f) [] (backTo pos (starEach (e :: es) X.env)) []) _ _ _
  refine PySem.W.callWith_K (h₀ := X.base) I.ok.mod.kin T.kp (thn (ha.run pos pins _ σ H _ (I.tok _) h) fun us s1 ⟨vs, H1, I1, r, q⟩ => ⟨I1.kIn, ?_⟩) he hpl
  exact run_fn F hr hb hd hx I1 r q
end
/-! ### == and != by an own def -/
section
variable {X : Cx} {CX : CXT} {n : Nat} {C f : Addr} {fd : FuncData} {ps : List Str} {sp : Sp} {E : XK} {op : CmpOp}
end
end KdEx

namespace KdRp
open PySem PySem.Spec PyProof.Rows L2
section
variable {prog : Program} {w : World}
/-- what repr makes of x in this heap is some text of at most L signs -/
def RepW (prog : Program) (w : World) (h : Heap) (d : Nat) (x : Value) (L : Nat) : Prop :=
  ∀ (A : Around) (s : Shared), A.units + d < cLine → s.heap = h → ∀ b, b + L ≤ sizeLine → ∀ (E : Value → Shared → Prop) (Q : Str → Shared → Prop), (∀ t tk, t.length ≤ L → Q t { s with toks := tk }) → wpAny (model prog w) A (pyReprUnder b x) Q E s
theorem RepW.flat {h : Heap} {d L : Nat} {x : Value} {t : Str} (r : ReprIs prog w x t) (hl : t.length ≤ L) : RepW prog w h d x L := fun A s _ _ b hb E Q q => r b (by omega) A E s Q fun tk => q t tk hl
theorem fold_w {h : Heap} {d L : Nat} {A : Around} {E : Value → Shared → Prop} (hu : A.units + d < cLine) : ∀ (l : List Value) (acc : Array Str) (n : Nat) (s : Shared) (Q : (Array Str × Nat) → Shared → Prop), s.heap = h → (∀ x ∈ l, RepW prog w h d x L) → n + 1 + (L + 2) * l.length ≤ sizeLine →
    (∀ (ts : List Str) (m : Nat) (tk : Nat), ts.length = l.length → (∀ t ∈ ts, t.length ≤ L) → Q ⟨acc ++ ts.toArray, m⟩ { s with toks := tk }) → wpAny (model prog w) A (forIn l (⟨acc, n⟩ : (Array Str × Nat)) tupBody) Q E s := by
  intro l
  induction l with
  | nil =>
    intro acc n s Q _ _ _ q
    have q0 := q [] n s.toks rfl (fun _ z => (nomatch z))
    simp only [List.forIn_nil]
    exact wpAny_pure (by simpa using q0)
  | cons x l ih =>
    intro acc n s Q hs hx hn q
    rw [List.length_cons, Nat.mul_succ] at hn
    rw [List.forIn_cons]
    refine wpAny_bind (wpAny_bind (hx x (List.mem_cons_self ..) A s hu hs (n + 1) (by omega) E _ fun t tk ht => wpAny_pure ?_))
    refine ih (acc.push t) (n + (t.length + 2)) { s with toks := tk } Q hs (fun y hy => hx y (List.mem_cons_of_mem _ hy)) (by omega) fun ts m tk' hl hts => ?_
    have q1 := q (t :: ts) m tk' (by rw [List.length_cons, hl, List.length_cons]) fun y hy => by
      rcases List.mem_cons.mp hy with rfl | hy
      · exact ht
      · exact hts y hy
    simpa using q1
theorem piled_of : ∀ (ts : List Str) {L : Nat}, (∀ t ∈ ts, t.length ≤ L) → piled ts ≤ (L + 2) * ts.length
  | [], _, _ => Nat.zero_le _
  | t :: ts, L, h => by
    have ih := piled_of ts fun y hy => h y (List.mem_cons_of_mem _ hy)
    have h1 := h t (List.mem_cons_self ..)
    rw [piled_cons, List.length_cons, Nat.mul_succ]
    omega
theorem join_le (ts : List Str) {L : Nat} (h : ∀ t ∈ ts, t.length ≤ L) : (Str.join ", " ts).length ≤ (L + 2) * ts.length := by
  have p := piled_of ts h
  cases ts with
  | nil => show (Str.join ", " []).length ≤ _; exact Nat.zero_le _
  | cons t ts =>
    have e := join_length_add (t :: ts) (by simp)
    omega
/-- a tuple's signs -/
abbrev tupL (L n : Nat) : Nat := (L + 2) * n + 8
theorem at_w {h : Heap} {d L b : Nat} {A : Around} {E : Value → Shared → Prop} {s : Shared} {a : Addr} {o : Obj} {items : Array Value} {n : Nat} {Q : Fin → Shared → Prop} (hu : A.units + d < cLine) (hs : s.heap = h) (ha : h.get? a = some o) (hd : o.data = .seq items n)
    (hx : ∀ x ∈ items.toList, RepW prog w h d x L) (hb : b + tupL L items.size ≤ sizeLine) (q : ∀ m u tk, m.length ≤ tupL L items.size → Q (.done (.ret (.str m u))) { s with toks := tk }) : wpAny (model prog w) A (Builtin.tupleReprAt b ⟨[.ref a], []⟩) Q E s := by
  have hb' : b + ((L + 2) * items.size + 8) ≤ sizeLine := hb
  rw [tuple_repr_tree]
  refine wpAny_bind (fmt_underWay fun c => ?_)
  cases c with
  | true =>
    refine PySem.W.KFB.if_so rfl ?_
    refine wpAny_bind (wpAny_rule ?_)
    refine wpAny_bind (wpAny_mkStr (wpAny_pure ?_) (by decide +kernel))
    exact q "(...)" _ _ (Nat.le_trans fmt_way (by show 5 ≤ (L + 2) * items.size + 8; omega))
  | false =>
    refine PySem.W.KFB.if_not rfl ?_
    unfold tupleReprRest Builtin.Tuple.tupleItemsOf
    refine wpAny_bind (wpAny_bind (wpAny_seqItems (by rw [hs]; exact ha) hd (wpAny_pure ?_)))
    rw [← Array.forIn_toList]
    have el : items.toList.length = items.size := Array.length_toList
    refine wpAny_bind (fold_w hu _ _ _ _ _ hs hx (by rw [el]; omega) fun ts m tk hl hts => ?_)
    have hj := join_le ts hts
    rw [hl, el] at hj
    have e1 : ((("(" : String) : Str)).length = 1 := rfl
    have e3 : (((if items.size == 1 then ",)" else ")" : String) : Str)).length ≤ 2 := by split <;> decide +kernel
    have e4 : (#[] ++ ts.toArray).toList = ts := by simp
    have hm : ((("(" : Str) ++ Str.join ", " ts ++ ((if items.size == 1 then ",)" else ")" : String) : Str)) : Str).length ≤ tupL L items.size := by
      rw [strLen_append, strLen_append, e1]
      show _ ≤ (L + 2) * items.size + 8
      omega
    have hz := Nat.le_trans hm (Nat.le_trans (Nat.le_add_left _ b) hb)
    refine wpAny_bind (wpAny_mkStr (wpAny_pure ?_) (by simpa using hz))
    have q1 := q _ tk (tk + 1) hm
    simpa using q1
/-- a tuple within -/
theorem RepW.tup {h : Heap} {d L : Nat} {a : Addr} {o : Obj} {items : Array Value} {n : Nat} (ha : h.get? a = some o) (hc : o.cls = .type "tuple") (hd : o.data = .seq items n) (hx : ∀ x ∈ items.toList, RepW prog w h d x L) : RepW prog w h (d + 2) (.ref a) (tupL L items.size) := by
  intro A s hu hs b hb E Q q
  have hT : s.TypeIs (.ref a) "tuple" := ⟨o, by rw [hs]; exact ha, hc⟩
  refine wpAny_pyReprUnder_ref (by omega) (wpAny_pyReprObjUnder_twin (twin := "tuple.__repr__.under") hT F.slot_tuple_repr rfl (by omega) ?_)
  refine call_twin_own (F.quiet_tuple_repr_under _) F.entry_tuple_repr_under F.check_tuple_repr_under hT F.slot_tuple_repr (F.args_tuple_repr_1 _) (wpOwn_of_wpAny ?_)
  refine at_w (by rw [units_under_tuple_repr_under]; omega) hs ha hd hx hb fun m u tk hm => ?_
  exact ⟨⟨m, u, rfl⟩, m, u, rfl, q m tk hm⟩
/-- repr(t) -/
theorem repr_w {h : Heap} {d L : Nat} {A : Around} {E : Value → Shared → Prop} {s : Shared} {a : Addr} {o : Obj} {items : Array Value} {n : Nat} {Q : Value → Shared → Prop} (hu : A.units + (d + 8) < cLine) (hs : s.heap = h) (ha : h.get? a = some o) (hc : o.cls = .type "tuple") (hd : o.data = .seq items n)
    (hx : ∀ x ∈ items.toList, RepW prog w h d x L) (hb : tupL L items.size ≤ sizeLine) (q : ∀ (m : Str) (u tk : Tok), Q (.str m u) { s with toks := tk }) : wpAny (model prog w) A (call (.builtin "repr") [.ref a]) Q E s := by
  have hT : s.TypeIs (.ref a) "tuple" := ⟨o, by rw [hs]; exact ha, hc⟩
  refine call_repr_slot (by omega) hT F.slot_tuple_repr ?_
  refine wpAny_call (codeAny_call_builtin_own (Code.quiet_builtin _ (by decide +kernel)) F.entry_tuple_repr (F.slot_tuple_repr.check _ _ _ _ _ _ _ _ hT (F.args_tuple_repr_1 _) (wpOwn_of_wpAny ?_)))
  refine at_w (b := 0) (by
    have e : A.in1.units ≤ A.units + 1 := by first | exact Nat.le_refl _ | (simp [Around.in1])
    rw [units_under_tuple_repr]
    omega) hs ha hd hx (by omega) fun m u tk _ => ?_
  exact ⟨m, u, rfl, q m u tk⟩
end
/-! ### repr of what a refusal keeps -/
theorem RepW.mono {prog : Program} {w : World} {h : Heap} {d d' L L' : Nat} {x : Value} (r : RepW prog w h d x L) (hd : d ≤ d') (hl : L ≤ L') : RepW prog w h d' x L' :=
  fun A s hu hs b hb E Q q => r A s (by omega) hs b (by omega) E Q fun t tk ht => q t tk (by omega)
/-- a value without parts, of a few signs -/
def FlatS : V → Prop
  | .str z => (∀ c ∈ z.cps.toList, c < 16 ^ 8) ∧ z.length ≤ 100
  | .int i => i.natAbs.log2 < 1920
  | .non => True
  | _ => False
theorem flat_w {prog : Program} {w : World} {h : Heap} {v : V} {u : Value} (r : RelV v u) (f : FlatS v) : RepW prog w h 0 u 2000 := by
  cases v with
  | str z =>
    obtain ⟨t, rfl⟩ := r
    have := StrLaws.reprText_len z f.1
    have f2 := f.2
    have hl : (reprText z).length ≤ 2000 := by omega
    exact .flat (ReprIs.str z t (Nat.le_trans hl (by decide))) hl
  | int i =>
    obtain ⟨t, rfl⟩ := r
    exact .flat (ReprIs.int t f) (Nat.le_trans (int_text_len_1921 f) (by decide))
  | non =>
    cases r
    exact .flat ReprIs.none (by decide +kernel)
  | _ => exact f.elim
theorem flats_w {prog : Program} {w : World} {h : Heap} : ∀ {ys : List V} {us : List Value}, Vals ys us → (∀ y ∈ ys, FlatS y) → ∀ u ∈ us, RepW prog w h 0 u 2000
  | [], _, r, _, u, hu => by
    cases r
    cases hu
  | y :: ys, _, r, hy, u, hu => by
    cases r with
    | cons r1 r2 =>
      rcases List.mem_cons.mp hu with rfl | hu
      · exact flat_w r1 (hy y (List.mem_cons_self ..))
      · exact flats_w r2 (fun z hz => hy z (List.mem_cons_of_mem _ hz)) u hu
/-- a tuple of such -/
def Tup1 (K : PySem.W.Frag) (H : Hp) (y : V) : Prop := ∃ (b : Addr) (zs : List V), y = .ref b ∧ SqT K H b zs ∧ zs.length ≤ 40 ∧ ∀ z ∈ zs, FlatS z
def Rep2 (K : PySem.W.Frag) (x : V) (H : Hp) : Prop := (∃ z : Str, x = .str z ∧ KdEx.Flat1 (.str z)) ∨ (∃ i : Int, x = .int i ∧ i.natAbs.log2 < 1920) ∨ x = .non ∨ ∃ (a : Addr) (ys : List V), x = .ref a ∧ SqT K H a ys ∧ ys.length ≤ 40 ∧ ∀ y ∈ ys, FlatS y ∨ Tup1 K H y
section
variable {X : Cx} {pins : List (Addr × Obj)} {σ : L2.St} {H : Hp} {s : Shared}
theorem parts_w (I : Inv X pins σ H s) : ∀ {ys : List V} {us : List Value}, Vals ys us → (∀ y ∈ ys, FlatS y ∨ Tup1 X.K H y) → ∀ u ∈ us, RepW X.prog X.w s.heap 2 u 80100
  | [], _, r, _, u, hu => by
    cases r
    cases hu
  | y :: ys, _, r, hy, u, hu => by
    cases r with
    | cons r1 r2 =>
      rcases List.mem_cons.mp hu with rfl | hu
      · rcases hy y (List.mem_cons_self ..) with f | ⟨b, zs, rfl, hb, hl, hz⟩
        · exact (flat_w r1 f).mono (by decide) (by decide)
        · cases r1
          obtain ⟨its, rv, ⟨o, ho, hcl, n, hd⟩, _⟩ := I.tuple hb
          have el : its.toArray.size = zs.length := by rw [List.size_toArray, ← rv.length]
          refine RepW.mono (RepW.tup (d := 0) (L := 2000) ho hcl hd (by simpa using flats_w rv hz)) (by decide) ?_
          show (2000 + 2) * its.toArray.size + 8 ≤ 80100
          rw [el]
          omega
      · exact parts_w I r2 (fun z hz => hy z (List.mem_cons_of_mem _ hz)) u hu
def rRep2 (K : PySem.W.Frag) : List V → Hp → VK → Prop := fun xs H Q => ∃ x, xs = [x] ∧ Rep2 K x H ∧ ∀ m : Str, Q (.str m) H
theorem cr_rep2 (hu : X.A.units + 64 < cLine) : CallR X (.builtin "repr") (rRep2 X.K) := by
  intro pins s σ H xs us Q I r h
  obtain ⟨x, rfl, hx, q⟩ := h
  obtain ⟨u, rfl, rx⟩ := vals1 r
  rcases hx with ⟨z, rfl, hz⟩ | ⟨i, rfl, hi⟩ | rfl | ⟨a, ys, rfl, ht, hl, hy⟩
  · obtain ⟨t, rfl⟩ := rx
    exact PySem.P.repr_of_str ⟨.str _, H, I.tok _, ⟨_, rfl⟩, q _⟩ (Nat.le_trans (KdEx.flat_len (v := .str z) hz) (by decide))
  · obtain ⟨t, rfl⟩ := rx
    exact PySem.P.repr_of_int hi ⟨.str _, H, I.tok _, ⟨_, rfl⟩, q _⟩
  · cases rx
    exact PySem.P.repr_of_none ⟨.str _, H, I.tok _, ⟨_, rfl⟩, q _⟩
  · cases rx
    obtain ⟨its, rv, ⟨o, ho, hcl, n, hd⟩, _⟩ := I.tuple ht
    have el : its.toArray.size = ys.length := by rw [List.size_toArray, ← rv.length]
    refine repr_w (d := 2) (L := 80100) (by omega) rfl ho hcl hd (by simpa using parts_w I rv hy) (Nat.le_trans (show (80100 + 2) * its.toArray.size + 8 ≤ 4000000 by rw [el]; omega) (by decide)) fun m u tk => ⟨.str m, H, I.tok _, ⟨u, rfl⟩, q m⟩
end
end KdRp

namespace Kd
open PySem PySem.Spec PyProof.Rows L2
/-! ### kinds -/
/-- a value as the laws draw it -/
inductive Fv where
  | i (z : Int)
  | s (z : Str)
  deriving DecidableEq
def Fv.v : Fv → V
  | .i z => .int z
  | .s z => .str z
def Fv.d : Fv → PyData
  | .i z => .int z
  | .s z => .str z
theorem Fv.v_inj {a b : Fv} (h : a.v = b.v) : a = b := by
  cases a <;> cases b <;> simp [Fv.v] at h <;> rw [h]
theorem Fv.scal (a b : Fv) : L2.scal a.v b.v = true := by
  cases a <;> cases b <;> rfl
theorem Fv.ne (a b : Fv) : (!decide (a.v = b.v)) = !decide (a = b) := by
  by_cases h : a = b
  · rw [h]
    simp
  · have h2 : ¬ a.v = b.v := fun q => h (Fv.v_inj q)
    rw [decide_eq_false h, decide_eq_false h2]
theorem Fv.flat (a : Fv) : flatV a.v = true := by cases a <;> rfl
abbrev Kind := Int × List Fv
section
variable {P : Program} {w : World} {K : PySem.W.Frag} {mg : Str → Option Value} {base : Heap} {f : Addr} {fd : FuncData}
theorem Fv.dp {H : Hp} (a : Fv) : Dp K H a.v a.d := by
  cases a
  · exact .int _
  · exact .str _
def KindAt (K : PySem.W.Frag) (H : Hp) (x : V) (k : Kind) : Prop := ∃ p q, x = .ref p ∧ SqT K H p [.int k.1, .ref q] ∧ SqT K H q (k.2.map Fv.v)
theorem KindAt.same {H H' : Hp} {x : V} {k : Kind} (e : Same H H') : KindAt K H x k → KindAt K H' x k := fun ⟨p, q, h1, h2, h3⟩ => ⟨p, q, h1, Same.seqT e h2, Same.seqT e h3⟩
def KindsAt (K : PySem.W.Frag) (H : Hp) (l : Addr) (ks : List Kind) : Prop := ∃ xs, SqL K H l xs ∧ Paired (KindAt K H) xs ks
theorem KindsAt.same {H H' : Hp} {l : Addr} {ks : List Kind} (e : Same H H') : KindsAt K H l ks → KindsAt K H' l ks := fun ⟨xs, h1, h2⟩ => ⟨xs, e.seq h1, PySem.Paired.mono (fun _ _ => KindAt.same e) h2⟩
theorem map_at {α β : Type} {g : α → β} {l : List α} {i : Nat} (h : i < l.length) : (l.map g)[i]? = some (g l[i]) := by rw [List.getElem?_map, List.getElem?_eq_getElem h]; rfl
end
/-! ### rows -/
inductive Rw where
  | kind (d key : Str) (day : Int) (vals : List Fv)
  | fact (name : Str) (day : Int) (keys : List Str) (nums : List Int)
  | forget (name : Str)
def Rw.at (K : PySem.W.Frag) (H : Hp) (p : Addr) : Rw → Prop
  | .kind d key day vals => ∃ q, SqT K H p [.str "kind", .str d, .str key, .int day, .ref q] ∧ SqT K H q (vals.map Fv.v)
  | .fact name day keys nums => ∃ q1 q2, SqT K H p [.str "fact", .str name, .int day, .ref q1, .ref q2] ∧ SqT K H q1 (keys.map V.str) ∧ SqT K H q2 (nums.map V.int)
  | .forget name => SqT K H p [.str "forget", .str name]
theorem Rw.same {K : PySem.W.Frag} {H H' : Hp} {p : Addr} (e : Same H H') : ∀ {r : Rw}, r.at K H p → r.at K H' p
  | .kind .., ⟨q, h1, h2⟩ => ⟨q, Same.seqT e h1, Same.seqT e h2⟩
  | .fact .., ⟨q1, q2, h1, h2, h3⟩ => ⟨q1, q2, Same.seqT e h1, Same.seqT e h2, Same.seqT e h3⟩
  | .forget .., h => Same.seqT e h
/-- a short text of letters and figures, and more -/
structure Tx (z : Str) : Prop where
  le : z.length ≤ 14
  ok : ∀ c ∈ z.cps.toList, c < 128
def Nu (i : Int) : Prop := i.natAbs < 2 ^ 210
def Fv.ok : Fv → Prop
  | .i z => Nu z
  | .s z => Tx z
def Rw.ok : Rw → Prop
  | .kind d key day vals => Tx d ∧ Tx key ∧ Nu day ∧ vals.length ≤ 10 ∧ ∀ v ∈ vals, v.ok
  | .fact name day keys nums => Tx name ∧ Nu day ∧ (keys.length ≤ 10 ∧ ∀ z ∈ keys, Tx z) ∧ nums.length ≤ 10 ∧ ∀ i ∈ nums, Nu i
  | .forget name => Tx name
theorem IsNm.tx {z : Str} (h : IsNm z) : Tx z := ⟨by have := h.le8; omega, fun c hc => by have := h.low c hc; omega⟩
theorem Tx.sok {z : Str} (h : Tx z) : PyData.strOk z = true := by
  unfold PyData.strOk
  rw [Array.all_eq_true']
  intro c hc
  have := h.ok c (Array.mem_toList_iff.mpr hc)
  exact decide_eq_true (by omega)
theorem Tx.flat {z : Str} (h : Tx z) : KdRp.FlatS (.str z) := ⟨fun c hc => Nat.lt_of_lt_of_le (h.ok c hc) (by decide), by have := h.le; omega⟩
theorem Nu.flat {i : Int} (h : Nu i) : KdRp.FlatS (.int i) := by
  show i.natAbs.log2 < 1920
  by_cases z : i.natAbs = 0
  · rw [z]
    decide
  · exact Nat.lt_trans ((Nat.log2_lt z).mpr h) (by decide)
theorem Fv.ok.flat : ∀ {v : Fv}, v.ok → KdRp.FlatS v.v
  | .i _, h => Nu.flat h
  | .s _, h => Tx.flat h
theorem tx_kind : Tx ("kind" : Str) := ⟨by decide +kernel, by decide +kernel⟩
theorem tx_fact : Tx ("fact" : Str) := ⟨by decide +kernel, by decide +kernel⟩
theorem tx_forget : Tx ("forget" : Str) := ⟨by decide +kernel, by decide +kernel⟩
/-- repr of a row is some text -/
theorem Rw.rep {K : PySem.W.Frag} {H : Hp} {p : Addr} : ∀ {r : Rw}, r.at K H p → r.ok → KdRp.Rep2 K (.ref p) H
  | .kind d key day vals, ⟨q, h1, h2⟩, ⟨o1, o2, o3, o4, o5⟩ => .inr (.inr (.inr ⟨p, _, rfl, h1, by show 5 ≤ 40; decide, fun y hy => by
      simp only [List.mem_cons, List.not_mem_nil, or_false] at hy
      rcases hy with rfl | rfl | rfl | rfl | rfl
      · exact .inl tx_kind.flat
      · exact .inl o1.flat
      · exact .inl o2.flat
      · exact .inl o3.flat
      · exact .inr ⟨q, _, rfl, h2, by rw [List.length_map]; omega, fun z hz => by
          obtain ⟨v, hv, rfl⟩ := List.mem_map.mp hz
          exact (o5 v hv).flat⟩⟩))
  | .fact name day keys nums, ⟨q1, q2, h1, h2, h3⟩, ⟨o1, o2, ⟨o3, o4⟩, o5, o6⟩ => .inr (.inr (.inr ⟨p, _, rfl, h1, by show 5 ≤ 40; decide, fun y hy => by
      simp only [List.mem_cons, List.not_mem_nil, or_false] at hy
      rcases hy with rfl | rfl | rfl | rfl | rfl
      · exact .inl tx_fact.flat
      · exact .inl o1.flat
      · exact .inl o2.flat
      · exact .inr ⟨q1, _, rfl, h2, by rw [List.length_map]; omega, fun z hz => by
          obtain ⟨v, hv, rfl⟩ := List.mem_map.mp hz
          exact (o4 v hv).flat⟩
      · exact .inr ⟨q2, _, rfl, h3, by rw [List.length_map]; omega, fun z hz => by
          obtain ⟨v, hv, rfl⟩ := List.mem_map.mp hz
          exact (o6 v hv).flat⟩⟩))
  | .forget name, h1, o1 => .inr (.inr (.inr ⟨p, _, rfl, h1, by show 2 ≤ 40; decide, fun y hy => by
      simp only [List.mem_cons, List.not_mem_nil, or_false] at hy
      rcases hy with rfl | rfl
      · exact .inl tx_forget.flat
      · exact .inl (Tx.flat o1)⟩))
/-- a small letter or a figure -/
def KeyC (c : Nat) : Prop := (97 ≤ c ∧ c ≤ 122) ∨ (48 ≤ c ∧ c ≤ 57)
structure Ky (z : Str) : Prop where
  ok : ∀ c ∈ z.cps.toList, KeyC c
  ge : 1 ≤ z.length
  le : z.length ≤ 12
theorem Ky.tx {z : Str} (h : Ky z) : Tx z := ⟨by have := h.le; omega, fun c hc => by rcases h.ok c hc with q | q <;> omega⟩
theorem Wh.nu {i : Int} (h : Wh i) : Nu i := Nat.lt_of_lt_of_le h (by decide)
def Fv.good : Fv → Prop
  | .i z => Wh z
  | .s z => Ky z
theorem Fv.good.ok : ∀ {v : Fv}, v.good → v.ok
  | .i _, h => Wh.nu h
  | .s _, h => Ky.tx h
/-- a row of a plan of these lists -/
def Rw.good (ds : List Dm) (ms : List Str) : Rw → Prop
  | .kind d key day vals => (∃ e ∈ ds, d = e.1 ∧ vals.length = e.2.length) ∧ Ky key ∧ Wh day ∧ ∀ v ∈ vals, v.good
  | .fact name day keys nums => Ky name ∧ Wh day ∧ (keys.length = ds.length ∧ ∀ z ∈ keys, Ky z) ∧ nums.length = ms.length ∧ ∀ i ∈ nums, Wh i
  | .forget name => Ky name

/-! ### the writing of rows, as a mirror -/
theorem Ky.free {z : Str} (h : Ky z) {c : Nat} (hc : c < 48 ∨ (57 < c ∧ c < 97) ∨ 122 < c) : c ∉ TL.tl z := fun q => by
  rcases h.ok c q with e | e <;> omega
/-- a row of good parts, whatever the plan -/
def Rw.fine : Rw → Prop
  | .kind d key day vals => IsNm d ∧ Ky key ∧ Wh day ∧ vals.length ≤ 5 ∧ ∀ v ∈ vals, v.good
  | .fact name day keys nums => Ky name ∧ Wh day ∧ (keys.length ≤ 4 ∧ ∀ z ∈ keys, Ky z) ∧ nums.length ≤ 4 ∧ ∀ i ∈ nums, Wh i
  | .forget name => Ky name
/-! ### one writing for each -/
/-! ### rows as data -/
def rwD : Rw → PyData
  | .kind d key day vals => .tuple [.str "kind", .str d, .str key, .int day, .tuple (vals.map Fv.d)]
  | .fact name day keys nums => .tuple [.str "fact", .str name, .int day, .tuple (keys.map PyData.str), .tuple (nums.map PyData.int)]
  | .forget name => .tuple [.str "forget", .str name]
section
variable {K : PySem.W.Frag}
theorem fvs_dp {H : Hp} : ∀ vs : List Fv, DpAll K H (vs.map Fv.v) (vs.map Fv.d)
  | [] => .nil
  | v :: vs => .cons v.dp (fvs_dp vs)
theorem ints_dpA {H : Hp} : ∀ vs : List Int, DpAll K H (vs.map V.int) (vs.map PyData.int)
  | [] => .nil
  | v :: vs => .cons (.int v) (ints_dpA vs)
theorem strs_dpA {H : Hp} : ∀ vs : List Str, DpAll K H (vs.map V.str) (vs.map PyData.str)
  | [] => .nil
  | v :: vs => .cons (.str v) (strs_dpA vs)
theorem Rw.dp {H : Hp} {p : Addr} : ∀ {r : Rw}, r.at K H p → Dp K H (.ref p) (rwD r)
  | .kind d key day vals, ⟨q, h1, h2⟩ => .tup h1 (.cons (.str _) (.cons (.str _) (.cons (.str _) (.cons (.int _) (.cons (.tup h2 (fvs_dp vals)) .nil)))))
  | .fact name day keys nums, ⟨q1, q2, h1, h2, h3⟩ => .tup h1 (.cons (.str _) (.cons (.str _) (.cons (.int _) (.cons (.tup h2 (strs_dpA keys)) (.cons (.tup h3 (ints_dpA nums)) .nil)))))
  | .forget name, h => .tup h (.cons (.str _) (.cons (.str _) .nil))
theorem lay_intsA : ∀ xs : List Int, PyData.canLayAll0 (xs.map PyData.int) = true ∧ PyData.depthAll (xs.map PyData.int) = 0
  | [] => ⟨rfl, rfl⟩
  | x :: xs => by
    obtain ⟨h1, h2⟩ := lay_intsA xs
    constructor
    · simp only [List.map_cons, PyData.canLayAll0, PyData.canLay0, h1, Bool.and_self]
    · simp only [List.map_cons, PyData.depthAll, PyData.depth, h2, Nat.max_self]
theorem Rw.fine.ok : ∀ {r : Rw}, r.fine → r.ok
  | .kind d key day vals, ⟨h1, h2, h3, h4, h5⟩ => ⟨h1.tx, h2.tx, h3.nu, by omega, fun v hv => (h5 v hv).ok⟩
  | .fact name day keys nums, ⟨h1, h2, ⟨h3, h4⟩, h5, h6⟩ => ⟨h1.tx, h2.nu, ⟨by omega, fun z hz => (h4 z hz).tx⟩, by omega, fun i hi => (h6 i hi).nu⟩
  | .forget name, h => Ky.tx h
/-- a list of rows stands at l -/
def RwAt (K : PySem.W.Frag) (H : Hp) (x : V) (r : Rw) : Prop := ∃ p, x = .ref p ∧ r.at K H p
def RwsAt (K : PySem.W.Frag) (H : Hp) (l : Addr) (rs : List Rw) : Prop := ∃ xs, SqL K H l xs ∧ Paired (RwAt K H) xs rs
theorem RwAt.same {H H' : Hp} {x : V} {r : Rw} (e : Same H H') : RwAt K H x r → RwAt K H' x r := fun ⟨p, h1, h2⟩ => ⟨p, h1, Rw.same e h2⟩
theorem RwsAt.same {H H' : Hp} {l : Addr} {rs : List Rw} (e : Same H H') : RwsAt K H l rs → RwsAt K H' l rs := fun ⟨xs, h1, h2⟩ => ⟨xs, e.seq h1, PySem.Paired.mono (fun _ _ => RwAt.same e) h2⟩
theorem rws_dp {H : Hp} : ∀ {xs : List V} {rs : List Rw}, Paired (RwAt K H) xs rs → DpAll K H xs (rs.map rwD)
  | _, _, .nil => .nil
  | _, _, .cons ⟨p, e1, e2⟩ t => by
    subst e1
    exact .cons (Rw.dp e2) (rws_dp t)
theorem RwsAt.dp {H : Hp} {l : Addr} {rs : List Rw} (h : RwsAt K H l rs) : Dp K H (.ref l) (.list (rs.map rwD)) := by
  obtain ⟨xs, h1, h2⟩ := h
  exact .lst h1 (rws_dp h2)
end
end Kd

/-! lists of pairs as tables -/
namespace Kd
open L2
section
variable {α β : Type} [DecidableEq α]
def lk (ms : List (α × β)) (k : α) : Option β := (ms.find? fun m => decide (m.1 = k)).map (·.2)
def pt (ms : List (α × β)) (k : α) (b : β) : List (α × β) := if (ms.any fun m => decide (m.1 = k)) = true then ms.map (fun m => if m.1 = k then (m.1, b) else m) else ms ++ [(k, b)]
def dp (ms : List (α × β)) (k : α) : List (α × β) := ms.filter fun m => decide (m.1 ≠ k)
theorem lk_pos {m : α × β} {r : List (α × β)} {k : α} (e : m.1 = k) : lk (m :: r) k = some m.2 := by simp [lk, List.find?_cons, e]
theorem lk_neg {m : α × β} {r : List (α × β)} {k : α} (e : ¬ m.1 = k) : lk (m :: r) k = lk r k := by simp [lk, List.find?_cons, e]
theorem lk_any (k : α) : ∀ ms : List (α × β), (ms.any fun m => decide (m.1 = k)) = (lk ms k).isSome
  | [] => rfl
  | m :: r => by
    rw [List.any_cons]
    by_cases e : m.1 = k
    · rw [lk_pos e, decide_eq_true e]; rfl
    · rw [lk_neg e, decide_eq_false e, Bool.false_or]; exact lk_any k r
theorem lk_mem {k : α} {b : β} : ∀ {ms : List (α × β)}, lk ms k = some b → (k, b) ∈ ms
  | [], h => by cases h
  | m :: r, h => by
    by_cases e : m.1 = k
    · rw [lk_pos e] at h
      have e2 := Option.some.inj h
      rw [← e, ← e2]
      exact List.mem_cons_self ..
    · rw [lk_neg e] at h
      exact List.mem_cons_of_mem _ (lk_mem h)
theorem lk_of_mem {k : α} {b : β} : ∀ {ms : List (α × β)}, (ms.map (·.1)).Nodup → (k, b) ∈ ms → lk ms k = some b
  | [], _, h => by cases h
  | m :: r, hn, h => by
    rw [List.map_cons, List.nodup_cons] at hn
    rcases List.mem_cons.mp h with e | h
    · rw [← e]; exact lk_pos rfl
    · have ne : ¬ m.1 = k := fun e => hn.1 (by rw [e]; exact List.mem_map_of_mem (f := (·.1)) h)
      rw [lk_neg ne]
      exact lk_of_mem hn.2 h
theorem lk_none {k : α} : ∀ {ms : List (α × β)}, lk ms k = none ↔ ∀ m ∈ ms, m.1 ≠ k
  | [] => ⟨fun _ m hm => (by cases hm), fun _ => rfl⟩
  | m :: r => by
    by_cases e : m.1 = k
    · rw [lk_pos e]
      exact ⟨fun h => (by cases h), fun h => absurd e (h m (List.mem_cons_self ..))⟩
    · rw [lk_neg e, lk_none]
      constructor
      · intro h x hx
        rcases List.mem_cons.mp hx with rfl | hx
        · exact e
        · exact h x hx
      · exact fun h x hx => h x (List.mem_cons_of_mem _ hx)
theorem lk_some_key {k : α} {ms : List (α × β)} (h : k ∈ ms.map (·.1)) : ∃ b, lk ms k = some b := by
  cases e : lk ms k with
  | some b => exact ⟨b, rfl⟩
  | none =>
    obtain ⟨m, hm, hk⟩ := List.mem_map.mp h
    exact absurd hk (lk_none.mp e m hm)
theorem pt_old {ms : List (α × β)} {k : α} {b c : β} (h : lk ms k = some c) : pt ms k b = ms.map (fun m => if m.1 = k then (m.1, b) else m) := by
  unfold pt
  rw [lk_any, h]
  rfl
theorem pt_new {ms : List (α × β)} {k : α} {b : β} (h : lk ms k = none) : pt ms k b = ms ++ [(k, b)] := by
  unfold pt
  rw [lk_any, h]
  rfl
theorem mem_pt {ms : List (α × β)} {k : α} {b : β} {m : α × β} (h : m ∈ pt ms k b) : m = (k, b) ∨ (m ∈ ms ∧ m.1 ≠ k) := by
  cases e : lk ms k with
  | none =>
    rw [pt_new e] at h
    rcases List.mem_append.mp h with h | h
    · exact .inr ⟨h, lk_none.mp e m h⟩
    · exact .inl (List.mem_singleton.mp h)
  | some c =>
    rw [pt_old e] at h
    obtain ⟨x, hx, rfl⟩ := List.mem_map.mp h
    by_cases q : x.1 = k
    · rw [if_pos q, q]; exact .inl rfl
    · rw [if_neg q]; exact .inr ⟨hx, q⟩
theorem pt_keys_old {ms : List (α × β)} {k : α} {b c : β} (h : lk ms k = some c) : (pt ms k b).map (·.1) = ms.map (·.1) := by
  rw [pt_old h, List.map_map]
  apply List.map_congr_left
  intro m _
  show (if m.1 = k then (m.1, b) else m).1 = m.1
  split <;> rfl
theorem pt_keys_new {ms : List (α × β)} {k : α} {b : β} (h : lk ms k = none) : (pt ms k b).map (·.1) = ms.map (·.1) ++ [k] := by
  rw [pt_new h, List.map_append]
  rfl
theorem pt_nodup {ms : List (α × β)} {k : α} {b : β} (hn : (ms.map (·.1)).Nodup) : ((pt ms k b).map (·.1)).Nodup := by
  cases e : lk ms k with
  | none =>
    rw [pt_keys_new e, List.nodup_append]
    refine ⟨hn, List.nodup_cons.mpr ⟨List.not_mem_nil, List.nodup_nil⟩, fun x hx y hy z => ?_⟩
    rw [List.mem_singleton.mp hy] at z
    obtain ⟨m, hm, hk⟩ := List.mem_map.mp hx
    exact lk_none.mp e m hm (hk.trans z)
  | some c => rw [pt_keys_old e]; exact hn
theorem lk_snoc {k j : α} {b : β} : ∀ {ms : List (α × β)}, lk ms k = none → lk (ms ++ [(k, b)]) j = if j = k then some b else lk ms j
  | [], _ => by
    by_cases q : j = k
    · rw [if_pos q]; exact lk_pos q.symm
    · rw [if_neg q]; exact lk_neg (fun z => q z.symm)
  | m :: r, h => by
    rw [List.cons_append]
    by_cases p : m.1 = k
    · rw [lk_pos p] at h; cases h
    · rw [lk_neg p] at h
      by_cases q : m.1 = j
      · rw [lk_pos q, lk_pos q, if_neg (fun z => p (q.trans z))]
      · rw [lk_neg q, lk_neg q, lk_snoc h]
theorem lk_repl {k j : α} {b : β} : ∀ {ms : List (α × β)}, lk (ms.map fun m => if m.1 = k then (m.1, b) else m) j = (lk ms j).map fun x => if j = k then b else x
  | [] => rfl
  | m :: r => by
    rw [List.map_cons]
    by_cases h : m.1 = k
    · rw [if_pos h]
      by_cases q : m.1 = j
      · rw [lk_pos (m := (m.1, b)) q, lk_pos q, Option.map_some, if_pos (q.symm.trans h)]
      · rw [lk_neg (m := (m.1, b)) q, lk_neg q, lk_repl]
    · rw [if_neg h]
      by_cases q : m.1 = j
      · rw [lk_pos q, lk_pos q, Option.map_some, if_neg (fun z => h (q.trans z))]
      · rw [lk_neg q, lk_neg q, lk_repl]
theorem lk_pt {ms : List (α × β)} {k j : α} {b : β} : lk (pt ms k b) j = if j = k then some b else lk ms j := by
  cases e : lk ms k with
  | none => rw [pt_new e, lk_snoc e]
  | some c =>
    rw [pt_old e, lk_repl]
    by_cases q : j = k
    · rw [if_pos q, q, e, Option.map_some, if_pos rfl]
    · rw [if_neg q]
      cases lk ms j with
      | none => rfl
      | some x => rw [Option.map_some, if_neg q]
theorem lk_dp {k j : α} : ∀ {ms : List (α × β)}, lk (dp ms k) j = if j = k then none else lk ms j
  | [] => by split <;> rfl
  | m :: r => by
    have ih := lk_dp (k := k) (j := j) (ms := r)
    unfold dp at ih ⊢
    by_cases p : m.1 = k
    · rw [List.filter_cons_of_neg (by simp [p]), ih]
      by_cases q : j = k
      · rw [if_pos q, if_pos q]
      · rw [if_neg q, if_neg q, lk_neg (fun z => q (z.symm.trans p))]
    · rw [List.filter_cons_of_pos (by simp [p])]
      by_cases q : m.1 = j
      · rw [lk_pos q, lk_pos q, if_neg (fun z => p (q.trans z))]
      · rw [lk_neg q, lk_neg q, ih]
theorem mem_dp {ms : List (α × β)} {k : α} {m : α × β} : m ∈ dp ms k ↔ m ∈ ms ∧ m.1 ≠ k := by
  unfold dp
  rw [List.mem_filter, decide_eq_true_iff]
theorem dp_nodup {ms : List (α × β)} {k : α} (hn : (ms.map (·.1)).Nodup) : ((dp ms k).map (·.1)).Nodup := hn.sublist (List.Sublist.map _ List.filter_sublist)
theorem pt_length (ms : List (α × β)) (k : α) (b : β) : (pt ms k b).length ≤ ms.length + 1 := by
  unfold pt
  split
  · rw [List.length_map]; omega
  · rw [List.length_append]; show ms.length + 1 ≤ ms.length + 1; omega
theorem dp_length (ms : List (α × β)) (k : α) : (dp ms k).length ≤ ms.length := List.length_filter_le _ _
/-! ### as the heap has them -/
variable {κ : Type} [DecidableEq κ] {g : α → κ} {r r' : α → V}
theorem val_map (gi : ∀ a b, g a = g b → a = b) {k : α} : ∀ {ms : List (α × β)}, valV (ms.map fun m => (g m.1, r m.1)) (g k) = (lk ms k).map fun _ => r k
  | [] => rfl
  | m :: t => by
    rw [List.map_cons]
    by_cases e : m.1 = k
    · rw [lk_pos e, valV_pos (p := (g m.1, r m.1)) (by rw [e]), Option.map_some, e]
    · rw [lk_neg e, valV_neg (p := (g m.1, r m.1)) (fun z => e (gi _ _ z)), val_map gi]
theorem map_pt (gi : ∀ a b, g a = g b → a = b) {k : α} {b : β} (h : ∀ t, t ≠ k → r' t = r t) {ms : List (α × β)} : (pt ms k b).map (fun m => (g m.1, r' m.1)) = putK (ms.map fun m => (g m.1, r m.1)) (g k) (r' k) := by
  unfold putK
  rw [valV_any, val_map gi]
  cases e : lk ms k with
  | none =>
    rw [pt_new e, List.map_append, if_neg (by simp)]
    congr 1
    apply List.map_congr_left
    intro m hm
    rw [h m.1 (lk_none.mp e m hm)]
  | some c =>
    rw [pt_old e, if_pos (by simp), List.map_map, List.map_map]
    apply List.map_congr_left
    intro m hm
    show (g (if m.1 = k then (m.1, b) else m).1, r' (if m.1 = k then (m.1, b) else m).1) = if g m.1 = g k then (g m.1, r' k) else (g m.1, r m.1)
    by_cases q : m.1 = k
    · rw [if_pos q, if_pos (by rw [q]), q]
    · rw [if_neg q, if_neg (fun z => q (gi _ _ z)), h _ q]
theorem map_dp (gi : ∀ a b, g a = g b → a = b) {k : α} {ms : List (α × β)} : (dp ms k).map (fun m => (g m.1, r m.1)) = dropK (ms.map fun m => (g m.1, r m.1)) (g k) := by
  unfold dp dropK
  rw [List.filter_map]
  congr 1
  apply List.filter_congr
  intro m _
  show decide (m.1 ≠ k) = decide (g m.1 ≠ g k)
  by_cases q : m.1 = k
  · rw [q]; simp
  · have q2 : g m.1 ≠ g k := fun z => q (gi _ _ z)
    rw [decide_eq_true q, decide_eq_true q2]
/-- the same keys, other values -/
theorem map_pt_old {k : α} {b c : β} {ms : List (α × β)} (e : lk ms k = some c) : (pt ms k b).map (fun m => (g m.1, r m.1)) = ms.map fun m => (g m.1, r m.1) := by
  rw [pt_old e, List.map_map]
  apply List.map_congr_left
  intro m _
  show (g (if m.1 = k then (m.1, b) else m).1, r (if m.1 = k then (m.1, b) else m).1) = _
  split <;> rfl
end
end Kd

/-! what stays of a heap: all but the objects of a set N -/
namespace Kd
open PySem PySem.Spec PyProof.Rows L2 LamX
/-- a tuple, known or not -/
def IsT (o : HO) : Prop := (∃ xs, o = .tup xs) ∨ ∃ u xs, o = .frz u (.tup xs)
def NoTb (o : HO) : Prop := ∀ ps, o ≠ .tbl ps
/-- what a program changes -/
def Chg : HO → Prop
  | .lst _ => True
  | .dK _ => True
  | .dT _ => True
  | .ins .. => True
  | _ => False
theorem Chg.notT {o : HO} (h : Chg o) : ¬ IsT o := by
  rintro (⟨xs, rfl⟩ | ⟨u, xs, rfl⟩) <;> exact h
theorem Chg.noTb {o : HO} (h : Chg o) : NoTb o := fun ps z => by rw [z] at h; exact h
theorem IsT.noTb {o : HO} (h : IsT o) : NoTb o := by
  rcases h with ⟨xs, rfl⟩ | ⟨u, xs, rfl⟩ <;> intro ps z <;> cases z
abbrev TB := List (Addr × Str)
structure Fr (T : TB) (N : Addr → Prop) (H H' : Hp) : Prop where
  st : ∀ b o, H b = some o → NoTb o → (IsT o ∨ ¬ N b) → H' b = some o
  tb : Tabs T H → Tabs T H'
/-- the tuples and the objects of M stay -/
def Keep (M : Addr → Prop) (H H' : Hp) : Prop := ∀ b o, H b = some o → NoTb o → (IsT o ∨ M b) → H' b = some o
def no (_ : Addr) : Prop := False
section
variable {K : PySem.W.Frag} {T : TB} {N N' M : Addr → Prop} {H H' H1 H2 : Hp} {a b p : Addr} {o o' : HO}
theorem Fr.refl : Fr T N H H := ⟨fun _ _ e _ _ => e, id⟩
theorem Fr.trans (f : Fr T N H H1) (g : Fr T N H1 H2) : Fr T N H H2 := ⟨fun b o e t c => g.st b o (f.st b o e t c) t c, fun t => g.tb (f.tb t)⟩
theorem Fr.of (s : Same H H') : Fr T N H H' := ⟨fun b o e _ _ => s b o e, fun t => t.ext s⟩
theorem Fr.ext (s : ExtN H H') (t : Tabs T H') : Fr T N H H' := ⟨fun b o e n _ => s b o e n, fun _ => t⟩
theorem Fr.mono (f : Fr T N H H') (h : ∀ b, N b → N' b) : Fr T N' H H' := ⟨fun b o e t c => f.st b o e t (c.imp id fun z q => z (h b q)), f.tb⟩
theorem Fr.put (e : H b = some o) (c : Chg o) (n : N b) : Fr T N H (upd H b o') := by
  refine ⟨fun d u e2 t q => ?_, fun t r hr => ?_⟩
  · by_cases z : d = b
    · subst z
      rw [e] at e2
      cases e2
      exact q.elim (fun q => absurd q c.notT) fun q => absurd n q
    · rw [upd_ne z]; exact e2
  · obtain ⟨ps, h1, h2, h3⟩ := t r hr
    refine ⟨ps, ?_, h2, fun pos cv hc => ?_⟩
    · rw [upd_ne (fun z => by rw [z, e] at h1; exact c.noTb ps (Option.some.inj h1))]; exact h1
    · obtain ⟨d, e1, e2⟩ := h3 pos cv hc
      refine ⟨d, e1, ?_⟩
      rw [upd_ne (fun z => by
        rw [z, e] at e2
        rw [Option.some.inj e2] at c
        exact c)]
      exact e2
theorem Fr.keep (f : Fr T N H H') (d : ∀ b, M b → ¬ N b) : Keep M H H' := fun b o e t c => f.st b o e t (c.imp id (d b))
theorem Fr.at (f : Fr T N H H') (e : H b = some o) (c : Chg o) (n : ¬ N b) : H' b = some o := f.st b o e c.noTb (.inr n)
theorem Fr.tup (f : Fr T N H H') {xs : List V} (e : H b = some (.tup xs)) : H' b = some (.tup xs) := f.st b _ e (fun _ z => nomatch z) (.inl (.inl ⟨xs, rfl⟩))
theorem Keep.refl : Keep M H H := fun _ _ e _ _ => e
theorem Keep.trans (f : Keep M H H1) (g : Keep M H1 H2) : Keep M H H2 := fun b o e t c => g b o (f b o e t c) t c
theorem Keep.of (s : Same H H') : Keep M H H' := fun b o e _ _ => s b o e
theorem Keep.mono (f : Keep M H H') (h : ∀ b, N b → M b) : Keep N H H' := fun b o e t c => f b o e t (c.imp id (h b))
theorem Keep.at (f : Keep M H H') (e : H b = some o) (c : Chg o) (n : M b) : H' b = some o := f b o e c.noTb (.inr n)
theorem Keep.tup (f : Keep M H H') {xs : List V} (e : H b = some (.tup xs)) : H' b = some (.tup xs) := f b _ e (fun _ z => nomatch z) (.inl (.inl ⟨xs, rfl⟩))
theorem Keep.seqT {xs : List V} (f : Keep M H H') (h : SqT K H a xs) : SqT K H' a xs := by
  rcases h with (h | ⟨u, h⟩) | h
  · exact .inl (.inl (f.tup h))
  · exact .inl (.inr ⟨u, f a _ h (fun _ z => nomatch z) (.inl (.inr ⟨u, xs, rfl⟩))⟩)
  · exact .inr h
theorem Fr.keep0 (f : Fr T N H H') : Keep no H H' := f.keep fun _ z => z.elim
theorem Fr.seqT {xs : List V} (f : Fr T N H H') (h : SqT K H a xs) : SqT K H' a xs := f.keep0.seqT h
theorem Keep.rw_at (f : Keep M H H') : ∀ {r : Rw}, r.at K H p → r.at K H' p
  | .kind .., ⟨q, h1, h2⟩ => ⟨q, f.seqT h1, f.seqT h2⟩
  | .fact .., ⟨q1, q2, h1, h2, h3⟩ => ⟨q1, q2, f.seqT h1, f.seqT h2, f.seqT h3⟩
  | .forget .., h => f.seqT h
/-- a new object -/
theorem new_of (np : H p = none) (e : upd H p o = H') : Same H H' ∧ H' p = some o := by
  subst e
  exact ⟨same_new np, upd_same⟩
/-- an object changed -/
theorem put_of (e0 : H b = some o) (c : Chg o) (n : N b) (e : upd H b o' = H') : Fr T N H H' ∧ H' b = some o' ∧ ∀ d, d ≠ b → H' d = H d := by
  subst e
  exact ⟨Fr.put e0 c n, upd_same, fun d h => upd_ne h⟩
end
/-! ### data of tuples -/
section
variable {K : PySem.W.Frag} {M : Addr → Prop} {H H' : Hp}
/-- no lists within -/
def NoL : Nat → PyData → Prop
  | 0, _ => False
  | _ + 1, .list _ => False
  | _ + 1, .dict _ => False
  | n + 1, .tuple ds => ∀ d ∈ ds, NoL n d
  | _ + 1, _ => True
mutual
theorem Keep.dp' (f : Keep M H H') : ∀ (d : PyData) (n : Nat) (v : V), NoL n d → Dp K H v d → Dp K H' v d
  | .none, _, _, _, h => by cases h; exact .non
  | .bool b, _, _, _, h => by cases h; exact .bl b
  | .int i, _, _, _, h => by cases h; exact .int i
  | .str x, _, _, _, h => by cases h; exact .str x
  | .list ds, 0, _, q, _ => q.elim
  | .list ds, _ + 1, _, q, _ => q.elim
  | .tuple ds, 0, _, q, _ => q.elim
  | .tuple ds, n + 1, _, q, h => by
    cases h with
    | tup r s => exact .tup (f.seqT r) (Keep.dpall' f ds n _ q s)
  | .dict _, _, _, _, h => by cases h
theorem Keep.dpall' (f : Keep M H H') : ∀ (ds : List PyData) (n : Nat) (vs : List V), (∀ d ∈ ds, NoL n d) → DpAll K H vs ds → DpAll K H' vs ds
  | [], _, _, _, h => by cases h; exact .nil
  | d :: ds, n, _, q, h => by
    cases h with
    | cons r s => exact .cons (Keep.dp' f d n _ (q d (List.mem_cons_self ..)) r) (Keep.dpall' f ds n _ (fun e he => q e (List.mem_cons_of_mem _ he)) s)
end
theorem Keep.dp (f : Keep M H H') {d : PyData} {n : Nat} {v : V} (q : NoL n d) (h : Dp K H v d) : Dp K H' v d := f.dp' d n v q h
end
end Kd

namespace Kd
open PySem PySem.Spec PyProof.Rows L2
section
variable {P : Program} {w : World} {K : PySem.W.Frag} {mg : Str → Option Value} {base : Heap} {f : Addr} {fd : FuncData}
/-! ### attributes_of -/
def spAttr (K : PySem.W.Frag) (C : Addr) : Sp := fun vs H Q _ => ∃ (x : Addr) (n : Str) (ds : List (Str × List (Str × Str))) (ms : List Str), vs = [.ref x, .str n] ∧ PlanAt K C H x ds ms ∧
  (∀ d q H', ds.find? (fun d => decide (d.1 = n)) = some d → AttsAt K H' q d.2 → Same H H' → Q (.ref q) H') ∧ (ds.find? (fun d => decide (d.1 = n)) = none → ∀ H', Same H H' → Q .non H')
theorem sc_attr : FnScope ["plan", "dimension", "name", "attributes"] ["plan", "dimension"] (defScope s_attributes_of) := ⟨rfl, rfl, rfl, by decide +kernel, rfl, by decide +kernel, by decide +kernel⟩
theorem ok_attr {C fd1 : Addr} {fdd : FuncData} (F : FnP K "attributes_of" "attributes_of" s_attributes_of f fd) (T : PlTxt K C) (GD : FnOk P w K mg base CX0 1 fd1 fdd ["self"] (spDims K C)) (bD : Binds K fdd ["self"] []) (mD : Meth K C "dimensions" fd1) : FnOk P w K mg base CX0 2 f fd ["plan", "dimension"] (spAttr K C) := by
  refine F.ok sc_attr (fun vs H Q E h => ?_) (fun cdv A outer s H vs Q E hr h => ?_)
  · obtain ⟨x, n, ds, ms, rfl, _⟩ := h
    rfl
  · obtain ⟨x, n, ds, ms, rfl, hp, k1, k2⟩ := h
    have nd := sc_attr.nd
    obtain ⟨dx, pa, pb, px, e1, e2, e3, e4⟩ := id hp.ex
    refine ⟨_, PSs.nox (pss_cons (ps_for PassesOwn.never rfl (pi_list (pe_meth0 (pv 0) T.cl mD GD hr bD .nil pass0)) (pg_tup rfl (pgs_cons (pg_name (i := 2) nd rfl (Or.inl rfl)) (pgs_cons (pg_name (i := 3) nd rfl (Or.inl rfl)) pgs_nil)))
        (pss_one (ps_if (pt_cmpR op_eq (pv 2) (pv 1) (nomark _)) (pss_one (ps_ret (pv 3))) pss_nil)))
      (pss_one (ps_ret pe_non))), ?_⟩
    refine ⟨_, rfl, x, dx, _, rfl, e1, pl_no0 (by decide +kernel) (by decide +kernel), x, ds, ms, rfl, hp, fun l xs nl pl => ?_⟩
    have s1 : Same H (upd H l (.lst xs)) := same_new nl
    refine ⟨l, rfl, ⟨_, SqL.of upd_same⟩, for_list (K := K) (a := l) (xs := xs) (fun i σ H2 => ∃ u v, σ = [some (.ref x), some (.str n), u, v] ∧ Same (upd H l (.lst xs)) H2 ∧ (ds.take i).find? (fun d => decide (d.1 = n)) = none) ⟨_, _, rfl, Same.refl _, rfl⟩ (fun i σ H2 _ ⟨_, _, _, s2, _⟩ => SqL.of (s2 _ _ upd_same)) ?_ ?_⟩
    · rintro i y σ H2 hi ⟨u, v, rfl, s2, na⟩
      obtain ⟨d, hd, p, q, rfl, h1, h2⟩ := paired_at pl hi
      have s02 := s1.trans s2
      refine ⟨p, _, rfl, Same.seqT s02 h1, rfl, _, _, rfl, _, _, rfl, rfl, ?_⟩
      refine ⟨_, rfl, _, rfl, rfl, _, rfl, ?_⟩
      obtain ⟨g1, g2⟩ := List.getElem?_eq_some_iff.mp hd
      by_cases c : d.1 = n
      · rw [decide_eq_true (congrArg V.str c)]
        refine iteT ⟨_, rfl, k1 d q H2 ?_ (h2.same s02) s02⟩
        rw [← List.take_append_drop i ds, List.find?_append, na, List.drop_eq_getElem_cons g1, g2, List.find?_cons_of_pos (by simp [c])]
        rfl
      · rw [decide_eq_false (fun z => c (by injection z))]
        refine iteF ⟨_, _, rfl, s2, ?_⟩
        rw [List.take_succ_eq_append_getElem g1, List.find?_append, na, g2, List.find?_cons_of_neg (by simp [c])]
        rfl
    · rintro σ H2 ⟨u, v, rfl, s2, na⟩
      have hl := pl.length
      rw [hl, List.take_length] at na
      exact k2 na H2 (s1.trans s2)
/-! ### changes_day -/
def dif (ws : List Str) (o n : List Fv) (j : Nat) : Bool := decide (ws.getD j Str.empty = "day") && !decide (o.getD j (.i 0) = n.getD j (.i 0))
def chg (ws : List Str) (o n : List Fv) : Bool := (List.range ws.length).any (dif ws o n)
def spChg (K : PySem.W.Frag) : Sp := fun vs H Q _ => ∃ (l a b : Addr) (ws : List Str) (o n : List Fv), vs = [.ref l, .ref a, .ref b] ∧ SqL K H l (ws.map V.str) ∧ SqT K H a (o.map Fv.v) ∧ SqT K H b (n.map Fv.v) ∧ o.length = ws.length ∧ n.length = ws.length ∧ ws.length ≤ 5 ∧ ∀ H', Same H H' → Q (.bl (chg ws o n)) H'
theorem sc_chg : FnScope ["ways", "old", "new", "at", "way"] ["ways", "old", "new"] (defScope s_changes_day) := ⟨rfl, rfl, rfl, by decide +kernel, rfl, by decide +kernel, by decide +kernel⟩
theorem ok_chg (F : FnP K "changes_day" "changes_day" s_changes_day f fd) (gA : mg "any" = none) (gE : mg "enumerate" = none) : FnOk P w K mg base CX0 1 f fd ["ways", "old", "new"] (spChg K) := by
  refine F.ok sc_chg (fun vs H Q E h => ?_) (fun cdv A outer s H vs Q E hr h => ?_)
  · obtain ⟨l, a, b, ws, o, n, rfl, _⟩ := h
    rfl
  · obtain ⟨l, a, b, ws, o, n, rfl, hl, ha, hb, lo, ln, lw, k⟩ := h
    have nd := sc_chg.nd
    refine ⟨_, PSs.nox (pss_one (ps_ret (pe_callB (cr_any rfl) (by rfl) gA (by decide +kernel) (pa_cons (pe_lc (own := [("at", 3), ("way", 4)]) (g := gTup K 2 (gCons (gName 3) (gCons (gName 4) gNil))) (tt := tYes) (te := tAndV (tOp rEq (tVar 4) (tC (.str "day"))) (tOp rNe (tOp (rIxT K) (tVar 1) (tVar 3)) (tOp (rIxT K) (tVar 2) (tVar 3)))) rfl nd (pi_enum rfl gE (pa_cons (pv 0) pa_nil)) (blkOk_by (own := [("at", 3), ("way", 4)]) (N := ["ways", "old", "new", "at", "way"]) (sc := defScope s_changes_day) (by decide +kernel))
      (fun _ _ _ _ _ => pg_tup rfl (pgs_cons (pg_name (i := 3) nd rfl (Or.inl rfl)) (pgs_cons (pg_name (i := 4) nd rfl (Or.inl rfl)) pgs_nil))) (fun _ _ _ _ _ => pts_nil) (fun _ _ _ _ _ => pe_and (pe_cmpR op_eq (pv 4) pe_str (nomark _)) (pe_one (pe_cmpR op_ne (pe_ix ix_tup (pv 1) (pv 3) (fun _ _ => rfl)) (pe_ix ix_tup (pv 2) (pv 3) (fun _ _ => rfl)) (nomark _))))) pa_nil)))), ?_⟩
    refine ⟨_, rfl, l, _, rfl, hl, fun D hD => lc_build (walk_enum (K := K) (a := l) (xs := ws.map V.str)) hD (fun i ys R => Same H R ∧ ys = (List.range i).map fun j => V.bl (dif ws o n j)) ⟨Same.refl H, rfl⟩ (fun _ _ _ _ p => (p.1.trans cd_sub).seq hl) ?_ ?_⟩
    · rintro i ys y H2 H2' hi e ly ⟨sm, rfl⟩ ⟨T, x1, y1, rfl, nT, rfl, e1, e2⟩
      rw [List.length_map] at hi
      cases e1
      obtain ⟨z, rfl, e3⟩ := strs_at e2
      have nDT : D ≠ T := ne_of_none e nT
      have s2 : Same H (cd D (upd H2 T (.tup [.int (i : Nat), .str z]))) := sm.trans (cd_same (same_new nT))
      have ho : (o.map Fv.v)[i]? = some (o[i]'(by omega)).v := map_at (by omega)
      have hn : (n.map Fv.v)[i]? = some (n[i]'(by omega)).v := map_at (by omega)
      refine ⟨T, _, rfl, SqT.of upd_same, rfl, _, _, rfl, _, _, rfl, rfl, rfl, yes ?_⟩
      refine ⟨_, rfl, rfl, _, rfl, ?_⟩
      have ew : ws.getD i Str.empty = z := by rw [List.getD_eq_getElem?_getD, e3]; rfl
      have add : ∀ b, dif ws o n i = b → ∃ acc, (upd H2 T (.tup [.int (i : Nat), .str z])) D = some (.lst acc) ∧ acc.length < sizeLine ∧ LcNx D (fun i ys R => Same H R ∧ ys = (List.range i).map fun j => V.bl (dif ws o n j)) (i + 1) (upd (upd H2 T (.tup [.int (i : Nat), .str z])) D (.lst (acc ++ [V.bl b]))) := fun b hb =>
        LcNx.add (by rw [upd_ne nDT]; exact e) ly (by omega) ⟨s2, by rw [← hb, List.range_succ, List.map_append]; rfl⟩
      by_cases c : z = "day"
      · rw [decide_eq_true (congrArg V.str c)]
        refine iteT ⟨_, rfl, _, rfl, a, _, _, _, rfl, rfl, Same.seqT (s2.trans cd_sub) ha, atI_nat ho, _, rfl, _, rfl, b, _, _, _, rfl, rfl, Same.seqT (s2.trans cd_sub) hb, atI_nat hn, Fv.scal _ _, ?_⟩
        rw [Fv.ne]
        refine add _ ?_
        unfold dif
        rw [ew, decide_eq_true c, Bool.true_and]
        have q1 : o.getD i (.i 0) = o[i]'(by omega) := by simp [List.getD_eq_getElem?_getD, show i < o.length by omega]
        have q2 : n.getD i (.i 0) = n[i]'(by omega) := by simp [List.getD_eq_getElem?_getD, show i < n.length by omega]
        rw [q1, q2]
      · rw [decide_eq_false (fun q => c (by injection q))]
        refine iteF (add _ ?_)
        unfold dif
        rw [ew, decide_eq_false c, Bool.false_and]
    · rintro ys H2 e ly ⟨sm, rfl⟩
      rw [List.length_map] at e
      refine ⟨D, (List.range ws.length).map (dif ws o n), rfl, SqL.of (by rw [List.map_map]; exact e), ?_⟩
      have e1 : ((List.range ws.length).map (dif ws o n)).any id = chg ws o n := by
        unfold chg
        rw [List.any_map]
        rfl
      rw [e1]
      exact k H2 (sm.trans cd_sub)
end
end Kd

namespace Kd
open PySem PySem.Spec PyProof.Rows L2
section
variable {P : Program} {w : World} {K : PySem.W.Frag} {mg : Str → Option Value} {base : Heap} {f : Addr} {fd : FuncData}
/-! ### opening_kinds -/
def nxt (ws : List Str) (p : Kind × Kind) : Bool := chg ws p.1.2 p.2.2
def opn (ws : List Str) (ks : List Kind) : List Kind := ks.take 1 ++ ((ks.zip (ks.drop 1)).filter (nxt ws)).map (·.2)
def spOpen (K : PySem.W.Frag) : Sp := fun vs H Q _ => ∃ (l m : Addr) (ws : List Str) (ks : List Kind), vs = [.ref l, .ref m] ∧ SqL K H l (ws.map V.str) ∧ KindsAt K H m ks ∧ (∀ k ∈ ks, k.2.length = ws.length) ∧ ws.length ≤ 5 ∧ ks.length ≤ 4000 ∧
  ∀ r ys H', H' r = some (.lst ys) → Paired (KindAt K H') ys (opn ws ks) → Same H H' → Q (.ref r) H'
theorem sc_open : FnScope ["ways", "ordered", "openers", "ahead", "kind"] ["ways", "ordered"] (defScope s_opening_kinds) := ⟨rfl, rfl, rfl, by decide +kernel, rfl, by decide +kernel, by decide +kernel⟩
theorem kind_list {H : Hp} {l : Addr} {L : List V} {y : V} {k : Kind} (hl : H l = some (.lst L)) : KindAt K H y k → KindAt K (cd l H) y k := fun ⟨p, q, h1, h2, h3⟩ => ⟨p, q, h1, seqT_list0 hl h2, seqT_list0 hl h3⟩
theorem kind_store {H : Hp} {l : Addr} {L : List V} {o : HO} {y : V} {k : Kind} (hl : H l = some (.lst L)) (h : KindAt K H y k) : KindAt K (upd H l o) y k :=
  (kind_list hl h).same fun b u e => by rw [upd_ne (ct_ne e).1]; exact cd_sub _ _ e
theorem paired_take {α β : Type} {R : α → β → Prop} : ∀ (n : Nat) {l : List α} {m : List β}, Paired R l m → Paired R (l.take n) (m.take n)
  | 0, _, _, _ => .nil
  | n + 1, _, _, .nil => .nil
  | n + 1, _, _, .cons h t => .cons h (paired_take n t)
theorem cut1 (xs : List V) : cutV xs none (some 1) = xs.take 1 := by
  unfold cutV
  rw [HT.sIx_none]
  have e : HT.sIx xs.length xs.length (some ((1 : Nat) : Int)) = min 1 xs.length := HT.sIx_nat _ _ _
  have e2 : HT.sIx xs.length xs.length (some 1) = min 1 xs.length := e
  rw [e2]
  cases xs with
  | nil => rfl
  | cons x r => simp
theorem cutR (xs : List V) : cutV xs (some 1) none = xs.drop 1 := by
  unfold cutV
  rw [HT.sIx_none]
  have e : HT.sIx xs.length 0 (some ((1 : Nat) : Int)) = min 1 xs.length := HT.sIx_nat _ _ _
  have e2 : HT.sIx xs.length 0 (some 1) = min 1 xs.length := e
  rw [e2]
  cases xs with
  | nil => rfl
  | cons x r => simp
theorem ok_open {fC : Addr} {fdC : FuncData} (F : FnP K "opening_kinds" "opening_kinds" s_opening_kinds f fd) (GC : FnOk P w K mg base CX0 1 fC fdC ["ways", "old", "new"] (spChg K)) (kC : PySem.W.keepIn K (.ref fC) = true) (bC : Binds K fdC ["ways", "old", "new"] []) (gC : mg "changes_day" = some (.ref fC)) (gZ : mg "zip" = none) :
    FnOk P w K mg base CX0 2 f fd ["ways", "ordered"] (spOpen K) := by
  refine F.ok sc_open (fun vs H Q E h => ?_) (fun cdv A outer s H vs Q E hr h => ?_)
  · obtain ⟨l, m, ws, ks, rfl, _⟩ := h
    rfl
  · obtain ⟨l, m, ws, ks, rfl, hl, ⟨xs, hm, hp⟩, hk, lw, lk, k⟩ := h
    have nd := sc_open.nd
    have hlen := hp.length
    refine ⟨_, PSs.nox (pss_cons (ps_set (i := 2) nd rfl (Or.inl rfl) (pe_slice sl_list (pv 1) po_none (po_some pe_int)))
      (pss_cons (ps_for PassesOwn.never rfl (pi_zip rfl gZ (pa_cons (pv 1) (pa_cons (pe_slice sl_list (pv 1) (po_some pe_int) po_none) pa_nil))) (pg_tup rfl (pgs_cons (pg_name (i := 3) nd rfl (Or.inl rfl)) (pgs_cons (pg_name (i := 4) nd rfl (Or.inl rfl)) pgs_nil)))
        (pss_one (ps_if (pt_val (pe_call GC hr rfl gC kC bC .nil pass0 (pa_cons (pv 0) (pa_cons (pe_ix ix_tup (pv 3) pe_int (fun _ _ => rfl)) (pa_cons (pe_ix ix_tup (pv 4) pe_int (fun _ _ => rfl)) pa_nil)))))
          (pss_one (ps_expr (pe_bm PySem.F.plainAttrs_list PySem.F.slot_list_append PySem.F.type_list_append mt_append (pv 2) (pa_cons (pv 4) pa_nil)))) pss_nil)))
      (pss_one (ps_ret (pv 2))))), ?_⟩
    refine ⟨_, rfl, _, rfl, m, xs, rfl, hm, fun r nr => ?_⟩
    rw [cut1]
    have s1 : Same H (upd H r (.lst (xs.take 1))) := same_new nr
    refine ⟨_, rfl, _, rfl, _, rfl, m, xs, rfl, s1.seq hm, fun z nz => ?_⟩
    rw [cutR]
    have nrz : r ≠ z := ne_of_none upd_same nz
    have s2 : Same (upd H r (.lst (xs.take 1))) (upd (upd H r (.lst (xs.take 1))) z (.lst (xs.drop 1))) := same_new nz
    have hzr : cd r (upd (upd H r (.lst (xs.take 1))) z (.lst (xs.drop 1))) z = some (.lst (xs.drop 1)) := cd_of upd_same nrz.symm
    have s02 : Same H (cd r (upd (upd H r (.lst (xs.take 1))) z (.lst (xs.drop 1)))) := Same.cd (s1.trans s2) nr
    refine ⟨m, z, xs, xs.drop 1, rfl, (s1.trans s2).seq hm, SqL.of upd_same, ?_⟩
    refine for_it (walk_zip (K := K) (n := (xs.drop 1).length) (by rw [List.length_drop]; omega)) (fun i σ H2 => ∃ (ys : List V) (u v : Option V), σ = [some (.ref l), some (.ref m), some (.ref r), u, v] ∧ H2 r = some (.lst ys) ∧ Paired (KindAt K H2) ys (ks.take 1 ++ (((ks.zip (ks.drop 1)).take i).filter (nxt ws)).map (·.2)) ∧ ys.length ≤ i + 1 ∧ Same (cd r (upd (upd H r (.lst (xs.take 1))) z (.lst (xs.drop 1)))) (cd r H2))
      ⟨xs.take 1, _, _, rfl, s2 _ _ upd_same, ?_, by rw [List.length_take]; omega, Same.refl _⟩ (fun i σ H2 _ ⟨_, _, _, _, _, _, _, s3⟩ => ⟨((s02.trans s3).trans cd_sub).seq hm, SqL.of (cd_sub _ _ (s3 _ _ hzr))⟩) ?_ ?_
    · rw [List.take_zero, List.filter_nil, List.map_nil, List.append_nil]
      exact paired_take 1 (PySem.Paired.mono (fun _ _ => KindAt.same (s1.trans s2)) hp)
    · rintro i y σ H2 H3 hi ⟨ys, u, v, rfl, h2, p2, ly, s3⟩ ⟨T, x1, y1, rfl, nT, rfl, e1, e2⟩
      rw [List.length_drop] at hi
      have e1 : xs[i]? = some x1 := e1
      have e2 : (xs.drop 1)[i]? = some y1 := e2
      rw [List.getElem?_drop] at e2
      obtain ⟨k1, q1, p, q, rfl, a1, a2⟩ := paired_at hp e1
      obtain ⟨k2, q2, p', q', rfl, b1, b2⟩ := paired_at hp e2
      have nrT : r ≠ T := ne_of_none h2 nT
      have s4 : Same H2 (upd H2 T (.tup [.ref p, .ref p'])) := same_new nT
      have s04 : Same H (upd H2 T (.tup [.ref p, .ref p'])) := ((s02.trans s3).trans cd_sub).trans s4
      refine ⟨T, _, rfl, SqT.of upd_same, rfl, _, _, rfl, _, _, rfl, rfl, ?_⟩
      have n1 := hk k1 (List.mem_of_getElem? q1)
      have n2 := hk k2 (List.mem_of_getElem? q2)
      refine ⟨_, rfl, _, rfl, p, _, _, _, rfl, rfl, Same.seqT s04 a1, atI_nat (j := 1) rfl, _, rfl, p', _, _, _, rfl, rfl, Same.seqT s04 b1, atI_nat (j := 1) rfl, l, q, q', ws, k1.2, k2.2, rfl, s04.seq hl, Same.seqT s04 a2, Same.seqT s04 b2, n1, n2, lw, fun H5 s5 => ⟨_, rfl, ?_⟩⟩
      have s25 := s4.trans s5
      have h5 := s25 _ _ h2
      have p5 : Paired (KindAt K H5) ys _ := PySem.Paired.mono (fun _ _ => KindAt.same s25) p2
      have g1 : i < (ks.zip (ks.drop 1)).length := by rw [List.length_zip, List.length_drop]; omega
      have g2 : (ks.zip (ks.drop 1))[i] = (k1, k2) := by
        obtain ⟨c1, c2⟩ := List.getElem?_eq_some_iff.mp q1
        obtain ⟨c3, c4⟩ := List.getElem?_eq_some_iff.mp q2
        rw [List.getElem_zip, List.getElem_drop, c2]
        have c5 : ks[1 + i]'(by omega) = k2 := c4
        rw [c5]
      have et : ((ks.zip (ks.drop 1)).take (i + 1)).filter (nxt ws) = ((ks.zip (ks.drop 1)).take i).filter (nxt ws) ++ [(k1, k2)].filter (nxt ws) := by
        rw [List.take_succ_eq_append_getElem g1, List.filter_append, g2]
      by_cases c : chg ws k1.2 k2.2 = true
      · rw [c]
        refine iteT ⟨_, rfl, .inl ⟨rfl, _, SqL.of h5⟩, _, rfl, r, _, _, rfl, rfl, h5, Nat.lt_of_le_of_lt (by omega : ys.length ≤ 4000) (by decide), ?_⟩
        refine ⟨ys ++ [.ref p'], _, _, rfl, upd_same, ?_, by rw [List.length_append]; show ys.length + 1 ≤ i + 1 + 1; omega, ?_⟩
        · rw [et, List.filter_cons_of_pos (by exact c), List.filter_nil, List.map_append, ← List.append_assoc]
          exact PySem.Paired.snoc (PySem.Paired.mono (fun _ _ => kind_store h5) p5) (kind_store h5 ⟨p', q', rfl, Same.seqT (s04.trans s5) b1, Same.seqT (s04.trans s5) b2⟩)
        · rw [cd_upd]
          exact s3.trans (cd_same s25)
      · have c : chg ws k1.2 k2.2 = false := by simpa using c
        rw [c]
        refine iteF ⟨ys, _, _, rfl, h5, ?_, by omega, s3.trans (cd_same s25)⟩
        rw [et, List.filter_cons_of_neg (by show ¬ chg ws k1.2 k2.2 = true; rw [c]; decide), List.filter_nil, List.append_nil]
        exact p5
    · rintro σ H2 ⟨ys, u, v, rfl, h2, p2, ly, s3⟩
      have e : (ks.zip (ks.drop 1)).take (xs.drop 1).length = ks.zip (ks.drop 1) := List.take_of_length_le (by rw [List.length_zip, List.length_drop, List.length_drop]; omega)
      rw [e] at p2
      exact ⟨_, rfl, k r ys H2 h2 p2 ((s02.trans s3).trans cd_sub)⟩
/-! ### last_and_unlike -/
def optD : Option Fv → PyData
  | none => .none
  | some a => a.d
/-- the last one, and the last one that is unlike it -/
def unl (cs : List Fv) : Option Fv × Option Fv := match cs.getLast? with
  | none => (none, none)
  | some l => (some l, (cs.filter fun c => !decide (c = l)).getLast?)
def spLast (K : PySem.W.Frag) : Sp := fun vs H Q _ => ∃ (l : Addr) (cs : List Fv), vs = [.ref l] ∧ SqL K H l (cs.map Fv.v) ∧ cs.length ≤ 4000 ∧ ∀ r H', Dp K H' (.ref r) (.tuple [optD (unl cs).1, optD (unl cs).2]) → Same H H' → Q (.ref r) H'
theorem sc_last : FnScope ["column", "last", "value", "unlike"] ["column"] (defScope s_last_and_unlike) := ⟨rfl, rfl, rfl, by decide +kernel, rfl, by decide +kernel, by decide +kernel⟩
theorem atI_end {α : Type} {xs : List α} {a : α} (h : xs.getLast? = some a) : atI xs (-1) = some a := by
  obtain ⟨r, rfl⟩ := List.getLast?_eq_some_iff.mp h
  exact atI_last r a
theorem last_map {cs : List Fv} : (cs.map Fv.v).getLast? = cs.getLast?.map Fv.v := List.getLast?_map
theorem ok_last (F : FnP K "last_and_unlike" "last_and_unlike" s_last_and_unlike f fd) : FnOk P w K mg base CX0 1 f fd ["column"] (spLast K) := by
  refine F.ok sc_last (fun vs H Q E h => ?_) (fun cdv A outer s H vs Q E hr h => ?_)
  · obtain ⟨l, cs, rfl, _⟩ := h
    rfl
  · obtain ⟨l, cs, rfl, hl, lc, k⟩ := h
    have nd := sc_last.nd
    refine ⟨_, PSs.nox (pss_cons (ps_if (pt_not (pt_truth (pv 0) (by intro _; rfl))) (pss_one (ps_ret (pe_tup (pa_cons pe_non (pa_cons pe_non pa_nil))))) pss_nil)
      (pss_cons (ps_set (i := 1) nd rfl (Or.inr rfl) (pe_ix ix_list (pv 0) (pe_un un_neg pe_int) (fun _ _ => rfl)))
      (pss_cons (ps_setLc (i := 3) (own := [("value", 2)]) (g := gName 2) (tt := tTest (tOp rNe (tVar 2) (tVar 1))) rfl nd rfl rfl (sw_true rfl rfl rfl (by decide +kernel)) (pi_list (pv 0)) (blkOk_by (own := [("value", 2)]) (N := ["column", "last", "value", "unlike"]) (sc := defScope s_last_and_unlike) (by decide +kernel))
        (fun _ _ _ _ _ => pg_name (i := 2) nd rfl (Or.inl rfl)) (fun _ _ _ _ _ => pts_one (pt_cmpR op_ne (pv 2) (pv 1) (nomark _))) (fun _ _ _ _ _ => pv 2))
      (pss_one (ps_ret (pe_tup (pa_cons (pv 1) (pa_cons (pe_ifExp (pt_truth (pv 3) (by intro _; rfl)) (pe_ix ix_list (pv 3) (pe_un un_neg pe_int) (fun _ _ => rfl)) pe_non) pa_nil)))))))), ?_⟩
    refine ⟨_, rfl, _, .inl ⟨_, hl, rfl⟩, ?_⟩
    cases hc : cs.getLast? with
    | none =>
      have e0 : cs = [] := List.getLast?_eq_none_iff.mp hc
      subst e0
      refine iteT ⟨by show 2 ≤ sizeLine; decide, fun t nt => ?_⟩
      exact k t _ (.tup (SqT.of upd_same) (.cons .non (.cons .non .nil))) (same_new nt)
    | some a =>
      have ne : (!(cs.map Fv.v).isEmpty) = true := by
        cases cs with
        | nil => cases hc
        | cons _ _ => rfl
      rw [ne]
      refine iteF ⟨_, rfl, _, rfl, l, _, _, _, rfl, rfl, hl, atI_end (by rw [last_map, hc]; rfl), ?_⟩
      refine ⟨_, rfl, l, rfl, ⟨_, hl⟩, fun D hD => lc_build (walk_list (K := K) (a := l) (xs := cs.map Fv.v)) hD (fun i ys R => R = H ∧ ys = ((cs.take i).filter fun c => !decide (c = a)).map Fv.v) ⟨rfl, rfl⟩ (fun i ys H2 _ p => (cd_is0 p.1).seq hl) ?_ ?_⟩
      · rintro i ys y H2 H2' hi e ly ⟨ec, rfl⟩ ⟨rfl, hy⟩
        rw [List.length_map] at hi
        rw [map_at hi] at hy
        cases hy
        refine ⟨rfl, _, rfl, _, rfl, Fv.scal _ _, _, rfl, ?_⟩
        rw [Fv.ne]
        have et : (cs.take (i + 1)).filter (fun c => !decide (c = a)) = (cs.take i).filter (fun c => !decide (c = a)) ++ [cs[i]].filter (fun c => !decide (c = a)) := by
          rw [List.take_succ_eq_append_getElem hi, List.filter_append]
        by_cases c : cs[i] = a
        · rw [decide_eq_true c]
          refine iteF (LcNx.skip e ly ⟨ec, ?_⟩)
          rw [et, List.filter_cons_of_neg (by simp [c]), List.filter_nil, List.append_nil]
        · rw [decide_eq_false c]
          refine iteT ⟨_, rfl, LcNx.add e ly (by omega) ⟨ec, ?_⟩⟩
          rw [et, List.filter_cons_of_pos (by simp [c]), List.filter_nil, List.map_append]
          rfl
      · rintro ys H2 e ly ⟨ec, rfl⟩
        rw [List.length_map, List.take_length] at e
        have s2 : Same H H2 := cd_is0 ec
        refine ⟨_, rfl, _, rfl, _, .inl ⟨_, SqL.of e, rfl⟩, ?_⟩
        have eu : unl cs = (some a, (cs.filter fun c => !decide (c = a)).getLast?) := by unfold unl; rw [hc]
        rw [eu] at k
        cases hf : (cs.filter fun c => !decide (c = a)).getLast? with
        | none =>
          rw [hf] at k
          have e0 := List.getLast?_eq_none_iff.mp hf
          rw [e0]
          refine iteF ⟨by show 2 ≤ sizeLine; decide, fun t nt => ?_⟩
          exact k t _ (.tup (SqT.of upd_same) (.cons (Fv.dp a) (.cons .non .nil))) (s2.trans (same_new nt))
        | some b =>
          rw [hf] at k
          have ne2 : (!((cs.filter fun c => !decide (c = a)).map Fv.v).isEmpty) = true := by
            cases hq : cs.filter fun c => !decide (c = a) with
            | nil => rw [hq] at hf; cases hf
            | cons _ _ => rfl
          rw [ne2]
          refine iteT ⟨_, rfl, _, rfl, D, _, _, _, rfl, rfl, SqL.of e, atI_end (by rw [last_map, hf]; rfl), by show 2 ≤ sizeLine; decide, fun t nt => ?_⟩
          exact k t _ (.tup (SqT.of upd_same) (.cons (Fv.dp a) (.cons (Fv.dp b) .nil))) (s2.trans (same_new nt))
end
end Kd

/-! sorted(xs, key=lambda x: x[0]) of tuples whose first items are whole numbers -/
namespace KdLam
open PySem PySem.Spec PyProof.Rows L2
abbrev itemBody (x : Str) (p1 p2 p3 : Pos) (j : Nat) : Expr := .Subscript (.Name x p1) (.Constant (.int 0) j p2) p3
section
variable {prog : Program} {w : World} {A : Around} {s : Shared} {E : Value → Shared → Prop}
/-- the lambda, called with a tuple -/
theorem lam_item {x qual : Str} {params : Arguments} {p1 p2 p3 : Pos} {j : Nat} {scope : Scope} {cl : List (Str × Addr)} {pm ctv : Value} {c f t : Addr} {its : List Value} {i : Int} {tk : Tok}
    (ho : s.heap.get? f = some (PySem.W.kla_obj "<lambda>" qual params (itemBody x p1 p2 p3 j) scope cl pm c ctv)) (hcd : s.heap.CodeRec (.ref c) qual) (hlim : s.heap.NoLimit) (hroom : A.depth < recursionLimit)
    (hbind : ∀ v, bindArgs (PySem.W.kla_fn "<lambda>" qual params (itemBody x p1 p2 p3 j) scope cl pm (.ref c) ctv) ⟨[v], []⟩ = pure [(x, v)]) (hco : scope.isCoroutine = false) (hgen : scope.isGenerator = false) (hk : scope.kind = .function) (hx : scope.names.lookup x = some .local) (hcell : ∀ y ∈ scope.names, y.2 ≠ .cell)
    (hd : (x == ("__debug__" : Str)) = false) (hcdn : (x == ("__classdict__" : Str)) = false) (ht : IsTup s.heap t its.toArray) (hi : its[0]? = some (.int i tk)) (hz : its.length ≤ sizeLine) :
    wpAny (model prog w) A (call (.ref f) [.ref t]) (fun v s2 => ∃ h2 t2, s2 = { s with heap := h2, toks := t2 } ∧ (∀ b o, s.heap.get? b = some o → h2.get? b = some o) ∧ v = .int i tk) E s := by
  refine wpAny_call (PySem.W.kla_callFunE hroom ho rfl hco hgen rfl hcd ?_)
  rw [hbind]
  refine wpAny_pure (wpAny_newFunctionEnv hcell (fun y hy => ?_) (fun h1 hns hsb => ⟨hlim.fresh _ hsb, ?_⟩) hk)
  · rw [List.mem_singleton.mp hy]
    exact hx
  · show codeAny _ _ (.expr (itemBody x p1 p2 p3 j) (PySem.W.envX qual scope s.heap.objs.size f (.ref c) cl)) _ _
    have kp : ∀ b o, s.heap.get? b = some o → h1.get? b = some o := fun b o e => hsb.extBut b o (Nat.ne_of_lt (Heap.lt_size e)) (Heap.get?_push_of_some _ e)
    refine PySem.W.kla_codeExpr (Subscript_ (wpAny_Name (wpAny_loadName_local hk hx hns (v := .ref t) (by simp) ?_) hd))
    refine wpAny_Constant_int ?_
    have pl : IsTup h1 t its.toArray := by
      obtain ⟨o, e, r⟩ := ht
      exact ⟨o, kp _ _ e, r⟩
    have hn := line63
    have hl0 : 0 < its.length := by
      rcases Nat.eq_zero_or_pos its.length with e | e
      · rw [List.length_eq_zero_iff.mp e] at hi
        cases hi
      · exact e
    refine subscriptTail_builtinR (x := .int i tk) (T := "tuple") ?_ slot_tuple_getitem.lookup (getItem_tuple (j := 0) (Q := fun r s2 => r = .int i tk ∧ (∃ h2 t2, s2 = { s with heap := h2, toks := t2 } ∧ (∀ b o, s.heap.get? b = some o → h2.get? b = some o) ∧ r = .int i tk)) pl (by omega) (by omega) (by simp [seqIndex?, hl0]) (by simpa using hi) ⟨rfl, h1, _, rfl, kp, rfl⟩)
    obtain ⟨o, e, r, _⟩ := pl
    exact ⟨o, e, r⟩
end
open LamX
/-- the items with their first ones -/
def Firsts (K : PySem.W.Frag) (H : Hp) (bs : List (Int × V)) : Prop := ∀ b ∈ bs, ∃ (t : Addr) (ys : List V), b.2 = .ref t ∧ SqT K H t (.int b.1 :: ys)
def byFirst (bs : List (Int × V)) : List (Int × V) := bs.mergeSort fun a b => decide (a.1 ≤ b.1)
def tSortLam (K : PySem.W.Frag) (T : List (Addr × Str)) (t : TA) : TE := fun σ H Q => t σ H fun vs H1 => ∃ (l : Addr) (bs : List (Int × V)), vs = [.ref l] ∧ Tabs T H1 ∧ bs.length ≤ 4000 ∧
  ∀ H2, ExtN H1 H2 → Tabs T H2 → SqL K H2 l (bs.map (·.2)) ∧ Firsts K H2 bs ∧ ∀ p, H2 p = none → Q (.ref p) (upd H2 p (.lst ((byFirst bs).map (·.2))))
theorem each_of {R : Value → Int × V → Prop} : ∀ {us : List Value} {bs : List (Int × V)}, Vals (bs.map (·.2)) us → (∀ b ∈ bs, ∀ u, RelV b.2 u → R u b) → PySem.W.EachIs R us bs
  | _, [], .nil, _ => .nil
  | _, b :: bs, .cons r t, h => .cons (h b (List.mem_cons_self ..) _ r) (each_of t fun c hc => h c (List.mem_cons_of_mem _ hc))
theorem vals_of {R : Value → Int × V → Prop} (hR : ∀ u b, R u b → RelV b.2 u) : ∀ {us : List Value} {bs : List (Int × V)}, PySem.W.EachIs R us bs → Vals (bs.map (·.2)) us
  | _, _, .nil => .nil
  | _, _, .cons r t => .cons (hR _ _ r) (vals_of hR t)
theorem pe_sortLam {X : Cx} {e : Expr} {t : TA} {p pos lpos kpos p1 p2 p3 : Pos} {j : Nat} {x : Str} {params : Arguments} {scope : Scope} {T : List (Addr × Str)} {c P : Addr} (hg : Gl X "sorted") (hm : X.mg "sorted" = none) (hr : Room 1 X.A) (ha : PA X [e] t)
    (TB : TabB X.base X.mg c P) (hcode : X.env.code = .ref c) (hmT : (P, X.env.qual ++ "<lambda>") ∈ T) (hu : ∀ p ∈ T, p.1 = P → p.2 = X.env.qual ++ "<lambda>") (hdef : defaultsOf params X.env = ([], [])) (hcl : cloFrom X.env.cells scope.names [] = [])
    (hbind : ∀ pm c ctv v, bindArgs (PySem.W.kla_fn "<lambda>" (X.env.qual ++ "<lambda>") params (itemBody x p1 p2 p3 j) scope [] pm (.ref c) ctv) ⟨[v], []⟩ = pure [(x, v)]) (hco : scope.isCoroutine = false := by rfl) (hgen : scope.isGenerator = false := by rfl) (hk : scope.kind = .function := by rfl) (hx : scope.names.lookup x = some .local := by rfl)
    (hcell : ∀ y ∈ scope.names, y.2 ≠ .cell ∧ y.2 ≠ .free) (hd : (x == ("__debug__" : Str)) = false := by decide) (hcdn : (x == ("__classdict__" : Str)) = false := by decide)
    (hst : backTo pos (starEach [e] X.env) = (false, eval e X.env) :: backTo pos (starEach [] X.env) := by rfl) (hpl : (backTo pos (starEach [e] X.env)).any (·.1) = false := by rfl) :
    PE X (.Call (.Name "sorted" p) [e] [⟨some "key", .Lambda params (itemBody x p1 p2 p3 j) scope lpos, kpos⟩] pos) (tSortLam X.K T t) := by
  refine ⟨fun pins s σ H Q I h => ?_⟩
  refine wpAny_Call_Name_kw (ld_blt (u := .builtin "sorted") I hg hm (by decide +kernel) ?_ (by decide) (by decide))
  refine PyProof.Rows.callWith_kw (thn (ha.run pos pins s σ H _ I h) fun us s1 ⟨vs, H1, I1, r1, l, bs, e1, hT, hl, q1⟩ => ?_) hst hpl rfl rfl
  subst e1
  cases r1 with
  | cons r1 r2 =>
  cases r2
  cases r1
  show wpAny _ _ (evalAll [do let v ← eval (.Lambda params (itemBody x p1 p2 p3 j) scope lpos) X.env; standAt pos; pure v]) _ _ s1
  refine wpAny_evalAll_cons (wpAny_bind (lam_make2 I1 TB hcode hmT hu hT hdef (fun y hy hf => absurd hf (hcell y hy).2) fun f c1 pm ctv H2 s2 I2 eN T2 hf hfn hfr hco2 => wpAny_bind (wpAny_standAt (wpAny_pure (wpAny_evalAll_nil ?_)))))
  show wpAny _ _ (call (.builtin "sorted") [.ref l] [(Str.ofString "key", .ref f)]) _ _ s2
  obtain ⟨hs2, hf2, q2⟩ := q1 H2 eN T2
  rw [hcl] at hf
  obtain ⟨its, rv, pl, hz⟩ := I2.list hs2
  have hlen : its.length = bs.length := by rw [← rv.length, List.length_map]
  have hcr : s2.heap.CodeRec (.ref c1) (X.env.qual ++ "<lambda>") := by
    obtain ⟨⟨oc, us, t, a1, a2, a3⟩, _⟩ := I2.hok c1 _ hco2
    exact ⟨c1, oc, us, t, rfl, a1, a2, a3⟩
  refine PySem.W.sorted_key_data (R := fun u (b : Int × V) => RelV b.2 u ∧ b ∈ bs) (bs := bs) (b := false) (fun b : Int × V => .int b.1) pl.isList (each_of rv fun b hb u r => ⟨r, hb⟩) (PySem.W.AllAlike.of fun _ _ => rfl) (PySem.W.Sortable.others fun _ => ⟨(fun z => nomatch z), (fun _ z => nomatch z)⟩)
    (by have := hl; exact Nat.le_trans this (by decide)) (fun b _ => ?_) (ksk_s1 _ _) (fun _ => ksk_l1 _ _) (fun _ => ksk_t1 _ _) (fun v b hR hb hp tk kp => ?_) fun out cc hp tk kp hfr2 hD ho eo => ?_
  · have := hr.un
    show X.A.units + 2 + 0 < cLine
    omega
  · obtain ⟨t1, ys, e1, e2⟩ := hf2 b hb
    obtain ⟨hR1, _⟩ := hR
    rw [e1] at hR1
    cases (show v = Value.ref t1 from hR1)
    obtain ⟨it2, rt, ⟨o2, a1, a2⟩, z2⟩ := I2.tuple e2
    cases rt with
    | @cons _ u _ us ru rr =>
    obtain ⟨tk2, rfl⟩ := ru
    have hlim : hp.NoLimit := I2.nolimit.keeps kp
    have hcr2 : hp.CodeRec (.ref c1) (X.env.qual ++ "<lambda>") := by
      obtain ⟨c3, oc, us3, t3, b1, b2, b3⟩ := hcr
      exact ⟨c3, oc, us3, t3, b1, kp _ _ b2, b3⟩
    have hz2 : (Value.int b.1 tk2 :: us).length ≤ sizeLine := by
      have := rr.length
      rw [List.length_cons, ← this]
      exact z2
    refine wpAny_mono (lam_item (s := { s2 with heap := hp, toks := tk }) (A := X.A.in1.in1) (i := b.1) (tk := tk2) (its := Value.int b.1 tk2 :: us) (kp _ _ hf) hcr2 hlim (by have := hr.dp; show X.A.depth < _; omega) (hbind pm c1 ctv) hco hgen hk hx (fun y hy => (hcell y hy).1) hd hcdn ⟨o2, kp _ _ a1, a2⟩ rfl hz2) (fun v3 s3 q3 => ?_) fun _ _ q => q
    obtain ⟨h3, t3, rfl, k3, rfl⟩ := q3
    exact ⟨h3, t3, rfl, k3, Reads.int _ _⟩
  · rw [PySem.W.dataLe_int (fun b : Int × V => b.1)] at eo
    have rv2 : Vals ((byFirst bs).map (·.2)) out := vals_of (fun u b h => h.1) eo
    have hn : H2 (s2.heap.objs.size + 1) = none := I2.hok.fresh (Nat.le_succ _)
    refine ⟨.ref (s2.heap.objs.size + 1), _, I2.laid (o := .lst ((byFirst bs).map (·.2))) (t' := tk) kp (Nat.le_succ _) ?_, rfl, q2 _ hn⟩
    refine ⟨?_, out, cc, rv2, hD⟩
    rw [rv2.length, ho]
    exact Nat.le_trans hl (by decide)
end KdLam

/-! for a, b, c in zip(xs, ys, zs) over three lists -/
namespace KdZ
open PySem PySem.Spec PyProof.Rows L2
/-- three lists walked together -/
def It3 (K : PySem.W.Frag) (a b c : Addr) : It :=
  ⟨fun i H => ∃ (xs ys zs : List V) (x y z : V), SqL K H a xs ∧ SqL K H b ys ∧ SqL K H c zs ∧ xs[i]? = some x ∧ ys[i]? = some y ∧ zs[i]? = some z,
    fun i H v H' => ∃ T x y z, v = .ref T ∧ H T = none ∧ H' = upd H T (.tup [x, y, z]) ∧ (∀ xs, SqL K H a xs → xs[i]? = some x) ∧ (∀ ys, SqL K H b ys → ys[i]? = some y) ∧ ∀ zs, SqL K H c zs → zs[i]? = some z,
    fun i H => ∃ xs ys zs : List V, SqL K H a xs ∧ SqL K H b ys ∧ SqL K H c zs ∧ i = min (min xs.length ys.length) zs.length⟩
theorem one {q N : Addr} (h : q < N) : ∀ b ∈ [q], b < N := fun b hb => by rw [List.mem_singleton.mp hb]; exact h
theorem turn3 {P : Program} {w : World} {K : PySem.W.Frag} {elts : List Expr} {kk : Nat} {tpos : Pos} {a b c N : Addr} (la : a < N) (lb : b < N) (lc : c < N) :
    Turn P w K (.Tuple elts kk tpos) (It3 K a b c) [N + 5, N + 3, N + 4, N, N + 1, N + 2] (N + 5) (fun i h => IsZip h (N + 5) (N + 3) (N + 4) .none ∧ IsTupOf3 h (N + 3) (.ref N) (.ref (N + 1)) (.ref (N + 2)) ∧ (∃ a1 a2 a3, IsTupOf3 h (N + 4) a1 a2 a3) ∧ h.IsListIter N a i ∧ h.IsListIter (N + 1) b i ∧ h.IsListIter (N + 2) c i) where
  mem := List.mem_cons_self ..
  obj := fun i h st q hq => by
    obtain ⟨h1, h2, ⟨a1, a2, a3, h3⟩, ⟨o4, e4, _, d4⟩, ⟨o5, e5, _, d5⟩, ⟨o6, e6, _, d6⟩⟩ := st
    have e : q = N + 5 ∨ q = N + 3 ∨ q = N + 4 ∨ q = N ∨ q = N + 1 ∨ q = N + 2 := by simpa using hq
    rcases e with rfl | rfl | rfl | rfl | rfl | rfl
    · exact ⟨_, h1, fun v z => nomatch z⟩
    · exact ⟨_, h2, fun v z => nomatch z⟩
    · exact ⟨_, h3, fun v z => nomatch z⟩
    · exact ⟨o4, e4, fun v z => by rw [d4] at z; cases z⟩
    · exact ⟨o5, e5, fun v z => by rw [d5] at z; cases z⟩
    · exact ⟨o6, e6, fun v z => by rw [d6] at z; cases z⟩
  keep := fun i h h' st k => by
    obtain ⟨h1, h2, ⟨a1, a2, a3, h3⟩, h4, h5, h6⟩ := st
    exact ⟨k _ (by simp) _ h1, k _ (by simp) _ h2, ⟨a1, a2, a3, k _ (by simp) _ h3⟩, h4.at fun o q => k _ (by simp) o q, h5.at fun o q => k _ (by simp) o q, h6.at fun o q => k _ (by simp) o q⟩
  item := by
    intro X hP hw hK hc i pins s σ H E I hf st hg
    subst hP hw hK
    obtain ⟨h1, h2, h3, h4, h5, h6⟩ := st
    obtain ⟨xs, ys, zs, x, y, z, qx, qy, qz, gx, gy, gz⟩ := hg
    obtain ⟨i1, r1, p1, _⟩ := I.list qx
    obtain ⟨i2, r2, p2, _⟩ := I.list qy
    obtain ⟨i3, r3, p3, _⟩ := I.list qz
    obtain ⟨u1, e1, ru1⟩ := r1.get gx
    obtain ⟨u2, e2, ru2⟩ := r2.get gy
    obtain ⟨u3, e3, ru3⟩ := r3.get gz
    have l1 := (List.getElem?_eq_some_iff.mp e1).1
    have l2 := (List.getElem?_eq_some_iff.mp e2).1
    have l3 := (List.getElem?_eq_some_iff.mp e3).1
    have hh : X.A.in1.handled = none := by have := I.ok.hd hc; simpa using this
    have G := GoesN.zip3 (prog := X.prog) (w := X.w) (A := X.A) (elts := elts) (x1 := kk) (pos := tpos) (zip_sep3 (N := N) (fp1 := [a]) (fp2 := [b]) (fp3 := [c]) (one la) (one lb) (one lc)) (Draws.list hh N a (Nat.ne_of_lt la) i1.toArray) (Draws.list hh (N + 1) b (Nat.ne_of_lt (Nat.lt_succ_of_lt lb)) i2.toArray) (Draws.list hh (N + 2) c (Nat.ne_of_lt (Nat.lt_succ_of_lt (Nat.lt_succ_of_lt lc))) i3.toArray)
    refine G.goes i s _ E (by simp; omega) ⟨h1, h2, h3, ⟨h4, p1.isList⟩, ⟨h5, p2.isList⟩, ⟨h6, p3.isList⟩⟩ fun v h' tk hY st' hk htk => ?_
    obtain ⟨T, v1, v2, v3, rfl, hT, a1, a2, a3, ht⟩ := hY
    have b1 : v1 = u1 := by rw [List.getElem?_toArray, e1] at a1; exact (Option.some.inj a1).symm
    have b2 : v2 = u2 := by rw [List.getElem?_toArray, e2] at a2; exact (Option.some.inj a2).symm
    have b3 : v3 = u3 := by rw [List.getElem?_toArray, e3] at a3; exact (Option.some.inj a3).symm
    subst b1 b2 b3
    obtain ⟨s1, s2, s3, ⟨s4, _⟩, ⟨s5, _⟩, ⟨s6, _⟩⟩ := st'
    have hsub : ∀ q ∈ [N + 5, N + 4, N, N + 1, N + 2], q ∈ [N + 5, N + 3, N + 4, N, N + 1, N + 2] := fun q hq => by
      have e : q = N + 5 ∨ q = N + 4 ∨ q = N ∨ q = N + 1 ∨ q = N + 2 := by simpa using hq
      rcases e with rfl | rfl | rfl | rfl | rfl <;> simp
    have new : ObjOk X.prog X.w (upd H T (.tup [x, y, z])) h' T (.tup [x, y, z]) := ⟨by show 3 ≤ sizeLine; decide, [v1, v2, v3], .cons ru1 (.cons ru2 (.cons ru3 .nil)), ht⟩
    have I1 : Inv X pins σ (upd H T (.tup [x, y, z])) { s with heap := h', toks := tk } := I.turnedNew (t' := tk) (ch := [N + 5, N + 4, N, N + 1, N + 2]) hk (fun q hq => hf q (hsub q hq)) hT new
    refine ⟨.ref T, _, I1, rfl, ⟨T, x, y, z, rfl, I.hok.fresh hT, rfl, fun l hl => by rw [I.list_inj hl qx]; exact gx, fun l hl => by rw [I.list_inj hl qy]; exact gy, fun l hl => by rw [I.list_inj hl qz]; exact gz⟩, ⟨s1, s2, s3, s4, s5, s6⟩, fun q hq => ?_⟩
    have hlt : q < s.heap.objs.size := by
      have e : q = N + 5 ∨ q = N + 3 ∨ q = N + 4 ∨ q = N ∨ q = N + 1 ∨ q = N + 2 := by simpa using hq
      obtain ⟨a1, a2, a3, h3⟩ := h3
      rcases e with rfl | rfl | rfl | rfl | rfl | rfl
      · exact Heap.lt_size h1
      · exact Heap.lt_size h2
      · exact Heap.lt_size h3
      · obtain ⟨_, e, _⟩ := h4; exact Heap.lt_size e
      · obtain ⟨_, e, _⟩ := h5; exact Heap.lt_size e
      · obtain ⟨_, e, _⟩ := h6; exact Heap.lt_size e
    rw [upd_ne (Nat.ne_of_lt (Nat.lt_of_lt_of_le hlt hT))]
    exact (hf q hq).1
  done := by
    intro X hP hw hK hc i pins s σ H E I hf st hg
    subst hP hw hK
    obtain ⟨h1, h2, h3, h4, h5, h6⟩ := st
    obtain ⟨xs, ys, zs, qx, qy, qz, hi⟩ := hg
    obtain ⟨i1, r1, p1, _⟩ := I.list qx
    obtain ⟨i2, r2, p2, _⟩ := I.list qy
    obtain ⟨i3, r3, p3, _⟩ := I.list qz
    have hh : X.A.in1.handled = none := by have := I.ok.hd hc; simpa using this
    have G := GoesN.zip3 (prog := X.prog) (w := X.w) (A := X.A) (elts := elts) (x1 := kk) (pos := tpos) (zip_sep3 (N := N) (fp1 := [a]) (fp2 := [b]) (fp3 := [c]) (one la) (one lb) (one lc)) (Draws.list hh N a (Nat.ne_of_lt la) i1.toArray) (Draws.list hh (N + 1) b (Nat.ne_of_lt (Nat.lt_succ_of_lt lb)) i2.toArray) (Draws.list hh (N + 2) c (Nat.ne_of_lt (Nat.lt_succ_of_lt (Nat.lt_succ_of_lt lc))) i3.toArray)
    have en : i = min (min i1.toArray.size i2.toArray.size) i3.toArray.size := by
      rw [List.size_toArray, List.size_toArray, List.size_toArray, ← r1.length, ← r2.length, ← r3.length]
      exact hi
    subst en
    have hsub : ∀ q ∈ [N + 5, N + 4, N, N + 1, N + 2], q ∈ [N + 5, N + 3, N + 4, N, N + 1, N + 2] := fun q hq => by
      have e : q = N + 5 ∨ q = N + 4 ∨ q = N ∨ q = N + 1 ∨ q = N + 2 := by simpa using hq
      rcases e with rfl | rfl | rfl | rfl | rfl <;> simp
    exact G.stops s (fun s2 => Inv X pins σ H s2) E ⟨h1, h2, h3, ⟨h4, p1.isList⟩, ⟨h5, p2.isList⟩, ⟨h6, p3.isList⟩⟩ fun h' tk hk htk => I.turnedL (t' := tk) (ch := [N + 5, N + 4, N, N + 1, N + 2]) hk fun q hq => hf q (hsub q hq)
  self := fun A i s Q E st h => wpAny_pyIter_zip st.1 h
def iZip3 (K : PySem.W.Frag) (ta : TA) : TI := fun σ H R => ta σ H fun vs H1 => ∃ a b c xs ys zs, vs = [.ref a, .ref b, .ref c] ∧ SqL K H1 a xs ∧ SqL K H1 b ys ∧ SqL K H1 c zs ∧ R (It3 K a b c) H1
theorem pi_zip3 {X : Cx} {e e2 e3 : Expr} {ta : TA} {p pos tpos : Pos} {elts : List Expr} {kk : Nat} (hg : Gl X "zip") (hm : X.mg "zip" = none) (ha : PA X [e, e2, e3] ta)
    (hs : starEach [e, e2, e3] X.env = (false, eval e X.env) :: starEach [e2, e3] X.env := by rfl) (hpl : (backTo pos (starEach [e2, e3] X.env)).any (·.1) = false := by rfl) :
    PI X (.Tuple elts kk tpos) (.Call (.Name "zip" p) [e, e2, e3] [] pos) (iZip3 X.K ta) := by
  refine ⟨fun pins s σ H R I h => Call_ (ld_blt I hg hm PyProof.Rows.boot_zip (PyProof.Rows.callWith_type1 (thn (ha.run pos pins s σ H _ I h) fun us s1 ⟨vs, H1, I1, r1, q1⟩ => ?_) hs hpl))⟩
  obtain ⟨a, b, c, xs, ys, zs, rfl, qx, qy, qz, q⟩ := q1
  cases r1 with
  | cons r1 t =>
  cases t with
  | cons r2 t =>
  cases t with
  | cons r3 t =>
  cases t
  cases r1
  cases r2
  cases r3
  obtain ⟨i1, w1, p1, _⟩ := I1.list qx
  obtain ⟨i2, w2, p2, _⟩ := I1.list qy
  obtain ⟨i3, w3, p3, _⟩ := I1.list qz
  refine zip_begins3 (begins_list a i1.toArray) (begins_list b i2.toArray) (begins_list c i3.toArray) p1.isList p2.isList p3.isList fun h' hz hTI hTO g1 g2 g3 hsz hk => wpAny_pyIter_zip hz ?_
  refine ⟨s1.heap.objs.size + 5, [s1.heap.objs.size + 5, s1.heap.objs.size + 3, s1.heap.objs.size + 4, s1.heap.objs.size, s1.heap.objs.size + 1, s1.heap.objs.size + 2], _, _, H1, rfl, I1.kept (t' := s1.toks) hk, turn3 p1.lt p2.lt p3.lt, ⟨hz, hTI, ⟨_, _, _, hTO⟩, ⟨_, g1, rfl, rfl⟩, ⟨_, g2, rfl, rfl⟩, ⟨_, g3, rfl, rfl⟩⟩, fun d hd => ?_, q⟩
  have hle : s1.heap.objs.size ≤ d := by
    have e' : d = s1.heap.objs.size + 5 ∨ d = s1.heap.objs.size + 3 ∨ d = s1.heap.objs.size + 4 ∨ d = s1.heap.objs.size ∨ d = s1.heap.objs.size + 1 ∨ d = s1.heap.objs.size + 2 := by simpa using hd
    rcases e' with z | z | z | z | z | z
    all_goals
      rw [z]
      first | exact Nat.le_add_right _ _ | exact Nat.le_refl _
  exact I1.fpOk hle (I1.hok.fresh hle)
/-- three lists of one length -/
def Y3 (xs ys zs : List V) : Nat → Hp → V → Hp → Prop := fun i H v H' => ∃ T x y z, v = .ref T ∧ H T = none ∧ H' = upd H T (.tup [x, y, z]) ∧ xs[i]? = some x ∧ ys[i]? = some y ∧ zs[i]? = some z
theorem walk_zip3 {K : PySem.W.Frag} {a b c : Addr} {xs ys zs : List V} {n : Nat} (h1 : xs.length = n) (h2 : ys.length = n) (h3 : zs.length = n) : Walk (It3 K a b c) n (fun H => SqL K H a xs ∧ SqL K H b ys ∧ SqL K H c zs) (Y3 xs ys zs) where
  goes := fun i H hi ⟨q1, q2, q3⟩ => ⟨xs, ys, zs, xs[i]'(by omega), ys[i]'(by omega), zs[i]'(by omega), q1, q2, q3, List.getElem?_eq_getElem _, List.getElem?_eq_getElem _, List.getElem?_eq_getElem _⟩
  stops := fun H ⟨q1, q2, q3⟩ => ⟨xs, ys, zs, q1, q2, q3, by omega⟩
  yields := fun i H x H' hi ⟨q1, q2, q3⟩ ⟨T, x1, y1, z1, e1, e2, e3, g1, g2, g3⟩ => ⟨T, x1, y1, z1, e1, e2, e3, g1 _ q1, g2 _ q2, g3 _ q3⟩
end KdZ

namespace Kd
open PySem PySem.Spec PyProof.Rows L2
section
variable {P : Program} {w : World} {K : PySem.W.Frag} {mg : Str → Option Value} {base : Heap} {f : Addr} {fd : FuncData}
/-! ### value_by_way -/
def col (at_ : Nat) (ks : List Kind) : List Fv := ks.map fun k => k.2.getD at_ (.i 0)
def wvD (way : Str) (at_ : Nat) (ks : List Kind) (op : Option (List Fv)) : PyData :=
  if way = "day" then optD (op.map fun o => o.getD at_ (.i 0)) else if way = "before" then .tuple [optD (unl (col at_ ks)).1, optD (unl (col at_ ks)).2] else optD (if way = "first" then (col at_ ks).head? else (col at_ ks).getLast?)
/-- None, or the values that open a version -/
def OpAt (K : PySem.W.Frag) (H : Hp) (o : V) (n : Nat) : Option (List Fv) → Prop
  | none => o = .non
  | some ov => ∃ q, o = .ref q ∧ SqT K H q (ov.map Fv.v) ∧ ov.length = n
theorem OpAt.same {H H' : Hp} {o : V} {n : Nat} (e : Same H H') : ∀ {op : Option (List Fv)}, OpAt K H o n op → OpAt K H' o n op
  | none, h => h
  | some _, ⟨q, h1, h2, h3⟩ => ⟨q, h1, Same.seqT e h2, h3⟩
theorem get_at {l : List Fv} {i : Nat} (h : i < l.length) : l.getD i (.i 0) = l[i] := by simp [List.getD_eq_getElem?_getD, h]
/-! ### day_value -/
def spDayV (K : PySem.W.Frag) : Sp := fun vs H Q _ => ∃ (at_ n : Nat) (o : V) (op : Option (List Fv)), vs = [.int (at_ : Int), o] ∧ OpAt K H o n op ∧ at_ < n ∧ ∀ r, Dp K H r (optD (op.map fun o => o.getD at_ (.i 0))) → Q r H
theorem sc_dayv : FnScope ["at", "opening"] ["at", "opening"] (defScope s_day_value) := ⟨rfl, rfl, rfl, by decide +kernel, rfl, by decide +kernel, by decide +kernel⟩
theorem ok_dayv (F : FnP K "day_value" "day_value" s_day_value f fd) : FnOk P w K mg base CX0 1 f fd ["at", "opening"] (spDayV K) := by
  refine F.ok sc_dayv (fun vs H Q E h => ?_) (fun cdv A outer s H vs Q E hr h => ?_)
  · obtain ⟨at_, n, o, op, rfl, _⟩ := h
    rfl
  · obtain ⟨at_, n, o, op, rfl, ho, ha, k⟩ := h
    refine ⟨_, PSs.nox (pss_one (ps_ret (pe_ifExp (pt_cmp (pc_isN (pv 1))) pe_non (pe_ix ix_tup (pv 1) (pv 0) (fun _ _ => rfl))))), ?_⟩
    cases op with
    | none =>
      have e : o = .non := ho
      subst e
      exact ⟨_, rfl, _, rfl, iteT (k _ .non)⟩
    | some ov =>
      obtain ⟨q, rfl, h2, h3⟩ := ho
      refine ⟨_, rfl, _, rfl, iteF ⟨_, rfl, _, rfl, q, _, _, _, rfl, rfl, h2, atI_nat (map_at (by omega)), ?_⟩⟩
      refine k _ ?_
      show Dp K H _ (ov.getD at_ (.i 0)).d
      rw [get_at (by omega)]
      exact Fv.dp _
/-! ### steady_value -/
def stD (way : Str) (cs : List Fv) : PyData := if way = "before" then .tuple [optD (unl cs).1, optD (unl cs).2] else optD (if way = "first" then cs.head? else cs.getLast?)
theorem wv_day {way : Str} {i : Nat} {ks : List Kind} {op : Option (List Fv)} (h : way = "day") : wvD way i ks op = optD (op.map fun o => o.getD i (.i 0)) := by unfold wvD; rw [if_pos h]
theorem wv_st {way : Str} {i : Nat} {ks : List Kind} {op : Option (List Fv)} (h : ¬ way = "day") : wvD way i ks op = stD way (col i ks) := by unfold wvD stD; rw [if_neg h]
def spStv (K : PySem.W.Frag) : Sp := fun vs H Q _ => ∃ (way : Str) (m : Addr) (cs : List Fv), vs = [.str way, .ref m] ∧ SqL K H m (cs.map Fv.v) ∧ cs.length ≤ 4000 ∧ ∀ r H', Dp K H' r (stD way cs) → Same H H' → Q r H'
theorem sc_stv : FnScope ["way", "column"] ["way", "column"] (defScope s_steady_value) := ⟨rfl, rfl, rfl, by decide +kernel, rfl, by decide +kernel, by decide +kernel⟩
theorem ok_stv {fL : Addr} {fdL : FuncData} (F : FnP K "steady_value" "steady_value" s_steady_value f fd) (GL : FnOk P w K mg base CX0 1 fL fdL ["column"] (spLast K)) (kL : PySem.W.keepIn K (.ref fL) = true) (bL : Binds K fdL ["column"] []) (gL : mg "last_and_unlike" = some (.ref fL)) : FnOk P w K mg base CX0 2 f fd ["way", "column"] (spStv K) := by
  refine F.ok sc_stv (fun vs H Q E h => ?_) (fun cdv A outer s H vs Q E hr h => ?_)
  · obtain ⟨way, m, cs, rfl, _⟩ := h
    rfl
  · obtain ⟨way, m, cs, rfl, hm, lk, k⟩ := h
    have nd := sc_stv.nd
    refine ⟨_, PSs.nox (pss_cons (ps_if (pt_cmpR op_eq (pv 0) pe_str (nomark _)) (pss_one (ps_ret (pe_call GL hr rfl gL kL bL .nil pass0 (pa_cons (pv 1) pa_nil)))) pss_nil)
      (pss_cons (ps_if (pt_not (pt_truth (pv 1) (by intro _; rfl))) (pss_one (ps_ret pe_non)) pss_nil)
      (pss_one (ps_ret (pe_ifExp (pt_cmpR op_eq (pv 0) pe_str (nomark _)) (pe_ix ix_list (pv 1) pe_int (fun _ _ => rfl)) (pe_ix ix_list (pv 1) (pe_un un_neg pe_int) (fun _ _ => rfl))))))), ?_⟩
    refine ⟨_, rfl, rfl, _, rfl, ?_⟩
    by_cases c2 : way = "before"
    · rw [decide_eq_true (congrArg V.str c2)]
      have ev : stD way cs = .tuple [optD (unl cs).1, optD (unl cs).2] := by unfold stD; rw [if_pos c2]
      rw [ev] at k
      exact iteT ⟨_, rfl, m, cs, rfl, hm, lk, fun r H3 d3 s3 => k _ H3 d3 s3⟩
    · rw [decide_eq_false (fun z => c2 (by injection z))]
      have ev : stD way cs = optD (if way = "first" then cs.head? else cs.getLast?) := by unfold stD; rw [if_neg c2]
      rw [ev] at k
      refine iteF ⟨_, rfl, _, .inl ⟨_, hm, rfl⟩, ?_⟩
      cases hc : cs with
      | nil =>
        rw [hc] at k
        have e0 : optD (if way = "first" then ([] : List Fv).head? else ([] : List Fv).getLast?) = .none := by split <;> rfl
        rw [e0] at k
        exact iteT (k _ H .non (Same.refl H))
      | cons b r =>
        rw [← hc]
        have ne : (!(cs.map Fv.v).isEmpty) = true := by rw [hc]; rfl
        rw [ne]
        refine iteF ⟨_, rfl, rfl, _, rfl, ?_⟩
        by_cases c3 : way = "first"
        · rw [decide_eq_true (congrArg V.str c3)]
          rw [if_pos c3, hc] at k
          exact iteT ⟨_, rfl, m, _, _, _, rfl, rfl, hm, atI_nat (j := 0) (by rw [hc]; rfl), k _ H (Fv.dp b) (Same.refl H)⟩
        · rw [decide_eq_false (fun z => c3 (by injection z))]
          rw [if_neg c3] at k
          cases hl : cs.getLast? with
          | none => rw [List.getLast?_eq_none_iff.mp hl] at hc; cases hc
          | some z =>
            rw [hl] at k
            exact iteF ⟨_, rfl, _, rfl, m, _, _, _, rfl, rfl, hm, atI_end (by rw [last_map, hl]; rfl), k _ H (Fv.dp z) (Same.refl H)⟩
/-! ### version_values -/
theorem optD_nolist (a : Option Fv) (n : Nat) : NoL (n + 1) (optD a) := by
  cases a with
  | none => exact trivial
  | some b => cases b <;> exact trivial
theorem wv_nolist (way : Str) (i : Nat) (ks : List Kind) (op : Option (List Fv)) : NoL 2 (wvD way i ks op) := by
  unfold wvD
  split
  · exact optD_nolist _ 1
  · split
    · intro d hd
      rcases List.mem_cons.mp hd with rfl | hd
      · exact optD_nolist _ 0
      · rw [List.mem_singleton.mp hd]
        exact optD_nolist _ 0
    · exact optD_nolist _ 1
mutual
theorem dp_cd' {H : Hp} {D : Addr} {L : List V} (hD : H D = some (.lst L)) : ∀ (d : PyData) (n : Nat) (v : V), NoL n d → Dp K H v d → Dp K (cd D H) v d
  | _, 0, _, h, _ => (show False from h).elim
  | .none, n + 1, _, _, h => by cases h; exact .non
  | .bool b, n + 1, _, _, h => by cases h; exact .bl b
  | .int i, n + 1, _, _, h => by cases h; exact .int i
  | .str x, n + 1, _, _, h => by cases h; exact .str x
  | .list ds, n + 1, _, q, _ => (show False from q).elim
  | .tuple ds, n + 1, _, q, h => by
    cases h with
    | tup a b => exact .tup (seqT_list0 hD a) (dpall_cd' hD ds n _ q b)
  | .dict _, n + 1, _, q, _ => (show False from q).elim
theorem dpall_cd' {H : Hp} {D : Addr} {L : List V} (hD : H D = some (.lst L)) : ∀ (ds : List PyData) (n : Nat) (vs : List V), (∀ d ∈ ds, NoL n d) → DpAll K H vs ds → DpAll K (cd D H) vs ds
  | [], _, _, _, h => by cases h; exact .nil
  | d :: ds, n, _, q, h => by
    cases h with
    | cons a b => exact .cons (dp_cd' hD d n _ (q d (List.mem_cons_self ..)) a) (dpall_cd' hD ds n _ (fun e he => q e (List.mem_cons_of_mem _ he)) b)
end
theorem dp_cd {H : Hp} {D : Addr} {L : List V} {d : PyData} {n : Nat} {v : V} (hD : H D = some (.lst L)) (q : NoL n d) (h : Dp K H v d) : Dp K (cd D H) v d := dp_cd' hD d n v q h
def vvD (ws : List Str) (ks : List Kind) (op : Option (List Fv)) : List PyData := (List.range ws.length).map fun j => wvD (ws.getD j Str.empty) j ks op
def stL (ws : List Str) (ks : List Kind) : List PyData := (List.range ws.length).map fun j => stD (ws.getD j Str.empty) (col j ks)
theorem st_nolist (way : Str) (cs : List Fv) : NoL 2 (stD way cs) := by
  unfold stD
  split
  · intro d hd
    rcases List.mem_cons.mp hd with rfl | hd
    · exact optD_nolist _ 0
    · rw [List.mem_singleton.mp hd]
      exact optD_nolist _ 0
  · exact optD_nolist _ 1
def spVv (K : PySem.W.Frag) : Sp := fun vs H Q _ => ∃ (l m : Addr) (o : V) (ws : List Str) (ks : List Kind) (op : Option (List Fv)) (ss : List V), vs = [.ref l, .ref m, o] ∧ SqL K H l (ws.map V.str) ∧ SqL K H m ss ∧ DpAll K H ss (stL ws ks) ∧ OpAt K H o ws.length op ∧ ws.length ≤ 5 ∧
  ∀ r H', Dp K H' (.ref r) (.tuple (vvD ws ks op)) → Same H H' → Q (.ref r) H'
theorem sc_vv : FnScope ["ways", "steady", "opening", "at", "way"] ["ways", "steady", "opening"] (defScope s_version_values) := ⟨rfl, rfl, rfl, by decide +kernel, rfl, by decide +kernel, by decide +kernel⟩
theorem dpall_snoc {H : Hp} {v : V} {d : PyData} : ∀ {vs : List V} {ds : List PyData}, DpAll K H vs ds → Dp K H v d → DpAll K H (vs ++ [v]) (ds ++ [d])
  | _, _, .nil, h => .cons h .nil
  | _, _, .cons a t, h => .cons a (dpall_snoc t h)
theorem ok_vv {fV : Addr} {fdV : FuncData} (F : FnP K "version_values" "version_values" s_version_values f fd) (GV : FnOk P w K mg base CX0 1 fV fdV ["at", "opening"] (spDayV K)) (kV : PySem.W.keepIn K (.ref fV) = true) (bV : Binds K fdV ["at", "opening"] []) (gV : mg "day_value" = some (.ref fV)) (gE : mg "enumerate" = none) (gT : mg "tuple" = none) :
    FnOk P w K mg base CX0 2 f fd ["ways", "steady", "opening"] (spVv K) := by
  refine F.ok sc_vv (fun vs H Q E h => ?_) (fun cdv A outer s H vs Q E hr h => ?_)
  · obtain ⟨l, m, o, ws, ks, op, ss, rfl, _⟩ := h
    rfl
  · obtain ⟨l, m, o, ws, ks, op, ss, rfl, hl, hm, ds, ho, lw, k⟩ := h
    have nd := sc_vv.nd
    refine ⟨_, PSs.nox (pss_one (ps_ret (pe_callTy call_tuple_of (by rfl) gT (by decide +kernel) (pa_cons (pe_lc (own := [("at", 3), ("way", 4)]) (g := gTup K 2 (gCons (gName 3) (gCons (gName 4) gNil))) (tt := tYes) (te := tIf (tTest (tOp rEq (tVar 4) (tC (.str "day")))) (tCall (spDayV K) [] E0 (tCons (tVar 3) (tCons (tVar 2) tNil))) (tOp (rIxL K) (tVar 1) (tVar 3))) rfl nd (pi_enum rfl gE (pa_cons (pv 0) pa_nil)) (blkOk_by (own := [("at", 3), ("way", 4)]) (N := ["ways", "steady", "opening", "at", "way"]) (sc := defScope s_version_values) (by decide +kernel))
      (fun _ _ _ _ _ => pg_tup rfl (pgs_cons (pg_name (i := 3) nd rfl (Or.inl rfl)) (pgs_cons (pg_name (i := 4) nd rfl (Or.inl rfl)) pgs_nil))) (fun _ _ _ _ _ => pts_nil) (fun _ _ _ _ _ => pe_ifExp (pt_cmpR op_eq (pv 4) pe_str (nomark _)) (pe_call GV hr rfl gV kV bV .nil pass0 (pa_cons (pv 3) (pa_cons (pv 2) pa_nil))) (pe_ix ix_list (pv 1) (pv 3) (fun _ _ => rfl)))) pa_nil)))), ?_⟩
    refine ⟨_, rfl, l, _, rfl, hl, fun D hD => lc_build (walk_enum (K := K) (a := l) (xs := ws.map V.str)) hD (fun i ys R => Same H R ∧ DpAll K R ys ((List.range i).map fun j => wvD (ws.getD j Str.empty) j ks op)) ⟨Same.refl H, .nil⟩ (fun _ _ _ _ p => (p.1.trans cd_sub).seq hl) ?_ ?_⟩
    · rintro i ys y H2 H2' hi e ly ⟨sm, dp⟩ ⟨T, x1, y1, rfl, nT, rfl, e1, e2⟩
      rw [List.length_map] at hi
      cases e1
      obtain ⟨z, rfl, e3⟩ := strs_at e2
      have nDT : D ≠ T := ne_of_none e nT
      have s2 : Same H (cd D (upd H2 T (.tup [.int (i : Nat), .str z]))) := sm.trans (cd_same (same_new nT))
      have s2' := s2.trans cd_sub
      refine ⟨T, _, rfl, SqT.of upd_same, rfl, _, _, rfl, _, _, rfl, rfl, rfl, yes ?_⟩
      have ew : ws.getD i Str.empty = z := by rw [List.getD_eq_getElem?_getD, e3]; rfl
      have e5 : upd H2 T (.tup [.int (i : Nat), .str z]) D = some (.lst ys) := by rw [upd_ne nDT]; exact e
      have fin : ∀ r, Dp K (upd H2 T (.tup [.int (i : Nat), .str z])) r (wvD z i ks op) → ∃ acc, (upd H2 T (.tup [.int (i : Nat), .str z])) D = some (.lst acc) ∧ acc.length < sizeLine ∧ LcNx D (fun i ys R => Same H R ∧ DpAll K R ys ((List.range i).map fun j => wvD (ws.getD j Str.empty) j ks op)) (i + 1) (upd (upd H2 T (.tup [.int (i : Nat), .str z])) D (.lst (acc ++ [r]))) := fun r d3 => by
        refine LcNx.add e5 ly (by omega) ⟨s2, ?_⟩
        rw [List.range_succ, List.map_append]
        refine dpall_snoc (DpAll.same (cd_same (same_new nT)) _ _ dp) ?_
        show Dp K _ r (wvD (ws.getD i Str.empty) i ks op)
        rw [ew]
        exact dp_cd e5 (wv_nolist z i ks op) d3
      refine ⟨_, rfl, rfl, _, rfl, ?_⟩
      by_cases c : z = "day"
      · rw [decide_eq_true (congrArg V.str c)]
        refine iteT ⟨_, rfl, _, rfl, i, ws.length, o, op, rfl, OpAt.same s2' ho, hi, fun r d3 => fin r ?_⟩
        rw [wv_day c]
        exact d3
      · rw [decide_eq_false (fun q => c (by injection q))]
        have lss := DpAll.len ds
        unfold stL at lss
        rw [List.length_map, List.length_range] at lss
        have hq : ss[i]? = some ss[i] := List.getElem?_eq_getElem (by omega)
        refine iteF ⟨_, rfl, _, rfl, m, _, _, _, rfl, rfl, s2'.seq hm, atI_nat hq, fin _ ?_⟩
        rw [wv_st c]
        obtain ⟨d, hd, dd⟩ := DpAll.at_ (DpAll.same s2' _ _ ds) hq
        unfold stL at hd
        rw [List.getElem?_map, List.getElem?_range hi] at hd
        cases hd
        have dd2 : Dp K (upd H2 T (.tup [.int (i : Nat), .str z])) ss[i] (stD (ws.getD i Str.empty) (col i ks)) := dd
        rw [ew] at dd2
        exact dd2
    · rintro ys H2 e ly ⟨sm, dp⟩
      rw [List.length_map] at dp
      have s2 := sm.trans cd_sub
      refine ⟨D, ys, rfl, .inl ⟨SqL.of e, fun t nt => ?_⟩⟩
      exact k t _ (.tup (SqT.of upd_same) (DpAll.same (cd_sub.trans (same_new nt)) _ _ dp)) (s2.trans (same_new nt))
end
end Kd

namespace Kd
open PySem PySem.Spec PyProof.Rows L2 LamX
/-! ### heaps without the tables -/
def nt (H : Hp) : Hp := fun b => match H b with
  | some (.tbl _) => none
  | o => o
theorem nt_of {H : Hp} {b : Addr} {o : HO} (e : H b = some o) (h : ∀ ps, o ≠ .tbl ps) : nt H b = some o := by
  unfold nt
  rw [e]
  cases o with
  | tbl ps => exact absurd rfl (h ps)
  | _ => rfl
theorem nt_sub {H : Hp} : Same (nt H) H := fun b o e => by
  unfold nt at e
  cases q : H b with
  | none => rw [q] at e; cases e
  | some u =>
    rw [q] at e
    cases u with
    | tbl ps => cases e
    | _ => exact e
theorem nt_not {H : Hp} {b : Addr} {o : HO} (e : nt H b = some o) : ∀ ps, o ≠ .tbl ps := fun ps z => by
  subst z
  have q := nt_sub _ _ e
  unfold nt at e
  rw [q] at e
  cases e
theorem ext_nt {H H' : Hp} (e : ExtN H H') : Same (nt H) (nt H') := fun b o h => nt_of (e b o (nt_sub _ _ h) (nt_not h)) (nt_not h)
/-- an assignment, the slots written out -/
theorem set_st {i : Nat} {σ σ' : L2.St} {K : L2.St → Hp → Prop} {v : V} {H : Hp} (e : σ.set i (some v) = σ') (h : K σ' H) : (fun x H1 => gName i x σ H1 K) v H := by
  subst e
  exact h
section
variable {P : Program} {w : World} {K : PySem.W.Frag} {mg : Str → Option Value} {base : Heap} {f : Addr} {fd : FuncData}
theorem seqL_nt {H : Hp} {a : Addr} {xs : List V} (h : SqL K H a xs) : SqL K (nt H) a xs := by
  rcases h with (q | ⟨o, q⟩) | q
  · exact .inl (.inl (nt_of q (fun _ z => nomatch z)))
  · exact .inl (.inr ⟨o, nt_of q (fun _ z => nomatch z)⟩)
  · exact .inr q
theorem seqT_nt {H : Hp} {a : Addr} {xs : List V} (h : SqT K H a xs) : SqT K (nt H) a xs := by
  rcases h with (q | ⟨o, q⟩) | q
  · exact .inl (.inl (nt_of q (fun _ z => nomatch z)))
  · exact .inl (.inr ⟨o, nt_of q (fun _ z => nomatch z)⟩)
  · exact .inr q
theorem kinds_nt {H : Hp} {l : Addr} {ks : List Kind} : KindsAt K H l ks → KindsAt K (nt H) l ks := fun ⟨xs, h1, h2⟩ => ⟨xs, seqL_nt h1, PySem.Paired.mono (fun _ _ ⟨p, q, e1, e2, e3⟩ => ⟨p, q, e1, seqT_nt e2, seqT_nt e3⟩) h2⟩
mutual
theorem dp_nt {H : Hp} : ∀ (d : PyData) (v : V), Dp K H v d → Dp K (nt H) v d
  | .none, _, h => by cases h; exact .non
  | .bool b, _, h => by cases h; exact .bl b
  | .int i, _, h => by cases h; exact .int i
  | .str x, _, h => by cases h; exact .str x
  | .list ds, _, h => by
    cases h with
    | lst a b => exact .lst (seqL_nt a) (dpall_nt ds _ b)
  | .tuple ds, _, h => by
    cases h with
    | tup a b => exact .tup (seqT_nt a) (dpall_nt ds _ b)
  | .dict _, _, h => by cases h
theorem dpall_nt {H : Hp} : ∀ (ds : List PyData) (vs : List V), DpAll K H vs ds → DpAll K (nt H) vs ds
  | [], _, h => by cases h; exact .nil
  | d :: ds, _, h => by
    cases h with
    | cons a b => exact .cons (dp_nt d _ a) (dpall_nt ds _ b)
end
/-! ### kinds by rising days -/
def srt (ks : List Kind) : List Kind := ks.mergeSort fun a b => decide (a.1 ≤ b.1)
theorem paired_zip {α β : Type} {R : α → β → Prop} : ∀ {l : List α} {m : List β}, Paired R l m → ∀ p ∈ l.zip m, R p.1 p.2
  | _, _, .nil, p, hp => by simp at hp
  | _, _, .cons h t, p, hp => by
    rcases List.mem_cons.mp (show p ∈ _ :: _ from hp) with rfl | hp
    · exact h
    · exact paired_zip t p hp
theorem paired_of {α β : Type} {R : α → β → Prop} : ∀ {cs : List (α × β)}, (∀ c ∈ cs, R c.1 c.2) → Paired R (cs.map (·.1)) (cs.map (·.2))
  | [], _ => .nil
  | c :: cs, h => .cons (h c (List.mem_cons_self ..)) (paired_of fun d hd => h d (List.mem_cons_of_mem _ hd))
def firsts (xs : List V) (ks : List Kind) : List (Int × V) := (xs.zip ks).map fun c => (c.2.1, c.1)
theorem firsts_snd {xs : List V} {ks : List Kind} (h : xs.length = ks.length) : (firsts xs ks).map (·.2) = xs := by
  unfold firsts
  rw [List.map_map]
  exact List.map_fst_zip (by omega)
theorem srt_paired {H : Hp} {xs : List V} {ks : List Kind} (hp : Paired (KindAt K H) xs ks) : Paired (KindAt K H) ((KdLam.byFirst (firsts xs ks)).map (·.2)) (srt ks) := by
  have hl := hp.length
  have e1 : KdLam.byFirst (firsts xs ks) = ((xs.zip ks).mergeSort fun a b => decide (a.2.1 ≤ b.2.1)).map fun c => (c.2.1, c.1) := by
    unfold KdLam.byFirst firsts
    exact (List.map_mergeSort (r := fun a b : V × Kind => decide (a.2.1 ≤ b.2.1)) (s := fun a b : Int × V => decide (a.1 ≤ b.1)) (f := fun c : V × Kind => (c.2.1, c.1)) (l := xs.zip ks) (fun a _ b _ => rfl)).symm
  have e2 : srt ks = ((xs.zip ks).mergeSort fun a b => decide (a.2.1 ≤ b.2.1)).map (·.2) := by
    have e3 : ks = (xs.zip ks).map (·.2) := (List.map_snd_zip (by omega)).symm
    unfold srt
    rw [List.map_mergeSort (r := fun a b : V × Kind => decide (a.2.1 ≤ b.2.1)) (s := fun a b : Kind => decide (a.1 ≤ b.1)) (f := fun c : V × Kind => c.2) (l := xs.zip ks) (fun a _ b _ => rfl), ← e3]
  rw [e1, e2, List.map_map]
  refine paired_of (cs := (xs.zip ks).mergeSort fun a b => decide (a.2.1 ≤ b.2.1)) fun c hc => paired_zip hp c ?_
  exact List.mem_mergeSort.mp hc
/-! ### stretches -/
def bgn (ops : List Kind) (j : Nat) : PyData := match j with
  | 0 => .none
  | j + 1 => .int (ops.getD j (0, [])).1
def fin_ (ops : List Kind) (j : Nat) : PyData := if j < ops.length then .int (ops.getD j (0, [])).1 else .none
def opv (ops : List Kind) (j : Nat) : Option (List Fv) := match j with
  | 0 => none
  | j + 1 => some (ops.getD j (0, [])).2
def verD (ws : List Str) (ord ops : List Kind) (j : Nat) : PyData := .tuple [bgn ops j, fin_ ops j, .tuple (vvD ws ord (opv ops j))]
def strL (ws : List Str) (ks : List Kind) : List PyData := (List.range ((opn ws (srt ks)).length + 1)).map (verD ws (srt ks) (opn ws (srt ks)))
theorem vv_nolist (ws : List Str) (ks : List Kind) (op : Option (List Fv)) : NoL 3 (.tuple (vvD ws ks op)) := fun d hd => by
  obtain ⟨j, _, rfl⟩ := List.mem_map.mp hd
  exact wv_nolist _ _ _ _
theorem ver_nolist (ws : List Str) (ord ops : List Kind) (j : Nat) : NoL 4 (verD ws ord ops j) := fun d hd => by
  rcases List.mem_cons.mp hd with rfl | hd
  · cases j <;> exact trivial
  · rcases List.mem_cons.mp hd with rfl | hd
    · unfold fin_
      split <;> exact trivial
    · rw [List.mem_singleton.mp hd]
      exact vv_nolist _ _ _
theorem kget {ops : List Kind} {i : Nat} (h : i < ops.length) : ops.getD i (0, []) = ops[i] := by simp [List.getD_eq_getElem?_getD, h]
theorem bgn_dp {H : Hp} {ops : List Kind} {i : Nat} {v : V} (h : ([V.non] ++ ops.map fun k => V.int k.1)[i]? = some v) : Dp K H v (bgn ops i) := by
  cases i with
  | zero =>
    cases (Option.some.inj h)
    exact .non
  | succ i =>
    have h2 : (ops.map fun k => V.int k.1)[i]? = some v := h
    have hl := (List.getElem?_eq_some_iff.mp h2).1
    rw [List.length_map] at hl
    rw [map_at hl] at h2
    cases h2
    show Dp K H _ (.int (ops.getD i (0, [])).1)
    rw [kget hl]
    exact .int _
theorem fin_dp {H : Hp} {ops : List Kind} {i : Nat} {v : V} (h : ((ops.map fun k => V.int k.1) ++ [V.non])[i]? = some v) : Dp K H v (fin_ ops i) := by
  unfold fin_
  by_cases hl : i < ops.length
  · rw [if_pos hl, kget hl]
    rw [List.getElem?_append_left (by rw [List.length_map]; exact hl), map_at hl] at h
    cases h
    exact .int _
  · rw [if_neg hl]
    have h2 := (List.getElem?_eq_some_iff.mp h).1
    rw [List.length_append, List.length_map] at h2
    have e : i = (ops.map fun k => V.int k.1).length := by rw [List.length_map]; simp at h2; omega
    rw [List.getElem?_append_right (by omega), e, Nat.sub_self] at h
    cases (Option.some.inj h)
    exact .non
theorem op_at {H : Hp} {ops : List Kind} {yv : List V} {n i : Nat} {v : V} (hp : Paired (fun v (kd : Kind) => ∃ q, v = .ref q ∧ SqT K H q (kd.2.map Fv.v)) yv ops) (hl : ∀ k ∈ ops, k.2.length = n) (h : ([V.non] ++ yv)[i]? = some v) : OpAt K H v n (opv ops i) := by
  cases i with
  | zero =>
    cases (Option.some.inj h)
    rfl
  | succ i =>
    have h2 : yv[i]? = some v := h
    obtain ⟨kd, q1, q, e1, e2⟩ := paired_at hp h2
    obtain ⟨g1, g2⟩ := List.getElem?_eq_some_iff.mp q1
    show OpAt K H v n (some (ops.getD i (0, [])).2)
    rw [kget g1, g2]
    exact ⟨q, e1, e2, hl kd (List.mem_of_getElem? q1)⟩
abbrev qS : Str := ("stretches" : Str) ++ ".<locals>." ++ "<lambda>"
theorem FunD.okC {x qual : Str} {params : Arguments} {body : List Stmt} {scope : Scope} {dvs : List V} {kws : List (Str × V)} {c : Addr} {CX : CXT} {N ps : List Str} {k : Nat} {sp : Sp} (F : FunD K x qual params body scope dvs kws f fd) (hc : fd.code = .ref c) (S : FnScope N ps scope) (len : ∀ vs H Q E, sp vs H Q E → vs.length = ps.length)
    (hb : ∀ (A : Around) (outer : List Env) (s : Shared) (H : Hp) (vs : List V) (Q : VK) (E : XK), Room k (A.deeper (envOfC qual scope s.heap.objs.size f (.ref c))) → sp vs H Q E →
      ∃ t, PSs (cxOf CX P w K mg base N qual scope f (.ref c) A outer s H E) body t ∧ t { nx := fun _ H' => Q .non H', rt := Q } (start N vs) H) : FnOk P w K mg base CX (k + 1) f fd ps sp := by
  obtain ⟨oc, od, dV, kV, doc, pm, an, cdv, ct, osl, rfl, lk, hcd, _, _⟩ := F.ex
  have e : cdv = .ref c := hc
  subst e
  exact fn_of lk hcd S len fun A outer s H vs Q E hr hsp => hb A outer s H vs Q E hr hsp
def spStr (K : PySem.W.Frag) (C Pt : Addr) : Sp := fun vs H Q _ => ∃ (x l : Addr) (n : Str) (ds : List (Str × List (Str × Str))) (ms : List Str) (d : Str × List (Str × Str)) (ks : List Kind), vs = [.ref x, .str n, .ref l] ∧ PlanAt K C H x ds ms ∧ ds.find? (fun d => decide (d.1 = n)) = some d ∧ KindsAt K H l ks ∧ (∀ k ∈ ks, k.2.length = d.2.length) ∧ d.2.length ≤ 5 ∧ ks.length ≤ 200 ∧ Tabs [(Pt, qS)] H ∧
  ∀ r H', ExtN H H' → Tabs [(Pt, qS)] H' → (∀ b o, H b = some o → (∀ ps, o ≠ .tbl ps) → b ≠ r) → (∃ ys, H' r = some (.lst ys) ∧ ys.length ≤ 300 ∧ DpAll K H' ys (strL (d.2.map (·.2)) ks)) → Q (.ref r) H'
def stSc : Scope := { kind := .function, names := [(".0", .local), ("at", .cell), ("way", .local), ("steady_value", .globalImplicit), ("ordered", .cell)], isGenerator := false, isCoroutine := false }
abbrev stN : List Str := ["plan", "dimension", "kinds", "attributes", "attribute", "way", "ways", "ordered", "openers", "day", "values", "cuts", "opened_with", "at", "steady", "begin", "end", "opening"]
theorem sc_str : FnScope stN ["plan", "dimension", "kinds"] (defScope s_stretches) := ⟨rfl, rfl, rfl, by decide +kernel, rfl, by decide +kernel, by decide +kernel⟩
set_option maxHeartbeats 0 in
theorem ok_str {C c Pt fA fO fV fS : Addr} {fdA fdO fdV fdS : FuncData} (F : FnP K "stretches" "stretches" s_stretches f fd) (hc : fd.code = .ref c) (TB : TabB base mg c Pt) (GA : FnOk P w K mg base CX0 2 fA fdA ["plan", "dimension"] (spAttr K C)) (kA : PySem.W.keepIn K (.ref fA) = true) (bA : Binds K fdA ["plan", "dimension"] []) (gA : mg "attributes_of" = some (.ref fA))
    (GO : FnOk P w K mg base CX0 2 fO fdO ["ways", "ordered"] (spOpen K)) (kO : PySem.W.keepIn K (.ref fO) = true) (bO : Binds K fdO ["ways", "ordered"] []) (gO : mg "opening_kinds" = some (.ref fO)) (GV : FnOk P w K mg base CX0 2 fV fdV ["ways", "steady", "opening"] (spVv K)) (kV : PySem.W.keepIn K (.ref fV) = true) (bV : Binds K fdV ["ways", "steady", "opening"] []) (gV : mg "version_values" = some (.ref fV))
    (GS : FnOk P w K mg base CX0 2 fS fdS ["way", "column"] (spStv K)) (kS : PySem.W.keepIn K (.ref fS) = true) (bS : Binds K fdS ["way", "column"] []) (gS : mg "steady_value" = some (.ref fS)) (gE : mg "enumerate" = none) (gs : mg "sorted" = none) (gZ : mg "zip" = none) :
    FnOk P w K mg base CX0 4 f fd ["plan", "dimension", "kinds"] (spStr K C Pt) := by
  refine FunD.okC F hc sc_str (fun vs H Q E h => ?_) (fun A outer s H vs Q E hr h => ?_)
  · obtain ⟨x, l, n, ds, ms, d, ks, rfl, _⟩ := h
    rfl
  · obtain ⟨x, l, n, ds, ms, d, ks, rfl, hp, hd, hk, hkl, ld, lk, hT, k⟩ := h
    have nd := sc_str.nd
    have hr2 : Room 2 _ := hr.mono (by decide)
    have hr1 : Room 1 _ := hr.mono (by decide)
    refine ⟨_, PSs.nox (pss_cons (ps_set (i := 3) nd rfl (Or.inl rfl) (pe_call GA hr2 rfl gA kA bA .nil pass0 (pa_cons (pv 0) (pa_cons (pv 1) pa_nil))))
      (pss_cons (ps_if (pt_cmp (pc_isN (pv 3))) (pss_one ps_never) pss_nil)
      (pss_cons (ps_set (i := 6) nd rfl (Or.inr rfl) (pe_lc (own := [("attribute", 4), ("way", 5)]) (g := gTup K 2 (gCons (gName 4) (gCons (gName 5) gNil))) (tt := tYes) rfl nd (pi_tup (pv 3)) (blkOk_by (own := [("attribute", 4), ("way", 5)]) (N := stN) (sc := defScope s_stretches) (by decide +kernel))
        (fun _ _ _ _ _ => pg_tup rfl (pgs_cons (pg_name (i := 4) nd rfl (Or.inl rfl)) (pgs_cons (pg_name (i := 5) nd rfl (Or.inl rfl)) pgs_nil))) (fun _ _ _ _ _ => pts_nil) (fun _ _ _ _ _ => pv 5)))
      (pss_cons (ps_set (i := 7) nd rfl (Or.inr rfl) (KdLam.pe_sortLam (T := [(Pt, qS)]) rfl gs hr1 (pa_cons (pv 2) pa_nil) TB rfl (List.mem_cons_self ..) (fun p hp _ => by rw [List.mem_singleton.mp hp]; rfl) rfl rfl (fun _ _ _ _ => rfl) rfl rfl rfl rfl (by decide +kernel)))
      (pss_cons (ps_set (i := 8) nd rfl (Or.inl rfl) (pe_call GO hr2 rfl gO kO bO .nil pass0 (pa_cons (pv 6) (pa_cons (pv 7) pa_nil))))
      (pss_cons (ps_setLc (i := 11) (own := [("day", 9), ("values", 10)]) (g := gTup K 2 (gCons (gName 9) (gCons (gName 10) gNil))) (tt := tYes) rfl nd rfl rfl (sw_true rfl rfl rfl (by decide +kernel)) (pi_list (pv 8)) (blkOk_by (own := [("day", 9), ("values", 10)]) (N := stN) (sc := defScope s_stretches) (by decide +kernel))
        (fun _ _ _ _ _ => pg_tup rfl (pgs_cons (pg_name (i := 9) nd rfl (Or.inl rfl)) (pgs_cons (pg_name (i := 10) nd rfl (Or.inl rfl)) pgs_nil))) (fun _ _ _ _ _ => pts_nil) (fun _ _ _ _ _ => pv 9))
      (pss_cons (ps_set (i := 12) nd rfl (Or.inl rfl) (pe_op op_cat (pe_lst (pa_cons pe_non pa_nil)) (pe_lc (own := [("day", 9), ("values", 10)]) (g := gTup K 2 (gCons (gName 9) (gCons (gName 10) gNil))) (tt := tYes) rfl nd (pi_list (pv 8)) (blkOk_by (own := [("day", 9), ("values", 10)]) (N := stN) (sc := defScope s_stretches) (by decide +kernel))
        (fun _ _ _ _ _ => pg_tup rfl (pgs_cons (pg_name (i := 9) nd rfl (Or.inl rfl)) (pgs_cons (pg_name (i := 10) nd rfl (Or.inl rfl)) pgs_nil))) (fun _ _ _ _ _ => pts_nil) (fun _ _ _ _ _ => pv 10))))
      (pss_cons (ps_set (i := 14) nd rfl (Or.inr rfl) (pe_lc (own := [("at", 13), ("way", 5)]) (g := gTup K 2 (gCons (gName 13) (gCons (gName 5) gNil))) (tt := tYes) (te := tCall (spStv K) [] E0 (tCons (tVar 5) (tCons (tLc (iList K (tVar 7)) (gTup K 2 (gCons (gName 9) (gCons (gName 10) gNil))) tYes (tOp (rIxT K) (tVar 10) (tVar 13)) [9, 10]) tNil))) rfl nd (pi_enum rfl gE (pa_cons (pv 6) pa_nil)) (blkOk_by (own := [("at", 13), ("way", 5)]) (N := stN) (sc := defScope s_stretches) (by decide +kernel))
        (fun _ _ _ _ _ => pg_tup rfl (pgs_cons (pg_name (i := 13) nd rfl (Or.inr rfl)) (pgs_cons (pg_name (i := 5) nd rfl (Or.inl rfl)) pgs_nil))) (fun _ _ _ _ _ => pts_nil)
        (fun _ _ _ _ _ => pe_call GS hr2 rfl gS kS bS .nil pass0 (pa_cons (pv 5) (pa_cons (pe_lc (own := [("day", 9), ("values", 10)]) (g := gTup K 2 (gCons (gName 9) (gCons (gName 10) gNil))) (tt := tYes) (te := tOp (rIxT K) (tVar 10) (tVar 13)) rfl nd (pi_list (pv 7)) (blkOk_by (own := [("day", 9), ("values", 10)]) (N := stN) (sc := stSc) (by decide +kernel))
          (fun _ _ _ _ _ => pg_tup rfl (pgs_cons (pg_name (i := 9) nd rfl (Or.inl rfl)) (pgs_cons (pg_name (i := 10) nd rfl (Or.inl rfl)) pgs_nil))) (fun _ _ _ _ _ => pts_nil) (fun _ _ _ _ _ => pe_ix ix_tup (pv 10) (pv 13) (fun _ _ => rfl))) pa_nil)))))
      (pss_one (ps_ret (pe_lc (own := [("begin", 15), ("end", 16), ("opening", 17)]) (g := gTup K 3 (gCons (gName 15) (gCons (gName 16) (gCons (gName 17) gNil)))) (tt := tYes) (te := tTup (tCons (tVar 15) (tCons (tVar 16) (tCons (tCall (spVv K) [] E0 (tCons (tVar 6) (tCons (tVar 14) (tCons (tVar 17) tNil)))) tNil)))) rfl nd
          (KdZ.pi_zip3 rfl gZ (pa_cons (pe_op op_cat (pe_lst (pa_cons pe_non pa_nil)) (pv 11)) (pa_cons (pe_op op_cat (pv 11) (pe_lst (pa_cons pe_non pa_nil))) (pa_cons (pv 12) pa_nil)))) (blkOk_by (own := [("begin", 15), ("end", 16), ("opening", 17)]) (N := stN) (sc := defScope s_stretches) (by decide +kernel))
        (fun _ _ _ _ _ => pg_tup rfl (pgs_cons (pg_name (i := 15) nd rfl (Or.inl rfl)) (pgs_cons (pg_name (i := 16) nd rfl (Or.inl rfl)) (pgs_cons (pg_name (i := 17) nd rfl (Or.inl rfl)) pgs_nil)))) (fun _ _ _ _ _ => pts_nil) (fun _ _ _ _ _ => pe_tup (pa_cons (pv 15) (pa_cons (pv 16) (pa_cons (pe_call GV hr2 rfl gV kV bV .nil pass0 (pa_cons (pv 6) (pa_cons (pv 14) (pa_cons (pv 17) pa_nil)))) pa_nil))))))))))))))), ?_⟩
    refine ⟨_, rfl, _, rfl, x, n, ds, ms, rfl, hp, fun d1 q H1 hd1 hq s1 => ?_, fun hn => by rw [hd] at hn; cases hn⟩
    rw [hd] at hd1
    cases hd1
    obtain ⟨ya, ha, pa⟩ := hq
    have la := pa.length
    refine ⟨_, rfl, _, rfl, iteF ?_⟩
    refine ⟨_, rfl, q, rfl, ⟨_, ha⟩, fun D hD => lc_build (walk_tup (K := K) (a := q)) hD (fun i ys R => R = H1 ∧ ys = (d.2.take i).map fun a => V.str a.2) ⟨rfl, rfl⟩ (fun i ys H2 _ p => Same.seqT (cd_is0 p.1) ha) ?_ ?_⟩
    · rintro i ys y H2 H2' hi e ly ⟨ec, rfl⟩ ⟨rfl, hy⟩
      obtain ⟨a, q1, r, rfl, a1⟩ := paired_at pa hy
      refine ⟨r, _, rfl, Same.seqT (cd_is0 ec) a1, rfl, _, _, rfl, _, _, rfl, rfl, rfl, yes ?_⟩
      exact ⟨_, rfl, LcNx.add e ly (by omega) ⟨ec, take_snoc q1⟩⟩
    · rintro ys H2 e2 ly ⟨ec2, rfl⟩
      have eW : (d.2.take ya.length).map (fun a => V.str a.2) = (d.2.map (·.2)).map V.str := by
        rw [la, List.take_length, List.map_map]
        rfl
      rw [eW] at e2
      have lws : (d.2.map (·.2)).length = d.2.length := List.length_map ..
      generalize d.2.map (·.2) = ws at *
      have s02 : Same H H2 := s1.trans (cd_is0 ec2)
      obtain ⟨xs, hx, px⟩ := hk
      have lx := px.length
      refine set_st (σ' := [some (.ref x), some (.str n), some (.ref l), some (.ref q), none, none, some (.ref D), none, none, none, none, none, none, none, none, none, none, none]) rfl ?_
      refine ⟨_, rfl, l, firsts xs ks, rfl, hT.ext s02, by unfold firsts; rw [List.length_map, List.length_zip]; omega, fun H3 eN T3 => ?_⟩
      have s23 : Same (nt H2) (nt H3) := ext_nt eN
      obtain ⟨xs3, hx3, px3⟩ : KindsAt K H3 l ks := KindsAt.same (s23.trans nt_sub) (kinds_nt (KindsAt.same s02 ⟨xs, hx, px⟩))
      have hx3' : SqL K H3 l xs := (s23.trans nt_sub).seq (seqL_nt (s02.seq hx))
      have px3' : Paired (KindAt K H3) xs ks := PySem.Paired.mono (fun _ _ ⟨p, q, e1, e2, e3⟩ => ⟨p, q, e1, Same.seqT (s23.trans nt_sub) (seqT_nt (Same.seqT s02 e2)), Same.seqT (s23.trans nt_sub) (seqT_nt (Same.seqT s02 e3))⟩) px
      refine ⟨by rw [firsts_snd lx]; exact hx3', fun b hb => ?_, fun p np => ?_⟩
      · obtain ⟨cz, hcz, rfl⟩ := List.mem_map.mp hb
        obtain ⟨p, q, e1, e2, e3⟩ := paired_zip px3' cz hcz
        exact ⟨p, _, e1, e2⟩
      have e3 : H3 D = some (.lst (ws.map V.str)) := nt_sub _ _ (s23 _ _ (nt_of e2 (fun _ z => nomatch z)))
      have s34 : Same H3 (upd H3 p (.lst ((KdLam.byFirst (firsts xs ks)).map (·.2)))) := same_new np
      have hord : KindsAt K (upd H3 p (.lst ((KdLam.byFirst (firsts xs ks)).map (·.2)))) p (srt ks) := ⟨_, SqL.of upd_same, PySem.Paired.mono (fun _ _ => KindAt.same s34) (srt_paired px3')⟩
      have hsl : ∀ k ∈ srt ks, k.2.length = ws.length := fun kd hkd => by rw [lws]; exact hkl kd (List.mem_mergeSort.mp hkd)
      have lsr : (srt ks).length = ks.length := List.length_mergeSort ..
      refine set_st (σ' := [some (.ref x), some (.str n), some (.ref l), some (.ref q), none, none, some (.ref D), some (.ref p), none, none, none, none, none, none, none, none, none, none]) rfl ?_
      refine ⟨_, rfl, _, rfl, D, p, ws, srt ks, rfl, SqL.of (s34 _ _ e3), hord, hsl, by omega, by omega, fun r yo H5 h5 p5 s5 => ?_⟩
      have lo := p5.length
      have lops : (opn ws (srt ks)).length ≤ ks.length + 1 := by
        unfold opn
        rw [List.length_append, List.length_take, List.length_map]
        have := List.length_filter_le (nxt ws) ((srt ks).zip ((srt ks).drop 1))
        rw [List.length_zip, List.length_drop] at this
        omega
      have hops : ∀ k ∈ opn ws (srt ks), k.2.length = ws.length := fun kd hkd => by
        unfold opn at hkd
        rcases List.mem_append.mp hkd with hkd | hkd
        · exact hsl kd (List.mem_of_mem_take hkd)
        · obtain ⟨pr, hpr, rfl⟩ := List.mem_map.mp hkd
          exact hsl _ (List.mem_of_mem_drop (List.of_mem_zip (List.mem_filter.mp hpr).1).2)
      generalize hopd : opn ws (srt ks) = ops at *
      refine set_st (σ' := [some (.ref x), some (.str n), some (.ref l), some (.ref q), none, none, some (.ref D), some (.ref p), some (.ref r), none, none, none, none, none, none, none, none, none]) rfl ?_
      refine ⟨_, rfl, r, rfl, ⟨_, SqL.of h5⟩, fun D6 hD6 => lc_build (walk_list (K := K) (a := r)) hD6 (fun i ys R => R = H5 ∧ ys = (ops.take i).map fun k => V.int k.1) ⟨rfl, rfl⟩ (fun i ys H6 _ p => SqL.of (cd_is0 p.1 _ _ h5)) ?_ ?_⟩
      · rintro i ys y H6 H6' hi e ly ⟨ec, rfl⟩ ⟨rfl, hy⟩
        obtain ⟨kd, q1, p, q, rfl, a1, a2⟩ := paired_at p5 hy
        refine ⟨p, _, rfl, Same.seqT (cd_is0 ec) a1, rfl, _, _, rfl, _, _, rfl, rfl, rfl, yes ?_⟩
        exact ⟨_, rfl, LcNx.add e ly (by omega) ⟨ec, take_snoc q1⟩⟩
      · rintro ys H6 e6 ly ⟨ec6, rfl⟩
        rw [lo, List.take_length] at e6
        have s56 : Same H5 H6 := cd_is0 ec6
        refine set_st (σ' := [some (.ref x), some (.str n), some (.ref l), some (.ref q), none, none, some (.ref D), some (.ref p), some (.ref r), none, none, some (.ref D6), none, none, none, none, none, none]) rfl ?_
        refine ⟨by show 1 ≤ sizeLine; decide, fun p7 n7 => ?_⟩
        have s67 : Same H6 (upd H6 p7 (.lst [.non])) := same_new n7
        have s57 := s56.trans s67
        refine ⟨_, rfl, r, rfl, ⟨_, SqL.of (s57 _ _ h5)⟩, fun D8 hD8 => lc_build (walk_list (K := K) (a := r)) hD8 (fun i ys R => R = upd H6 p7 (.lst [.non]) ∧ Paired (fun v (kd : Kind) => ∃ q, v = .ref q ∧ SqT K R q (kd.2.map Fv.v)) ys (ops.take i)) ⟨rfl, .nil⟩ (fun i ys H8 _ p => SqL.of (cd_is0 p.1 _ _ (s57 _ _ h5))) ?_ ?_⟩
        · rintro i ys y H8 H8' hi e ly ⟨ec, pr⟩ ⟨rfl, hy⟩
          obtain ⟨kd, q1, p, q, rfl, a1, a2⟩ := paired_at p5 hy
          have s58 : Same H5 H8' := s57.trans (cd_is0 ec)
          refine ⟨p, _, rfl, Same.seqT s58 a1, rfl, _, _, rfl, _, _, rfl, rfl, rfl, yes ?_⟩
          refine ⟨_, rfl, LcNx.add e ly (by omega) ⟨ec, ?_⟩⟩
          obtain ⟨g1, g2⟩ := List.getElem?_eq_some_iff.mp q1
          rw [List.take_succ_eq_append_getElem g1, g2]
          refine PySem.Paired.snoc pr ⟨q, rfl, ?_⟩
          rw [ec]
          exact Same.seqT s57 a2
        · rintro yv H8 e8 lyv ⟨ec8, pr8⟩
          rw [lo, List.take_length] at pr8
          have lv := pr8.length
          have s78 : Same (upd H6 p7 (.lst [.non])) H8 := cd_is0 ec8
          refine ⟨p7, D8, _, _, rfl, rfl, s78 _ _ upd_same, e8, le_line (by show 1 + yv.length ≤ 4000; omega), fun p9 n9 => ?_⟩
          have s89 : Same H8 (upd H8 p9 (.lst ([.non] ++ yv))) := same_new n9
          have s69 := (s67.trans s78).trans s89
          have c9 := s69 _ _ e6
          have s49 : Same (upd H3 p (.lst ((KdLam.byFirst (firsts xs ks)).map (·.2)))) (upd H8 p9 (.lst ([.non] ++ yv))) := s5.trans (s56.trans s69)
          have s39 := s34.trans s49
          have f9 : upd H8 p9 (.lst ([.non] ++ yv)) p9 = some (.lst ([.non] ++ yv)) := upd_same
          have pr9 : Paired (fun v (kd : Kind) => ∃ q, v = .ref q ∧ SqT K (upd H8 p9 (.lst ([.non] ++ yv))) q (kd.2.map Fv.v)) yv ops := PySem.Paired.mono (fun _ _ ⟨q, e1, e2⟩ => ⟨q, e1, Same.seqT (cd_sub.trans s89) e2⟩) pr8
          generalize upd H8 p9 (.lst ([.non] ++ yv)) = H9 at s89 s69 c9 s49 s39 f9 pr9 ⊢
          refine set_st (σ' := [some (.ref x), some (.str n), some (.ref l), some (.ref q), none, none, some (.ref D), some (.ref p), some (.ref r), none, none, some (.ref D6), some (.ref p9), none, none, none, none, none]) rfl ?_
          refine ⟨_, rfl, D, _, rfl, SqL.of (s39 _ _ e3), fun DS hDS => lc_build (walk_enum (K := K) (a := D) (xs := ws.map V.str)) hDS (fun i ys R => Same H9 R ∧ DpAll K R ys ((List.range i).map fun j => stD (ws.getD j Str.empty) (col j (srt ks)))) ⟨Same.refl _, .nil⟩ (fun _ _ _ _ p => SqL.of ((p.1.trans cd_sub) _ _ (s39 _ _ e3))) ?_ ?_⟩
          · rintro i ys y Ha Ha' hi e ly ⟨sm, dp⟩ ⟨T, x1, y1, rfl, nT, rfl, e1, e2⟩
            rw [List.length_map] at hi
            cases e1
            obtain ⟨z, rfl, ez⟩ := strs_at e2
            have nDT : DS ≠ T := ne_of_none e nT
            have ew : ws.getD i Str.empty = z := by rw [List.getD_eq_getElem?_getD, ez]; rfl
            have e6b : upd Ha T (.tup [.int (i : Nat), .str z]) DS = some (.lst ys) := by rw [upd_ne nDT]; exact e
            have sT : Same Ha (upd Ha T (.tup [.int (i : Nat), .str z])) := same_new nT
            refine ⟨T, _, rfl, SqT.of upd_same, rfl, _, _, rfl, _, _, rfl, rfl, rfl, yes ?_⟩
            generalize upd Ha T (.tup [.int (i : Nat), .str z]) = Hb at e6b sT ⊢
            have sb : Same H9 (cd DS Hb) := sm.trans (cd_same sT)
            obtain ⟨xo, ho1, ho2⟩ := KindsAt.same (s49.trans (sb.trans cd_sub)) hord
            have lxo := ho2.length
            refine ⟨_, rfl, _, rfl, p, rfl, ⟨_, ho1⟩, fun DC hDC => lc_build (walk_list (K := K) (a := p)) hDC (fun j zs R => R = Hb ∧ zs = ((srt ks).take j).map fun k => (k.2.getD i (.i 0)).v) ⟨rfl, rfl⟩ (fun j zs Hc _ q => (cd_is0 q.1).seq ho1) ?_ ?_⟩
            · rintro j zs y Hc Hc' hj ec lz ⟨eh, rfl⟩ ⟨rfl, hy⟩
              obtain ⟨kd, q1, pk, qk, rfl, a1, a2⟩ := paired_at ho2 hy
              have hk1 := hsl kd (List.mem_of_getElem? q1)
              refine ⟨pk, _, rfl, Same.seqT (cd_is0 eh) a1, rfl, _, _, rfl, _, _, rfl, rfl, rfl, yes ?_⟩
              refine ⟨_, rfl, _, rfl, qk, _, _, _, rfl, rfl, Same.seqT (cd_is0 eh) a2, atI_nat (map_at (by omega)), LcNx.add ec lz (by omega) ⟨eh, ?_⟩⟩
              rw [← get_at (by omega)]
              exact take_snoc q1
            · rintro zs Hc ec lz ⟨eh, rfl⟩
              have eC : ((srt ks).take xo.length).map (fun k => (k.2.getD i (.i 0)).v) = (col i (srt ks)).map Fv.v := by
                unfold col
                rw [lxo, List.take_length, List.map_map]
                rfl
              rw [eC] at ec
              have lcol : (col i (srt ks)).length = (srt ks).length := by unfold col; exact List.length_map ..
              refine ⟨z, DC, col i (srt ks), rfl, SqL.of ec, by omega, fun r Hd dd sd => ?_⟩
              have e7 : Hd DS = some (.lst ys) := sd _ _ (cd_is0 eh _ _ e6b)
              have scc : Same (cd DS Ha) (cd DS Hd) := cd_same ((sT.trans (cd_is0 eh)).trans sd)
              refine LcNx.add e7 ly (by omega) ⟨sm.trans scc, ?_⟩
              rw [List.range_succ, List.map_append]
              refine dpall_snoc (DpAll.same scc _ _ dp) ?_
              show Dp K (cd DS Hd) r (stD (ws.getD i Str.empty) (col i (srt ks)))
              rw [ew]
              exact dp_cd e7 (st_nolist z _) dd
          · rintro ss HS eS lS ⟨sS, dS⟩
            rw [List.length_map] at dS
            have s9S : Same H9 HS := sS.trans cd_sub
            have dS2 : DpAll K HS ss (stL ws (srt ks)) := DpAll.same cd_sub _ _ dS
            replace c9 := s9S _ _ c9
            refine set_st (σ' := [some (.ref x), some (.str n), some (.ref l), some (.ref q), none, none, some (.ref D), some (.ref p), some (.ref r), none, none, some (.ref D6), some (.ref p9), none, some (.ref DS), none, none, none]) rfl ?_
            refine ⟨by show 1 ≤ sizeLine; decide, fun pa na => ?_⟩
            have s9a := same_new (o := .lst [.non]) na
            have lcut : (ops.map fun k => V.int k.1).length = ops.length := List.length_map ..
            refine ⟨_, rfl, pa, D6, _, _, rfl, rfl, upd_same, s9a _ _ c9, le_line (by rw [lcut]; show 1 + ops.length ≤ 4000; omega), fun pb nb => ?_⟩
            have sab := same_new (o := .lst ([.non] ++ ops.map fun k => V.int k.1)) nb
            have cb := sab _ _ (s9a _ _ c9)
            refine ⟨_, rfl, by show 1 ≤ sizeLine; decide, fun pc nc => ?_⟩
            have sbc := same_new (o := .lst [.non]) nc
            refine ⟨D6, pc, _, _, rfl, rfl, sbc _ _ cb, upd_same, le_line (by rw [lcut]; show ops.length + 1 ≤ 4000; omega), fun pd nd2 => ?_⟩
            have scd := same_new (o := .lst ((ops.map fun k => V.int k.1) ++ [.non])) nd2
            generalize hHd : upd (upd (upd (upd HS pa (.lst [.non])) pb (.lst ([.non] ++ ops.map fun k => V.int k.1))) pc (.lst [.non])) pd (.lst ((ops.map fun k => V.int k.1) ++ [.non])) = Hd at *
            have gd : Hd pd = some (.lst ((ops.map fun k => V.int k.1) ++ [.non])) := by rw [← hHd]; exact upd_same
            have gb : Hd pb = some (.lst ([.non] ++ ops.map fun k => V.int k.1)) := scd _ _ (sbc _ _ upd_same)
            have s9d := ((s9a.trans sab).trans sbc).trans scd
            have g9 : Hd p9 = some (.lst ([.non] ++ yv)) := s9d _ _ (s9S _ _ f9)
            have s8d : Same H8 Hd := s89.trans (s9S.trans s9d)
            have s7d := s78.trans s8d
            have s5d : Same H5 Hd := s57.trans s7d
            have s4d := s5.trans s5d
            have s3d := s34.trans s4d
            have prd : Paired (fun v (kd : Kind) => ∃ q, v = .ref q ∧ SqT K Hd q (kd.2.map Fv.v)) yv ops := PySem.Paired.mono (fun _ _ ⟨q, e1, e2⟩ => ⟨q, e1, Same.seqT (s9S.trans s9d) e2⟩) pr9
            refine ⟨_, rfl, pb, pd, p9, _, _, _, rfl, SqL.of gb, SqL.of gd, SqL.of g9, fun B hB => ?_⟩
            refine lc_build (KdZ.walk_zip3 (K := K) (a := pb) (b := pd) (c := p9) (n := ops.length + 1) (by rw [List.length_append, lcut]; show 1 + ops.length = _; omega) (by rw [List.length_append, lcut]; rfl) (by rw [List.length_append]; show 1 + yv.length = _; omega)) hB
              (fun i ys R => Same Hd R ∧ DpAll K R ys ((List.range i).map (verD ws (srt ks) ops))) ⟨Same.refl _, .nil⟩ (fun i ys Hz _ p => ⟨SqL.of (cd_sub _ _ (p.1 _ _ gb)), SqL.of (cd_sub _ _ (p.1 _ _ gd)), SqL.of (cd_sub _ _ (p.1 _ _ g9))⟩) ?_ ?_
            · rintro i ys y He He' hi e ly ⟨sm, dp⟩ ⟨T, v1, v2, v3, rfl, nT, rfl, ev1, ev2, ev3⟩
              have nBT : B ≠ T := ne_of_none e nT
              have sde : Same Hd (upd He T (.tup [v1, v2, v3])) := (sm.trans cd_sub).trans (same_new nT)
              refine ⟨T, _, rfl, SqT.of upd_same, rfl, _, _, rfl, _, _, rfl, _, _, rfl, rfl, rfl, yes ?_⟩
              have hop : OpAt K (upd He T (.tup [v1, v2, v3])) v3 ws.length (opv ops i) := op_at (PySem.Paired.mono (fun _ _ ⟨q, e1, e2⟩ => ⟨q, e1, Same.seqT sde e2⟩) prd) hops ev3
              refine ⟨_, rfl, _, rfl, _, rfl, _, rfl, _, rfl, D, DS, v3, ws, srt ks, opv ops i, ss, rfl, SqL.of (sde _ _ (s3d _ _ e3)), SqL.of (sde _ _ (s9d _ _ eS)), DpAll.same (s9d.trans sde) _ _ dS2, hop, by omega, fun rv Hf df sf => ?_⟩
              refine ⟨by show 3 ≤ sizeLine; decide, fun t ntt => ?_⟩
              have ef : upd Hf t (.tup [v1, v2, .ref rv]) B = some (.lst ys) := by
                have q1 : Hf B = some (.lst ys) := sf _ _ (by rw [upd_ne nBT]; exact e)
                rw [upd_ne (ne_of_none q1 ntt)]
                exact q1
              have sef : Same (cd B He) (cd B (upd Hf t (.tup [v1, v2, .ref rv]))) := cd_same (((same_new nT).trans sf).trans (same_new ntt))
              refine LcNx.add ef ly (by omega) ⟨sm.trans sef, ?_⟩
              rw [List.range_succ, List.map_append]
              refine dpall_snoc (DpAll.same sef _ _ dp) (dp_cd ef (ver_nolist ws (srt ks) ops i) ?_)
              refine .tup (SqT.of upd_same) (.cons (bgn_dp ev1) (.cons (fin_dp ev2) (.cons (Dp.same (same_new ntt) _ _ df) .nil)))
            · rintro ys Hz ez ly ⟨sm, dp⟩
              have sdz : Same Hd Hz := sm.trans cd_sub
              have s3z := s3d.trans sdz
              refine k B Hz ((ExtN.of s02).trans (eN.trans (ExtN.of s3z))) (T3.ext s3z) (fun b o hb nt => ne_of_none (((ExtN.of s02).trans (eN.trans (ExtN.of s3d))) b _ hb nt) hB) ⟨_, ez, by omega, ?_⟩
              have ew : strL ws ks = (List.range (ops.length + 1)).map (verD ws (srt ks) ops) := by
                unfold strL
                rw [hopd]
              rw [ew]
              exact DpAll.same cd_sub _ _ dp
end
end Kd

namespace Kd
open PySem PySem.Spec PyProof.Rows L2
/-! ### the mirror of a house's things -/
abbrev Th := Str × Str
abbrev Dims := List (Str × List (Str × Str))
def oD : Option Int → PyData
  | none => .none
  | some i => .int i
def ovI : Option Int → V
  | none => .non
  | some i => .int i
/-- a version: from, to, values -/
abbrev Sv := Option Int × Option Int × List PyData
def bO (ops : List Kind) (j : Nat) : Option Int := match j with
  | 0 => none
  | j + 1 => some (ops.getD j (0, [])).1
def fO (ops : List Kind) (j : Nat) : Option Int := if j < ops.length then some (ops.getD j (0, [])).1 else none
def svOf (ws : List Str) (ord ops : List Kind) (j : Nat) : Sv := (bO ops j, fO ops j, vvD ws ord (opv ops j))
def sv (ws : List Str) (ks : List Kind) : List Sv := (List.range ((opn ws (srt ks)).length + 1)).map (svOf ws (srt ks) (opn ws (srt ks)))
def svD (s : Sv) : PyData := .tuple [oD s.1, oD s.2.1, .tuple s.2.2]
theorem strL_sv (ws : List Str) (ks : List Kind) : strL ws ks = (sv ws ks).map svD := by
  unfold strL sv
  rw [List.map_map]
  apply List.map_congr_left
  intro j _
  show PyData.tuple [bgn _ j, fin_ _ j, _] = .tuple [oD (bO _ j), oD (fO _ j), _]
  congr 2
  · cases j <;> rfl
  · congr 1
    unfold fin_ fO
    split <;> rfl
theorem sv_nol {ws : List Str} {ks : List Kind} {s : Sv} (h : s ∈ sv ws ks) : NoL 3 (.tuple s.2.2) := by
  obtain ⟨j, _, rfl⟩ := List.mem_map.mp h
  exact vv_nolist _ _ _
theorem opn_le (ws : List Str) (ks : List Kind) : (opn ws (srt ks)).length ≤ ks.length := by
  have h : (srt ks).length = ks.length := List.length_mergeSort ..
  unfold opn
  rw [List.length_append, List.length_take, List.length_map]
  have := List.length_filter_le (nxt ws) ((srt ks).zip ((srt ks).drop 1))
  rw [List.length_zip, List.length_drop] at this
  omega
theorem sv_len (ws : List Str) (ks : List Kind) : (sv ws ks).length = (opn ws (srt ks)).length + 1 := by
  unfold sv
  rw [List.length_map, List.length_range]
theorem sv_le (ws : List Str) (ks : List Kind) : (sv ws ks).length ≤ ks.length + 1 := by
  rw [sv_len]
  have := opn_le ws ks
  omega
/-- the first version is from all days -/
theorem sv_head (ws : List Str) (ks : List Kind) : ∃ s r, sv ws ks = s :: r ∧ s.1 = none := by
  unfold sv
  rw [List.range_succ_eq_map, List.map_cons]
  exact ⟨_, _, rfl, rfl⟩
/-- a version with its number -/
structure Ver where
  n : Int
  b : Option Int
  e : Option Int
  d : List PyData
def Ver.s (r : Ver) : Sv := (r.b, r.e, r.d)
def verD1 (r : Ver) : PyData := .tuple [.int r.n, oD r.b, oD r.e, .tuple r.d]
abbrev Old := List (Option Int × Int)
def oldOf (vs : List Ver) : Old := vs.map fun r => (r.b, r.n)
def numStep (old : Old) (acc : List Ver × Int) (s : Sv) : List Ver × Int :=
  (acc.1 ++ [⟨(lk old s.1).getD (if (lk old s.1).isSome then acc.2 else acc.2 + 1), s.1, s.2.1, s.2.2⟩], if (lk old s.1).isSome then acc.2 else acc.2 + 1)
def numS (old : Old) (g : Int) (ss : List Sv) : List Ver × Int := ss.foldl (numStep old) ([], g)
theorem numS_take {old : Old} {g : Int} {ss : List Sv} {i : Nat} {s : Sv} (h : ss[i]? = some s) : numS old g (ss.take (i + 1)) = numStep old (numS old g (ss.take i)) s := by
  obtain ⟨h1, h2⟩ := List.getElem?_eq_some_iff.mp h
  unfold numS
  rw [List.take_succ_eq_append_getElem h1, List.foldl_append, h2]
  rfl
theorem numS_snoc {old : Old} {g : Int} {ss : List Sv} {s : Sv} : numS old g (ss ++ [s]) = numStep old (numS old g ss) s := by
  unfold numS
  rw [List.foldl_append]
  rfl
theorem numF_map (old : Old) : ∀ (ss : List Sv) (acc : List Ver × Int), (ss.foldl (numStep old) acc).1.map Ver.s = acc.1.map Ver.s ++ ss
  | [], acc => by rw [List.append_nil]; rfl
  | s :: ss, acc => by
    rw [List.foldl_cons, numF_map old ss]
    unfold numStep
    rw [List.map_append, List.append_assoc]
    rfl
theorem numS_map (old : Old) (g : Int) (ss : List Sv) : (numS old g ss).1.map Ver.s = ss := numF_map old ss ([], g)
theorem numS_len (old : Old) (g : Int) (ss : List Sv) : (numS old g ss).1.length = ss.length := by
  have h := congrArg List.length (numS_map old g ss)
  rw [List.length_map] at h
  exact h
/-- the things of a house -/
structure Ts where
  kinds : List (Th × List Kind)
  nums : List (Th × List Ver)
  given : Int
def stayed (old : Old) (ss : List Sv) : List Sv := ss.filter fun s => (lk old s.1).isSome
def Ts.ks (ts : Ts) (t : Th) : List Kind := (lk ts.kinds t).getD []
def Ts.vs (ts : Ts) (t : Th) : List Ver := (lk ts.nums t).getD []
def Ts.anew (ws : List Str) (ts : Ts) (t : Th) : Ts :=
  { ts with nums := pt ts.nums t (numS (oldOf (ts.vs t)) ts.given (sv ws (ts.ks t))).1, given := (numS (oldOf (ts.vs t)) ts.given (sv ws (ts.ks t))).2 }
def Ts.came (ws : List Str) (ts : Ts) (t : Th) : Int := ((sv ws (ts.ks t)).length : Int) - ((stayed (oldOf (ts.vs t)) (sv ws (ts.ks t))).length : Int)
def Ts.went (ws : List Str) (ts : Ts) (t : Th) : Int := ((ts.vs t).length : Int) - ((stayed (oldOf (ts.vs t)) (sv ws (ts.ks t))).length : Int)
/-- a kind taken, not yet numbered -/
def Ts.kept (ts : Ts) (t : Th) (day : Int) (vals : List Fv) : Ts := { ts with kinds := pt ts.kinds t (pt (ts.ks t) day vals) }
def wsOf (ds : Dims) (n : Str) : List Str := match ds.find? (fun d => decide (d.1 = n)) with
  | some d => d.2.map (·.2)
  | none => []
theorem wsOf_some {ds : Dims} {n : Str} {d : Str × List (Str × Str)} (h : ds.find? (fun d => decide (d.1 = n)) = some d) : wsOf ds n = d.2.map (·.2) := by
  unfold wsOf
  rw [h]
/-- the version of a day -/
def begB (day : Int) (b : Option Int) : Bool := match b with
  | none => true
  | some b => decide (b ≤ day)
def verOn (vs : List Ver) (day : Int) : Option Ver := (vs.filter fun r => begB day r.b).getLast?
theorem flt_snoc {α : Type} {p : α → Bool} {xs : List α} {i : Nat} {z : α} (h : xs[i]? = some z) : (xs.take (i + 1)).filter p = (xs.take i).filter p ++ if p z = true then [z] else [] := by
  obtain ⟨h1, h2⟩ := List.getElem?_eq_some_iff.mp h
  rw [List.take_succ_eq_append_getElem h1, List.filter_append, h2]
  by_cases c : p z = true <;> simp [c]
end Kd

/-! for a, b in zip(xs, t): a list and a tuple -/
namespace KdZ
open PySem PySem.Spec PyProof.Rows L2
/-- a list and a tuple walked together -/
def ItLT (K : PySem.W.Frag) (a b : Addr) : It :=
  ⟨fun i H => ∃ (xs ys : List V) (x y : V), SqL K H a xs ∧ SqT K H b ys ∧ xs[i]? = some x ∧ ys[i]? = some y,
    fun i H v H' => ∃ T x y, v = .ref T ∧ H T = none ∧ H' = upd H T (.tup [x, y]) ∧ (∀ xs, SqL K H a xs → xs[i]? = some x) ∧ ∀ ys, SqT K H b ys → ys[i]? = some y,
    fun i H => ∃ xs ys : List V, SqL K H a xs ∧ SqT K H b ys ∧ i = min xs.length ys.length⟩
theorem turnLT {P : Program} {w : World} {K : PySem.W.Frag} {elts : List Expr} {kk : Nat} {tpos : Pos} {a b N : Addr} (la : a < N) (lb : b < N) :
    Turn P w K (.Tuple elts kk tpos) (ItLT K a b) [N + 4, N + 2, N + 3, N, N + 1] (N + 4) (fun i h => IsZip h (N + 4) (N + 2) (N + 3) .none ∧ IsTupOf2 h (N + 2) (.ref N) (.ref (N + 1)) ∧ (∃ a1 a2, IsTupOf2 h (N + 3) a1 a2) ∧ h.IsListIter N a i ∧ h.IsTupleIter (N + 1) b i) where
  mem := List.mem_cons_self ..
  obj := fun i h st q hq => by
    obtain ⟨h1, h2, ⟨a1, a2, h3⟩, ⟨o4, e4, _, d4⟩, ⟨o5, e5, _, d5⟩⟩ := st
    have e : q = N + 4 ∨ q = N + 2 ∨ q = N + 3 ∨ q = N ∨ q = N + 1 := by simpa using hq
    rcases e with rfl | rfl | rfl | rfl | rfl
    · exact ⟨_, h1, fun v z => nomatch z⟩
    · exact ⟨_, h2, fun v z => nomatch z⟩
    · exact ⟨_, h3, fun v z => nomatch z⟩
    · exact ⟨o4, e4, fun v z => by rw [d4] at z; cases z⟩
    · exact ⟨o5, e5, fun v z => by rw [d5] at z; cases z⟩
  keep := fun i h h' st k => by
    obtain ⟨h1, h2, ⟨a1, a2, h3⟩, h4, h5⟩ := st
    exact ⟨k _ (by simp) _ h1, k _ (by simp) _ h2, ⟨a1, a2, k _ (by simp) _ h3⟩, h4.at fun o q => k _ (by simp) o q, h5.at fun o q => k _ (by simp) o q⟩
  item := by
    intro X hP hw hK hc i pins s σ H E I hf st hg
    subst hP hw hK
    obtain ⟨h1, h2, h3, h4, h5⟩ := st
    obtain ⟨xs, ys, x, y, qx, qy, gx, gy⟩ := hg
    obtain ⟨i1, r1, p1, _⟩ := I.list qx
    obtain ⟨i2, r2, p2, _⟩ := I.tuple qy
    obtain ⟨u1, e1, ru1⟩ := r1.get gx
    obtain ⟨u2, e2, ru2⟩ := r2.get gy
    have l1 := (List.getElem?_eq_some_iff.mp e1).1
    have l2 := (List.getElem?_eq_some_iff.mp e2).1
    have hh : X.A.in1.handled = none := by have := I.ok.hd hc; simpa using this
    have G := GoesN.zip2 (prog := X.prog) (w := X.w) (A := X.A) (elts := elts) (x1 := kk) (pos := tpos) (zip_sep2 (N := N) (fp1 := [a]) (fp2 := [b]) (one la) (one lb)) (Draws.list hh N a (Nat.ne_of_lt la) i1.toArray) (Draws.tuple hh (N + 1) b (Nat.ne_of_lt (Nat.lt_succ_of_lt lb)) i2.toArray)
    refine G.goes i s _ E (by simp; omega) ⟨h1, h2, h3, ⟨h4, p1.isList⟩, ⟨h5, p2⟩⟩ fun v h' tk hY st' hk htk => ?_
    obtain ⟨T, v1, v2, rfl, hT, a1, a2, ht⟩ := hY
    have b1 : v1 = u1 := by rw [List.getElem?_toArray, e1] at a1; exact (Option.some.inj a1).symm
    have b2 : v2 = u2 := by rw [List.getElem?_toArray, e2] at a2; exact (Option.some.inj a2).symm
    subst b1 b2
    obtain ⟨s1, s2, s3, ⟨s4, _⟩, ⟨s5, _⟩⟩ := st'
    have hsub : ∀ q ∈ [N + 4, N + 3, N, N + 1], q ∈ [N + 4, N + 2, N + 3, N, N + 1] := fun q hq => by
      have e : q = N + 4 ∨ q = N + 3 ∨ q = N ∨ q = N + 1 := by simpa using hq
      rcases e with rfl | rfl | rfl | rfl <;> simp
    have new : ObjOk X.prog X.w (upd H T (.tup [x, y])) h' T (.tup [x, y]) := ⟨by show 2 ≤ sizeLine; decide, [v1, v2], .cons ru1 (.cons ru2 .nil), ht⟩
    have I1 : Inv X pins σ (upd H T (.tup [x, y])) { s with heap := h', toks := tk } := I.turnedNew (t' := tk) (ch := [N + 4, N + 3, N, N + 1]) hk (fun q hq => hf q (hsub q hq)) hT new
    refine ⟨.ref T, _, I1, rfl, ⟨T, x, y, rfl, I.hok.fresh hT, rfl, fun l hl => by rw [I.list_inj hl qx]; exact gx, fun l hl => by rw [I.tuple_inj hl qy]; exact gy⟩, ⟨s1, s2, s3, s4, s5⟩, fun q hq => ?_⟩
    have hlt : q < s.heap.objs.size := by
      have e : q = N + 4 ∨ q = N + 2 ∨ q = N + 3 ∨ q = N ∨ q = N + 1 := by simpa using hq
      obtain ⟨a1, a2, h3⟩ := h3
      rcases e with rfl | rfl | rfl | rfl | rfl
      · exact Heap.lt_size h1
      · exact Heap.lt_size h2
      · exact Heap.lt_size h3
      · obtain ⟨_, e, _⟩ := h4; exact Heap.lt_size e
      · obtain ⟨_, e, _⟩ := h5; exact Heap.lt_size e
    rw [upd_ne (Nat.ne_of_lt (Nat.lt_of_lt_of_le hlt hT))]
    exact (hf q hq).1
  done := by
    intro X hP hw hK hc i pins s σ H E I hf st hg
    subst hP hw hK
    obtain ⟨h1, h2, h3, h4, h5⟩ := st
    obtain ⟨xs, ys, qx, qy, hi⟩ := hg
    obtain ⟨i1, r1, p1, _⟩ := I.list qx
    obtain ⟨i2, r2, p2, _⟩ := I.tuple qy
    have hh : X.A.in1.handled = none := by have := I.ok.hd hc; simpa using this
    have G := GoesN.zip2 (prog := X.prog) (w := X.w) (A := X.A) (elts := elts) (x1 := kk) (pos := tpos) (zip_sep2 (N := N) (fp1 := [a]) (fp2 := [b]) (one la) (one lb)) (Draws.list hh N a (Nat.ne_of_lt la) i1.toArray) (Draws.tuple hh (N + 1) b (Nat.ne_of_lt (Nat.lt_succ_of_lt lb)) i2.toArray)
    have en : i = min i1.toArray.size i2.toArray.size := by
      rw [List.size_toArray, List.size_toArray, ← r1.length, ← r2.length]
      exact hi
    subst en
    have hsub : ∀ q ∈ [N + 4, N + 3, N, N + 1], q ∈ [N + 4, N + 2, N + 3, N, N + 1] := fun q hq => by
      have e : q = N + 4 ∨ q = N + 3 ∨ q = N ∨ q = N + 1 := by simpa using hq
      rcases e with rfl | rfl | rfl | rfl <;> simp
    exact G.stops s (fun s2 => Inv X pins σ H s2) E ⟨h1, h2, h3, ⟨h4, p1.isList⟩, ⟨h5, p2⟩⟩ fun h' tk hk htk => I.turnedL (t' := tk) (ch := [N + 4, N + 3, N, N + 1]) hk fun q hq => hf q (hsub q hq)
  self := fun A i s Q E st h => wpAny_pyIter_zip st.1 h
def iZipLT (K : PySem.W.Frag) (ta : TA) : TI := fun σ H R => ta σ H fun vs H1 => ∃ a b xs ys, vs = [.ref a, .ref b] ∧ SqL K H1 a xs ∧ SqT K H1 b ys ∧ R (ItLT K a b) H1
theorem pi_zipLT {X : Cx} {e e2 : Expr} {ta : TA} {p pos tpos : Pos} {elts : List Expr} {kk : Nat} (hg : Gl X "zip") (hm : X.mg "zip" = none) (ha : PA X [e, e2] ta)
    (hs : starEach [e, e2] X.env = (false, eval e X.env) :: starEach [e2] X.env := by rfl) (hpl : (backTo pos (starEach [e2] X.env)).any (·.1) = false := by rfl) :
    PI X (.Tuple elts kk tpos) (.Call (.Name "zip" p) [e, e2] [] pos) (iZipLT X.K ta) := by
  refine ⟨fun pins s σ H R I h => Call_ (ld_blt I hg hm PyProof.Rows.boot_zip (PyProof.Rows.callWith_type1 (thn (ha.run pos pins s σ H _ I h) fun us s1 ⟨vs, H1, I1, r1, q1⟩ => ?_) hs hpl))⟩
  obtain ⟨a, b, xs, ys, rfl, qx, qy, q⟩ := q1
  cases r1 with
  | cons r1 t =>
  cases t with
  | cons r2 t =>
  cases t
  cases r1
  cases r2
  obtain ⟨i1, w1, p1, _⟩ := I1.list qx
  obtain ⟨i2, w2, p2, _⟩ := I1.tuple qy
  obtain ⟨o2, ho2, _⟩ := id p2
  refine zip_begins2 (begins_list a i1.toArray) (begins_tuple b i2.toArray) p1.isList p2 fun h' hz hTI hTO g1 g2 hsz hk => wpAny_pyIter_zip hz ?_
  refine ⟨s1.heap.objs.size + 4, [s1.heap.objs.size + 4, s1.heap.objs.size + 2, s1.heap.objs.size + 3, s1.heap.objs.size, s1.heap.objs.size + 1], _, _, H1, rfl, I1.kept (t' := s1.toks) hk, turnLT p1.lt (Heap.lt_size ho2), ⟨hz, hTI, ⟨_, _, hTO⟩, ⟨_, g1, rfl, rfl⟩, ⟨_, g2, rfl, rfl⟩⟩, fun d hd => ?_, q⟩
  have hle : s1.heap.objs.size ≤ d := by
    have e' : d = s1.heap.objs.size + 4 ∨ d = s1.heap.objs.size + 2 ∨ d = s1.heap.objs.size + 3 ∨ d = s1.heap.objs.size ∨ d = s1.heap.objs.size + 1 := by simpa using hd
    rcases e' with z | z | z | z | z
    all_goals
      rw [z]
      first | exact Nat.le_add_right _ _ | exact Nat.le_refl _
  exact I1.fpOk hle (I1.hok.fresh hle)
theorem walk_zipLT {K : PySem.W.Frag} {a b : Addr} {xs ys : List V} {n : Nat} (hn : n = min xs.length ys.length) : Walk (ItLT K a b) n (fun H => SqL K H a xs ∧ SqT K H b ys) (YPair (fun i => xs[i]?) (fun i => ys[i]?)) := by
  subst hn
  refine ⟨fun i _ hi q => ?_, fun _ q => ⟨xs, ys, q.1, q.2, by omega⟩, fun i H v H' _ q y => ?_⟩
  · have h1 : i < xs.length := by omega
    have h2 : i < ys.length := by omega
    exact ⟨xs, ys, xs[i], ys[i], q.1, q.2, by simp [h1], by simp [h2]⟩
  · obtain ⟨T, x, z, h1, h2, h3, h4, h5⟩ := y
    exact ⟨T, x, z, h1, h2, h3, h4 xs q.1, h5 ys q.2⟩
end KdZ

namespace Kd
open PySem PySem.Spec PyProof.Rows L2
/-! ### things: a pair of a dimension's name and a key -/
def thOf (ds : List (Str × List (Str × Str))) (keys : List Str) : List Th := (ds.map (·.1)).zip keys
section
variable {P : Program} {w : World} {K : PySem.W.Frag} {mg : Str → Option Value} {base : Heap} {f : Addr} {fd : FuncData}
def ThAt (H : Hp) (v : V) (d : Th) : Prop := ∃ r, v = .ref r ∧ H r = some (.tup [.str d.1, .str d.2])
theorem ThAt.same {H H' : Hp} {v : V} {d : Th} (s : Same H H') : ThAt H v d → ThAt H' v d := fun ⟨r, e, h⟩ => ⟨r, e, s _ _ h⟩
def spNamed (K : PySem.W.Frag) (C : Addr) : Sp := fun vs H Q _ => ∃ (x p : Addr) (keys : List Str) (ds : List (Str × List (Str × Str))) (ms : List Str), vs = [.ref x, .ref p] ∧ PlanAt K C H x ds ms ∧ SqT K H p (keys.map V.str) ∧ ds.length ≤ 4 ∧
  ∀ l xs H', Same H H' → H l = none → H' l = some (.lst xs) → Paired (ThAt H') xs (thOf ds keys) → Q (.ref l) H'
abbrev N_things_named : List Str := ["plan", "keys", "dimension", "attributes", "key"]
theorem sc_things_named : FnScope N_things_named ["plan", "keys"] (defScope s_things_named) := ⟨rfl, rfl, rfl, by decide +kernel, rfl, by decide +kernel, by decide +kernel⟩
/-! slots: 0 plan 1 keys 2 dimension 3 attributes 4 key; cells:  -/
theorem ok_named {C fd1 : Addr} {fdd : FuncData} (F : FnP K "things_named" "things_named" s_things_named f fd) (T : PlTxt K C) (GD : FnOk P w K mg base CX0 1 fd1 fdd ["self"] (spDims K C)) (bD : Binds K fdd ["self"] []) (mD : Meth K C "dimensions" fd1) (z_zip : mg "zip" = none) : FnOk P w K mg base CX0 2 f fd ["plan", "keys"] (spNamed K C) := by
  refine F.ok sc_things_named (fun vs H Q E h => ?_) (fun cdv A outer s H vs Q E hr h => ?_)
  · obtain ⟨x, p, keys, ds, ms, rfl, _⟩ := h
    rfl
  · obtain ⟨x, p, keys, ds, ms, rfl, hp, hk, d4, k⟩ := h
    have nd := sc_things_named.nd
    obtain ⟨dx, pa, pb, px, h1, h2, h3, h4⟩ := id hp.ex
    refine ⟨_, PSs.nox (pss_one (ps_ret (pe_lc (own := [("dimension", 2), ("attributes", 3), ("key", 4)]) (g := gTup K 2 (gCons (gTup K 2 (gCons (gName 2) (gCons (gName 3) gNil))) (gCons (gName 4) gNil))) (tt := tYes) (te := tTup (tCons (tVar 2) (tCons (tVar 4) tNil))) rfl nd (KdZ.pi_zipLT rfl z_zip (pa_cons (pe_meth0 (pv 0) T.cl mD GD (hr.mono (by decide)) bD .nil pass0) (pa_cons (pv 1) pa_nil))) (blkOk_by (own := [("dimension", 2), ("attributes", 3), ("key", 4)]) (N := N_things_named) (sc := defScope s_things_named) (by decide +kernel))
        (fun _ _ _ _ _ => pg_tup rfl (pgs_cons (pg_tup rfl (pgs_cons (pg_name (i := 2) nd rfl (Or.inl rfl)) (pgs_cons (pg_name (i := 3) nd rfl (Or.inl rfl)) pgs_nil))) (pgs_cons (pg_name (i := 4) nd rfl (Or.inl rfl)) pgs_nil))) (fun _ _ _ _ _ => pts_nil) (fun _ _ _ _ _ => pe_tup (pa_cons (pv 2) (pa_cons (pv 4) pa_nil)))))), ?_⟩
    refine ⟨_, rfl, x, dx, _, rfl, h1, pl_no0 (by decide +kernel) (by decide +kernel), x, ds, ms, rfl, hp, fun l xs nl pl => ?_⟩
    have s0 : Same H (upd H l (.lst xs)) := same_new nl
    have e0 : upd H l (.lst xs) l = some (.lst xs) := upd_same
    generalize upd H l (.lst xs) = H0 at s0 e0 ⊢
    have hlen := pl.length
    refine ⟨_, rfl, l, p, xs, keys.map V.str, rfl, SqL.of e0, Same.seqT s0 hk, fun D hD => ?_⟩
    refine lc_build (KdZ.walk_zipLT (K := K) (a := l) (b := p) rfl) hD (fun i zs R => Same H0 R ∧ Paired (ThAt R) zs ((thOf ds keys).take i)) ⟨Same.refl _, .nil⟩ (fun _ _ _ _ z => ⟨SqL.of ((z.1.trans cd_sub) _ _ e0), Same.seqT ((s0.trans z.1).trans cd_sub) hk⟩) ?_ ?_
    · rintro i zs y H2 H2' hi e ly ⟨sm, pz⟩ ⟨T0, a, b, rfl, nT, rfl, ga, gb⟩
      have hi2 : i < (thOf ds keys).length := by
        unfold thOf
        rw [List.length_zip, List.length_map, ← hlen]
        rw [List.length_map] at hi
        exact hi
      obtain ⟨d, hd, pp, qq, rfl, h5, h6⟩ := paired_at pl ga
      obtain ⟨key, rfl, hkey⟩ : ∃ key, b = .str key ∧ keys[i]? = some key := by
        have gb : (keys.map V.str)[i]? = some b := gb
        rw [List.getElem?_map] at gb
        obtain ⟨key, h7, h8⟩ := Option.map_eq_some_iff.mp gb
        exact ⟨key, h8.symm, h7⟩
      have nTD : D ≠ T0 := ne_of_none e nT
      have sT : Same H2 (upd H2 T0 (.tup [.ref pp, .str key])) := same_new nT
      have eT : upd H2 T0 (.tup [.ref pp, .str key]) T0 = some (.tup [.ref pp, .str key]) := upd_same
      generalize upd H2 T0 (.tup [.ref pp, .str key]) = H3 at sT eT ⊢
      have s03 : Same H H3 := (s0.trans (sm.trans cd_sub)).trans sT
      refine ⟨T0, _, rfl, SqT.of eT, rfl, _, _, rfl, pp, _, rfl, Same.seqT s03 h5, rfl, _, _, rfl, _, _, rfl, rfl, _, _, rfl, rfl, rfl, yes ?_⟩
      refine ⟨_, rfl, _, rfl, by show 2 ≤ sizeLine; decide, fun t nt => ?_⟩
      have s4 : Same H3 (upd H3 t (.tup [.str d.1, .str key])) := same_new nt
      have e4 : upd H3 t (.tup [.str d.1, .str key]) t = some (.tup [.str d.1, .str key]) := upd_same
      generalize upd H3 t (.tup [.str d.1, .str key]) = H4 at s4 e4 ⊢
      have s24 := sT.trans s4
      have e5 := s24 _ _ e
      refine LcNx.add e5 ly (by rw [List.length_map] at hi; omega) ⟨sm.trans (cd_same s24), ?_⟩
      have hz : (thOf ds keys)[i]'hi2 = (d.1, key) := by
        have h9 : (thOf ds keys)[i]? = some (d.1, key) := by
          unfold thOf
          rw [List.getElem?_zip_eq_some]
          exact ⟨by rw [List.getElem?_map, hd]; rfl, hkey⟩
        exact (List.getElem?_eq_some_iff.mp h9).2
      rw [List.take_succ_eq_append_getElem hi2, hz]
      exact PySem.Paired.snoc (PySem.Paired.mono (fun _ _ => ThAt.same (cd_same s24)) pz) ⟨t, rfl, cd_of e4 (ne_of_none (sT _ _ e) nt).symm⟩
    · rintro zs H2 e ly ⟨sm, pz⟩
      have hl : min xs.length (keys.map V.str).length = (thOf ds keys).length := by
        unfold thOf
        rw [List.length_zip, List.length_map, List.length_map, hlen]
      rw [hl, List.take_length] at pz
      exact k D zs H2 (s0.trans (sm.trans cd_sub)) (s0.free hD) e (PySem.Paired.mono (fun _ _ => ThAt.same cd_sub) pz)
end
end Kd

namespace Kd
open PySem PySem.Spec PyProof.Rows L2
/-! ### Things.__init__ -/
def thF (p kd nb : Addr) (gv : Int) : List (Str × V) := [("plan", .ref p), ("kinds", .ref kd), ("numbered", .ref nb), ("given", .int gv)]
theorem th_put (p kd nb : Addr) : putF "given" (.int 0) (putF "numbered" (.ref nb) (putF "kinds" (.ref kd) (putF "plan" (.ref p) []))) = thF p kd nb 0 := by
  have n1 : ("kinds" : Str) ≠ "plan" := by decide +kernel
  have n2 : ("numbered" : Str) ≠ "plan" := by decide +kernel
  have n3 : ("numbered" : Str) ≠ "kinds" := by decide +kernel
  have n4 : ("given" : Str) ≠ "plan" := by decide +kernel
  have n5 : ("given" : Str) ≠ "kinds" := by decide +kernel
  have n6 : ("given" : Str) ≠ "numbered" := by decide +kernel
  simp [putF, thF, n1, n2, n3, n4, n5, n6, n1.symm, n2.symm, n3.symm, n4.symm, n5.symm, n6.symm]
structure ThTxt (K : PySem.W.Frag) (C : Addr) : Prop where
  cl : Cls K C
  nP : NoAttr K C "plan"
  nK : NoAttr K C "kinds"
  nN : NoAttr K C "numbered"
  nG : NoAttr K C "given"
section
variable {P : Program} {w : World} {K : PySem.W.Frag} {mg : Str → Option Value} {base : Heap} {f : Addr} {fd : FuncData}
def spThings (K : PySem.W.Frag) (C : Addr) : Sp := fun vs H Q _ => ∃ x dx p : Addr, vs = [.ref x, .ref p] ∧ H x = some (.ins C dx []) ∧
  ∀ (H' : Hp) (kd nb : Addr), H kd = none → H nb = none → kd ≠ nb → H' x = some (.ins C dx (thF p kd nb 0)) → H' kd = some (.dT []) → H' nb = some (.dT []) → Same (cd x H) (cd x H') → Q .non H'
theorem sc_things : FnScope ["self", "plan"] ["self", "plan"] (defScope s_Things_init) := ⟨rfl, rfl, rfl, by decide +kernel, rfl, by decide +kernel, by decide +kernel⟩
theorem ok_things {C : Addr} (F : FnP K "__init__" "Things.__init__" s_Things_init f fd) (T : ThTxt K C) : FnOk P w K mg base CX0 1 f fd ["self", "plan"] (spThings K C) := by
  refine F.ok sc_things (fun vs H Q E h => ?_) (fun cdv A outer s H vs Q E hr h => ?_)
  · obtain ⟨x, dx, p, rfl, _⟩ := h
    rfl
  · obtain ⟨x, dx, p, rfl, hx, k⟩ := h
    have nd := sc_things.nd
    refine ⟨_, PSs.nox (pss_cons (ps_fld (pv 0) (pv 1) rfl) (pss_cons (ps_fld (pv 0) pe_dnewT rfl) (pss_cons (ps_fld (pv 0) pe_dnewT rfl) (pss_one (ps_fld (pv 0) pe_int rfl))))), ?_⟩
    refine ⟨_, rfl, _, rfl, x, C, dx, _, rfl, hx, T.cl, T.nP, (by show 0 < 1000; decide), ?_⟩
    have hx1 : upd H x (.ins C dx (putF "plan" (.ref p) [])) x = some (.ins C dx (putF "plan" (.ref p) [])) := upd_same
    have o1 : ∀ b, b ≠ x → upd H x (.ins C dx (putF "plan" (.ref p) [])) b = H b := fun b hb => upd_ne hb
    generalize upd H x (.ins C dx (putF "plan" (.ref p) [])) = H1 at hx1 o1 ⊢
    intro kd nkd
    have nkx : kd ≠ x := (ne_of_none hx1 nkd).symm
    have hx2 : upd H1 kd (.dT []) x = some (.ins C dx (putF "plan" (.ref p) [])) := by rw [upd_ne nkx.symm]; exact hx1
    refine ⟨_, rfl, x, C, dx, _, rfl, hx2, T.cl, T.nK, (by show 1 < 1000; decide), ?_⟩
    have hx3 : upd (upd H1 kd (.dT [])) x (.ins C dx (putF "kinds" (.ref kd) (putF "plan" (.ref p) []))) x = some (.ins C dx (putF "kinds" (.ref kd) (putF "plan" (.ref p) []))) := upd_same
    have k3 : upd (upd H1 kd (.dT [])) x (.ins C dx (putF "kinds" (.ref kd) (putF "plan" (.ref p) []))) kd = some (.dT []) := by rw [upd_ne nkx]; exact upd_same
    have o3 : ∀ b, b ≠ x → b ≠ kd → upd (upd H1 kd (.dT [])) x (.ins C dx (putF "kinds" (.ref kd) (putF "plan" (.ref p) []))) b = H1 b := fun b h1 h2 => by rw [upd_ne h1, upd_ne h2]
    generalize upd (upd H1 kd (.dT [])) x (.ins C dx (putF "kinds" (.ref kd) (putF "plan" (.ref p) []))) = H3 at hx3 k3 o3 ⊢
    intro nb nnb
    have nbx : nb ≠ x := (ne_of_none hx3 nnb).symm
    have nbk : nb ≠ kd := (ne_of_none k3 nnb).symm
    have hx4 : upd H3 nb (.dT []) x = some (.ins C dx (putF "kinds" (.ref kd) (putF "plan" (.ref p) []))) := by rw [upd_ne nbx.symm]; exact hx3
    refine ⟨_, rfl, x, C, dx, _, rfl, hx4, T.cl, T.nN, (by show 2 < 1000; decide), ?_⟩
    have hx5 : upd (upd H3 nb (.dT [])) x (.ins C dx (putF "numbered" (.ref nb) (putF "kinds" (.ref kd) (putF "plan" (.ref p) [])))) x = some (.ins C dx (putF "numbered" (.ref nb) (putF "kinds" (.ref kd) (putF "plan" (.ref p) [])))) := upd_same
    have n5 : upd (upd H3 nb (.dT [])) x (.ins C dx (putF "numbered" (.ref nb) (putF "kinds" (.ref kd) (putF "plan" (.ref p) [])))) nb = some (.dT []) := by rw [upd_ne nbx]; exact upd_same
    have o5 : ∀ b, b ≠ x → b ≠ nb → upd (upd H3 nb (.dT [])) x (.ins C dx (putF "numbered" (.ref nb) (putF "kinds" (.ref kd) (putF "plan" (.ref p) [])))) b = H3 b := fun b h1 h2 => by rw [upd_ne h1, upd_ne h2]
    generalize upd (upd H3 nb (.dT [])) x (.ins C dx (putF "numbered" (.ref nb) (putF "kinds" (.ref kd) (putF "plan" (.ref p) [])))) = H5 at hx5 n5 o5 ⊢
    refine ⟨_, rfl, x, C, dx, _, rfl, hx5, T.cl, T.nG, (by show 3 < 1000; decide), ?_⟩
    have hkd0 : H kd = none := by rw [← o1 kd nkx]; exact nkd
    have hnb0 : H nb = none := by rw [← o1 nb nbx, ← o3 nb nbx nbk]; exact nnb
    refine k _ kd nb hkd0 hnb0 nbk.symm (Eq.trans upd_same (congrArg (fun z => some (HO.ins C dx z)) (th_put p kd nb))) ?_ ?_ (fun b o q => ?_)
    · rw [upd_ne nkx, o5 kd nkx nbk.symm]
      exact k3
    · rw [upd_ne nbx]
      exact n5
    · have bx := (ct_ne q).1
      have qb := cd_sub _ _ q
      have bk : b ≠ kd := ne_of_none qb hkd0
      have bn : b ≠ nb := ne_of_none qb hnb0
      refine cd_of ?_ bx
      rw [upd_ne bx, o5 b bx bn, o3 b bx bk, o1 b bx]
      exact qb
/-! ### Things.knows -/
theorem th_num (p kd nb : Addr) (gv : Int) : (thF p kd nb gv).lookup ("numbered" : Str) = some (.ref nb) := by
  unfold thF
  rw [List.lookup_cons, show (("numbered" : Str) == "plan") = false by decide +kernel]
  show List.lookup _ _ = _
  rw [List.lookup_cons, show (("numbered" : Str) == "kinds") = false by decide +kernel]
  show List.lookup _ _ = _
  rw [List.lookup_cons, show (("numbered" : Str) == "numbered") = true by decide +kernel]
def thK (t : Th) : List L2.Key := [Sum.inr t.1, Sum.inr t.2]
def spKnows (C : Addr) : Sp := fun vs H Q _ => ∃ (x dx p kd nb r : Addr) (gv : Int) (t : Th) (kvs : List (List L2.Key × V)), vs = [.ref x, .ref r] ∧ H x = some (.ins C dx (thF p kd nb gv)) ∧ H r = some (.tup [.str t.1, .str t.2]) ∧ H nb = some (.dT kvs) ∧ Q (.bl (valV kvs (thK t)).isSome) H
theorem sc_knows : FnScope ["self", "thing"] ["self", "thing"] (defScope s_Things_knows) := ⟨rfl, rfl, rfl, by decide +kernel, rfl, by decide +kernel, by decide +kernel⟩
theorem ok_knows {C : Addr} (F : FnP K "knows" "Things.knows" s_Things_knows f fd) (T : ThTxt K C) : FnOk P w K mg base CX0 1 f fd ["self", "thing"] (spKnows C) := by
  refine F.ok sc_knows (fun vs H Q E h => ?_) (fun cdv A outer s H vs Q E hr h => ?_)
  · obtain ⟨x, dx, p, kd, nb, r, gv, t, kvs, rfl, _⟩ := h
    rfl
  · obtain ⟨x, dx, p, kd, nb, r, gv, t, kvs, rfl, hx, hr2, hn, k⟩ := h
    have hu := hr.units
    have hu1 : (A.deeper (envOfC "Things.knows" (defScope s_Things_knows) s.heap.objs.size f cdv)).units + 1 < cLine := by omega
    refine ⟨_, PSs.nox (pss_one (ps_ret (pe_cmp (pc_din hu1 (pv 1) (pe_fld (pv 0) rfl))))), ?_⟩
    refine ⟨_, rfl, _, rfl, x, C, dx, _, _, rfl, hx, T.cl, T.nN, th_num p kd nb gv, nb, _, rfl, .inr ⟨kvs, thK t, r, .inl hn, rfl, hr2, rfl⟩, k⟩
end
end Kd

/-! a dict whose keys are None, ints and texts: a thing of its own (HO.ext) -/
namespace KdNd
open PySem PySem.Spec PyProof.Rows L2
abbrev NK := Option Key
def nkV : NK → V
  | none => .non
  | some k => kV k
theorem nk_is {P : Program} {w : World} {k : NK} {u : Value} (r : RelV (nkV k) u) : (noneKind P w).is k u = true := by
  cases k with
  | none =>
    obtain rfl : u = Value.none := r
    rfl
  | some k => exact kV_is (P := P) (w := w) (k := k) r
/-- the dict at a -/
def NdO (P : Program) (w : World) (a : Addr) (kvs : List (NK × V)) : HO := .ext fun h => kvs.length ≤ sizeLine ∧ (a == sysModules) = false ∧ ∃ vs, KV kvs vs ∧ h.DictOf (noneKind P w) a vs
theorem nd_of {P : Program} {w : World} {H : Hp} {h : Heap} {a : Addr} {kvs : List (NK × V)} (ok : HOk P w H h) (e : H a = some (NdO P w a kvs)) : kvs.length ≤ sizeLine ∧ (a == sysModules) = false ∧ ∃ vs, KV kvs vs ∧ h.DictOf (noneKind P w) a vs :=
  (show ObjOk P w H h a (NdO P w a kvs) from ok a _ e).1
theorem nd_new {P : Program} {w : World} {H' : Hp} {h' : Heap} {a : Addr} {kvs : List (NK × V)} {vs : List (NK × Value)} (z : kvs.length ≤ sizeLine) (hd : (a == sysModules) = false) (rel : KV kvs vs) (dd : h'.DictOf (noneKind P w) a vs) : ObjOk P w H' h' a (NdO P w a kvs) :=
  ⟨⟨z, hd, vs, rel, dd⟩, let ⟨q, _, _, hq, _⟩ := dd; ⟨q, hq⟩, fun h1 h2 ⟨z, hd, vs, rel, d1⟩ k => ⟨z, hd, vs, rel, d1.at k⟩⟩
section
variable {X : Cx} {pins : List (Addr × Obj)} {σ : L2.St} {H : Hp} {s : Shared} {a : Addr} {kvs : List (NK × V)} {k : NK} {u : Value} {A : Around} {E : Value → Shared → Prop}
theorem nd_in {Q : Value → Shared → Prop} (I : Inv X pins σ H s) (e : H a = some (NdO X.prog X.w a kvs)) (ry : RelV (nkV k) u) (h : ∀ s', Inv X pins σ H s' → Q (.bool (valV kvs k).isSome) s') : wpAny (model X.prog X.w) A (compareOp .In u (.ref a)) Q E s := by
  obtain ⟨z, hd, vs, rel, dd⟩ := nd_of I.hok e
  refine wpAny_in_of (nk_is ry) hd dd.mapOf ?_
  rw [← (rel.val k).isSome_eq]
  exact h _ (I.tok _)
theorem nd_notIn {Q : Value → Shared → Prop} (I : Inv X pins σ H s) (e : H a = some (NdO X.prog X.w a kvs)) (ry : RelV (nkV k) u) (h : ∀ s', Inv X pins σ H s' → Q (.bool (!(valV kvs k).isSome)) s') : wpAny (model X.prog X.w) A (compareOp .NotIn u (.ref a)) Q E s := by
  obtain ⟨z, hd, vs, rel, dd⟩ := nd_of I.hok e
  refine wpAny_notIn_of (nk_is ry) hd dd.mapOf ?_
  rw [← (rel.val k).isSome_eq]
  exact h _ (I.tok _)
/-- d[y] = v by a comprehension -/
theorem nd_dictSet {v : V} {r : Value} {Q : Unit → Shared → Prop} (I : Inv X pins σ H s) (e : H a = some (NdO X.prog X.w a kvs)) (ry : RelV (nkV k) u) (rv : RelV v r) (l : kvs.length < sizeLine) (h : ∀ s', Inv X pins σ (upd H a (NdO X.prog X.w a (putK kvs k v))) s' → Q () s') :
    wpAny (model X.prog X.w) A (dictSet a u r) Q E s := by
  obtain ⟨z, hd, vs, rel, dd⟩ := nd_of I.hok e
  have hz : vs.length ≤ sizeLine := by rw [← rel.length]; exact z
  have hl : (putK kvs k v).length ≤ sizeLine := by have := length_putK kvs k v; omega
  refine wpAny_dictSet_pairs (hsz := hz) (nk_is ry) dd fun h' dd' hs => h _ ?_
  have he : ∃ q, h'.get? a = some q := let ⟨q, _, _, hq, _⟩ := dd'; ⟨q, hq⟩
  exact d_write I (by rw [e]; exact True.intro) hs he (nd_new hl hd (rel.put k rv) dd')
/-- d.get(y, v) -/
theorem nd_get2 {v : V} {r : Value} {Q : Value → Shared → Prop} (I : Inv X pins σ H s) (e : H a = some (NdO X.prog X.w a kvs)) (ry : RelV (nkV k) u) (rv : RelV v r) (h : ∀ w' s', Inv X pins σ H s' → RelV ((valV kvs k).getD v) w' → Q w' s') :
    wpAny (model X.prog X.w) A (call (.builtin "dict.get") [.ref a, u, r]) Q E s := by
  obtain ⟨z, hd, vs, rel, dd⟩ := nd_of I.hok e
  exact call_meetsIn PySem.F.slot_dict_get dd.typeIs PySem.F.entry_dict_get (PySem.F.args_dict_get_3 _ _ _) (meets_dict_get_default (noneKind X.prog X.w) a (nk_is ry) hd r) ⟨_, dd.mapOf, h _ _ (I.tok _) ((rel.val k).getD rv)⟩
theorem nd_len {Q : Value → Shared → Prop} (I : Inv X pins σ H s) (e : H a = some (NdO X.prog X.w a kvs)) (h : ∀ t s', Inv X pins σ H s' → Q (.int kvs.length t) s') : wpAny (model X.prog X.w) A (call (.builtin "len") [.ref a]) Q E s := by
  obtain ⟨z, hd, vs, rel, dd⟩ := nd_of I.hok e
  refine call_len_dict hd dd (by rw [← rel.length]; rw [sizeLine_eq] at z; omega) ?_
  rw [← rel.length]
  exact h _ _ (I.tok _)
theorem nd_at (I : Inv X pins σ H s) (e : H a = some (NdO X.prog X.w a kvs)) : s.TypeIs (.ref a) "dict" ∧ (∀ b, Value.ref a = .ref b → ∃ ob, s.heap.get? b = some ob ∧ ob.dict = none) ∧ (a == sysModules) = false := by
  obtain ⟨_, hd, vs, _, dd⟩ := nd_of I.hok e
  refine ⟨dd.typeIs, fun b q => ?_, hd⟩
  cases q
  obtain ⟨ob, _, _, h1, h2, _⟩ := dd
  exact ⟨ob, h1, h2.2.1⟩
end
/-- y in d, y not in d -/
def tNdIn (P : Program) (w : World) (ty td : TE) : TE := fun σ H Q => ty σ H fun y H1 => td σ H1 fun x H2 => ∃ a kvs k, x = .ref a ∧ y = nkV k ∧ H2 a = some (NdO P w a kvs) ∧ Q (.bl (valV kvs k).isSome) H2
def tNdNotIn (P : Program) (w : World) (ty td : TE) : TE := fun σ H Q => ty σ H fun y H1 => td σ H1 fun x H2 => ∃ a kvs k, x = .ref a ∧ y = nkV k ∧ H2 a = some (NdO P w a kvs) ∧ Q (.bl (!(valV kvs k).isSome)) H2
section
variable {X : Cx} {o i : Expr} {td ty : TE}
theorem pc_ndin (hi : PE X i ty) (ho : PE X o td) : PC X .In i o (tNdIn X.prog X.w ty td) := by
  refine ⟨fun pins s σ H Q I h => ?_⟩
  refine thn (hi.run pins s σ H _ I h) fun iv s1 ⟨y, H1, I1, ry, q1⟩ => thn (ho.run pins s1 σ H1 _ I1 q1) fun u s2 ⟨x, H2, I2, rx, q2⟩ => ?_
  obtain ⟨a, kvs, k, rfl, rfl, e, q2⟩ := q2
  obtain rfl : u = Value.ref a := rx
  exact nd_in I2 e ry fun s3 I3 => ⟨.bl _, H2, I3, rfl, q2⟩
theorem pc_ndnotin (hi : PE X i ty) (ho : PE X o td) : PC X .NotIn i o (tNdNotIn X.prog X.w ty td) := by
  refine ⟨fun pins s σ H Q I h => ?_⟩
  refine thn (hi.run pins s σ H _ I h) fun iv s1 ⟨y, H1, I1, ry, q1⟩ => thn (ho.run pins s1 σ H1 _ I1 q1) fun u s2 ⟨x, H2, I2, rx, q2⟩ => ?_
  obtain ⟨a, kvs, k, rfl, rfl, e, q2⟩ := q2
  obtain rfl : u = Value.ref a := rx
  exact nd_notIn I2 e ry fun s3 I3 => ⟨.bl _, H2, I3, rfl, q2⟩
/-- d.get(y, x) -/
def tNdGet2 (P : Program) (w : World) (td ty tx : TE) : TE := fun σ H Q => td σ H fun x H1 => ∃ a, x = .ref a ∧ (∃ kvs, H1 a = some (NdO P w a kvs)) ∧ ty σ H1 fun y H2 => tx σ H2 fun z H3 => ∃ kvs k, y = nkV k ∧ H3 a = some (NdO P w a kvs) ∧ Q ((valV kvs k).getD z) H3
theorem pe_ndget2 {e f : Expr} {tx : TE} {apos cpos : Pos} (ho : PE X o td) (he : PE X e ty) (hf : PE X f tx) (m : M2 X o "get" apos e f cpos) : PE X (.Call (.Attribute o "get" apos) [e, f] [] cpos) (tNdGet2 X.prog X.w td ty tx) := by
  refine ⟨fun pins s σ H Q I h => ?_⟩
  refine wpAny_Call_method m.base m.few m.line PySem.F.plainAttrs_dict PySem.F.slot_dict_get PySem.F.type_dict_get (thn (ho.run pins s σ H _ I h) fun u s1 ⟨x, H1, I1, rx, a, ex, ⟨kvs, d⟩, q1⟩ => ?_)
  subst ex
  obtain rfl : u = Value.ref a := rx
  obtain ⟨t1, t2, _⟩ := nd_at I1 d
  refine ⟨t1, t2, ?_⟩
  rw [m.trees]
  refine Calls.callWith_builtin rfl (Calls.evalArgs_plain (Calls.spliced_cons (thn (he.run pins s1 σ H1 _ I1 q1) fun iv s2 ⟨y, H2, I2, ry, q2⟩ =>
    Calls.spliced_cons (thn (hf.run pins s2 σ H2 _ I2 q2) fun fv s3 ⟨z, H3, I3, rz, kv, k, ey, g, q3⟩ => Calls.spliced_nil ?_))))
  subst ey
  exact nd_get2 I3 g ry rz fun w' s4 I4 rw' => ⟨_, H3, I4, rw', q3⟩
theorem call_lenN : CallR X (.builtin "len") (fun xs H Q => ∃ a kvs, xs = [V.ref a] ∧ H a = some (NdO X.prog X.w a kvs) ∧ Q (.int kvs.length) H) := by
  intro pins s σ H vs us Q I r h
  obtain ⟨a, kvs, rfl, e, q⟩ := h
  cases r with
  | cons r t =>
    cases t
    cases r
    exact nd_len I e fun t s' I' => ⟨.int kvs.length, H, I', ⟨t, rfl⟩, q⟩
end
end KdNd

/-! dicts with tuple keys: pop, setdefault; list(d.values()) -/
namespace KdDt
open PySem PySem.Spec PyProof.Rows L2
section
variable {X : Cx}
theorem kt_none {H : Hp} {kvs : List (List L2.Key × V)} {xs : List (List L2.Key × Addr × Value)} {k : List L2.Key} (r : KT H kvs xs) (h : atKey xs k = none) : valV kvs k = none := by
  have q := r.val k
  rw [h] at q
  cases e : valV kvs k with
  | none => rfl
  | some v => rw [e] at q; exact False.elim q
theorem kt_some {H : Hp} {kvs : List (List L2.Key × V)} {xs : List (List L2.Key × Addr × Value)} {k : List L2.Key} {p : Addr × Value} (r : KT H kvs xs) (h : atKey xs k = some p) : ∃ v, valV kvs k = some v ∧ RelV v p.2 := by
  have q := r.val k
  rw [h] at q
  cases e : valV kvs k with
  | none => rw [e] at q; exact False.elim q
  | some v => rw [e] at q; exact ⟨v, rfl, q⟩
theorem kt_at {H : Hp} {kvs : List (List L2.Key × V)} {xs : List (List L2.Key × Addr × Value)} {k : List L2.Key} {v : V} (r : KT H kvs xs) (h : valV kvs k = some v) : ∃ p, atKey xs k = some p ∧ RelV v p.2 := by
  have q := r.val k
  rw [h] at q
  cases e : atKey xs k with
  | none => rw [e] at q; exact False.elim q
  | some p => rw [e] at q; exact ⟨p, rfl, q⟩
/-- d.pop(k), the key there -/
def rPop1T : V → List V → Hp → VK → Prop := fun x xs H Q => ∃ (a b : Addr) (kvs : List (List L2.Key × V)) (k : List L2.Key) (v : V), x = .ref a ∧ xs = [.ref b] ∧ H a = some (.dT kvs) ∧ H b = some (.tup (k.map kV)) ∧ valV kvs k = some v ∧ Q v (upd H a (.dT (dropK kvs k)))
theorem mt_pop1T (hu : X.A.units + 1 < cLine) : MtR X "dict.pop" rPop1T := by
  intro pins s σ H x xs v us Q I rx rxs h
  obtain ⟨a, b, kvs, k, y, rfl, rfl, ha, hb, hv, q⟩ := h
  cases rx
  cases rxs with
  | cons r1 r2 =>
  cases r2
  cases r1
  obtain ⟨z, hd, xs', rel, dd⟩ := dt_of I.hok ha
  have hz : xs'.length ≤ sizeLine := by rw [← Paired.length rel]; exact z
  obtain ⟨p, hp, rp⟩ := kt_at rel hv
  refine call_pop_heap (hsz := hz) (more := []) (.inl rfl) (PySem.F.args_dict_pop_2 _ _) (tupleKind_room_in1 hu) (key_of I.hok hb) hd dd hp fun h' dd' hs => ?_
  obtain ⟨o, es, ep, hq, h2, h3, h4, _, h5⟩ := dd'
  refine ⟨y, _, d_write (ob := .dT (dropK kvs k)) I (by rw [ha]; exact True.intro) hs ⟨o, hq⟩ ⟨Nat.le_trans (dropK_le kvs k) z, hd, _, (L2.DX.KT_drop k rel).keeps (fun c ys ec => ?_), o, es, ep, hq, h2, h3, h4, h5⟩, rp, q⟩
  rw [upd_ne (ne_of ec ha (fun z => nomatch z))]
  exact ec
/-- d.setdefault(k, x) -/
def rSetdT : V → List V → Hp → VK → Prop := fun x xs H Q => ∃ (a b : Addr) (kvs : List (List L2.Key × V)) (k : List L2.Key) (d : V), x = .ref a ∧ xs = [.ref b, d] ∧ H a = some (.dT kvs) ∧ H b = some (.tup (k.map kV)) ∧ kvs.length < sizeLine ∧
  (∀ v, valV kvs k = some v → Q v H) ∧ (valV kvs k = none → Q d (upd H a (.dT (putK kvs k d))))
theorem mt_setdT (hu : X.A.units + 1 < cLine) : MtR X "dict.setdefault" rSetdT := by
  intro pins s σ H x xs v us Q I rx rxs h
  obtain ⟨a, b, kvs, k, d, rfl, rfl, ha, hb, hl, q1, q2⟩ := h
  cases rx
  cases rxs with
  | @cons _ u1 _ _ r1 r2 =>
  cases r2 with
  | @cons _ u2 _ _ r2 r3 =>
  cases r3
  cases r1
  obtain ⟨z, hd, xs', rel, dd⟩ := dt_of I.hok ha
  have hz : xs'.length ≤ sizeLine := by rw [← Paired.length rel]; exact z
  refine call_setdefault_heap (hsz := hz) (tupleKind_room_in1 hu) (key_of I.hok hb) hd dd (fun p hp => ?_) fun hn h' dd' hs => ?_
  · obtain ⟨y, e, ry⟩ := kt_some rel hp
    exact ⟨y, H, I.tok _, ry, q1 y e⟩
  · obtain ⟨o, es, ep, hq, h2, h3, h4, _, h5⟩ := dd'
    have hl2 : (putK kvs k d).length ≤ sizeLine := by have := length_putK kvs k d; omega
    refine ⟨d, _, d_write (ob := .dT (putK kvs k d)) I (by rw [ha]; exact True.intro) hs ⟨o, hq⟩ ⟨hl2, hd, _, (rel.put k hb r2).keeps (fun c ys ec => ?_), o, es, ep, hq, h2, h3, h4, h5⟩, r2, q2 (kt_none rel hn)⟩
    rw [upd_ne (ne_of ec ha (fun z => nomatch z))]
    exact ec
/-- list(e.values()) -/
def tListVals (te : TE) : TE := fun σ H Q => te σ H fun x H1 => ∃ (d : Addr) (kvs : List (L2.Key × V)), x = .ref d ∧ H1 d = some (.dK kvs) ∧ ∀ p, H1 p = none → Q (.ref p) (upd H1 p (.lst (kvs.map (·.2))))
theorem kv_snds : ∀ {kvs : List (L2.Key × V)} {vs : List (L2.Key × Value)}, KV kvs vs → Vals (kvs.map (·.2)) (vs.map (·.2))
  | _, _, .nil => .nil
  | _, _, .cons r t => .cons r.2 (kv_snds t)
theorem pe_listVals {e : Expr} {te : TE} {p apos cpos pos : Pos} (hc : X.calm = true) (he : PE X e te) (hg : Gl X "list") (hm : X.mg "list" = none) (hv : bootBuiltins "list" = some (.type "list")) (hbase : attributeBase e "values" X.env (eval e X.env) = eval e X.env := by rfl) (hline : (apos.endLine == cpos.line) = true := by rfl)
    (hs : starEach [.Call (.Attribute e "values" apos) [] [] cpos] X.env = (false, eval (.Call (.Attribute e "values" apos) [] [] cpos) X.env) :: starEach [] X.env := by rfl) : PE X (.Call (.Name "list" p) [.Call (.Attribute e "values" apos) [] [] cpos] [] pos) (tListVals te) := by
  constructor
  intro pins s σ H Q I hq
  refine wpAny_Call_Name_kw (ld_blt I hg hm hv (PyProof.Rows.callWith_type1 ?_ hs rfl))
  rw [hs]
  refine Calls.spliced_cons (wpAny_Call_method (T := "dict") (id := "dict.values") hbase rfl hline F.plainAttrs_dict F.slot_dict_values F.type_dict_values (thn (he.run pins s σ H _ I hq) ?_))
  rintro u s1 ⟨x, H1, I1, rx, d, kvs, rfl, hd, q⟩
  obtain rfl : u = Value.ref d := rx
  obtain ⟨hz, hs0, vs, kv, hdo⟩ := dk_of I1.hok hd
  obtain ⟨ep, hat⟩ := hdo.dictAt
  have lk : kvs.length = vs.length := Paired.length kv
  have J : Inv X pins σ H1 { s1 with heap := s1.heap.push { cls := .type "dict_values", data := .fields #[.ref d] } } := I1.kept (t' := s1.toks) fun b ob q => Heap.get?_push_of_some _ q
  refine ⟨hdo.typeIs, hdo.mapOf.noDict, method_meetsIn F.slot_dict_values F.entry_dict_values rfl (PySem.evalArgs_none ⟨rfl, hdo.typeIs, F.args_dict_values_1 _, _, meets_dict_values (mixKind X.prog X.w) d hs0, ⟨vs, hdo⟩, Calls.spliced_nil ?_⟩)⟩
  refine PySem.W.kdl_call (PySem.W.kdl_values (knd := mixKind X.prog X.w) (kvs := vs) (ep := ep)) (I1.ok.hd hc) ⟨⟨_, Heap.get?_push_size _ rfl, rfl, rfl⟩, hat.push _⟩ (by omega) fun h' tk acc c hk hS hacc => ?_
  have ea : acc.toList = vs.map (·.2) := PySem.W.kdl_vals_eq acc.toList (by rw [Array.length_toList]; exact hacc.1) fun j v e => hacc.2 j v (by rw [← Array.getElem?_toList]; exact e)
  refine ⟨.ref _, _, J.laid (o := .lst (kvs.map (·.2))) (t' := tk) hk (Nat.le_refl _) ⟨by rw [List.length_map]; exact hz, acc.toList, c, ?_, ?_⟩, rfl, q _ (J.hok.fresh (Nat.le_refl _))⟩
  · rw [ea]
    exact kv_snds kv
  · rw [Array.toArray_toList]
    exact hS
end
end KdDt

/-! a dict comprehension over any kind of dict: O0 D the empty one, Put y z D H H' the storing of z at y -/
namespace KdDn
open PySem PySem.Spec PyProof.Rows L2 KdNd
abbrev PutR := V → V → Addr → Hp → Hp → Prop
def tDcG (O0 : Addr → HO) (Put : PutR) (wi : TI) (g : TG) (tt : TT) (tk tv : TE) (vs : List Nat) : TE := fun σ H Q => wi σ H fun J H1 => ∀ D, H1 D = none → ∃ W : Nat → Nat → Hp → Prop, (∃ m, W 0 m (upd H1 D (O0 D))) ∧ ∀ i m H, W i m H →
  (J.stop i H ∧ Q (.ref D) H) ∨ (J.go i H ∧ ∃ Nx : Hp → Prop, (∀ H', Nx H' → ∃ m', m' < m ∧ W (i + 1) m' H') ∧ ∀ x H', J.yld i H x H' → g x (wipe σ vs) H' fun σ2 H2 => wipe σ2 vs = wipe σ vs ∧ tt σ2 H2 fun b H3 =>
    if b = true then tk σ2 H3 fun y H4 => tv σ2 H4 fun z H5 => ∃ H6, Put y z D H5 H6 ∧ Nx H6 else Nx H3)
section
variable {X : Cx}
/-- what the empty dict and the storing must keep -/
structure DKit (X : Cx) (O0 : Addr → HO) (Put : PutR) : Prop where
  nil : ∀ {H : Hp} (h : Heap), sysModules < h.objs.size → ObjOk X.prog X.w H (h.push { cls := .type "dict", data := .dict #[] }) h.objs.size (O0 h.objs.size)
  put : ∀ (Y : Cx), Y.prog = X.prog → Y.w = X.w → ∀ {pins : List (Addr × Obj)} {σ : L2.St} {H H' : Hp} {s : Shared} {E : Value → Shared → Prop} {D : Addr} {y z : V} {u r : Value} {Q : Unit → Shared → Prop}, Inv Y pins σ H s → Put y z D H H' → RelV y u → RelV z r →
    (∀ s', Inv Y pins σ H' s' → Q () s') → wpAny (model Y.prog Y.w) Y.A (dictSet D u r) Q E s
abbrev Blk (X : Cx) (scope : Scope) (R : Cx → Prop) : Prop := ∀ (s : Shared) (H : Hp) (C : Addr) (cl : List (Str × Addr)) (fp : List Addr), R (X.blk s H scope (compEnvC scope cl C X.env) fp)
theorem dcg_core {O0 : Addr → HO} {Put : PutR} (kit : DKit X O0 Put) {pins : List (Addr × Obj)} {s : Shared} {σ : L2.St} {H : Hp} {Q : VK} {kx vx tg iter : Expr} {ifs : List Expr} {scope : Scope} {own : List (Str × Nat)} {pos pos' : Pos} {wi : TI} {g : TG} {tt : TT} {tk tv : TE} {use : Option (Value → Sem Unit)} {Qf : Value → Shared → Prop}
    (hc : X.calm = true) (hN : X.N.Nodup) (I0 : Inv X pins σ H s) (hi : PI X tg iter wi) (ok : BlkOk X.N X.env.scope scope own) (hg : Blk X scope fun Y => PG Y tg g) (ht : Blk X scope fun Y => PTs Y ifs tt) (hk : Blk X scope fun Y => PE Y kx tk) (he : Blk X scope fun Y => PE Y vx tv)
    (hs : ∀ x, foldedSetIterable iter X.env x = pure x) (h : tDcG O0 Put wi g tt tk tv (own.map (·.2)) σ H Q)
    (out : ∀ D C s' m H', Inv X pins σ H' s' → Q (.ref D) H' → s'.heap.Ns C m → FpOk X pins H' C → compPost (model X.prog X.w) X.A X.xe use Qf (.ref D) C (.ok .next) s') :
    wpAny (model X.prog X.w) X.A (comprehension (.DictComp kx vx [⟨tg, iter, ifs, 0⟩] scope pos) scope X.env pos' newDict false (eval iter X.env) use) Qf X.xe s := by
  refine wpAny_comprehension_free (use := use) rfl hs (closure_ok fun y hy e => (ok.free y hy e).elim (fun k => I0.ok.has _ (.inl k)) fun k => I0.ok.has _ (.inr k)) ok.kind (fun y hy e => by rw [ok.uniq y hy, e]) (thn (hi.run pins s σ H _ I0 h) fun xv sa hx => thn hx fun itv sb hb => ?_)
  obtain ⟨it, fp, tn, J, Hb, rfl, Ib, T, stb, fb, q⟩ := hb
  refine wpAny_newObj_type (newEnv_comp ?_)
  generalize eD : sb.heap.objs.size = D
  have nD : Hb D = none := Ib.hok.fresh (Nat.le_of_eq eD)
  obtain ⟨W, ⟨m0, w0⟩, turn⟩ := q D nD
  generalize ec : ({ sb with heap := sb.heap.push { cls := .type "dict", data := .dict #[] } } : Shared) = sc
  have hpc : sc.heap = sb.heap.push { cls := .type "dict", data := .dict #[] } := by rw [← ec]
  have Ic : Inv X pins σ (upd Hb D (O0 D)) sc := by
    rw [← ec]
    refine Ib.laid (t' := sb.toks) (fun b o e => Heap.get?_push_of_some _ e) (Nat.le_of_eq eD) ?_
    have z := kit.nil (H := upd Hb D (O0 D)) sb.heap Ib.big
    rw [eD] at z
    exact z
  have fpc : ∀ b ∈ fp, FpOk X pins (upd Hb D (O0 D)) b ∧ b < sc.heap.objs.size := fun b hb => by
    obtain ⟨o, e, _⟩ := T.obj _ _ stb b hb
    have lt := Heap.lt_size e
    exact ⟨⟨by rw [upd_ne (by rw [← eD]; exact Nat.ne_of_lt lt)]; exact (fb b hb).1, (fb b hb).2⟩, by rw [hpc, Heap.size_push]; exact Nat.lt_succ_of_lt lt⟩
  have stc : tn 0 sc.heap := T.keep _ _ _ stb fun b _ o e => by rw [hpc]; exact Heap.get?_push_of_some _ e
  have Id := block_start Ic ok hN fpc
  have rg := hg sc (upd Hb D (O0 D)) sc.heap.objs.size (cellsFrom (sc.heap.objs.size + 1) scope.names (cloFrom X.env.cells scope.names [])) fp
  have rt := ht sc (upd Hb D (O0 D)) sc.heap.objs.size (cellsFrom (sc.heap.objs.size + 1) scope.names (cloFrom X.env.cells scope.names [])) fp
  have rk := hk sc (upd Hb D (O0 D)) sc.heap.objs.size (cellsFrom (sc.heap.objs.size + 1) scope.names (cloFrom X.env.cells scope.names [])) fp
  have re := he sc (upd Hb D (O0 D)) sc.heap.objs.size (cellsFrom (sc.heap.objs.size + 1) scope.names (cloFrom X.env.cells scope.names [])) fp
  show codeAny _ _ (.compStart (.DictComp kx vx [⟨tg, iter, ifs, 0⟩] scope pos) 0 (.ref it) (.ref D) (compEnvC scope (cellsFrom (sc.heap.objs.size + 1) scope.names (cloFrom X.env.cells scope.names [])) sc.heap.objs.size X.env)) (compPost (model X.prog X.w) X.A X.xe use Qf (.ref D) sc.heap.objs.size) { sc with heap := pushCells (sc.heap.push { cls := .type "dict", data := .dict #[] }) scope.names }
  have nfp : ∀ b ∈ fp, (upd Hb D (O0 D)) b = none := fun b hb => (fpc b hb).1.1
  generalize hce : compEnvC scope (cellsFrom (sc.heap.objs.size + 1) scope.names (cloFrom X.env.cells scope.names [])) sc.heap.objs.size X.env = ce at Id rg rt rk re ⊢
  have cL : ce.locals = sc.heap.objs.size := by subst hce; rfl
  generalize eHc : upd Hb D (O0 D) = Hc at Ic Id rg rt rk re w0 nfp fpc
  generalize esd : ({ sc with heap := pushCells (sc.heap.push { cls := .type "dict", data := .dict #[] }) scope.names } : Shared) = sd at Id ⊢
  have std : tn 0 sd.heap := T.keep _ _ _ stc fun b _ o e => by rw [← esd]; exact pushCells_keeps _ _ _ _ (Heap.get?_push_of_some _ e)
  have fixed : ∀ {σ' : L2.St} {H' : Hp} {s' : Shared}, Inv (X.blk sc Hc scope ce fp) [] σ' H' s' → (∀ b ∈ fp, H' b = none) → ∀ b ∈ fp, FpOk (X.blk sc Hc scope ce fp) [] H' b := fun {σ' H' s'} Jn hn b hb =>
    ⟨hn b hb, (Jn.ok.exf b hb).1, Jn.ok.exfs b hb, .inl hb, fun x c e => (Jn.ok.exf b hb).2 x c e, fun p hp => absurd (show p ∈ ([] : List (Addr × Obj)) ++ [] from hp) (by simp)⟩
  have body : codeAny (model X.prog X.w) X.A (.compLoop (.DictComp kx vx [⟨tg, iter, ifs, 0⟩] scope pos) 0 (.ref it) (.ref D) ce) (compPost (model X.prog X.w) X.A X.xe use Qf (.ref D) sc.heap.objs.size) sd := by
    refine compLoop_anyD (fun n s' => ∃ i H', Inv (X.blk sc Hc scope ce fp) [] (wipe σ (own.map (·.2))) H' s' ∧ tn i s'.heap ∧ (∀ b ∈ fp, H' b = none) ∧ W i n H') ?_ m0 ⟨0, Hc, Id, std, nfp, w0⟩
    rintro n se ⟨i, He, Ie, ste, nfe, we⟩
    rcases turn i n He we with ⟨stop, qq⟩ | ⟨go, Nx, hNx, step⟩
    · refine thnF (T.done (X.blk sc Hc scope ce fp) rfl rfl rfl hc i [] se _ He (fun _ _ => False) Ie (fixed Ie nfe) ste stop) fun r sf ⟨hr, If⟩ => ?_
      subst hr
      have Ig : Inv X pins σ He sf := Ic.call' (ch := fp) If.os If.base If.hok If.bare fun b hb => ⟨(fpc b hb).1.2.2.2.1, (fpc b hb).1.2.1, (fpc b hb).1.2.2.2.2.1, (fpc b hb).1.2.2.2.2.2⟩
      have nC : He sc.heap.objs.size = none := by
        rw [← cL]
        exact If.free
      obtain ⟨m, hn, _⟩ := If.loc
      have hn2 : sf.heap.Ns ce.locals m := hn
      rw [cL] at hn2
      exact out D sc.heap.objs.size sf m He Ig qq hn2 (Ic.fpOk (Nat.le_refl _) nC)
    · refine thnF (T.item (X.blk sc Hc scope ce fp) rfl rfl rfl hc i [] se _ He (fun _ _ => False) Ie (fixed Ie nfe) ste go) fun r sf ⟨u, hr, hf⟩ => ?_
      subst hr
      refine thnF hf fun _ sg ⟨x, Hg, Ig, rx, yg, stg, ng⟩ => thnF (rg.run _ sg _ Hg x u _ (Ig.pinned (fixed Ig ng) (T.obj _ _ stg)) rx (step x Hg yg)) fun _ sh ⟨σh, Hh, Ih, hwh, qh⟩ => thnF (rt.run _ sh σh Hh _ Ih qh) fun b sj ⟨Hj, Ij, qj⟩ => ?_
      have fin : ∀ {s' : Shared} {H' : Hp}, Inv (X.blk sc Hc scope ce fp) ([] ++ pinsAt fp sg.heap) σh H' s' → Nx H' → ∃ m, m < n ∧ ∃ i H', Inv (X.blk sc Hc scope ce fp) [] (wipe σ (own.map (·.2))) H' s' ∧ tn i s'.heap ∧ (∀ b ∈ fp, H' b = none) ∧ W i m H' := fun {s' H'} In nx => by
        obtain ⟨m', hm, w'⟩ := hNx H' nx
        have held : ∀ b ∈ fp, ∀ o, sg.heap.get? b = some o → s'.heap.get? b = some o ∧ H' b = none := fun b hb o e => by
          have z := In.pin (b, o) (List.mem_append_right _ (List.mem_append_right _ (mem_pinsAt hb e)))
          exact ⟨z.1, z.2.1⟩
        refine ⟨m', hm, i + 1, H', (In.unpinned (pins := [])).weak (by rw [← hwh, wipe_length]) (fun j v e => ?_), T.keep _ _ _ stg fun b hb o e => (held b hb o e).1, fun b hb => ?_, w'⟩
        · rw [← hwh] at e
          exact (wipe_some e).1
        · obtain ⟨o, e, _⟩ := T.obj _ _ stg b hb
          exact (held b hb o e).2
      cases b with
      | false =>
        rw [if_neg (by decide)] at qj ⊢
        exact fin Ij qj
      | true =>
        rw [if_pos rfl] at qj ⊢
        refine thnF (rk.run _ sj σh Hj _ Ij qj) fun z sk ⟨yk, Hk, Ik, r1, qk⟩ => thnF (re.run _ sk σh Hk _ Ik qk) fun z2 sl ⟨yv, Hl, Il, r2, Hm, pm, nx⟩ => ?_
        exact kit.put (X.blk sc Hc scope ce fp) rfl rfl Il pm r1 r2 fun sm Im => fin Im nx
  exact codeAny_compStart_dict body (T.self X.A 0 _ _ _ std body)
theorem pe_dcg {O0 : Addr → HO} {Put : PutR} (kit : DKit X O0 Put) {kx vx tg iter : Expr} {ifs : List Expr} {scope : Scope} {own : List (Str × Nat)} {pos : Pos} {wi : TI} {g : TG} {tt : TT} {tk tv : TE} (hc : X.calm = true) (hN : X.N.Nodup) (hi : PI X tg iter wi) (ok : BlkOk X.N X.env.scope scope own)
    (hg : Blk X scope fun Y => PG Y tg g) (ht : Blk X scope fun Y => PTs Y ifs tt) (hk : Blk X scope fun Y => PE Y kx tk) (he : Blk X scope fun Y => PE Y vx tv) (hs : ∀ x, foldedSetIterable iter X.env x = pure x := by intro _; rfl) : PE X (.DictComp kx vx [⟨tg, iter, ifs, 0⟩] scope pos) (tDcG O0 Put wi g tt tk tv (own.map (·.2))) := by
  constructor
  intro pins s σ H Q I h
  rw [arm_eval_DictComp]
  refine dcg_core kit hc hN I hi ok hg ht hk he hs h fun D C s' m H' I2 q hn f => ⟨m, hn, fun h2 sb => ⟨.ref D, H', ?_, rfl, q⟩⟩
  exact I2.turned (t' := s'.toks) (fun b o hb e => (sb.2 b hb).trans e) f.1 f.2.1 f.2.2.2.1 f.2.2.2.2.1 f.2.2.2.2.2
/-! keys that are None, ints and texts -/
def PutN (P : Program) (w : World) : PutR := fun y z D H H' => ∃ kvs k, y = nkV k ∧ H D = some (NdO P w D kvs) ∧ kvs.length < sizeLine ∧ H' = upd H D (NdO P w D (putK kvs k z))
theorem kitN : DKit X (fun D => NdO X.prog X.w D []) (PutN X.prog X.w) where
  nil := fun {H} h big => nd_new (by simp) (by
    have z : h.objs.size ≠ sysModules := Nat.ne_of_gt big
    simpa using z) (vs := []) (show KV [] [] from Paired.nil) (Heap.DictOf.new h)
  put := fun Y e1 e2 {pins σ H H' s E D y z u r Q} I p ry rz k => by
    obtain ⟨kvs, k', rfl, hD, hl, rfl⟩ := p
    rw [← e1, ← e2] at hD k
    exact nd_dictSet I hD ry rz hl k
end
/-- by what holds between two turns -/
theorem dcg_it {O0 : Addr → HO} {Put : PutR} {J : It} {n : Nat} {G : Hp → Prop} {Y : Nat → Hp → V → Hp → Prop} (w : Walk J n G Y) {g : TG} {tt : TT} {tk tv : TE} {vs : List Nat} {σ : L2.St} {H1 : Hp} {D : Addr} {Qd : Hp → Prop} (Pv : Nat → Hp → Prop) (h0 : Pv 0 (upd H1 D (O0 D))) (hG : ∀ i H, i ≤ n → Pv i H → G H)
    (hs : ∀ i x H H', i < n → Pv i H → Y i H x H' → g x (wipe σ vs) H' fun σ2 H2 => wipe σ2 vs = wipe σ vs ∧ tt σ2 H2 fun b H3 => if b = true then tk σ2 H3 fun y H4 => tv σ2 H4 fun z H5 => ∃ H6, Put y z D H5 H6 ∧ Pv (i + 1) H6 else Pv (i + 1) H3) (hd : ∀ H, Pv n H → Qd H) :
    ∃ W : Nat → Nat → Hp → Prop, (∃ m, W 0 m (upd H1 D (O0 D))) ∧ ∀ i m H, W i m H → (J.stop i H ∧ Qd H) ∨ (J.go i H ∧ ∃ Nx : Hp → Prop, (∀ H', Nx H' → ∃ m', m' < m ∧ W (i + 1) m' H') ∧ ∀ x H', J.yld i H x H' → g x (wipe σ vs) H' fun σ2 H2 => wipe σ2 vs = wipe σ vs ∧ tt σ2 H2 fun b H3 =>
      if b = true then tk σ2 H3 fun y H4 => tv σ2 H4 fun z H5 => ∃ H6, Put y z D H5 H6 ∧ Nx H6 else Nx H3) := by
  refine ⟨fun i m H => m = n - i ∧ i ≤ n ∧ Pv i H, ⟨n, rfl, Nat.zero_le _, h0⟩, fun i m H hw => ?_⟩
  obtain ⟨em, hi, p⟩ := hw
  by_cases lt : i < n
  · exact .inr ⟨w.goes i H lt (hG i H hi p), Pv (i + 1), fun H' p' => ⟨n - (i + 1), by omega, rfl, lt, p'⟩, fun x H' y => hs i x H H' lt p (w.yields i H x H' lt (hG i H hi p) y)⟩
  · obtain rfl : i = n := by omega
    exact .inl ⟨w.stops H (hG i H hi p), hd H p⟩
end KdDn

namespace Kd
open PySem PySem.Spec PyProof.Rows L2 LamX
/-- nothing but a table stands there -/
def Fresh (H : Hp) (b : Addr) : Prop := ∀ o, H b = some o → ¬ NoTb o
theorem Fresh.of {H : Hp} {b : Addr} (h : H b = none) : Fresh H b := fun o e => by rw [h] at e; cases e
def Nw (M M' : Addr → Prop) (H : Hp) : Prop := ∀ b, M' b → M b ∨ Fresh H b
/-- all of M stand there, and are no tuples -/
def Live (M : Addr → Prop) (H : Hp) : Prop := ∀ b, M b → ∃ o, H b = some o ∧ Chg o
section
variable {K : PySem.W.Frag} {T : TB} {M M' M2 N : Addr → Prop} {H H1 H' : Hp} {b p : Addr} {o : HO}
theorem Nw.refl : Nw M M H := fun _ h => .inl h
theorem Fresh.back (f : Fr T M H H1) (n : ¬ M b) (h : Fresh H1 b) : Fresh H b := fun o e t => h o (f.st b o e t (.inr n)) t
theorem Nw.trans (f : Fr T M H H1) (a : Nw M M' H) (c : Nw M' M2 H1) : Nw M M2 H := fun b h => by
  rcases c b h with h | h
  · exact a b h
  · by_cases m : M b
    · exact .inl m
    · exact .inr (h.back f m)
theorem Live.not (l : Live M H) (h : Fresh H b) : ¬ M b := fun m => by
  obtain ⟨o, e, c⟩ := l b m
  exact h o e c.noTb
theorem Live.notN (l : Live M H) (h : H b = none) : ¬ M b := l.not (Fresh.of h)
theorem Live.notT (l : Live M H) (e : H b = some o) (c : ¬ Chg o) : ¬ M b := fun m => by
  obtain ⟨u, e2, c2⟩ := l b m
  rw [e] at e2
  cases e2
  exact c c2
theorem Live.keep (l : Live M H) (k : Keep M H H') : Live M H' := fun b m => by
  obtain ⟨o, e, c⟩ := l b m
  exact ⟨o, k.at e c m, c⟩
theorem Live.same (l : Live M H) (s : Same H H') : Live M H' := l.keep (Keep.of s)
theorem Fr.transN (f : Fr T M H H1) (nw : Nw M M' H) (g : Fr T M' H1 H') : Fr T M H H' := ⟨fun b o e t c => g.st b o (f.st b o e t c) t (c.imp id fun n m => (nw b m).elim n fun z => z o e t), fun t => g.tb (f.tb t)⟩
/-- what is apart of M is apart of what M became -/
theorem Nw.apart (nw : Nw M M' H) (l : Live N H) (d : ∀ b, N b → ¬ M b) : ∀ b, N b → ¬ M' b := fun b n m => by
  rcases nw b m with m | f
  · exact d b n m
  · exact l.not f n
end
/-! ### versions -/
section
variable {P : Program} {w : World} {K : PySem.W.Frag} {mg : Str → Option Value} {base : Heap} {f : Addr} {fd : FuncData} {M : Addr → Prop} {H H' : Hp} {T : TB}
def VerAt (K : PySem.W.Frag) (H : Hp) (v : V) (r : Ver) : Prop := ∃ q y, v = .ref q ∧ H q = some (.tup [.int r.n, ovI r.b, ovI r.e, y]) ∧ Dp K H y (.tuple r.d) ∧ NoL 3 (.tuple r.d)
theorem VerAt.keep {v : V} {r : Ver} (k : Keep M H H') : VerAt K H v r → VerAt K H' v r := fun ⟨q, y, e, h, d, n⟩ => ⟨q, y, e, k.tup h, k.dp n d, n⟩
theorem VerAt.same {v : V} {r : Ver} (s : Same H H') (h : VerAt K H v r) : VerAt K H' v r := h.keep (M := no) (Keep.of s)
theorem vers_keep {xs : List V} {rs : List Ver} (k : Keep M H H') (h : Paired (VerAt K H) xs rs) : Paired (VerAt K H') xs rs := PySem.Paired.mono (fun _ _ => VerAt.keep k) h
theorem ovI_dp (o : Option Int) : Dp K H (ovI o) (oD o) := by
  cases o
  · exact .non
  · exact .int _
theorem VerAt.dp {v : V} {r : Ver} : VerAt K H v r → Dp K H v (verD1 r) := fun ⟨q, y, e, h, d, _⟩ => by
  rw [e]
  exact .tup (SqT.of h) (.cons (.int _) (.cons (ovI_dp _) (.cons (ovI_dp _) (.cons d .nil))))
theorem dp_ovI {v : V} : ∀ {o : Option Int}, Dp K H v (oD o) → v = ovI o
  | none, h => by cases h; rfl
  | some i, h => by cases h; rfl
/-- a kind as an entry of a dict -/
def KvAt (K : PySem.W.Frag) (H : Hp) (kv : L2.Key × V) (k : Kind) : Prop := kv.1 = Sum.inl k.1 ∧ ∃ q, kv.2 = .ref q ∧ SqT K H q (k.2.map Fv.v)
theorem KvAt.keep {kv : L2.Key × V} {k : Kind} (p : Keep M H H') : KvAt K H kv k → KvAt K H' kv k := fun ⟨h1, q, h2, h3⟩ => ⟨h1, q, h2, p.seqT h3⟩
def InnerAt (K : PySem.W.Frag) (H : Hp) (d : Addr) (ks : List Kind) : Prop := ∃ kvs, H d = some (.dK kvs) ∧ Paired (KvAt K H) kvs ks
def VersAt (K : PySem.W.Frag) (H : Hp) (l : Addr) (vs : List Ver) : Prop := ∃ xs, H l = some (.lst xs) ∧ Paired (VerAt K H) xs vs
theorem InnerAt.keep {d : Addr} {ks : List Kind} (m : M d) (p : Keep M H H') : InnerAt K H d ks → InnerAt K H' d ks := fun ⟨kvs, h1, h2⟩ => ⟨kvs, p.at h1 trivial m, PySem.Paired.mono (fun _ _ => KvAt.keep p) h2⟩
theorem VersAt.keep {l : Addr} {vs : List Ver} (m : M l) (p : Keep M H H') : VersAt K H l vs → VersAt K H' l vs := fun ⟨xs, h1, h2⟩ => ⟨xs, p.at h1 trivial m, vers_keep p h2⟩
/-- the things of a house at th, the objects M its own -/
structure ThO (K : PySem.W.Frag) (C : Addr) (H : Hp) (M : Addr → Prop) (th p : Addr) (ts : Ts) : Prop where
  live : Live M H
  ex : ∃ (dx kd nb : Addr) (ka na : Th → Addr), H th = some (.ins C dx (thF p kd nb ts.given)) ∧ H kd = some (.dT (ts.kinds.map fun e => (thK e.1, .ref (ka e.1)))) ∧ H nb = some (.dT (ts.nums.map fun e => (thK e.1, .ref (na e.1)))) ∧ kd ≠ nb ∧ M th ∧ M kd ∧ M nb ∧
    (∀ e ∈ ts.kinds, M (ka e.1) ∧ InnerAt K H (ka e.1) e.2) ∧ (∀ e ∈ ts.kinds, ∀ e' ∈ ts.kinds, ka e.1 = ka e'.1 → e.1 = e'.1) ∧ ∀ e ∈ ts.nums, M (na e.1) ∧ VersAt K H (na e.1) e.2
theorem ThO.keep {C th p : Addr} {ts : Ts} (h : ThO K C H M th p ts) (k : Keep M H H') : ThO K C H' M th p ts := by
  obtain ⟨dx, kd, nb, ka, na, h1, h2, h3, h4, m1, m2, m3, h5, h6, h7⟩ := h.ex
  exact ⟨h.live.keep k, dx, kd, nb, ka, na, k.at h1 trivial m1, k.at h2 trivial m2, k.at h3 trivial m3, h4, m1, m2, m3, fun e he => ⟨(h5 e he).1, (h5 e he).2.keep (h5 e he).1 k⟩, h6, fun e he => ⟨(h7 e he).1, (h7 e he).2.keep (h7 e he).1 k⟩⟩
theorem ThO.same {C th p : Addr} {ts : Ts} (h : ThO K C H M th p ts) (s : Same H H') : ThO K C H' M th p ts := h.keep (Keep.of s)
theorem thK_inj : ∀ a b : Th, thK a = thK b → a = b := fun a b h => by
  unfold thK at h
  have h1 : (Sum.inr a.1 : L2.Key) = Sum.inr b.1 := (List.cons.inj h).1
  have h2 : (Sum.inr a.2 : L2.Key) = Sum.inr b.2 := (List.cons.inj (List.cons.inj h).2).1
  exact Prod.ext (Sum.inr.inj h1) (Sum.inr.inj h2)
/-- a plan and its own objects -/
def PlanO (K : PySem.W.Frag) (C : Addr) (H : Hp) (M : Addr → Prop) (p : Addr) (ds : Dims) (ms : List Str) : Prop := Live M H ∧ ∀ H', Keep M H H' → PlanAt K C H' p ds ms
theorem PlanO.at {C p : Addr} {ds : Dims} {ms : List Str} (h : PlanO K C H M p ds ms) : PlanAt K C H p ds ms := h.2 H Keep.refl
theorem PlanO.keep {C p : Addr} {ds : Dims} {ms : List Str} (h : PlanO K C H M p ds ms) (k : Keep M H H') : PlanO K C H' M p ds ms := ⟨h.1.keep k, fun H2 k2 => h.2 H2 (k.trans k2)⟩
theorem keep_dim {y : V} {d : Str × List (Str × Str)} (k : Keep M H H') : DimAt K H y d → DimAt K H' y d := fun ⟨p, q, h1, h2, zs, h3, h4⟩ => ⟨p, q, h1, k.seqT h2, zs, k.seqT h3, PySem.Paired.mono (fun _ _ ⟨r, e1, e2⟩ => ⟨r, e1, k.seqT e2⟩) h4⟩
theorem PlanO.mk {C p dx a b : Addr} {ds : Dims} {ms : List Str} {xs : List V} (h1 : H p = some (.ins C dx (plF a b))) (h2 : H a = some (.lst xs)) (h3 : Paired (DimAt K H) xs ds) (h4 : H b = some (.lst (ms.map V.str))) : PlanO K C H (fun c => c = p ∨ c = a ∨ c = b) p ds ms := by
  refine ⟨?_, fun H2 k => ⟨dx, a, b, xs, k.at h1 trivial (.inl rfl), k.at h2 trivial (.inr (.inl rfl)), PySem.Paired.mono (fun _ _ => keep_dim k) h3, k.at h4 trivial (.inr (.inr rfl))⟩⟩
  rintro c (rfl | rfl | rfl)
  · exact ⟨_, h1, trivial⟩
  · exact ⟨_, h2, trivial⟩
  · exact ⟨_, h4, trivial⟩
theorem sv_item {v : V} {s : Sv} (h : Dp K H v (svD s)) : ∃ q y, v = .ref q ∧ SqT K H q [ovI s.1, ovI s.2.1, y] ∧ Dp K H y (.tuple s.2.2) := by
  unfold svD at h
  cases h with
  | @tup q xs _ hq hd =>
    cases hd with
    | cons h1 hd =>
    cases hd with
    | cons h2 hd =>
    cases hd with
    | cons h3 hd =>
    cases hd
    rw [dp_ovI h1, dp_ovI h2] at hq
    exact ⟨_, _, rfl, hq, h3⟩
theorem Fr.drop {N : Addr → Prop} {D : Addr} (f : Fr T (fun b => N b ∨ b = D) H H') (hD : H D = none) : Fr T N H H' :=
  ⟨fun b o e t c => f.st b o e t (c.imp id fun n q => q.elim n fun z => by rw [z, hD] at e; cases e), f.tb⟩
theorem th_given (p kd nb : Addr) (gv : Int) : (thF p kd nb gv).lookup ("given" : Str) = some (.int gv) := by
  simp [thF, List.lookup, show (("given" : Str) == "plan") = false by decide +kernel, show (("given" : Str) == "kinds") = false by decide +kernel, show (("given" : Str) == "numbered") = false by decide +kernel]
theorem th_kinds (p kd nb : Addr) (gv : Int) : (thF p kd nb gv).lookup ("kinds" : Str) = some (.ref kd) := by
  simp [thF, List.lookup, show (("kinds" : Str) == "plan") = false by decide +kernel]
theorem th_plan (p kd nb : Addr) (gv : Int) : (thF p kd nb gv).lookup ("plan" : Str) = some (.ref p) := by
  simp [thF, List.lookup]
theorem th_putg (p kd nb : Addr) (g g' : Int) : putF "given" (.int g') (thF p kd nb g) = thF p kd nb g' := by
  have n4 : ("given" : Str) ≠ "plan" := by decide +kernel
  have n5 : ("given" : Str) ≠ "kinds" := by decide +kernel
  have n6 : ("given" : Str) ≠ "numbered" := by decide +kernel
  simp [putF, thF, n4.symm, n5.symm, n6.symm]
theorem th_no {p kd nb : Addr} {g : Int} {m : Str} (h1 : (m == ("plan" : Str)) = false) (h2 : (m == ("kinds" : Str)) = false) (h3 : (m == ("numbered" : Str)) = false) (h4 : (m == ("given" : Str)) = false) : (thF p kd nb g).lookup m = none := by
  simp [thF, List.lookup, h1, h2, h3, h4]
/-- a def of the module, its promise and how it is called -/
structure Fun (P : Program) (w : World) (K : PySem.W.Frag) (mg : Str → Option Value) (base : Heap) (x : Str) (n : Nat) (ps : List Str) (sp : Sp) (f : Addr) (fd : FuncData) : Prop where
  G : FnOk P w K mg base CX0 n f fd ps sp
  k : PySem.W.keepIn K (.ref f) = true
  b : Binds K fd ps []
  g : mg x = some (.ref f)
/-- a method -/
structure MFun (P : Program) (w : World) (K : PySem.W.Frag) (mg : Str → Option Value) (base : Heap) (C : Addr) (x : Str) (n : Nat) (ps : List Str) (sp : Sp) (f : Addr) (fd : FuncData) : Prop where
  G : FnOk P w K mg base CX0 n f fd ps sp
  b : Binds K fd ps []
  cl : Cls K C
  m : Meth K C x f
theorem set_sl {i : Nat} {σ σ' : L2.St} {Q : L2.St → Hp → Prop} {v : V} {H : Hp} (e : σ.set i (some v) = σ') (h : Q σ' H) : (fun x H1 => gName i x σ H1 Q) v H := by
  show Q (σ.set i (some v)) H
  rw [e]
  exact h
theorem sl_eq {t : L2.St → Hp → Prop} {σ σ' : L2.St} {H : Hp} (e : σ = σ') (h : t σ' H) : t σ H := by
  rw [e]
  exact h
/-- what holds behind an if -/
theorem join_if {c : TT} {A B : TS} {D : Ends} {σ : L2.St} {H : Hp} (C : L2.St → Hp → Prop) (h1 : ∀ σ' H', C σ' H' → D.nx σ' H') (h2 : (∀ σ' H', C σ' H' → D.nx σ' H') → tIfS c A B D σ H) : tIfS c A B D σ H := h2 h1
/-- the old numbers as a dict -/
def nk (b : Option Int) : KdNd.NK := b.map Sum.inl
theorem nkV_nk (b : Option Int) : ovI b = KdNd.nkV (nk b) := by cases b <;> rfl
def oldK (old : Old) : List (KdNd.NK × V) := old.map fun m => (nk m.1, .int m.2)
theorem val_oldK (b : Option Int) : ∀ old : Old, valV (oldK old) (nk b) = (lk old b).map V.int
  | [] => rfl
  | m :: r => by
    show valV ((nk m.1, V.int m.2) :: oldK r) (nk b) = _
    by_cases e : m.1 = b
    · rw [lk_pos e, valV_pos (p := (nk m.1, V.int m.2)) (by rw [e])]; rfl
    · rw [lk_neg e, valV_neg (p := (nk m.1, V.int m.2)) (fun z => e ?_), val_oldK b r]
      cases h : m.1 <;> cases h2 : b <;> rw [h, h2] at z <;> simp [nk] at z
      · rw [z]
end
end Kd

namespace Kd
open PySem PySem.Spec PyProof.Rows L2
section
variable {P : Program} {w : World} {K : PySem.W.Frag} {mg : Str → Option Value} {base : Heap} {f : Addr} {fd : FuncData}
/-! ### Things.version_on -/
def spVerOn (K : PySem.W.Frag) (C : Addr) : Sp := fun vs H Q _ => ∃ (x p r : Addr) (M : Addr → Prop) (day : Int) (t : Th) (ts : Ts) (vers : List Ver) (ver : Ver), vs = [.ref x, .ref r, .int day] ∧ ThO K C H M x p ts ∧ H r = some (.tup [.str t.1, .str t.2]) ∧ lk ts.nums t = some vers ∧
  vers.length ≤ 4000 ∧ verOn vers day = some ver ∧ ∀ v H', Same H H' → VerAt K H' v ver → Q v H'
abbrev N_Things_version_on : List Str := ["self", "thing", "day", "version", "begun"]
theorem sc_Things_version_on : FnScope N_Things_version_on ["self", "thing", "day"] (defScope s_Things_version_on) := ⟨rfl, rfl, rfl, by decide +kernel, rfl, by decide +kernel, by decide +kernel⟩
/-! slots: 0 self 1 thing 2 day 3 version 4 begun; cells: day -/
theorem ok_verOn {C : Addr} (F : FnP K "version_on" "Things.version_on" s_Things_version_on f fd) (T : ThTxt K C) : FnOk P w K mg base CX0 1 f fd ["self", "thing", "day"] (spVerOn K C) := by
  refine F.ok sc_Things_version_on (fun vs H Q E h => ?_) (fun cdv A outer s H vs Q E hr h => ?_)
  · obtain ⟨x, p, r, M, day, t, ts, vers, ver, rfl, _⟩ := h
    rfl
  · obtain ⟨x, p, r, M, day, t, ts, vers, ver0, rfl, hO, hr2, hlk, hlen, hon, k⟩ := h
    obtain ⟨dx, kd, nb, ka, na, hx, hkd, hn, _, _, _, _, _, _, h7⟩ := hO.ex
    obtain ⟨mN, xs, hl, pv4⟩ := h7 (t, vers) (lk_mem hlk)
    have nd := sc_Things_version_on.nd
    have hu := hr.units
    have hu1 : (A.deeper (envOfC "Things.version_on" (defScope s_Things_version_on) s.heap.objs.size f cdv)).units + 1 < cLine := by omega
    refine ⟨_, PSs.nox (pss_cons (ps_setLc (i := 4) (own := [("version", 3)]) (g := gName 3) (tt := tOr (tB (tIsN (tOp (rIxT K) (tVar 3) (tC (.int 1))))) (tTest (tOp (rI0 fun i j => .bl (decide (i ≤ j))) (tOp (rIxT K) (tVar 3) (tC (.int 1))) (tVar 2)))) (te := tVar 3) rfl nd rfl rfl (sw_true rfl rfl rfl (by decide +kernel)) (pi_list (pe_dget hu1 (pe_fld (pv 0) rfl) (pv 1) (fun _ _ => rfl))) (blkOk_by (own := [("version", 3)]) (N := N_Things_version_on) (sc := defScope s_Things_version_on) (by decide +kernel))
        (fun _ _ _ _ _ => pg_name (i := 3) nd rfl (Or.inl rfl)) (fun _ _ _ _ _ => pts_one (PW.pt (pw_or (pt_cmp (pc_isN (pe_ix ix_tup (pv 3) pe_int (fun _ _ => rfl)))) (pw_or1 (pt_cmpR op_le (pe_ix ix_tup (pv 3) pe_int (fun _ _ => rfl)) (pv 2) (nomark _)))))) (fun _ _ _ _ _ => pv 3))
      (pss_one (ps_ret (pe_ix ix_list (pv 4) (pe_un un_neg pe_int) (fun _ _ => rfl))))), ?_⟩
    have hxl : xs.length = vers.length := pv4.length
    have hv : valV (ts.nums.map fun e => (thK e.1, V.ref (na e.1))) (thK t) = some (.ref (na t)) := by
      rw [val_map (r := fun t => V.ref (na t)) thK_inj, hlk]
      rfl
    refine ⟨_, rfl, x, C, dx, _, _, rfl, hx, T.cl, T.nN, th_num p kd nb _, _, rfl, nb, _, rfl, .inr ⟨_, thK t, r, .inl hn, rfl, hr2, hv.symm⟩, na t, rfl, ⟨_, SqL.of hl⟩, fun D hD => ?_⟩
    refine lc_build (walk_list (K := K) (a := na t) (xs := xs)) hD (fun i zs R => Same H R ∧ Paired (VerAt K R) zs ((vers.take i).filter fun r => begB day r.b)) ⟨Same.refl _, .nil⟩ (fun _ _ _ _ z => SqL.of ((z.1.trans cd_sub) _ _ hl)) ?_ ?_
    · rintro i zs y H2 H2' hi e ly ⟨sm, pz⟩ ⟨rfl, hy⟩
      obtain ⟨ver, hver, q, yv, rfl, hq, dq, nl⟩ := paired_at pv4 hy
      have hq2 := (sm.trans cd_sub) _ _ hq
      have nqD : q ≠ D := fun z => by rw [z, e] at hq2; cases hq2
      have vat : VerAt K (cd D H2') (.ref q) ver := ⟨q, yv, rfl, cd_of hq2 nqD, Dp.same sm _ _ dq, nl⟩
      refine ⟨rfl, _, rfl, q, _, _, _, rfl, rfl, SqT.of hq2, atI_nat (j := 1) rfl, _, rfl, ?_⟩
      cases hb : ver.b with
      | none =>
        rw [show ovI none = V.non from rfl]
        refine iteT ?_
        refine ⟨_, rfl, LcNx.add e ly (by omega) ⟨sm, ?_⟩⟩
        rw [flt_snoc hver, if_pos (by unfold begB; rw [hb])]
        exact PySem.Paired.snoc pz vat
      | some b =>
        rw [show ovI (some b) = V.int b from rfl]
        refine iteF ?_
        have hq3 : SqT K H2' q [.int ver.n, .int b, ovI ver.e, yv] := by
          have := SqT.of (K := K) hq2
          rw [hb] at this
          exact this
        refine ⟨_, rfl, q, _, _, _, rfl, rfl, hq3, atI_nat (j := 1) rfl, _, rfl, _, _, rfl, rfl, _, rfl, ?_⟩
        by_cases c : b ≤ day
        · rw [decide_eq_true c]
          refine iteT ⟨_, rfl, LcNx.add e ly (by omega) ⟨sm, ?_⟩⟩
          rw [flt_snoc hver, if_pos (by unfold begB; rw [hb]; exact decide_eq_true c)]
          exact PySem.Paired.snoc pz vat
        · rw [decide_eq_false c]
          refine iteF (LcNx.skip e ly ⟨sm, ?_⟩)
          rw [flt_snoc hver, if_neg (by unfold begB; rw [hb]; simp [c]), List.append_nil]
          exact pz
    · rintro zs H2 e ly ⟨sm, pz⟩
      rw [hxl, List.take_length] at pz
      have pz2 : Paired (VerAt K H2) zs (vers.filter fun r => begB day r.b) := PySem.Paired.mono (fun _ _ => VerAt.same cd_sub) pz
      have hzl := pz2.length
      unfold verOn at hon
      have h0 : 0 < (vers.filter fun r => begB day r.b).length := by
        cases h : vers.filter fun r => begB day r.b with
        | nil => rw [h] at hon; cases hon
        | cons a t => exact Nat.succ_pos _
      have hz : zs.length - 1 < zs.length := by omega
      obtain ⟨ver, h1, h2⟩ := paired_at pz2 (List.getElem?_eq_getElem hz)
      have hlast : zs.getLast? = some zs[zs.length - 1] := by rw [List.getLast?_eq_getElem?]; exact List.getElem?_eq_getElem hz
      obtain ⟨zr, hzr⟩ := List.getLast?_eq_some_iff.mp hlast
      have ev : ver = ver0 := by
        rw [List.getLast?_eq_getElem?, ← hzl, h1] at hon
        exact Option.some.inj hon
      subst ev
      refine ⟨_, rfl, _, rfl, D, zs, _, _, rfl, rfl, SqL.of e, ?_, k _ H2 (sm.trans cd_sub) h2⟩
      have h3 : atI (zr ++ [zs[zs.length - 1]]) (-1) = some zs[zs.length - 1] := atI_last _ _
      rw [← hzr] at h3
      exact h3
end
end Kd

namespace Kd
open PySem PySem.Spec PyProof.Rows L2
section
variable {P : Program} {w : World} {K : PySem.W.Frag} {mg : Str → Option Value} {base : Heap} {f : Addr} {fd : FuncData}
/-! ### Things.with_numbers -/
def spWithN (P : Program) (w : World) (K : PySem.W.Frag) (T : TB) (C : Addr) : Sp := fun vs H Q _ => ∃ (x dx p kd nb l o : Addr) (gv : Int) (xs : List V) (ss : List Sv) (old : Old), vs = [.ref x, .ref l, .ref o] ∧ H x = some (.ins C dx (thF p kd nb gv)) ∧ H l = some (.lst xs) ∧ DpAll K H xs (ss.map svD) ∧ ss.length ≤ 300 ∧ (∀ s ∈ ss, NoL 3 (.tuple s.2.2)) ∧
  H o = some (KdNd.NdO P w o (oldK old)) ∧ ∀ H' r ys, H r = none → H' r = some (.lst ys) → Paired (VerAt K H') ys (numS old gv ss).1 → H' x = some (.ins C dx (thF p kd nb (numS old gv ss).2)) → Fr T (fun b => b = x) H H' → Q (.ref r) H'
abbrev N_Things_with_numbers : List Str := ["self", "versions", "old", "numbered", "begin", "end", "values"]
theorem sc_Things_with_numbers : FnScope N_Things_with_numbers ["self", "versions", "old"] (defScope s_Things_with_numbers) := ⟨rfl, rfl, rfl, by decide +kernel, rfl, by decide +kernel, by decide +kernel⟩
/-! slots: 0 self 1 versions 2 old 3 numbered 4 begin 5 end 6 values; cells:  -/
theorem ok_withN {T : TB} {C : Addr} (F : FnP K "with_numbers" "Things.with_numbers" s_Things_with_numbers f fd) (TX : ThTxt K C) : FnOk P w K mg base CX0 1 f fd ["self", "versions", "old"] (spWithN P w K T C) := by
  refine F.ok sc_Things_with_numbers (fun vs H Q E h => ?_) (fun cdv A outer s H vs Q E hr h => ?_)
  · obtain ⟨x, dx, p, kd, nb, l, o, gv, xs, ss, old, rfl, _⟩ := h
    rfl
  · obtain ⟨x, dx, p, kd, nb, l, o, gv, xs, ss, old, rfl, hx, hl, hd, hlen, hnl, ho, k⟩ := h
    have nd := sc_Things_with_numbers.nd
    refine ⟨_, PSs.nox (pss_cons (ps_set (i := 3) nd rfl (Or.inl rfl) (pe_lst pa_nil))
      (pss_cons (ps_for PassesOwn.never rfl (pi_list (pv 1)) (pg_tup rfl (pgs_cons (pg_name (i := 4) nd rfl (Or.inl rfl)) (pgs_cons (pg_name (i := 5) nd rfl (Or.inl rfl)) (pgs_cons (pg_name (i := 6) nd rfl (Or.inl rfl)) pgs_nil))))
        (pss_cons (ps_if (pt_cmp (KdNd.pc_ndnotin (pv 4) (pv 2)))
          (pss_one (ps_fldaug (pv 0) pe_int in_add))
          pss_nil)
        (pss_one (ps_expr (pe_bm PySem.F.plainAttrs_list PySem.F.slot_list_append PySem.F.type_list_append mt_append (pv 3) (pa_cons (pe_tup (pa_cons (KdNd.pe_ndget2 (pv 2) (pv 4) (pe_fld (pv 0) rfl) ⟨rfl, rfl, rfl, rfl⟩) (pa_cons (pv 4) (pa_cons (pv 5) (pa_cons (pv 6) pa_nil))))) pa_nil))))))
      (pss_one (ps_ret (pv 3))))), ?_⟩
    have hxl : xs.length = ss.length := by rw [DpAll.len hd, List.length_map]
    refine ⟨by show 0 ≤ sizeLine; decide, fun D nD => ?_⟩
    generalize e0 : upd H D (.lst []) = H0
    obtain ⟨s0, eD⟩ := new_of nD e0
    have nDx : D ≠ x := fun z => by rw [z, hx] at nD; cases nD
    refine set_sl (σ' := [some (.ref x), some (.ref l), some (.ref o), some (.ref D), none, none, none]) rfl ?_
    refine ⟨_, rfl, l, rfl, ⟨_, SqL.of (s0 _ _ hl)⟩, for_list (K := K) (a := l) (xs := xs) (fun i σ R => ∃ ys b4 b5 b6, σ = [some (.ref x), some (.ref l), some (.ref o), some (.ref D), b4, b5, b6] ∧ R D = some (.lst ys) ∧ Paired (VerAt K R) ys (numS old gv (ss.take i)).1 ∧
      R x = some (.ins C dx (thF p kd nb (numS old gv (ss.take i)).2)) ∧ Fr T (fun b => b = x ∨ b = D) H R ∧ R l = some (.lst xs) ∧ R o = some (KdNd.NdO P w o (oldK old))) ⟨[], none, none, none, rfl, eD, .nil, s0 _ _ hx, Fr.of s0, s0 _ _ hl, s0 _ _ ho⟩ (fun i σ R _ z => ?_) (fun i y σ R hy z => ?_) (fun σ R z => ?_)⟩
    · obtain ⟨ys, b4, b5, b6, _, _, _, _, _, hl2, _⟩ := z
      exact SqL.of hl2
    · obtain ⟨ys, b4, b5, b6, rfl, hD, pys, hx2, fr, hl2, ho2⟩ := z
      obtain ⟨dv, hdv, dpv⟩ := DpAll.at_ hd hy
      rw [List.getElem?_map] at hdv
      obtain ⟨sI, hsI, rfl⟩ := Option.map_eq_some_iff.mp hdv
      obtain ⟨q, yv, rfl, hq, dyv⟩ := sv_item dpv
      have nlv := hnl sI (List.mem_of_getElem? hsI)
      have kp : Keep no H R := fr.keep0
      have lys : ys.length ≤ 300 := by
        have h1 := pys.length
        rw [numS_len, List.length_take] at h1
        omega
      have hnx := numS_take (old := old) (g := gv) hsI
      generalize numS old gv (ss.take i) = acc at *
      refine ⟨q, _, rfl, kp.seqT hq, rfl, _, _, rfl, _, _, rfl, _, _, rfl, rfl, ?_⟩
      refine sl_eq (σ' := [some (.ref x), some (.ref l), some (.ref o), some (.ref D), some (ovI sI.1), some (ovI sI.2.1), some yv]) rfl ?_
      dsimp only [tSeq]
      refine join_if (fun σ R2 => σ = [some (.ref x), some (.ref l), some (.ref o), some (.ref D), some (ovI sI.1), some (ovI sI.2.1), some yv] ∧ R2 D = some (.lst ys) ∧ Paired (VerAt K R2) ys acc.1 ∧ R2 x = some (.ins C dx (thF p kd nb (if (lk old sI.1).isSome then acc.2 else acc.2 + 1))) ∧ Fr T (fun b => b = x ∨ b = D) H R2 ∧ R2 l = some (.lst xs) ∧ R2 o = some (KdNd.NdO P w o (oldK old))) ?_ ?_
      · rintro σ R2 ⟨rfl, hD3, py3, hx3, fr3, hl3, ho3⟩
        refine ⟨_, rfl, .inl ⟨rfl, _, SqL.of hD3⟩, _, rfl, o, rfl, ⟨_, ho3⟩, _, rfl, _, rfl, x, C, dx, _, _, rfl, hx3, TX.cl, TX.nG, th_given _ _ _ _, oldK old, nk sI.1, nkV_nk _, ho3, ?_⟩
        rw [val_oldK]
        have eN : ((lk old sI.1).map V.int).getD (V.int (if (lk old sI.1).isSome then acc.2 else acc.2 + 1)) = V.int ((lk old sI.1).getD (if (lk old sI.1).isSome then acc.2 else acc.2 + 1)) := by
          cases lk old sI.1 <;> rfl
        rw [eN]
        refine ⟨_, rfl, _, rfl, _, rfl, by show 4 ≤ sizeLine; decide, fun t nt => ?_⟩
        generalize e4 : upd R2 t _ = R4
        obtain ⟨s4, et⟩ := new_of nt e4
        refine ⟨D, ys, _, rfl, rfl, s4 _ _ hD3, Nat.lt_of_le_of_lt lys (by decide), ?_⟩
        have kp4 : Keep no H R4 := (fr3.trans (Fr.of s4)).keep0
        generalize e5 : upd R4 D _ = R5
        obtain ⟨f5, eD5, o5⟩ := put_of (T := T) (N := fun b => b = x ∨ b = D) (s4 _ _ hD3) trivial (.inr rfl) e5
        have ntD : t ≠ D := fun z => by rw [z, hD3] at nt; cases nt
        have nxD : x ≠ D := nDx.symm
        have nlD : l ≠ D := fun z => by rw [z, nD] at hl; cases hl
        have noD : o ≠ D := fun z => by rw [z, nD] at ho; cases ho
        refine ⟨_, _, _, _, rfl, eD5, ?_, ?_, (fr3.trans (Fr.of s4)).trans f5, by rw [o5 l nlD]; exact s4 _ _ hl3, by rw [o5 o noD]; exact s4 _ _ ho3⟩
        · rw [hnx]
          refine PySem.Paired.snoc (vers_keep (M := no) ((Keep.of s4).trans f5.keep0) py3) ⟨t, yv, rfl, by rw [o5 t ntD]; exact et, (kp4.trans f5.keep0).dp nlv dyv, nlv⟩
        · rw [hnx, o5 x nxD]
          exact s4 _ _ hx3
      · intro go
        refine ⟨_, rfl, _, rfl, o, oldK old, nk sI.1, rfl, nkV_nk _, ho2, _, rfl, ?_⟩
        rw [val_oldK]
        cases hlk : lk old sI.1 with
        | some n =>
          refine iteF ?_
          refine go _ _ ⟨rfl, hD, pys, ?_, fr, hl2, ho2⟩
          rw [hlk]
          exact hx2
        | none =>
          refine iteT ?_
          refine ⟨_, rfl, x, C, dx, _, _, rfl, hx2, TX.cl, TX.nG, th_given _ _ _ _, _, _, rfl, rfl, dx, _, hx2, by show 4 < 1000; decide, ?_⟩
          rw [th_putg]
          generalize e4 : upd R x _ = R4
          obtain ⟨f4, ex4, o4⟩ := put_of (T := T) (N := fun b => b = x ∨ b = D) hx2 trivial (.inl rfl) e4
          refine go _ _ ⟨rfl, by rw [o4 D nDx]; exact hD, vers_keep f4.keep0 pys, ?_, fr.trans f4, ?_, ?_⟩
          · rw [ex4, hlk]
            rfl
          · rw [o4 l (ne_of hl hx (fun z => nomatch z))]; exact hl2
          · rw [o4 o (ne_of ho hx (fun z => nomatch z))]; exact ho2
    · obtain ⟨ys, b4, b5, b6, rfl, hD, pys, hx2, fr, hl2, ho2⟩ := z
      rw [hxl, List.take_length] at pys hx2
      exact ⟨_, rfl, k R D ys nD hD pys hx2 (fr.drop nD)⟩
end
end Kd

namespace Kd
open PySem PySem.Spec PyProof.Rows L2 LamX
section
variable {P : Program} {w : World} {K : PySem.W.Frag} {mg : Str → Option Value} {base : Heap} {f : Addr} {fd : FuncData}
theorem oldK_snoc (vs : List Ver) (r : Ver) : oldK (oldOf (vs ++ [r])) = oldK (oldOf vs) ++ [(nk r.b, .int r.n)] := by
  unfold oldK oldOf
  rw [List.map_append, List.map_append]
  rfl
theorem old_none {vs : List Ver} {i : Nat} {r : Ver} (h : vs[i]? = some r) (hn : (vs.map (·.b)).Nodup) : lk (oldOf (vs.take i)) r.b = none := by
  rw [lk_none]
  intro m hm e
  obtain ⟨q, hq, rfl⟩ := List.mem_map.mp hm
  obtain ⟨j, hj, ej⟩ := List.mem_iff_getElem.mp hq
  obtain ⟨h1, h2⟩ := List.getElem?_eq_some_iff.mp h
  rw [List.length_take] at hj
  rw [List.getElem_take] at ej
  have := (List.getElem_inj (xs := vs.map (·.b)) hn (i := j) (j := i) (h₀ := by rw [List.length_map]; omega) (h₁ := by rw [List.length_map]; exact h1)).mp (by rw [List.getElem_map, List.getElem_map, h2, ej]; exact e)
  omega
theorem kinds_items {H2 H3 : Hp} (s : Same H2 H3) : ∀ {ts : List Addr} {kvs : List (L2.Key × V)} {ks : List Kind}, Paired (fun (t : Addr) (q : L2.Key × V) => H3 t = some (.tup [kV q.1, q.2])) ts kvs → Paired (KvAt K H2) kvs ks → Paired (KindAt K H3) (ts.map V.ref) ks
  | _, _, _, .nil, .nil => .nil
  | _, _, _, .cons (a := t) (b := q) h1 t1, .cons ⟨e1, p, e2, h2⟩ t2 => .cons ⟨t, p, rfl, by
      rw [e1, e2] at h1
      exact SqT.of h1, Same.seqT s h2⟩ (kinds_items s t1 t2)
theorem stayed_snoc (old : Old) {ss : List Sv} {i : Nat} {s : Sv} (h : ss[i]? = some s) : stayed old (ss.take (i + 1)) = stayed old (ss.take i) ++ if (lk old s.1).isSome = true then [s] else [] := flt_snoc h
/-! ### Things.number_anew -/
abbrev tbS (Pt : Addr) : TB := [(Pt, qS)]
/-- what a numbering asks of a thing -/
structure NumOk (ds : Dims) (ts : Ts) (t : Th) (d : Str × List (Str × Str)) : Prop where
  fd : ds.find? (fun d => decide (d.1 = t.1)) = some d
  kl : ∀ k ∈ ts.ks t, k.2.length = d.2.length
  d5 : d.2.length ≤ 5
  kn : (ts.ks t).length ≤ 200
  vn : (ts.vs t).length ≤ 300
  nd : ((ts.vs t).map (·.b)).Nodup
  nn : ts.nums.length ≤ 4000
def spAnew (K : PySem.W.Frag) (Pt C CP : Addr) : Sp := fun vs H Q _ => ∃ (x p r : Addr) (M MP : Addr → Prop) (ts : Ts) (ds : Dims) (ms : List Str) (t : Th) (d : Str × List (Str × Str)), vs = [.ref x, .ref r] ∧ ThO K C H M x p ts ∧ PlanO K CP H MP p ds ms ∧ (∀ b, MP b → ¬ M b) ∧ H r = some (.tup [.str t.1, .str t.2]) ∧
  NumOk ds ts t d ∧ Tabs (tbS Pt) H ∧ ∀ H' M' v q, Fr (tbS Pt) M H H' → Nw M M' H → ThO K C H' M' x p (ts.anew (d.2.map (·.2)) t) → v = .ref q → H' q = some (.tup [.int (ts.came (d.2.map (·.2)) t), .int (ts.went (d.2.map (·.2)) t)]) → Q v H'
abbrev N_Things_number_anew : List Str := ["self", "thing", "dimension", "key", "number", "begin", "end", "values", "old", "kinds", "versions", "stayed"]
theorem sc_Things_number_anew : FnScope N_Things_number_anew ["self", "thing"] (defScope s_Things_number_anew) := ⟨rfl, rfl, rfl, by decide +kernel, rfl, by decide +kernel, by decide +kernel⟩
/-! slots: 0 self 1 thing 2 dimension 3 key 4 number 5 begin 6 end 7 values 8 old 9 kinds 10 versions 11 stayed; cells: old -/
theorem ok_anew {Pt C CP fW fS : Addr} {fdW fdS : FuncData} (F : FnP K "number_anew" "Things.number_anew" s_Things_number_anew f fd) (TX : ThTxt K C) (mW : MFun P w K mg base C "with_numbers" 1 ["self", "versions", "old"] (spWithN P w K (tbS Pt) C) fW fdW) (c_stretches : Fun P w K mg base "stretches" 4 ["plan", "dimension", "kinds"] (spStr K CP Pt) fS fdS)
    (z_list : mg "list" = none) (z_len : mg "len" = none) : FnOk P w K mg base CX0 5 f fd ["self", "thing"] (spAnew K Pt C CP) := by
  refine F.ok sc_Things_number_anew (fun vs H Q E h => ?_) (fun cdv A outer s H vs Q E hr h => ?_)
  · obtain ⟨x, p, r, M, MP, ts, ds, ms, t, d, rfl, _⟩ := h
    rfl
  · obtain ⟨x, p, r, M, MP, ts, ds, ms, t, d, rfl, hO, hP, dj, hr2, ok, hT, k⟩ := h
    obtain ⟨dx, kd, nb, ka, na, hx, hkd, hnb, nkn, m1, m2, m3, h5, h6, h7⟩ := hO.ex
    have nd := sc_Things_number_anew.nd
    have hu := hr.units
    have hu1 : (A.deeper (envOfC "Things.number_anew" (defScope s_Things_number_anew) s.heap.objs.size f cdv)).units + 1 < cLine := by omega
    refine ⟨_, PSs.nox (pss_cons (ps_asg (pv 1) (pg_tup rfl (pgs_cons (pg_name (i := 2) nd rfl (Or.inl rfl)) (pgs_cons (pg_name (i := 3) nd rfl (Or.inl rfl)) pgs_nil))))
      (pss_cons (ps_set (i := 8) nd rfl (Or.inr rfl) (KdDn.pe_dcg (own := [("number", 4), ("begin", 5), ("end", 6), ("values", 7)]) (g := gTup K 4 (gCons (gName 4) (gCons (gName 5) (gCons (gName 6) (gCons (gName 7) gNil))))) (tt := tYes) (tk := tVar 5) (tv := tVar 4) KdDn.kitN rfl nd (pi_list (pe_dget2 hu1 (pe_fld (pv 0) rfl) (pv 1) (pe_lst pa_nil) ⟨rfl, rfl, rfl, rfl⟩)) (blkOk_by (own := [("number", 4), ("begin", 5), ("end", 6), ("values", 7)]) (N := N_Things_number_anew) (sc := defScope s_Things_number_anew) (by decide +kernel))
        (fun _ _ _ _ _ => pg_tup rfl (pgs_cons (pg_name (i := 4) nd rfl (Or.inl rfl)) (pgs_cons (pg_name (i := 5) nd rfl (Or.inl rfl)) (pgs_cons (pg_name (i := 6) nd rfl (Or.inl rfl)) (pgs_cons (pg_name (i := 7) nd rfl (Or.inl rfl)) pgs_nil))))) (fun _ _ _ _ _ => pts_nil) (fun _ _ _ _ _ => pv 5) (fun _ _ _ _ _ => pv 4)))
      (pss_cons (ps_set (i := 9) nd rfl (Or.inl rfl) (LiI.pe_listItems rfl (pe_dget2 hu1 (pe_fld (pv 0) rfl) (pv 1) pe_dnewK ⟨rfl, rfl, rfl, rfl⟩) rfl z_list (by decide +kernel)))
      (pss_cons (ps_set (i := 10) nd rfl (Or.inl rfl) (pe_call c_stretches.G (hr.mono (by decide)) rfl c_stretches.g c_stretches.k c_stretches.b .nil pass0 (pa_cons (pe_fld (pv 0) rfl) (pa_cons (pv 2) (pa_cons (pv 9) pa_nil)))))
      (pss_cons (ps_set (i := 11) nd rfl (Or.inl rfl) (pe_callB call_len_seq (by rfl) z_len boot_len (pa_cons (pe_lc (own := [("begin", 5), ("end", 6), ("values", 7)]) (g := gTup K 3 (gCons (gName 5) (gCons (gName 6) (gCons (gName 7) gNil)))) (tt := tB (KdNd.tNdIn P w (tVar 5) (tVar 8))) (te := tVar 5) rfl nd (pi_list (pv 10)) (blkOk_by (own := [("begin", 5), ("end", 6), ("values", 7)]) (N := N_Things_number_anew) (sc := defScope s_Things_number_anew) (by decide +kernel))
        (fun _ _ _ _ _ => pg_tup rfl (pgs_cons (pg_name (i := 5) nd rfl (Or.inl rfl)) (pgs_cons (pg_name (i := 6) nd rfl (Or.inl rfl)) (pgs_cons (pg_name (i := 7) nd rfl (Or.inl rfl)) pgs_nil)))) (fun _ _ _ _ _ => pts_one (pt_cmp (KdNd.pc_ndin (pv 5) (pv 8)))) (fun _ _ _ _ _ => pv 5)) pa_nil)))
      (pss_cons (ps_dput hu1 (pe_fld (pv 0) rfl) (pv 1) (pe_meth (pv 0) mW.cl mW.m mW.G (hr.mono (by decide)) mW.b .nil pass0 (pa_cons (pv 10) (pa_cons (pv 8) pa_nil))) rfl)
      (pss_one (ps_ret (pe_tup (pa_cons (pe_op op_sub (pe_callB call_len_seq (by rfl) z_len boot_len (pa_cons (pv 10) pa_nil)) (pv 11)) (pa_cons (pe_op op_sub (pe_callB KdNd.call_lenN (by rfl) z_len boot_len (pa_cons (pv 8) pa_nil)) (pv 11)) pa_nil))))))))))), ?_⟩
    refine ⟨_, rfl, r, _, rfl, SqT.of hr2, rfl, _, _, rfl, _, _, rfl, rfl, ?_⟩
    refine sl_eq (σ' := [some (.ref x), some (.ref r), some (.str t.1), some (.str t.2), none, none, none, none, none, none, none, none]) rfl ?_
    refine ⟨_, rfl, x, C, dx, _, _, rfl, hx, TX.cl, TX.nN, th_num p kd nb _, nb, rfl, .inr ⟨_, .inl hnb⟩, _, rfl, by show 0 ≤ sizeLine; decide, fun l0 n0 => ?_⟩
    generalize e0 : upd H l0 _ = H0
    obtain ⟨s0, el0⟩ := new_of n0 e0
    refine ⟨_, DGet.t (k := thK t) (s0 _ _ hnb) (s0 _ _ hr2), ?_⟩
    -- the old versions
    obtain ⟨lo, xs, elo, hlo, plo⟩ : ∃ lo xs, (valV (ts.nums.map fun e => (thK e.1, V.ref (na e.1))) (thK t)).getD (.ref l0) = .ref lo ∧ H0 lo = some (.lst xs) ∧ Paired (VerAt K H0) xs (ts.vs t) := by
      rw [val_map (r := fun t => V.ref (na t)) thK_inj]
      unfold Ts.vs
      cases e : lk ts.nums t with
      | none => exact ⟨l0, [], rfl, el0, .nil⟩
      | some vers =>
        obtain ⟨_, xs, a1, a2⟩ := h7 (t, vers) (lk_mem e)
        exact ⟨na t, xs, rfl, s0 _ _ a1, PySem.Paired.mono (fun _ _ => VerAt.same s0) a2⟩
    rw [elo]
    have lxo : xs.length = (ts.vs t).length := plo.length
    have ok1 := ok.vn
    refine ⟨lo, rfl, ⟨_, SqL.of hlo⟩, fun D nD => ?_⟩
    refine KdDn.dcg_it (O0 := fun D => KdNd.NdO P w D []) (Put := KdDn.PutN P w) (walk_list (K := K) (a := lo) (xs := xs)) (fun i R => R D = some (KdNd.NdO P w D (oldK (oldOf ((ts.vs t).take i)))) ∧ Same H0 (cd D R)) ⟨upd_same, by rw [cd_upd, cd_free nD]; exact Same.refl _⟩ (fun i R _ z => SqL.of (cd_sub _ _ (z.2 _ _ hlo))) ?_ ?_
    · rintro i y R R' hi ⟨hD, sm⟩ ⟨rfl, hy⟩
      obtain ⟨ver, hver, q, yv, rfl, hq, dq, nl⟩ := paired_at plo hy
      refine ⟨q, _, rfl, SqT.of (cd_sub _ _ (sm _ _ hq)), rfl, _, _, rfl, _, _, rfl, _, _, rfl, _, _, rfl, rfl, rfl, yes ?_⟩
      refine ⟨_, rfl, _, rfl, _, ⟨_, nk ver.b, nkV_nk _, hD, ?_, rfl⟩, ?_, ?_⟩
      · unfold oldK oldOf
        rw [List.length_map, List.length_map, List.length_take]
        exact Nat.lt_of_le_of_lt (by omega : _ ≤ 4000) (by decide)
      · rw [upd_same]
        congr 1
        rw [putK_new _ (by rw [val_oldK, old_none hver ok.nd]; rfl)]
        obtain ⟨g1, g2⟩ := List.getElem?_eq_some_iff.mp hver
        rw [List.take_succ_eq_append_getElem g1, g2, oldK_snoc]
      · rw [cd_upd]
        exact sm
    · rintro H1 ⟨hD1, sm1⟩
      rw [lxo, List.take_length] at hD1
      have s01 : Same H H1 := s0.trans (sm1.trans cd_sub)
      refine set_sl (σ' := [some (.ref x), some (.ref r), some (.str t.1), some (.str t.2), none, none, none, none, some (.ref D), none, none, none]) rfl ?_
      refine ⟨_, rfl, x, C, dx, _, _, rfl, s01 _ _ hx, TX.cl, TX.nK, th_kinds p kd nb _, kd, rfl, .inr ⟨_, .inl (s01 _ _ hkd)⟩, _, rfl, fun d0 nd0 => ?_⟩
      generalize e2 : upd H1 d0 _ = H2
      obtain ⟨s12, ed0⟩ := new_of nd0 e2
      have s02 := s01.trans s12
      refine ⟨_, DGet.t (k := thK t) (s02 _ _ hkd) (s02 _ _ hr2), ?_⟩
      obtain ⟨di, kvs, edi, hdi, pdi⟩ : ∃ di kvs, (valV (ts.kinds.map fun e => (thK e.1, V.ref (ka e.1))) (thK t)).getD (.ref d0) = .ref di ∧ H2 di = some (.dK kvs) ∧ Paired (KvAt K H2) kvs (ts.ks t) := by
        rw [val_map (r := fun t => V.ref (ka t)) thK_inj]
        unfold Ts.ks
        cases e : lk ts.kinds t with
        | none => exact ⟨d0, [], rfl, ed0, .nil⟩
        | some ks =>
          obtain ⟨_, kvs, a1, a2⟩ := h5 (t, ks) (lk_mem e)
          exact ⟨ka t, kvs, rfl, s02 _ _ a1, PySem.Paired.mono (fun _ _ => KvAt.keep (M := no) (Keep.of s02)) a2⟩
      rw [edi]
      refine ⟨di, kvs, rfl, hdi, fun H3 l3 tss s23 _ _ _ hl3 pt3 => ?_⟩
      have hk3 : KindsAt K H3 l3 (ts.ks t) := ⟨_, SqL.of hl3, kinds_items s23 pt3 pdi⟩
      have s03 : Same H H3 := s02.trans s23
      have hD3 : H3 D = some (KdNd.NdO P w D (oldK (oldOf (ts.vs t)))) := (s12.trans s23) _ _ hD1
      refine set_sl (σ' := [some (.ref x), some (.ref r), some (.str t.1), some (.str t.2), none, none, none, none, some (.ref D), some (.ref l3), none, none]) rfl ?_
      refine ⟨_, rfl, x, C, dx, _, _, rfl, s03 _ _ hx, TX.cl, TX.nP, th_plan p kd nb _, _, rfl, _, rfl, p, l3, t.1, ds, ms, d, ts.ks t, rfl, (hP.keep (Keep.of s03)).at, ok.fd, hk3, ok.kl, ok.d5, ok.kn, hT.ext s03, fun rv H4 eN T4 ner yex => ?_⟩
      obtain ⟨ys, hys, lys, dys⟩ := yex
      have f04 : Fr (tbS Pt) no H H4 := (Fr.of s03).trans (Fr.ext eN T4)
      have hD4 : H4 D = some (KdNd.NdO P w D (oldK (oldOf (ts.vs t)))) := eN _ _ hD3 (fun _ z => nomatch z)
      rw [strL_sv] at dys
      generalize hss : sv (d.2.map (·.2)) (ts.ks t) = ss at dys
      have lss : ss.length ≤ 201 := by rw [← hss]; have := sv_le (d.2.map (·.2)) (ts.ks t); have := ok.kn; omega
      have lyy : ys.length = ss.length := by rw [DpAll.len dys, List.length_map]
      refine set_sl (σ' := [some (.ref x), some (.ref r), some (.str t.1), some (.str t.2), none, none, none, none, some (.ref D), some (.ref l3), some (.ref rv), none]) rfl ?_
      refine ⟨_, rfl, rv, rfl, ⟨_, SqL.of hys⟩, fun DL nDL => ?_⟩
      refine lc_build (walk_list (K := K) (a := rv) (xs := ys)) nDL (fun i zs R => R = H4 ∧ zs.length = (stayed (oldOf (ts.vs t)) (ss.take i)).length) ⟨rfl, rfl⟩ (fun _ _ _ _ z => SqL.of (cd_is0 z.1 _ _ hys)) ?_ ?_
      · rintro i zs y R R' hi e ly ⟨ec, ez⟩ ⟨rfl, hy⟩
        obtain ⟨dv, hdv, dpv⟩ := DpAll.at_ dys hy
        rw [List.getElem?_map] at hdv
        obtain ⟨sI, hsI, rfl⟩ := Option.map_eq_some_iff.mp hdv
        obtain ⟨q, yv, rfl, hq, dyv⟩ := sv_item dpv
        refine ⟨q, _, rfl, Same.seqT (cd_is0 ec) hq, rfl, _, _, rfl, _, _, rfl, _, _, rfl, rfl, rfl, _, rfl, _, rfl, D, _, nk sI.1, rfl, nkV_nk _, cd_is0 ec _ _ hD4, _, rfl, ?_⟩
        rw [val_oldK]
        have est := stayed_snoc (oldOf (ts.vs t)) hsI
        cases hlk : lk (oldOf (ts.vs t)) sI.1 with
        | some n =>
          refine iteT ⟨_, rfl, LcNx.add e ly (by omega) ⟨ec, ?_⟩⟩
          rw [est, hlk, List.length_append, List.length_append, ez]
          rfl
        | none =>
          refine iteF (LcNx.skip e ly ⟨ec, ?_⟩)
          rw [est, hlk, if_neg (by decide), List.append_nil]
          exact ez
      · rintro zs H5 e5 ly ⟨ec, ez⟩
        rw [lyy, List.take_length] at ez
        have s45 : Same H4 H5 := cd_is0 ec
        have f05 : Fr (tbS Pt) no H H5 := f04.trans (Fr.of s45)
        have k05 : Keep M H H5 := f05.keep fun _ _ z => z
        refine ⟨DL, zs, rfl, .inl (SqL.of e5), ?_⟩
        refine set_sl (σ' := [some (.ref x), some (.ref r), some (.str t.1), some (.str t.2), none, none, none, none, some (.ref D), some (.ref l3), some (.ref rv), some (.int zs.length)]) rfl ?_
        have hx5 := k05.at hx trivial m1
        refine ⟨_, rfl, x, dx, _, rfl, hx5, th_no (by decide +kernel) (by decide +kernel) (by decide +kernel) (by decide +kernel), _, rfl, _, rfl, x, dx, p, kd, nb, rv, D, ts.given, ys, ss, oldOf (ts.vs t), rfl, hx5, s45 _ _ hys, DpAll.same s45 _ _ dys, by omega, fun s hs => ?_, s45 _ _ hD4, fun H6 rr yv nrr hrr prr hx6 f6 => ?_⟩
        · rw [← hss] at hs
          exact sv_nol hs
        have k56 : Keep (fun b => b ≠ x) H5 H6 := f6.keep fun _ z => z
        have nnx : nb ≠ x := ne_of hnb hx (fun z => nomatch z)
        have hnb6 := k56.at (k05.at hnb trivial m3) trivial nnx
        have hr6 := k56.tup (k05.tup hr2)
        have ln : (ts.nums.map fun e => (thK e.1, V.ref (na e.1))).length < sizeLine := by rw [List.length_map]; exact Nat.lt_of_le_of_lt ok.nn (by decide)
        refine ⟨_, rfl, x, C, dx, _, _, rfl, hx6, TX.cl, TX.nN, th_num _ _ _ _, _, rfl, nb, _, rfl, DPut.t (k := thK t) hnb6 hr6 ln, ?_⟩
        generalize e7 : upd H6 nb _ = H7
        obtain ⟨f7, en7, o7⟩ := put_of (T := tbS Pt) (N := M) hnb6 trivial m3 e7
        have hrv5 := s45 _ _ hys
        have nrx : rv ≠ x := ne_of hrv5 hx5 (fun z => nomatch z)
        have nrn : rv ≠ nb := ne_of hrv5 (k05.at hnb trivial m3) (fun z => nomatch z)
        have hD5 := s45 _ _ hD4
        have nDx : D ≠ x := ne_of hD5 hx5 (fun z => nomatch z)
        have nDn : D ≠ nb := ne_of hD5 (k05.at hnb trivial m3) (fun z => nomatch z)
        have hrv7 : H7 rv = some (.lst ys) := by rw [o7 rv nrn]; exact k56.at hrv5 trivial nrx
        have hD7 : H7 D = some (KdNd.NdO P w D (oldK (oldOf (ts.vs t)))) := by rw [o7 D nDn]; exact k56 _ _ hD5 (fun _ z => nomatch z) (.inr nDx)
        refine ⟨_, rfl, rv, ys, rfl, .inl (SqL.of hrv7), _, rfl, _, _, rfl, rfl, _, rfl, D, _, rfl, hD7, _, rfl, _, _, rfl, rfl, by show 2 ≤ sizeLine; decide, fun q nq => ?_⟩
        generalize e8 : upd H7 q _ = H8
        obtain ⟨s8, eq8⟩ := new_of nq e8
        have f06 : Fr (tbS Pt) M H H6 := (f05.mono (fun _ z => z.elim)).trans (f6.mono (fun b z => by rw [z]; exact m1))
        have f07 := f06.trans f7
        have nrr2 : rr ≠ nb := fun z => by rw [z, k05.at hnb trivial m3] at nrr; cases nrr
        have nrr3 : rr ≠ x := fun z => by rw [z, hx5] at nrr; cases nrr
        have k07 : Keep (fun b => M b ∧ b ≠ x ∧ b ≠ nb) H H7 := ((k05.mono fun _ z => z.1).trans (k56.mono fun _ z => z.2.1)).trans fun b o e tb c => by
          by_cases z : b = nb
          · exact f7.st b o e tb (c.imp id fun q => absurd z q.2.2)
          · rw [o7 b z]; exact e
        refine k H8 (fun b => M b ∨ b = rr) _ q (f07.trans (Fr.of s8)) (fun b hb => hb.imp id fun z => ?_) ?_ rfl ?_
        · rw [z]
          exact (Fresh.of nrr).back f05 id
        · refine ThO.same ⟨?_, dx, kd, nb, ka, fun t' => if t' = t then rr else na t', ?_, ?_, ?_, nkn, .inl m1, .inl m2, .inl m3, fun e he => ?_, h6, fun e he => ?_⟩ s8
          · rintro b (hb | rfl)
            · by_cases z1 : b = x
              · rw [z1, o7 x nnx.symm]; exact ⟨_, hx6, trivial⟩
              · by_cases z2 : b = nb
                · rw [z2]; exact ⟨_, en7, trivial⟩
                · obtain ⟨o, e, c⟩ := hO.live b hb
                  exact ⟨o, k07.at e c ⟨hb, z1, z2⟩, c⟩
            · exact ⟨.lst yv, by rw [o7 _ nrr2]; exact hrr, trivial⟩
          · rw [o7 x nnx.symm, hx6]
            unfold Ts.anew
            rw [hss]
          · exact k07.at hkd trivial ⟨m2, ne_of hkd hx (fun z => nomatch z), nkn⟩
          · rw [en7]
            congr 2
            show _ = (pt ts.nums t _).map fun e => (thK e.1, V.ref (if e.1 = t then rr else na e.1))
            rw [map_pt (r := fun t => V.ref (na t)) (r' := fun t' => V.ref (if t' = t then rr else na t')) thK_inj (fun t' h => by rw [if_neg h])]
            rw [if_pos rfl]
          · obtain ⟨a1, kvs1, a2, a3⟩ := h5 e he
            have a4 : M (ka e.1) ∧ ka e.1 ≠ x ∧ ka e.1 ≠ nb := ⟨a1, ne_of a2 hx (fun z => nomatch z), ne_of a2 hnb (fun z => nomatch z)⟩
            exact ⟨.inl a1, InnerAt.keep (M := fun b => M b ∧ b ≠ x ∧ b ≠ nb) a4 k07 ⟨kvs1, a2, a3⟩⟩
          · rcases mem_pt he with rfl | ⟨he, ne⟩
            · show (M (if t = t then rr else na t) ∨ (if t = t then rr else na t) = rr) ∧ VersAt K H7 (if t = t then rr else na t) _
              rw [if_pos rfl]
              refine ⟨.inr rfl, yv, by rw [o7 _ nrr2]; exact hrr, ?_⟩
              rw [hss]
              exact vers_keep f7.keep0 prr
            · show (M (if e.1 = t then rr else na e.1) ∨ _) ∧ VersAt K H7 (if e.1 = t then rr else na e.1) _
              rw [if_neg ne]
              obtain ⟨a1, xs1, a2, a3⟩ := h7 e he
              have a4 : M (na e.1) ∧ na e.1 ≠ x ∧ na e.1 ≠ nb := ⟨a1, ne_of a2 hx (fun z => nomatch z), ne_of a2 hnb (fun z => nomatch z)⟩
              exact ⟨.inl a1, VersAt.keep (M := fun b => M b ∧ b ≠ x ∧ b ≠ nb) a4 k07 ⟨xs1, a2, a3⟩⟩
        · rw [eq8]
          unfold Ts.came Ts.went
          rw [hss, ← ez, ← lyy]
          have eo : (oldK (oldOf (ts.vs t))).length = (ts.vs t).length := by unfold oldK oldOf; rw [List.length_map, List.length_map]
          rw [eo]
end
end Kd

namespace Kd
open PySem PySem.Spec PyProof.Rows L2 LamX
/-! ### tables put -/
theorem paired_any {α β κ : Type} [DecidableEq α] [DecidableEq κ] {g : α → κ} (gi : ∀ a b, g a = g b → a = b) {R : V → β → Prop} {k : α} : ∀ {kvs : List (κ × V)} {ms : List (α × β)}, Paired (fun kv m => kv.1 = g m.1 ∧ R kv.2 m.2) kvs ms → (kvs.any fun kv => decide (kv.1 = g k)) = ms.any fun m => decide (m.1 = k)
  | _, _, .nil => rfl
  | _, _, .cons (b := m) h t => by
    rw [List.any_cons, List.any_cons, paired_any gi t, h.1]
    congr 1
    by_cases q : m.1 = k
    · rw [decide_eq_true q, q, decide_eq_true rfl]
    · rw [decide_eq_false q, decide_eq_false (fun z => q (gi _ _ z))]
theorem paired_repl {α β κ : Type} [DecidableEq α] [DecidableEq κ] {g : α → κ} (gi : ∀ a b, g a = g b → a = b) {R : V → β → Prop} {k : α} {v : V} {b : β} (r : R v b) : ∀ {kvs : List (κ × V)} {ms : List (α × β)}, Paired (fun kv m => kv.1 = g m.1 ∧ R kv.2 m.2) kvs ms →
    Paired (fun kv m => kv.1 = g m.1 ∧ R kv.2 m.2) (kvs.map fun kv => if kv.1 = g k then (kv.1, v) else kv) (ms.map fun m => if m.1 = k then (m.1, b) else m)
  | _, _, .nil => .nil
  | _, _, .cons (a := kv) (b := m) h t => by
    refine .cons ?_ (paired_repl gi r t)
    dsimp only
    by_cases q : m.1 = k
    · rw [if_pos q, if_pos (by rw [h.1, q])]
      exact ⟨h.1, r⟩
    · rw [if_neg q, if_neg (fun z => q (gi _ _ (h.1.symm.trans z)))]
      exact h
theorem paired_put {α β κ : Type} [DecidableEq α] [DecidableEq κ] {g : α → κ} (gi : ∀ a b, g a = g b → a = b) {R : V → β → Prop} {k : α} {v : V} {b : β} (r : R v b) {kvs : List (κ × V)} {ms : List (α × β)} (h : Paired (fun kv m => kv.1 = g m.1 ∧ R kv.2 m.2) kvs ms) :
    Paired (fun kv m => kv.1 = g m.1 ∧ R kv.2 m.2) (putK kvs (g k) v) (pt ms k b) := by
  unfold putK pt
  rw [paired_any gi h]
  split
  · exact paired_repl gi r h
  · exact PySem.Paired.snoc h ⟨rfl, r⟩
theorem pt_pt_new {α β : Type} [DecidableEq α] {ms : List (α × β)} {k : α} {b c : β} (h : lk ms k = none) : pt (pt ms k b) k c = pt ms k c := by
  have e : lk (pt ms k b) k = some b := by rw [lk_pt, if_pos rfl]
  rw [pt_old e, pt_new h, pt_new h, List.map_append]
  congr 1
  · conv => rhs; rw [← List.map_id ms]
    apply List.map_congr_left
    intro m hm
    rw [if_neg (lk_none.mp h m hm)]
    rfl
  · show [if k = k then (k, c) else (k, b)] = _
    rw [if_pos rfl]
section
variable {P : Program} {w : World} {K : PySem.W.Frag} {mg : Str → Option Value} {base : Heap} {f : Addr} {fd : FuncData}
/-! ### things, their addresses told -/
structure ThX (K : PySem.W.Frag) (C : Addr) (H : Hp) (M : Addr → Prop) (th p : Addr) (ts : Ts) (dx kd nb : Addr) (ka na : Th → Addr) : Prop where
  live : Live M H
  hx : H th = some (.ins C dx (thF p kd nb ts.given))
  hk : H kd = some (.dT (ts.kinds.map fun e => (thK e.1, .ref (ka e.1))))
  hn : H nb = some (.dT (ts.nums.map fun e => (thK e.1, .ref (na e.1))))
  ne : kd ≠ nb
  mx : M th
  md : M kd
  mn : M nb
  ki : ∀ e ∈ ts.kinds, M (ka e.1) ∧ InnerAt K H (ka e.1) e.2
  inj : ∀ e ∈ ts.kinds, ∀ e' ∈ ts.kinds, ka e.1 = ka e'.1 → e.1 = e'.1
  vi : ∀ e ∈ ts.nums, M (na e.1) ∧ VersAt K H (na e.1) e.2
theorem ThO.x {C th p : Addr} {H : Hp} {M : Addr → Prop} {ts : Ts} (h : ThO K C H M th p ts) : ∃ dx kd nb ka na, ThX K C H M th p ts dx kd nb ka na := by
  obtain ⟨dx, kd, nb, ka, na, h1, h2, h3, h4, m1, m2, m3, h5, h6, h7⟩ := h.ex
  exact ⟨dx, kd, nb, ka, na, h.live, h1, h2, h3, h4, m1, m2, m3, h5, h6, h7⟩
theorem ThX.o {C th p dx kd nb : Addr} {H : Hp} {M : Addr → Prop} {ts : Ts} {ka na : Th → Addr} (h : ThX K C H M th p ts dx kd nb ka na) : ThO K C H M th p ts := ⟨h.live, dx, kd, nb, ka, na, h.hx, h.hk, h.hn, h.ne, h.mx, h.md, h.mn, h.ki, h.inj, h.vi⟩
theorem ThX.same {C th p dx kd nb : Addr} {H H' : Hp} {M : Addr → Prop} {ts : Ts} {ka na : Th → Addr} (h : ThX K C H M th p ts dx kd nb ka na) (s : Same H H') : ThX K C H' M th p ts dx kd nb ka na :=
  ⟨h.live.same s, s _ _ h.hx, s _ _ h.hk, s _ _ h.hn, h.ne, h.mx, h.md, h.mn, fun e he => ⟨(h.ki e he).1, (h.ki e he).2.keep (h.ki e he).1 (Keep.of s)⟩, h.inj, fun e he => ⟨(h.vi e he).1, (h.vi e he).2.keep (h.vi e he).1 (Keep.of s)⟩⟩
/-- a new thing, no kinds yet -/
theorem ThX.new_kind {C th p dx kd nb d0 : Addr} {H H' : Hp} {M : Addr → Prop} {ts : Ts} {ka na : Th → Addr} {t : Th} (h : ThX K C H M th p ts dx kd nb ka na) (e : lk ts.kinds t = none) (hd : H d0 = some (.dK [])) (nm : ¬ M d0)
    (eH : upd H kd (.dT (putK (ts.kinds.map fun e => (thK e.1, V.ref (ka e.1))) (thK t) (.ref d0))) = H') : ThX K C H' (fun b => M b ∨ b = d0) th p { ts with kinds := pt ts.kinds t [] } dx kd nb (fun t' => if t' = t then d0 else ka t') na := by
  have o : ∀ b, b ≠ kd → H' b = H b := fun b hb => by rw [← eH]; exact upd_ne hb
  have kk : Keep (fun b => b ≠ kd) H H' := fun b u eb tb c => by
    by_cases z : b = kd
    · rw [z, h.hk] at eb
      cases eb
      exact c.elim (fun q => absurd q (Chg.notT trivial)) fun q => absurd z q
    · rw [o b z]; exact eb
  have nd : d0 ≠ kd := fun z => nm (by rw [z]; exact h.md)
  refine ⟨?_, kk.at h.hx trivial (ne_of h.hx h.hk (fun z => nomatch z)), ?_, kk.at h.hn trivial h.ne.symm, h.ne, .inl h.mx, .inl h.md, .inl h.mn, fun x hx => ?_, fun x hx y hy => ?_, fun x hx => ?_⟩
  · rintro b (hb | rfl)
    · by_cases z : b = kd
      · rw [z, ← eH]; exact ⟨_, upd_same, trivial⟩
      · obtain ⟨u, e1, e2⟩ := h.live b hb
        exact ⟨u, kk.at e1 e2 z, e2⟩
    · exact ⟨_, kk.at hd trivial nd, trivial⟩
  · rw [← eH, upd_same]
    congr 2
    rw [map_pt (r := fun t => V.ref (ka t)) (r' := fun t' => V.ref (if t' = t then d0 else ka t')) thK_inj (fun t' h => by rw [if_neg h]), if_pos rfl]
  · rcases mem_pt hx with rfl | ⟨hx, ne⟩
    · show (M (if t = t then d0 else ka t) ∨ (if t = t then d0 else ka t) = d0) ∧ InnerAt K H' (if t = t then d0 else ka t) _
      rw [if_pos rfl]
      exact ⟨.inr rfl, [], kk.at hd trivial nd, .nil⟩
    · show (M (if x.1 = t then d0 else ka x.1) ∨ _) ∧ InnerAt K H' (if x.1 = t then d0 else ka x.1) _
      rw [if_neg ne]
      obtain ⟨a1, kvs, a2, a3⟩ := h.ki x hx
      exact ⟨.inl a1, InnerAt.keep (M := fun b => b ≠ kd) (ne_of a2 h.hk (fun z => nomatch z)) kk ⟨kvs, a2, a3⟩⟩
  · show (if x.1 = t then d0 else ka x.1) = (if y.1 = t then d0 else ka y.1) → x.1 = y.1
    have nk : ∀ m ∈ ts.kinds, ka m.1 ≠ d0 := fun m hm z => nm (by rw [← z]; exact (h.ki m hm).1)
    rcases mem_pt hx with rfl | ⟨hx, ne⟩
    · rcases mem_pt hy with rfl | ⟨hy, ne2⟩
      · intro _; rfl
      · rw [if_pos rfl, if_neg ne2]
        exact fun z => absurd z.symm (nk y hy)
    · rcases mem_pt hy with rfl | ⟨hy, ne2⟩
      · rw [if_pos rfl, if_neg ne]
        exact fun z => absurd z (nk x hx)
      · rw [if_neg ne, if_neg ne2]
        exact h.inj x hx y hy
  · obtain ⟨a1, xs, a2, a3⟩ := h.vi x hx
    exact ⟨.inl a1, VersAt.keep (M := fun b => b ≠ kd) (ne_of a2 h.hk (fun z => nomatch z)) kk ⟨xs, a2, a3⟩⟩
/-- a kind put -/
theorem ThX.put_kind {C th p dx kd nb q : Addr} {H H' : Hp} {M : Addr → Prop} {ts : Ts} {ka na : Th → Addr} {t : Th} {ks : List Kind} {ivs : List (L2.Key × V)} {day : Int} {vals : List Fv} (h : ThX K C H M th p ts dx kd nb ka na) (e : lk ts.kinds t = some ks) (hd : H (ka t) = some (.dK ivs)) (pi : Paired (KvAt K H) ivs ks) (hq : SqT K H q (vals.map Fv.v))
    (eH : upd H (ka t) (.dK (putK ivs (Sum.inl day) (.ref q))) = H') : ThX K C H' M th p { ts with kinds := pt ts.kinds t (pt ks day vals) } dx kd nb ka na := by
  have o : ∀ b, b ≠ ka t → H' b = H b := fun b hb => by rw [← eH]; exact upd_ne hb
  have kk : Keep (fun b => b ≠ ka t) H H' := fun b u eb tb c => by
    by_cases z : b = ka t
    · rw [z, hd] at eb
      cases eb
      exact c.elim (fun q => absurd q (Chg.notT trivial)) fun q => absurd z q
    · rw [o b z]; exact eb
  refine ⟨?_, kk.at h.hx trivial (ne_of h.hx hd (fun z => nomatch z)), ?_, kk.at h.hn trivial (ne_of h.hn hd (fun z => nomatch z)), h.ne, h.mx, h.md, h.mn, fun x hx => ?_, fun x hx y hy => ?_, fun x hx => ?_⟩
  · intro b hb
    by_cases z : b = ka t
    · rw [z, ← eH]; exact ⟨_, upd_same, trivial⟩
    · obtain ⟨u, e1, e2⟩ := h.live b hb
      exact ⟨u, kk.at e1 e2 z, e2⟩
  · rw [map_pt_old (r := fun t => V.ref (ka t)) e]
    exact kk.at h.hk trivial (ne_of h.hk hd (fun z => nomatch z))
  · rcases mem_pt hx with rfl | ⟨hx, ne⟩
    · refine ⟨(h.ki _ (lk_mem e)).1, _, by rw [← eH]; exact upd_same, ?_⟩
      exact paired_put (g := Sum.inl) (fun a b z => Sum.inl.inj z) (R := fun v (b : List Fv) => ∃ q, v = .ref q ∧ SqT K H' q (b.map Fv.v)) ⟨q, rfl, kk.seqT hq⟩ (PySem.Paired.mono (fun _ _ => KvAt.keep kk) pi)
    · obtain ⟨a1, kvs, a2, a3⟩ := h.ki x hx
      refine ⟨a1, InnerAt.keep (M := fun b => b ≠ ka t) (fun z => ne ?_) kk ⟨kvs, a2, a3⟩⟩
      exact h.inj x hx (t, ks) (lk_mem e) z
  · intro z
    rcases mem_pt hx with rfl | ⟨hx, ne⟩
    · rcases mem_pt hy with rfl | ⟨hy, ne2⟩
      · rfl
      · exact h.inj (t, ks) (lk_mem e) y hy z
    · rcases mem_pt hy with rfl | ⟨hy, ne2⟩
      · exact h.inj x hx (t, ks) (lk_mem e) z
      · exact h.inj x hx y hy z
  · obtain ⟨a1, xs, a2, a3⟩ := h.vi x hx
    exact ⟨a1, VersAt.keep (M := fun b => b ≠ ka t) (ne_of a2 hd (fun z => nomatch z)) kk ⟨xs, a2, a3⟩⟩
/-! ### Things.take_kind -/
def spTakeK (K : PySem.W.Frag) (Pt C CP : Addr) : Sp := fun vs H Q _ => ∃ (x p r q : Addr) (M MP : Addr → Prop) (ts : Ts) (ds : Dims) (ms : List Str) (t : Th) (d : Str × List (Str × Str)) (day : Int) (vals : List Fv), vs = [.ref x, .ref r, .int day, .ref q] ∧ ThO K C H M x p ts ∧ PlanO K CP H MP p ds ms ∧ (∀ b, MP b → ¬ M b) ∧ H r = some (.tup [.str t.1, .str t.2]) ∧
  SqT K H q (vals.map Fv.v) ∧ NumOk ds (ts.kept t day vals) t d ∧ ts.kinds.length ≤ 4000 ∧ (ts.ks t).length ≤ 4000 ∧ Tabs (tbS Pt) H ∧
  ∀ H' M' v q, Fr (tbS Pt) M H H' → Nw M M' H → ThO K C H' M' x p ((ts.kept t day vals).anew (d.2.map (·.2)) t) → v = .ref q → H' q = some (.tup [.int ((ts.kept t day vals).came (d.2.map (·.2)) t), .int ((ts.kept t day vals).went (d.2.map (·.2)) t)]) → Q v H'
abbrev N_Things_take_kind : List Str := ["self", "thing", "day", "values", "kinds"]
theorem sc_Things_take_kind : FnScope N_Things_take_kind ["self", "thing", "day", "values"] (defScope s_Things_take_kind) := ⟨rfl, rfl, rfl, by decide +kernel, rfl, by decide +kernel, by decide +kernel⟩
/-! slots: 0 self 1 thing 2 day 3 values 4 kinds; cells:  -/
theorem ok_takeK {Pt C CP fA : Addr} {fdA : FuncData} (F : FnP K "take_kind" "Things.take_kind" s_Things_take_kind f fd) (TX : ThTxt K C) (mA : MFun P w K mg base C "number_anew" 5 ["self", "thing"] (spAnew K Pt C CP) fA fdA) : FnOk P w K mg base CX0 6 f fd ["self", "thing", "day", "values"] (spTakeK K Pt C CP) := by
  refine F.ok sc_Things_take_kind (fun vs H Q E h => ?_) (fun cdv A outer s H vs Q E hr h => ?_)
  · obtain ⟨x, p, r, q, M, MP, ts, ds, ms, t, d, day, vals, rfl, _⟩ := h
    rfl
  · obtain ⟨x, p, r, q, M, MP, ts, ds, ms, t, d, day, vals, rfl, hO, hP, dj, hr2, hq, ok, lk1, lk2, hT, k⟩ := h
    obtain ⟨dx, kd, nb, ka, na, X⟩ := hO.x
    have nd := sc_Things_take_kind.nd
    have hu := hr.units
    have hu1 : (A.deeper (envOfC "Things.take_kind" (defScope s_Things_take_kind) s.heap.objs.size f cdv)).units + 1 < cLine := by omega
    refine ⟨_, PSs.nox (pss_cons (ps_set (i := 4) nd rfl (Or.inl rfl) (pe_bm PySem.F.plainAttrs_dict PySem.F.slot_dict_setdefault PySem.F.type_dict_setdefault (KdDt.mt_setdT hu1) (pe_fld (pv 0) rfl) (pa_cons (pv 1) (pa_cons pe_dnewK pa_nil))))
      (pss_cons (ps_dput hu1 (pv 4) (pv 2) (pv 3) rfl)
      (pss_one (ps_ret (pe_meth (pv 0) mA.cl mA.m mA.G (hr.mono (by decide)) mA.b .nil pass0 (pa_cons (pv 1) pa_nil)))))), ?_⟩
    refine ⟨_, rfl, x, C, dx, _, _, rfl, X.hx, TX.cl, TX.nK, th_kinds p kd nb _, .inr (.inr (.inl ⟨rfl, .inr ⟨_, X.hk⟩⟩)), _, rfl, fun d0 n0 => ?_⟩
    generalize e0 : upd H d0 _ = H0
    obtain ⟨s0, ed0⟩ := new_of n0 e0
    have X0 := X.same s0
    have ln : (ts.kinds.map fun e => (thK e.1, V.ref (ka e.1))).length < sizeLine := by rw [List.length_map]; exact Nat.lt_of_le_of_lt lk1 (by decide)
    -- from the inner dict on
    have go : ∀ (ka2 : Th → Addr) (M2 : Addr → Prop) (H2 : Hp) (ts2 : Ts), ThX K C H2 M2 x p ts2 dx kd nb ka2 na → Fr (tbS Pt) M H H2 → Nw M M2 H → lk ts2.kinds t = some (ts.ks t) → { ts2 with kinds := pt ts2.kinds t (pt (ts.ks t) day vals) } = ts.kept t day vals →
        tSeq (sDPut (tVar 4) (tVar 2) (tVar 3)) (tRet (tMeth C "number_anew" (spAnew K Pt C CP) [] E0 (tVar 0) (tCons (tVar 1) tNil))) { nx := fun _ H' => Q .non H', rt := Q } [some (.ref x), some (.ref r), some (.int day), some (.ref q), some (.ref (ka2 t))] H2 := by
      intro ka2 M2 H2 ts2 X2 f2 nw2 e2 ek
      obtain ⟨mi, ivs, hi, pi⟩ := X2.ki (t, ts.ks t) (lk_mem e2)
      have li : ivs.length < sizeLine := by rw [pi.length]; exact Nat.lt_of_le_of_lt lk2 (by decide)
      refine ⟨_, rfl, _, rfl, _, rfl, ka2 t, _, rfl, DPut.k (k := Sum.inl day) hi li, ?_⟩
      generalize e3 : upd H2 (ka2 t) _ = H3
      obtain ⟨f3, _, _⟩ := put_of (T := tbS Pt) (N := M2) hi trivial mi e3
      have X3 := X2.put_kind e2 hi pi (f2.seqT hq) e3
      rw [ek] at X3
      have dj2 := nw2.apart hP.1 dj
      have f03 := f2.transN nw2 f3
      refine ⟨_, rfl, x, dx, _, rfl, X3.hx, th_no (by decide +kernel) (by decide +kernel) (by decide +kernel) (by decide +kernel), _, rfl, x, p, r, M2, MP, _, ds, ms, t, d, rfl, X3.o, (hP.keep (f2.keep dj)).keep (f3.keep dj2), dj2, f03.tup hr2, ok, f03.tb hT, fun H4 M4 v q4 f4 nw4 O4 ev hq4 => ?_⟩
      exact k H4 M4 v q4 (f03.transN nw2 f4) (fun b hb => (nw4 b hb).elim (nw2 b) fun z => (Classical.em (M b)).imp id fun n => z.back f03 n) O4 ev hq4
    refine ⟨kd, r, _, thK t, .ref d0, rfl, rfl, X0.hk, s0 _ _ hr2, ln, fun v hv => ?_, fun hv => ?_⟩
    · rw [val_map (r := fun t => V.ref (ka t)) thK_inj] at hv
      obtain ⟨ks, e1, e2⟩ := Option.map_eq_some_iff.mp hv
      subst e2
      have ek : ts.ks t = ks := by unfold Ts.ks; rw [e1]; rfl
      exact set_sl (σ' := [some (.ref x), some (.ref r), some (.int day), some (.ref q), some (.ref (ka t))]) rfl (go ka M H0 ts X0 (Fr.of s0) Nw.refl (by rw [ek]; exact e1) rfl)
    · rw [val_map (r := fun t => V.ref (ka t)) thK_inj] at hv
      have e1 : lk ts.kinds t = none := Option.map_eq_none_iff.mp hv
      have ek : ts.ks t = [] := by unfold Ts.ks; rw [e1]; rfl
      generalize e2 : upd H0 kd _ = H2
      have nm : ¬ M d0 := X.live.notN n0
      have X2 := X0.new_kind e1 ed0 nm e2
      have q1 : (fun t' : Th => if t' = t then d0 else ka t') t = d0 := if_pos rfl
      have g := go _ _ H2 _ X2 ((Fr.of s0).trans (put_of X0.hk trivial X0.md e2).1) (fun b hb => hb.imp id fun z => by rw [z]; exact Fresh.of n0) (by rw [lk_pt, if_pos rfl, ek]) (by
        show ({ ts with kinds := pt (pt ts.kinds t []) t (pt (ts.ks t) day vals) } : Ts) = _
        rw [pt_pt_new e1]
        rfl)
      rw [if_pos (rfl : t = t)] at g
      exact set_sl (σ' := [some (.ref x), some (.ref r), some (.int day), some (.ref q), some (.ref d0)]) rfl g
end
end Kd

namespace Kd
open PySem PySem.Spec PyProof.Rows L2 LamX
def Ts.meet (ws : List Str) (ts : Ts) (t : Th) : Ts := if (lk ts.nums t).isSome then ts else ts.anew ws t
def Ts.meetN (ws : List Str) (ts : Ts) (t : Th) : Int := if (lk ts.nums t).isSome then 0 else ts.came ws t
def Ts.gone (ts : Ts) (t : Th) : Ts := { ts with nums := dp ts.nums t }
section
variable {P : Program} {w : World} {K : PySem.W.Frag} {mg : Str → Option Value} {base : Heap} {f : Addr} {fd : FuncData}
/-! ### Things.meet -/
def spMeet (K : PySem.W.Frag) (Pt C CP : Addr) : Sp := fun vs H Q _ => ∃ (x p r : Addr) (M MP : Addr → Prop) (ts : Ts) (ds : Dims) (ms : List Str) (t : Th) (d : Str × List (Str × Str)), vs = [.ref x, .ref r] ∧ ThO K C H M x p ts ∧ PlanO K CP H MP p ds ms ∧ (∀ b, MP b → ¬ M b) ∧ H r = some (.tup [.str t.1, .str t.2]) ∧
  NumOk ds ts t d ∧ Tabs (tbS Pt) H ∧ ∀ H' M', Fr (tbS Pt) M H H' → Nw M M' H → ThO K C H' M' x p (ts.meet (d.2.map (·.2)) t) → Q (.int (ts.meetN (d.2.map (·.2)) t)) H'
abbrev N_Things_meet : List Str := ["self", "thing", "came", "went"]
theorem sc_Things_meet : FnScope N_Things_meet ["self", "thing"] (defScope s_Things_meet) := ⟨rfl, rfl, rfl, by decide +kernel, rfl, by decide +kernel, by decide +kernel⟩
/-! slots: 0 self 1 thing 2 came 3 went; cells:  -/
theorem ok_meet {Pt C CP fA fK : Addr} {fdA fdK : FuncData} (F : FnP K "meet" "Things.meet" s_Things_meet f fd) (mA : MFun P w K mg base C "number_anew" 5 ["self", "thing"] (spAnew K Pt C CP) fA fdA) (mK : MFun P w K mg base C "knows" 1 ["self", "thing"] (spKnows C) fK fdK) : FnOk P w K mg base CX0 6 f fd ["self", "thing"] (spMeet K Pt C CP) := by
  refine F.ok sc_Things_meet (fun vs H Q E h => ?_) (fun cdv A outer s H vs Q E hr h => ?_)
  · obtain ⟨x, p, r, M, MP, ts, ds, ms, t, d, rfl, _⟩ := h
    rfl
  · obtain ⟨x, p, r, M, MP, ts, ds, ms, t, d, rfl, hO, hP, dj, hr2, ok, hT, k⟩ := h
    obtain ⟨dx, kd, nb, ka, na, X⟩ := hO.x
    have nd := sc_Things_meet.nd
    refine ⟨_, PSs.nox (pss_cons (ps_if (pt_val (pe_meth (pv 0) mK.cl mK.m mK.G (hr.mono (by decide)) mK.b .nil pass0 (pa_cons (pv 1) pa_nil)))
        (pss_one (ps_ret pe_int))
        pss_nil)
      (pss_cons (ps_asg (pe_meth (pv 0) mA.cl mA.m mA.G (hr.mono (by decide)) mA.b .nil pass0 (pa_cons (pv 1) pa_nil)) (pg_tup rfl (pgs_cons (pg_name (i := 2) nd rfl (Or.inl rfl)) (pgs_cons (pg_name (i := 3) nd rfl (Or.inl rfl)) pgs_nil))))
      (pss_one (ps_ret (pv 2))))), ?_⟩
    refine ⟨_, rfl, x, dx, _, rfl, X.hx, th_no (by decide +kernel) (by decide +kernel) (by decide +kernel) (by decide +kernel), _, rfl, x, dx, p, kd, nb, r, ts.given, t, _, rfl, X.hx, hr2, X.hn, ?_⟩
    rw [val_map (r := fun t => V.ref (na t)) thK_inj]
    refine ⟨_, rfl, ?_⟩
    unfold Ts.meet Ts.meetN at k
    cases e : lk ts.nums t with
    | some vers =>
      rw [e] at k
      exact iteT (k H M Fr.refl Nw.refl hO)
    | none =>
      rw [e] at k
      refine iteF ?_
      refine ⟨_, rfl, x, dx, _, rfl, X.hx, th_no (by decide +kernel) (by decide +kernel) (by decide +kernel) (by decide +kernel), _, rfl, x, p, r, M, MP, ts, ds, ms, t, d, rfl, hO, hP, dj, hr2, ok, hT, fun H' M' v q f' nw O' ev hq => ?_⟩
      subst ev
      exact ⟨q, _, rfl, SqT.of hq, rfl, _, _, rfl, _, _, rfl, rfl, _, rfl, k H' M' f' nw O'⟩
/-! ### Things.part -/
theorem ThX.drop {C th p dx kd nb : Addr} {H H' : Hp} {M : Addr → Prop} {ts : Ts} {ka na : Th → Addr} {t : Th} (h : ThX K C H M th p ts dx kd nb ka na) (eH : upd H nb (.dT (dropK (ts.nums.map fun e => (thK e.1, V.ref (na e.1))) (thK t))) = H') : ThX K C H' M th p (ts.gone t) dx kd nb ka na := by
  have o : ∀ b, b ≠ nb → H' b = H b := fun b hb => by rw [← eH]; exact upd_ne hb
  have kk : Keep (fun b => b ≠ nb) H H' := fun b u eb tb c => by
    by_cases z : b = nb
    · rw [z, h.hn] at eb
      cases eb
      exact c.elim (fun q => absurd q (Chg.notT trivial)) fun q => absurd z q
    · rw [o b z]; exact eb
  refine ⟨?_, kk.at h.hx trivial (ne_of h.hx h.hn (fun z => nomatch z)), kk.at h.hk trivial h.ne, ?_, h.ne, h.mx, h.md, h.mn, fun x hx => ?_, h.inj, fun x hx => ?_⟩
  · intro b hb
    by_cases z : b = nb
    · rw [z, ← eH]; exact ⟨_, upd_same, trivial⟩
    · obtain ⟨u, e1, e2⟩ := h.live b hb
      exact ⟨u, kk.at e1 e2 z, e2⟩
  · rw [← eH, upd_same]
    congr 2
    exact (map_dp (r := fun t => V.ref (na t)) thK_inj).symm
  · obtain ⟨a1, kvs, a2, a3⟩ := h.ki x hx
    exact ⟨a1, InnerAt.keep (M := fun b => b ≠ nb) (ne_of a2 h.hn (fun z => nomatch z)) kk ⟨kvs, a2, a3⟩⟩
  · obtain ⟨a1, xs, a2, a3⟩ := h.vi x (mem_dp.mp hx).1
    exact ⟨a1, VersAt.keep (M := fun b => b ≠ nb) (ne_of a2 h.hn (fun z => nomatch z)) kk ⟨xs, a2, a3⟩⟩
def spPart (K : PySem.W.Frag) (T : TB) (C : Addr) : Sp := fun vs H Q _ => ∃ (x p r : Addr) (M : Addr → Prop) (ts : Ts) (t : Th) (vers : List Ver), vs = [.ref x, .ref r] ∧ ThO K C H M x p ts ∧ H r = some (.tup [.str t.1, .str t.2]) ∧ lk ts.nums t = some vers ∧
  ∀ H', Fr T M H H' → ThO K C H' M x p (ts.gone t) → Q (.int vers.length) H'
abbrev N_Things_part : List Str := ["self", "thing"]
theorem sc_Things_part : FnScope N_Things_part ["self", "thing"] (defScope s_Things_part) := ⟨rfl, rfl, rfl, by decide +kernel, rfl, by decide +kernel, by decide +kernel⟩
/-! slots: 0 self 1 thing; cells:  -/
theorem ok_part {T : TB} {C : Addr} (F : FnP K "part" "Things.part" s_Things_part f fd) (TX : ThTxt K C) (z_len : mg "len" = none) : FnOk P w K mg base CX0 1 f fd ["self", "thing"] (spPart K T C) := by
  refine F.ok sc_Things_part (fun vs H Q E h => ?_) (fun cdv A outer s H vs Q E hr h => ?_)
  · obtain ⟨x, p, r, M, ts, t, vers, rfl, _⟩ := h
    rfl
  · obtain ⟨x, p, r, M, ts, t, vers, rfl, hO, hr2, hlk, k⟩ := h
    obtain ⟨dx, kd, nb, ka, na, X⟩ := hO.x
    have hu := hr.units
    have hu1 : (A.deeper (envOfC "Things.part" (defScope s_Things_part) s.heap.objs.size f cdv)).units + 1 < cLine := by omega
    refine ⟨_, PSs.nox (pss_one (ps_ret (pe_callB call_len_seq (by rfl) z_len boot_len (pa_cons (pe_bm PySem.F.plainAttrs_dict PySem.F.slot_dict_pop PySem.F.type_dict_pop (KdDt.mt_pop1T hu1) (pe_fld (pv 0) rfl) (pa_cons (pv 1) pa_nil)) pa_nil)))), ?_⟩
    have hv : valV (ts.nums.map fun e => (thK e.1, V.ref (na e.1))) (thK t) = some (.ref (na t)) := by
      rw [val_map (r := fun t => V.ref (na t)) thK_inj, hlk]
      rfl
    obtain ⟨_, xs, a2, a3⟩ := X.vi (t, vers) (lk_mem hlk)
    refine ⟨_, rfl, x, C, dx, _, _, rfl, X.hx, TX.cl, TX.nN, th_num p kd nb _, .inr (.inr (.inl ⟨rfl, .inr ⟨_, X.hn⟩⟩)), _, rfl, nb, r, _, thK t, _, rfl, rfl, X.hn, hr2, hv, ?_⟩
    generalize e7 : upd H nb _ = H7
    obtain ⟨f7, en7, o7⟩ := put_of (T := T) (N := M) X.hn trivial X.mn e7
    have hl7 : H7 (na t) = some (.lst xs) := by rw [o7 _ (ne_of a2 X.hn (fun z => nomatch z))]; exact a2
    have lx : xs.length = vers.length := a3.length
    refine ⟨na t, xs, rfl, .inl (SqL.of hl7), ?_⟩
    rw [lx]
    exact k H7 f7 (X.drop e7).o
end
end Kd

namespace Kd
open PySem PySem.Spec PyProof.Rows L2
/-- by strictly rising days -/
def Rise (ks : List Kind) : Prop := ks.Pairwise fun a b => a.1 < b.1
theorem srt_le (ks : List Kind) : (srt ks).Pairwise fun a b => a.1 ≤ b.1 :=
  (List.pairwise_mergeSort (le := fun a b : Kind => decide (a.1 ≤ b.1)) (fun a b c h1 h2 => decide_eq_true (Int.le_trans (of_decide_eq_true h1) (of_decide_eq_true h2))) (fun a b => by
    simp only [Bool.or_eq_true, decide_eq_true_iff]
    omega) ks).imp fun {a b} h => of_decide_eq_true h
theorem srt_perm (ks : List Kind) : (srt ks).Perm ks := List.mergeSort_perm ks _
/-- the order of kinds is nothing -/
theorem srt_of_perm {ks ms : List Kind} (h : Rise ms) (p : ks.Perm ms) : srt ks = ms := by
  refine List.Perm.eq_of_pairwise (le := fun a b : Kind => a.1 ≤ b.1) (fun a b ha hb h1 h2 => ?_) (srt_le ks) (h.imp fun {a b} q => Int.le_of_lt q) ((srt_perm ks).trans p)
  have ha2 : a ∈ ms := ((srt_perm ks).trans p).mem_iff.mp ha
  have e : a.1 = b.1 := Int.le_antisymm h1 h2
  obtain ⟨i, hi, ei⟩ := List.mem_iff_getElem.mp ha2
  obtain ⟨j, hj, ej⟩ := List.mem_iff_getElem.mp hb
  rcases Nat.lt_trichotomy i j with q | q | q
  · have z := List.pairwise_iff_getElem.mp h i j hi hj q
    rw [ei, ej] at z
    omega
  · subst q
    exact ei.symm.trans ej
  · have z := List.pairwise_iff_getElem.mp h j i hj hi q
    rw [ei, ej] at z
    omega
/-- b is a without some kinds that have the values of the one ahead -/
inductive Thin : List Kind → List Kind → Prop where
  | nil : Thin [] []
  | keep {a b : List Kind} (k : Kind) : Thin a b → Thin (a ++ [k]) (b ++ [k])
  | drop {a b : List Kind} (k : Kind) : Thin a b → (∃ p, a.getLast? = some p ∧ p.2 = k.2) → Thin (a ++ [k]) b
theorem Thin.last {a b : List Kind} (h : Thin a b) : a.getLast?.map (·.2) = b.getLast?.map (·.2) := by
  induction h with
  | nil => rfl
  | keep k h ih => simp
  | drop k h q ih =>
    obtain ⟨p, q1, q2⟩ := q
    rw [q1] at ih
    rw [← ih]
    simp [q2]
theorem Thin.sub {a b : List Kind} (h : Thin a b) : b.Sublist a := by
  induction h with
  | nil => exact List.Sublist.refl _
  | keep k h ih => exact List.Sublist.append ih (List.Sublist.refl _)
  | drop k h q ih => exact ih.trans (List.sublist_append_left _ _)
theorem zip_snoc (k : Kind) : ∀ (l : List Kind) (p : Kind), l.getLast? = some p → (l ++ [k]).zip ((l ++ [k]).drop 1) = l.zip (l.drop 1) ++ [(p, k)]
  | [], p, h => by cases h
  | [x], p, h => by
    cases h
    rfl
  | x :: y :: r, p, h => by
    have ih := zip_snoc k (y :: r) p (by rw [← h]; rfl)
    show (x, y) :: ((y :: r) ++ [k]).zip (((y :: r) ++ [k]).drop 1) = (x, y) :: ((y :: r).zip ((y :: r).drop 1) ++ [(p, k)])
    rw [ih]
theorem opn_snoc {ws : List Str} (k : Kind) {l : List Kind} {p : Kind} (h : l.getLast? = some p) : opn ws (l ++ [k]) = opn ws l ++ if chg ws p.2 k.2 = true then [k] else [] := by
  unfold opn
  rw [zip_snoc k l p h, List.filter_append, List.map_append]
  have e : (l ++ [k]).take 1 = l.take 1 := by
    cases l with
    | nil => cases h
    | cons x r => rfl
  rw [e, List.append_assoc]
  congr 2
  unfold nxt
  by_cases c : chg ws p.2 k.2 = true
  · rw [if_pos c]
    simp [c]
  · rw [if_neg c]
    simp [c]
theorem chg_self (ws : List Str) (o : List Fv) : chg ws o o = false := by
  unfold chg
  rw [List.any_eq_false]
  intro j _
  unfold dif
  simp
theorem Thin.opn {ws : List Str} {a b : List Kind} (h : Thin a b) : opn ws a = opn ws b := by
  induction h with
  | nil => rfl
  | @keep a b k h ih =>
    have hl := h.last
    cases ea : a.getLast? with
    | none =>
      rw [ea] at hl
      cases eb : b.getLast? with
      | none =>
        rw [List.getLast?_eq_none_iff] at ea eb
        rw [ea, eb]
      | some q => rw [eb] at hl; cases hl
    | some p =>
      rw [ea] at hl
      cases eb : b.getLast? with
      | none => rw [eb] at hl; cases hl
      | some q =>
        rw [eb] at hl
        have e : p.2 = q.2 := Option.some.inj hl
        rw [opn_snoc k ea, opn_snoc k eb, ih, e]
  | drop k h q ih =>
    obtain ⟨p, q1, q2⟩ := q
    rw [opn_snoc k q1, q2, chg_self, ih]
    simp
theorem col_snoc (i : Nat) (a : List Kind) (k : Kind) : col i (a ++ [k]) = col i a ++ [k.2.getD i (.i 0)] := by
  unfold col
  rw [List.map_append]
  rfl
theorem Thin.head {a b : List Kind} (h : Thin a b) (i : Nat) : (col i a).head? = (col i b).head? := by
  induction h with
  | nil => rfl
  | keep k h ih =>
    rw [col_snoc, col_snoc, List.head?_append, List.head?_append, ih]
  | drop k h q ih =>
    obtain ⟨p, q1, q2⟩ := q
    rw [col_snoc, List.head?_append, ih]
    have ne : (col i _).head? ≠ none := fun z => by
      rw [← ih, List.head?_eq_none_iff] at z
      unfold col at z
      rw [List.map_eq_nil_iff] at z
      rw [z] at q1
      cases q1
    cases hb : (col i _).head? with
    | none => exact absurd hb ne
    | some v => rfl
theorem Thin.colLast {a b : List Kind} (h : Thin a b) (i : Nat) : (col i a).getLast? = (col i b).getLast? := by
  have e := h.last
  unfold col
  rw [List.getLast?_map, List.getLast?_map]
  have e2 := congrArg (Option.map fun v : List Fv => v.getD i (.i 0)) e
  rw [Option.map_map, Option.map_map] at e2
  exact e2
theorem Thin.flt {a b : List Kind} (h : Thin a b) (i : Nat) (l : Fv) : ((col i a).filter fun c => !decide (c = l)).getLast? = ((col i b).filter fun c => !decide (c = l)).getLast? := by
  induction h with
  | nil => rfl
  | keep k h ih => rw [col_snoc, col_snoc, List.filter_append, List.filter_append, List.getLast?_append, List.getLast?_append, ih]
  | @drop a b k h q ih =>
    obtain ⟨p, q1, q2⟩ := q
    rw [col_snoc, List.filter_append, List.getLast?_append, ← ih]
    obtain ⟨a0, rfl⟩ : ∃ a0, a = a0 ++ [p] := by
      rcases List.eq_nil_or_concat a with e | ⟨a0, x, e⟩
      · rw [e] at q1
        cases q1
      · rw [List.concat_eq_append] at e
        rw [e, List.getLast?_append] at q1
        cases q1
        exact ⟨a0, e⟩
    rw [col_snoc, List.filter_append, List.getLast?_append, q2]
    cases ([k.2.getD i (.i 0)].filter fun c => !decide (c = l)).getLast? <;> rfl
theorem Thin.unl {a b : List Kind} (h : Thin a b) (i : Nat) : unl (col i a) = unl (col i b) := by
  have e := h.colLast i
  unfold Kd.unl
  rw [← e]
  cases (col i a).getLast? with
  | none => rfl
  | some l =>
    show (some l, _) = (some l, _)
    rw [h.flt i l]
theorem Thin.wv {a b : List Kind} (h : Thin a b) (way : Str) (i : Nat) (op : Option (List Fv)) : wvD way i a op = wvD way i b op := by
  unfold wvD
  rw [h.unl i, h.head i, h.colLast i]
theorem Thin.ver {a b : List Kind} (h : Thin a b) (ws : List Str) (ops : List Kind) (j : Nat) : verD ws a ops j = verD ws b ops j := by
  unfold verD vvD
  have e : (fun j_1 => wvD (ws.getD j_1 Str.empty) j_1 a (opv ops j)) = fun j_1 => wvD (ws.getD j_1 Str.empty) j_1 b (opv ops j) := by
    funext i
    rw [h.wv]
  rw [e]
theorem Thin.refl : ∀ (a : List Kind), Thin a a := fun a => by
  have h : ∀ n, n ≤ a.length → Thin (a.take n) (a.take n) := fun n => by
    induction n with
    | zero => intro _; exact .nil
    | succ n ih =>
      intro hn
      rw [List.take_succ_eq_append_getElem hn]
      exact .keep _ (ih (by omega))
  have h2 := h a.length (Nat.le_refl _)
  rw [List.take_length] at h2
  exact h2
end Kd

namespace Kd
open PySem PySem.Spec PyProof.Rows L2
/-! ### begins are unlike -/
theorem snoc_indl {α : Type} {p : List α → Prop} (h0 : p []) (h1 : ∀ l a, p l → p (l ++ [a])) (l : List α) : p l := by
  have h : ∀ m : List α, p m.reverse := fun m => by
    induction m with
    | nil => exact h0
    | cons a m ih =>
      rw [List.reverse_cons]
      exact h1 _ _ ih
  have := h l.reverse
  rwa [List.reverse_reverse] at this
/-- the last opener has the values of the way day of the last kind; neighbours are unlike in one such value -/
theorem opn_subl (ws : List Str) (S : List Kind) : (opn ws S).Sublist S := by
  refine snoc_indl (p := fun S => (opn ws S).Sublist S) (.refl _) (fun l k ih => ?_) S
  cases e : l.getLast? with
  | none =>
    have e0 : l = [] := List.getLast?_eq_none_iff.mp e
    subst e0
    exact .refl _
  | some p =>
    rw [opn_snoc k e]
    split
    · exact List.Sublist.append ih (.refl _)
    · rw [List.append_nil]
      exact ih.trans (List.sublist_append_left ..)
/-- the openers up to a kind's day are those of the kinds up to it -/
theorem sv_begins (ws : List Str) (ks : List Kind) : (sv ws ks).map (·.1) = none :: (opn ws (srt ks)).map fun k => some k.1 := by
  unfold sv
  rw [List.map_map, List.range_succ_eq_map, List.map_cons]
  congr 1
  rw [List.map_map]
  apply List.ext_getElem
  · rw [List.length_map, List.length_map, List.length_range]
  · intro i h1 h2
    rw [List.length_map, List.length_range] at h1
    simp [svOf, bO, List.getElem?_eq_getElem h1]
theorem sv_nodup {ws : List Str} {ks : List Kind} (h : (ks.map (·.1)).Nodup) : ((sv ws ks).map (·.1)).Nodup := by
  rw [sv_begins, List.nodup_cons]
  refine ⟨fun z => ?_, ?_⟩
  · obtain ⟨k, _, e⟩ := List.mem_map.mp z
    cases e
  · have h1 : ((srt ks).map (·.1)).Nodup := ((List.mergeSort_perm ks _).map (·.1)).nodup_iff.mpr h
    have h2 : ((opn ws (srt ks)).map (·.1)).Nodup := h1.sublist (List.Sublist.map _ (opn_subl ws (srt ks)))
    have e : (opn ws (srt ks)).map (fun k => some k.1) = ((opn ws (srt ks)).map (·.1)).map some := by rw [List.map_map]; rfl
    rw [e]
    exact List.Pairwise.map some (fun a b ne z => ne (Option.some.inj z)) h2
/-! ### what holds of the things of a house -/
def inD (ds : Dims) (t : Th) (d : Str × List (Str × Str)) : Prop := ds.find? (fun d => decide (d.1 = t.1)) = some d
structure TsOk (ds : Dims) (ts : Ts) (n m : Nat) : Prop where
  d5 : ∀ d ∈ ds, d.2.length ≤ 5
  kn : (ts.kinds.map (·.1)).Nodup
  nn : (ts.nums.map (·.1)).Nodup
  kk : ∀ e ∈ ts.kinds, ∃ d, inD ds e.1 d ∧ ∀ k ∈ e.2, k.2.length = d.2.length
  kd : ∀ e ∈ ts.kinds, (e.2.map (·.1)).Nodup
  vv : ∀ e ∈ ts.nums, e.2.map Ver.s = sv (wsOf ds e.1.1) (ts.ks e.1)
  vd : ∀ e ∈ ts.nums, ∃ d, inD ds e.1 d
  kl : ts.kinds.length ≤ n
  ki : ∀ e ∈ ts.kinds, e.2.length ≤ n
  nl : ts.nums.length ≤ m
theorem TsOk.ks_nodup {ds : Dims} {ts : Ts} {n m : Nat} (h : TsOk ds ts n m) (t : Th) : ((ts.ks t).map (·.1)).Nodup := by
  unfold Ts.ks
  cases e : lk ts.kinds t with
  | none => exact List.nodup_nil
  | some ks => exact h.kd _ (lk_mem e)
theorem TsOk.ks_le {ds : Dims} {ts : Ts} {n m : Nat} (h : TsOk ds ts n m) (t : Th) : (ts.ks t).length ≤ n := by
  unfold Ts.ks
  cases e : lk ts.kinds t with
  | none => exact Nat.zero_le _
  | some ks => exact h.ki _ (lk_mem e)
theorem TsOk.ks_len {ds : Dims} {ts : Ts} {n m : Nat} (h : TsOk ds ts n m) {t : Th} {d : Str × List (Str × Str)} (hd : inD ds t d) : ∀ k ∈ ts.ks t, k.2.length = d.2.length := by
  unfold Ts.ks
  cases e : lk ts.kinds t with
  | none => intro k hk; cases hk
  | some ks =>
    obtain ⟨d', h1, h2⟩ := h.kk _ (lk_mem e)
    have e1 : d' = d := Option.some.inj (h1.symm.trans hd)
    rw [e1] at h2
    exact h2
theorem TsOk.vs_of {ds : Dims} {ts : Ts} {n m : Nat} (h : TsOk ds ts n m) {t : Th} {vs : List Ver} (e : lk ts.nums t = some vs) : vs.map Ver.s = sv (wsOf ds t.1) (ts.ks t) := h.vv _ (lk_mem e)
theorem TsOk.vs_nodup {ds : Dims} {ts : Ts} {n m : Nat} (h : TsOk ds ts n m) (t : Th) : ((ts.vs t).map (·.b)).Nodup := by
  unfold Ts.vs
  cases e : lk ts.nums t with
  | none => exact List.nodup_nil
  | some vs =>
    have h1 := congrArg (List.map (·.1)) (h.vs_of e)
    rw [List.map_map] at h1
    have h2 : vs.map (fun r => r.b) = (sv (wsOf ds t.1) (ts.ks t)).map (·.1) := h1
    show (vs.map fun r => r.b).Nodup
    rw [h2]
    exact sv_nodup (h.ks_nodup t)
theorem TsOk.vs_le {ds : Dims} {ts : Ts} {n m : Nat} (h : TsOk ds ts n m) (t : Th) : (ts.vs t).length ≤ n + 1 := by
  unfold Ts.vs
  cases e : lk ts.nums t with
  | none => exact Nat.zero_le _
  | some vs =>
    have h1 := congrArg List.length (h.vs_of e)
    rw [List.length_map] at h1
    have h2 := sv_le (wsOf ds t.1) (ts.ks t)
    have h3 := h.ks_le t
    show vs.length ≤ n + 1
    omega
theorem TsOk.num {ds : Dims} {ts : Ts} {n m : Nat} (h : TsOk ds ts n m) (hn : n ≤ 200) (hm : m ≤ 4000) {t : Th} {d : Str × List (Str × Str)} (hd : inD ds t d) : NumOk ds ts t d where
  fd := hd
  kl := h.ks_len hd
  d5 := h.d5 d (List.mem_of_find?_eq_some hd)
  kn := Nat.le_trans (h.ks_le t) hn
  vn := by have := h.vs_le t; omega
  nd := h.vs_nodup t
  nn := Nat.le_trans h.nl hm
/-- numbered anew -/
theorem TsOk.anew {ds : Dims} {ts : Ts} {n m : Nat} (h : TsOk ds ts n m) {t : Th} {d : Str × List (Str × Str)} (hd : inD ds t d) : TsOk ds (ts.anew (d.2.map (·.2)) t) n (m + 1) := by
  have ew : wsOf ds t.1 = d.2.map (·.2) := wsOf_some hd
  refine ⟨h.d5, h.kn, pt_nodup h.nn, h.kk, h.kd, fun e he => ?_, fun e he => ?_, h.kl, h.ki, ?_⟩
  · rcases mem_pt he with rfl | ⟨he, ne⟩
    · show (numS _ _ _).1.map Ver.s = sv (wsOf ds t.1) (ts.ks t)
      rw [numS_map, ew]
    · exact h.vv e he
  · rcases mem_pt he with rfl | ⟨he, ne⟩
    · exact ⟨d, hd⟩
    · exact h.vd e he
  · have h1 := pt_length ts.nums t (numS (oldOf (ts.vs t)) ts.given (sv (d.2.map (·.2)) (ts.ks t))).1
    have h2 := h.nl
    show (pt ts.nums t _).length ≤ m + 1
    omega
theorem TsOk.mono {ds : Dims} {ts : Ts} {n m n' m' : Nat} (h : TsOk ds ts n m) (hn : n ≤ n') (hm : m ≤ m') : TsOk ds ts n' m' :=
  ⟨h.d5, h.kn, h.nn, h.kk, h.kd, h.vv, h.vd, Nat.le_trans h.kl hn, fun e he => Nat.le_trans (h.ki e he) hn, Nat.le_trans h.nl hm⟩
theorem ks_kept (ts : Ts) (t t' : Th) (day : Int) (vals : List Fv) : (ts.kept t day vals).ks t' = if t' = t then pt (ts.ks t) day vals else ts.ks t' := by
  unfold Ts.kept Ts.ks
  show (lk (pt ts.kinds t _) t').getD [] = _
  rw [lk_pt]
  by_cases e : t' = t
  · rw [if_pos e, if_pos e]; rfl
  · rw [if_neg e, if_neg e]
/-- a kind kept: what a numbering asks, and what holds behind it -/
theorem TsOk.kept_num {ds : Dims} {ts : Ts} {n m : Nat} (h : TsOk ds ts n m) (hn : n < 200) (hm : m ≤ 4000) {t : Th} {d : Str × List (Str × Str)} (hd : inD ds t d) {day : Int} {vals : List Fv} (hv : vals.length = d.2.length) : NumOk ds (ts.kept t day vals) t d where
  fd := hd
  kl := fun k hk => by
    rw [ks_kept, if_pos rfl] at hk
    rcases mem_pt hk with rfl | ⟨hk, _⟩
    · exact hv
    · exact h.ks_len hd k hk
  d5 := h.d5 d (List.mem_of_find?_eq_some hd)
  kn := by
    rw [ks_kept, if_pos rfl]
    have h1 := pt_length (ts.ks t) day vals
    have h2 := h.ks_le t
    omega
  vn := by have := h.vs_le t; show (ts.vs t).length ≤ 300; omega
  nd := h.vs_nodup t
  nn := Nat.le_trans h.nl hm
theorem TsOk.taken {ds : Dims} {ts : Ts} {n m : Nat} (h : TsOk ds ts n m) {t : Th} {d : Str × List (Str × Str)} (hd : inD ds t d) {day : Int} {vals : List Fv} (hv : vals.length = d.2.length) : TsOk ds ((ts.kept t day vals).anew (d.2.map (·.2)) t) (n + 1) (m + 1) := by
  have ew : wsOf ds t.1 = d.2.map (·.2) := wsOf_some hd
  refine ⟨h.d5, pt_nodup h.kn, pt_nodup h.nn, fun e he => ?_, fun e he => ?_, fun e he => ?_, fun e he => ?_, ?_, fun e he => ?_, ?_⟩
  · rcases mem_pt he with rfl | ⟨he, ne⟩
    · refine ⟨d, hd, fun k hk => ?_⟩
      rcases mem_pt hk with rfl | ⟨hk, _⟩
      · exact hv
      · exact h.ks_len hd k hk
    · exact h.kk e he
  · rcases mem_pt he with rfl | ⟨he, ne⟩
    · exact pt_nodup (h.ks_nodup t)
    · exact h.kd e he
  · rcases mem_pt he with rfl | ⟨he, ne⟩
    · show (numS _ _ _).1.map Ver.s = sv (wsOf ds t.1) ((ts.kept t day vals).ks t)
      rw [numS_map, ew]
    · show e.2.map Ver.s = sv (wsOf ds e.1.1) ((ts.kept t day vals).ks e.1)
      rw [ks_kept, if_neg ne]
      exact h.vv e he
  · rcases mem_pt he with rfl | ⟨he, ne⟩
    · exact ⟨d, hd⟩
    · exact h.vd e he
  · have h1 := pt_length ts.kinds t (pt (ts.ks t) day vals)
    have h2 := h.kl
    show (pt ts.kinds t _).length ≤ n + 1
    omega
  · rcases mem_pt he with rfl | ⟨he, ne⟩
    · have h1 := pt_length (ts.ks t) day vals
      have h2 := h.ks_le t
      show (pt (ts.ks t) day vals).length ≤ n + 1
      omega
    · have := h.ki e he
      omega
  · exact Nat.le_trans (pt_length _ _ _) (Nat.succ_le_succ h.nl)
theorem TsOk.meet {ds : Dims} {ts : Ts} {n m : Nat} (h : TsOk ds ts n m) {t : Th} {d : Str × List (Str × Str)} (hd : inD ds t d) : TsOk ds (ts.meet (d.2.map (·.2)) t) n (m + 1) := by
  unfold Ts.meet
  split
  · exact h.mono (Nat.le_refl _) (Nat.le_succ _)
  · exact h.anew hd
theorem TsOk.gone {ds : Dims} {ts : Ts} {n m : Nat} (h : TsOk ds ts n m) (t : Th) : TsOk ds (ts.gone t) n m := by
  refine ⟨h.d5, h.kn, dp_nodup h.nn, h.kk, h.kd, fun e he => h.vv e (mem_dp.mp he).1, fun e he => h.vd e (mem_dp.mp he).1, h.kl, h.ki, ?_⟩
  have := dp_length ts.nums t
  have := h.nl
  show (dp ts.nums t).length ≤ m
  omega
/-- each known thing has a version of each day -/
theorem TsOk.on {ds : Dims} {ts : Ts} {n m : Nat} (h : TsOk ds ts n m) {t : Th} {vs : List Ver} (e : lk ts.nums t = some vs) (day : Int) : ∃ v, verOn vs day = some v := by
  obtain ⟨s, r, e1, e2⟩ := sv_head (wsOf ds t.1) (ts.ks t)
  have h1 := h.vs_of e
  rw [e1] at h1
  cases vs with
  | nil => cases h1
  | cons v vr =>
    rw [List.map_cons] at h1
    have hb : v.b = none := by
      have := (List.cons.inj h1).1
      rw [← this] at e2
      exact e2
    unfold verOn
    rw [List.filter_cons_of_pos (by unfold begB; rw [hb])]
    exact ⟨_, List.getLast?_eq_some_getLast (List.cons_ne_nil _ _)⟩
end Kd

namespace Kd
open PySem PySem.Spec PyProof.Rows L2 LamX
/-! ### a house -/
structure Fct where
  day : Int
  keys : List Str
  nums : List Int
  deriving DecidableEq
structure Wt where
  groups : List (Str × Str)
  measure : Option Str
  ahead : Int
structure Hs where
  ts : Ts
  facts : List (Str × Fct)
  rows : List Rw
  wts : List (Str × Wt)
/-- the classes, and the table of stretches -/
structure Cn where
  CT : Addr
  CP : Addr
  CH : Addr
  CW : Addr
  Pt : Addr
def hsF (p th kf tr wd : Addr) : List (Str × V) := [("plan", .ref p), ("things", .ref th), ("kept_facts", .ref kf), ("told_rows", .ref tr), ("watchers", .ref wd)]
structure HsTxt (K : PySem.W.Frag) (C : Addr) : Prop where
  cl : Cls K C
  nP : NoAttr K C "plan"
  nT : NoAttr K C "things"
  nF : NoAttr K C "kept_facts"
  nR : NoAttr K C "told_rows"
  nW : NoAttr K C "watchers"
theorem hs_plan (p th kf tr wd : Addr) : (hsF p th kf tr wd).lookup ("plan" : Str) = some (.ref p) := by simp [hsF, List.lookup]
theorem hs_things (p th kf tr wd : Addr) : (hsF p th kf tr wd).lookup ("things" : Str) = some (.ref th) := by
  simp [hsF, List.lookup, show (("things" : Str) == "plan") = false by decide +kernel]
theorem hs_facts (p th kf tr wd : Addr) : (hsF p th kf tr wd).lookup ("kept_facts" : Str) = some (.ref kf) := by
  simp [hsF, List.lookup, show (("kept_facts" : Str) == "plan") = false by decide +kernel, show (("kept_facts" : Str) == "things") = false by decide +kernel]
theorem hs_rows (p th kf tr wd : Addr) : (hsF p th kf tr wd).lookup ("told_rows" : Str) = some (.ref tr) := by
  simp [hsF, List.lookup, show (("told_rows" : Str) == "plan") = false by decide +kernel, show (("told_rows" : Str) == "things") = false by decide +kernel, show (("told_rows" : Str) == "kept_facts") = false by decide +kernel]
theorem hs_no {p th kf tr wd : Addr} {m : Str} (h : ((m == ("plan" : Str)) || (m == ("things" : Str)) || (m == ("kept_facts" : Str)) || (m == ("told_rows" : Str)) || (m == ("watchers" : Str))) = false) : (hsF p th kf tr wd).lookup m = none := by
  simp only [Bool.or_eq_false_iff] at h
  simp [hsF, List.lookup, h.1.1.1.1, h.1.1.1.2, h.1.1.2, h.1.2, h.2]
section
variable {P : Program} {w : World} {K : PySem.W.Frag} {mg : Str → Option Value} {base : Heap} {f : Addr} {fd : FuncData} {M : Addr → Prop} {H H' : Hp} {T : TB}
def FctAt (K : PySem.W.Frag) (H : Hp) (a : Addr) (f : Fct) : Prop := ∃ q1 q2, SqT K H a [.int f.day, .ref q1, .ref q2] ∧ SqT K H q1 (f.keys.map V.str) ∧ SqT K H q2 (f.nums.map V.int)
theorem FctAt.keep {a : Addr} {f : Fct} (k : Keep M H H') : FctAt K H a f → FctAt K H' a f := fun ⟨q1, q2, h1, h2, h3⟩ => ⟨q1, q2, k.seqT h1, k.seqT h2, k.seqT h3⟩
def osV : Option Str → V
  | none => .non
  | some z => .str z
def wtF (g : Addr) (m : Option Str) (n : Int) : List (Str × V) := [("groups", .ref g), ("measure", osV m), ("rows_ahead", .int n)]
def WtAt (K : PySem.W.Frag) (C : Addr) (H : Hp) (a : Addr) (w : Wt) : Prop := ∃ dx g ys, H a = some (.ins C dx (wtF g w.measure w.ahead)) ∧ SqT K H g ys ∧ Paired (AttAt K H) ys w.groups
theorem WtAt.keep {C a : Addr} {w : Wt} (m : M a) (k : Keep M H H') : WtAt K C H a w → WtAt K C H' a w := fun ⟨dx, g, ys, h1, h2, h3⟩ => ⟨dx, g, ys, k.at h1 trivial m, k.seqT h2, PySem.Paired.mono (fun _ _ ⟨r, e1, e2⟩ => ⟨r, e1, k.seqT e2⟩) h3⟩
def RwRef (K : PySem.W.Frag) (H : Hp) (v : V) (r : Rw) : Prop := ∃ p, v = .ref p ∧ r.at K H p
theorem RwRef.keep {v : V} {r : Rw} (k : Keep M H H') : RwRef K H v r → RwRef K H' v r := fun ⟨p, e, h⟩ => ⟨p, e, k.rw_at h⟩
def hoM (MT MS : Addr → Prop) (kf tr wd : Addr) : Addr → Prop := fun b => MT b ∨ MS b ∨ b = kf ∨ b = tr ∨ b = wd
structure HoX (K : PySem.W.Frag) (c : Cn) (H : Hp) (MT MS : Addr → Prop) (x : Addr) (ds : Dims) (ms : List Str) (S : Hs) (dx p th kf tr wd : Addr) (fa wa : Str → Addr) (rs : List V) : Prop where
  hx : H x = some (.ins c.CH dx (hsF p th kf tr wd))
  sx : MS x
  pl : PlanO K c.CP H MS p ds ms
  th : ThO K c.CT H MT th p S.ts
  hf : H kf = some (.dK (S.facts.map fun e => (Sum.inr e.1, .ref (fa e.1))))
  fi : ∀ e ∈ S.facts, FctAt K H (fa e.1) e.2
  hr : H tr = some (.lst rs)
  ri : Paired (RwRef K H) rs S.rows
  hw : H wd = some (.dK (S.wts.map fun e => (Sum.inr e.1, .ref (wa e.1))))
  wi : ∀ e ∈ S.wts, MS (wa e.1) ∧ WtAt K c.CW H (wa e.1) e.2
  d1 : ∀ b, MS b → ¬ MT b
  f1 : ¬ MT kf
  f2 : ¬ MS kf
  r1 : ¬ MT tr
  r2 : ¬ MS tr
  w1 : ¬ MT wd
  w2 : ¬ MS wd
  fw : kf ≠ wd
def HoO (K : PySem.W.Frag) (c : Cn) (H : Hp) (M : Addr → Prop) (x : Addr) (ds : Dims) (ms : List Str) (S : Hs) : Prop := ∃ MT MS dx p th kf tr wd fa wa rs, M = hoM MT MS kf tr wd ∧ HoX K c H MT MS x ds ms S dx p th kf tr wd fa wa rs
variable {c : Cn} {MT MS : Addr → Prop} {x dx p th kf tr wd : Addr} {ds : Dims} {ms : List Str} {S : Hs} {fa wa : Str → Addr} {rs : List V}
theorem HoX.live (h : HoX K c H MT MS x ds ms S dx p th kf tr wd fa wa rs) : Live (hoM MT MS kf tr wd) H := by
  rintro b (hb | hb | rfl | rfl | rfl)
  · exact h.th.live b hb
  · exact h.pl.1 b hb
  · exact ⟨_, h.hf, trivial⟩
  · exact ⟨_, h.hr, trivial⟩
  · exact ⟨_, h.hw, trivial⟩
theorem HoX.keep (h : HoX K c H MT MS x ds ms S dx p th kf tr wd fa wa rs) (k : Keep (hoM MT MS kf tr wd) H H') : HoX K c H' MT MS x ds ms S dx p th kf tr wd fa wa rs where
  hx := k.at h.hx trivial (.inr (.inl h.sx))
  sx := h.sx
  pl := h.pl.keep (k.mono fun _ z => .inr (.inl z))
  th := h.th.keep (k.mono fun _ z => .inl z)
  hf := k.at h.hf trivial (.inr (.inr (.inl rfl)))
  fi := fun e he => (h.fi e he).keep k
  hr := k.at h.hr trivial (.inr (.inr (.inr (.inl rfl))))
  ri := PySem.Paired.mono (fun _ _ => RwRef.keep k) h.ri
  hw := k.at h.hw trivial (.inr (.inr (.inr (.inr rfl))))
  wi := fun e he => ⟨(h.wi e he).1, (h.wi e he).2.keep (M := hoM MT MS kf tr wd) (.inr (.inl (h.wi e he).1)) k⟩
  d1 := h.d1
  f1 := h.f1
  f2 := h.f2
  r1 := h.r1
  r2 := h.r2
  w1 := h.w1
  w2 := h.w2
  fw := h.fw
theorem HoX.same (h : HoX K c H MT MS x ds ms S dx p th kf tr wd fa wa rs) (s : Same H H') : HoX K c H' MT MS x ds ms S dx p th kf tr wd fa wa rs := h.keep (Keep.of s)
theorem HoO.keep (h : HoO K c H M x ds ms S) (k : Keep M H H') : HoO K c H' M x ds ms S := by
  obtain ⟨MT, MS, dx, p, th, kf, tr, wd, fa, wa, rs, rfl, X⟩ := h
  exact ⟨MT, MS, dx, p, th, kf, tr, wd, fa, wa, rs, rfl, X.keep k⟩
theorem HoO.live (h : HoO K c H M x ds ms S) : Live M H := by
  obtain ⟨MT, MS, dx, p, th, kf, tr, wd, fa, wa, rs, rfl, X⟩ := h
  exact X.live
theorem HoO.same (h : HoO K c H M x ds ms S) (s : Same H H') : HoO K c H' M x ds ms S := h.keep (Keep.of s)
theorem HoX.o (h : HoX K c H MT MS x ds ms S dx p th kf tr wd fa wa rs) : HoO K c H (hoM MT MS kf tr wd) x ds ms S := ⟨MT, MS, dx, p, th, kf, tr, wd, fa, wa, rs, rfl, h⟩
theorem inr_inj : ∀ a b : Str, (Sum.inr a : L2.Key) = Sum.inr b → a = b := fun _ _ z => Sum.inr.inj z
/-- the heap without a list that is not of M -/
theorem keep_cd {D : Addr} {L : List V} (hD : H D = some (.lst L)) (n : ¬ M D) : Keep M H (cd D H) := fun b o e t c => cd_of e fun z => by
  rw [z, hD] at e
  cases e
  exact c.elim (Chg.notT (o := .lst L) trivial) (fun q => n (by rw [← z]; exact q))
theorem tabs_cdl {D : Addr} {L : List V} (hD : H D = some (.lst L)) (h : Tabs T H) : Tabs T (cd D H) := fun p hp => by
  obtain ⟨ps, h1, h2, h3⟩ := h p hp
  refine ⟨ps, cd_of h1 (ne_of h1 hD (fun z => nomatch z)), h2, fun pos cv hc => ?_⟩
  obtain ⟨c, e1, e2⟩ := h3 pos cv hc
  exact ⟨c, e1, cd_of e2 (ne_of e2 hD (fun z => nomatch z))⟩
theorem Fr.cd {D : Addr} {L : List V} (f : Fr T M H H') (hD : H' D = some (.lst L)) : Fr T M (Kd.cd D H) (Kd.cd D H') :=
  ⟨fun b o e t c => cd_of (f.st b o (cd_sub _ _ e) t c) (ct_ne e).1, fun t => tabs_cdl hD (f.tb (t.ext cd_sub))⟩
/-! ### the mirror of a house -/
def fdays (ds : Dims) (fs : List (Str × Fct)) (t : Th) : List Int := (fs.filter fun e => decide (t ∈ thOf ds e.2.keys)).map fun e => e.2.day
def Ts.numOn (ts : Ts) (t : Th) (day : Int) : Int := ((verOn (ts.vs t) day).map (·.n)).getD 0
def Ts.begOn (ts : Ts) (t : Th) (day : Int) : Option Int := ((verOn (ts.vs t) day).map (·.b)).getD none
end
end Kd

namespace Kd
open PySem PySem.Spec PyProof.Rows L2 LamX
theorem u65 {A : Around} {k : Nat} (hr : Room k A) : A.units + 65 < cLine := by
  have := hr.units
  have := hr.un
  omega
def thD (t : Th) : PyData := .tuple [.str t.1, .str t.2]
theorem thD_eqv (a b : Th) : PyData.eqv (thD a) (thD b) = decide (a = b) := by
  obtain ⟨a1, a2⟩ := a
  obtain ⟨b1, b2⟩ := b
  simp [thD, PyData.eqv, PyData.eqvAll, Prod.mk.injEq, Bool.decide_and]
  rfl
theorem th_lay {t : Th} (h1 : Tx t.1) (h2 : Tx t.2) : (thD t).canLay0 = true ∧ (thD t).depth = 1 := by
  simp [thD, PyData.canLay0, PyData.canLayAll0, PyData.depth, PyData.depthAll, h1.sok, h2.sok]
theorem th_shaped {t : Th} (h1 : Tx t.1) (h2 : Tx t.2) : SeqAt.shaped (thD t) = true := by
  obtain ⟨a, b⟩ := th_lay h1 h2
  simp [SeqAt.shaped, a, b]
theorem ths_lay : ∀ (l : List Th), (∀ t ∈ l, Tx t.1 ∧ Tx t.2) → PyData.canLayAll0 (l.map thD) = true ∧ PyData.depthAll (l.map thD) ≤ 1
  | [], _ => ⟨rfl, Nat.zero_le _⟩
  | t :: l, h => by
    obtain ⟨a, b⟩ := th_lay (h t (List.mem_cons_self ..)).1 (h t (List.mem_cons_self ..)).2
    obtain ⟨c, d⟩ := ths_lay l fun x hx => h x (List.mem_cons_of_mem _ hx)
    rw [List.map_cons]
    refine ⟨by simp [PyData.canLayAll0, a, c], ?_⟩
    show max (thD t).depth (PyData.depthAll (l.map thD)) ≤ 1
    rw [b]
    omega
theorem ths_shaped {l : List Th} (h : ∀ t ∈ l, Tx t.1 ∧ Tx t.2) : SeqAt.shaped (.list (l.map thD)) = true := by
  obtain ⟨a, b⟩ := ths_lay l h
  simp [SeqAt.shaped, PyData.canLay0, PyData.depth, a]
  omega
theorem any_th (t : Th) : ∀ l : List Th, ((l.map thD).any fun z => PyData.eqv z (thD t)) = decide (t ∈ l)
  | [] => rfl
  | x :: l => by
    rw [List.map_cons, List.any_cons, any_th t l, thD_eqv]
    by_cases e : x = t
    · rw [e]; simp
    · simp [e, Ne.symm e]
/-- what is asked of plan and facts -/
structure FOk (ds : Dims) (fs : List (Str × Fct)) : Prop where
  d4 : ds.length ≤ 4
  dx : ∀ d ∈ ds, Tx d.1
  fx : ∀ e ∈ fs, ∀ z ∈ e.2.keys, Tx z
  fl : fs.length ≤ 200
theorem thOf_mem {ds : Dims} {keys : List Str} {t : Th} (h : t ∈ thOf ds keys) : (∃ d ∈ ds, d.1 = t.1) ∧ t.2 ∈ keys := by
  unfold thOf at h
  obtain ⟨t1, t2⟩ := t
  have := List.of_mem_zip h
  obtain ⟨d, hd, e⟩ := List.mem_map.mp this.1
  exact ⟨⟨d, hd, e⟩, this.2⟩
theorem thOf_tx {ds : Dims} {keys : List Str} (h1 : ∀ d ∈ ds, Tx d.1) (h2 : ∀ z ∈ keys, Tx z) : ∀ t ∈ thOf ds keys, Tx t.1 ∧ Tx t.2 := fun t ht => by
  obtain ⟨⟨d, hd, e⟩, h3⟩ := thOf_mem ht
  exact ⟨by rw [← e]; exact h1 d hd, h2 _ h3⟩
section
variable {P : Program} {w : World} {K : PySem.W.Frag} {mg : Str → Option Value} {base : Heap} {f : Addr} {fd : FuncData}
theorem ThAt.dp {H : Hp} {v : V} {t : Th} : ThAt H v t → Dp K H v (thD t) := fun ⟨r, e, h⟩ => by
  rw [e]
  exact .tup (SqT.of h) (.cons (.str _) (.cons (.str _) .nil))
theorem ThAt.dpall {H : Hp} : ∀ {vs : List V} {l : List Th}, Paired (ThAt H) vs l → DpAll K H vs (l.map thD)
  | _, _, .nil => .nil
  | _, _, .cons h t => .cons h.dp (ThAt.dpall t)
/-! ### House.fact_days -/
def spFdays (K : PySem.W.Frag) (c : Cn) : Sp := fun vs H Q _ => ∃ (x r : Addr) (M : Addr → Prop) (ds : Dims) (ms : List Str) (S : Hs) (t : Th), vs = [.ref x, .ref r] ∧ HoO K c H M x ds ms S ∧ H r = some (.tup [.str t.1, .str t.2]) ∧ FOk ds S.facts ∧ Tx t.1 ∧ Tx t.2 ∧
  ∀ l H', Same H H' → H l = none → H' l = some (.lst ((fdays ds S.facts t).map V.int)) → Q (.ref l) H'
abbrev N_House_fact_days : List Str := ["self", "thing", "facts", "day", "keys", "numbers"]
theorem sc_House_fact_days : FnScope N_House_fact_days ["self", "thing"] (defScope s_House_fact_days) := ⟨rfl, rfl, rfl, by decide +kernel, rfl, by decide +kernel, by decide +kernel⟩
/-! slots: 0 self 1 thing 2 facts 3 day 4 keys 5 numbers; cells: self thing -/
theorem ok_fdays {c : Cn} {fN : Addr} {fdN : FuncData} (F : FnP K "fact_days" "House.fact_days" s_House_fact_days f fd) (TX : HsTxt K c.CH) (c_things_named : Fun P w K mg base "things_named" 2 ["plan", "keys"] (spNamed K c.CP) fN fdN) (z_list : mg "list" = none) : FnOk P w K mg base CX0 3 f fd ["self", "thing"] (spFdays K c) := by
  refine F.ok sc_House_fact_days (fun vs H Q E h => ?_) (fun cdv A outer s H vs Q E hr h => ?_)
  · obtain ⟨x, r, M, ds, ms, S, t, rfl, _⟩ := h
    rfl
  · obtain ⟨x, r, M, ds, ms, S, t, rfl, ⟨MT, MS, dx, p, th, kf, tr, wd, fa, wa, rs, rfl, X⟩, hr2, ok, t1, t2, k⟩ := h
    have nd := sc_House_fact_days.nd
    refine ⟨_, PSs.nox (pss_cons (ps_set (i := 2) nd rfl (Or.inl rfl) (KdDt.pe_listVals rfl (pe_fld (pv 0) rfl) rfl z_list (by decide +kernel)))
      (pss_one (ps_ret (pe_lc (own := [("day", 3), ("keys", 4), ("numbers", 5)]) (g := gTup K 3 (gCons (gName 3) (gCons (gName 4) (gCons (gName 5) gNil)))) (tt := tTest (tOp (rInD K) (tVar 1) (tCall (spNamed K c.CP) [] E0 (tCons (tFld K (tVar 0) "plan") (tCons (tVar 4) tNil))))) (te := tVar 3) rfl nd (pi_list (pv 2)) (blkOk_by (own := [("day", 3), ("keys", 4), ("numbers", 5)]) (N := N_House_fact_days) (sc := defScope s_House_fact_days) (by decide +kernel))
        (fun _ _ _ _ _ => pg_tup rfl (pgs_cons (pg_name (i := 3) nd rfl (Or.inl rfl)) (pgs_cons (pg_name (i := 4) nd rfl (Or.inl rfl)) (pgs_cons (pg_name (i := 5) nd rfl (Or.inl rfl)) pgs_nil)))) (fun _ _ _ _ _ => pts_one (pt_cmpR (op_inD (u65 hr)) (pv 1) (pe_call c_things_named.G (hr.mono (by decide)) rfl c_things_named.g c_things_named.k c_things_named.b .nil pass0 (pa_cons (pe_fld (pv 0) rfl) (pa_cons (pv 4) pa_nil))) (by rfl))) (fun _ _ _ _ _ => pv 3))))), ?_⟩
    refine ⟨_, rfl, x, c.CH, dx, _, _, rfl, X.hx, TX.cl, TX.nF, hs_facts p th kf tr wd, kf, _, rfl, X.hf, fun l0 n0 => ?_⟩
    generalize e0 : upd H l0 _ = H0
    obtain ⟨s0, el0⟩ := new_of n0 e0
    rw [List.map_map] at el0
    have X0 := X.same s0
    have lf := ok.fl
    refine set_sl (σ' := [some (.ref x), some (.ref r), some (.ref l0), none, none, none]) rfl ?_
    refine ⟨_, rfl, l0, rfl, ⟨_, SqL.of el0⟩, fun D nD => ?_⟩
    refine lc_build (walk_list (K := K) (a := l0)) nD (fun i ys R => Same H0 R ∧ ys = (fdays ds (S.facts.take i) t).map V.int) ⟨Same.refl _, rfl⟩ (fun _ _ _ _ z => SqL.of ((z.1.trans cd_sub) _ _ el0)) ?_ ?_
    · rintro i ys y R R' hi e ly ⟨sm, rfl⟩ ⟨rfl, hy⟩
      rw [List.length_map] at hi
      rw [List.getElem?_map] at hy
      obtain ⟨fe, hfe, rfl⟩ := Option.map_eq_some_iff.mp hy
      obtain ⟨q1, q2, h1, h2, h3⟩ := X0.fi fe (List.mem_of_getElem? hfe)
      have sR := sm.trans cd_sub
      have XR := X0.same sR
      refine ⟨fa fe.1, _, rfl, Same.seqT sR h1, rfl, _, _, rfl, _, _, rfl, _, _, rfl, rfl, rfl, _, rfl, _, rfl, x, c.CH, dx, _, _, rfl, XR.hx, TX.cl, TX.nP, hs_plan p th kf tr wd, _, rfl, p, q1, fe.2.keys, ds, ms, rfl, XR.pl.at, Same.seqT sR h2, ok.d4, fun ln xs H2 s2 nln eln pn => ?_⟩
      have tx := thOf_tx ok.dx (ok.fx fe (List.mem_of_getElem? hfe))
      refine ⟨thD t, _, ThAt.dp ⟨r, rfl, ((s0.trans sR).trans s2) _ _ hr2⟩, .lst (SqL.of eln) (ThAt.dpall pn), th_shaped t1 t2, ths_shaped tx, _, rfl, ?_⟩
      rw [any_th]
      have efl := flt_snoc (p := fun e : Str × Fct => decide (t ∈ thOf ds e.2.keys)) hfe
      have e2 := s2 _ _ e
      have lt : ((fdays ds (S.facts.take i) t).map V.int).length ≤ i := ly
      by_cases cin : t ∈ thOf ds fe.2.keys
      · rw [decide_eq_true cin]
        refine iteT ⟨_, rfl, LcNx.add e2 lt (by omega) ⟨sm.trans (cd_same s2), ?_⟩⟩
        unfold fdays
        rw [efl, if_pos (decide_eq_true cin), List.map_append, List.map_append]
        rfl
      · rw [decide_eq_false cin]
        refine iteF (LcNx.skip e2 lt ⟨sm.trans (cd_same s2), ?_⟩)
        unfold fdays
        rw [efl, if_neg (by rw [decide_eq_false cin]; decide), List.append_nil]
    · rintro ys H2 e ly ⟨sm, rfl⟩
      rw [List.length_map, List.take_length] at e
      exact k D H2 (s0.trans (sm.trans cd_sub)) (s0.free nD) e
end
end Kd

namespace Kd
open PySem PySem.Spec PyProof.Rows L2 LamX
/-- all things of these keys are known, with a version of the day -/
def Known (ts : Ts) (day : Int) (t : Th) : Prop := ∃ vers ver, lk ts.nums t = some vers ∧ vers.length ≤ 4000 ∧ verOn vers day = some ver
theorem numOn_of {ts : Ts} {t : Th} {day : Int} {vers : List Ver} {ver : Ver} (h1 : lk ts.nums t = some vers) (h2 : verOn vers day = some ver) : ts.numOn t day = ver.n := by
  unfold Ts.numOn Ts.vs
  rw [h1]
  show ((verOn vers day).map (·.n)).getD 0 = ver.n
  rw [h2]
  rfl
section
variable {P : Program} {w : World} {K : PySem.W.Frag} {mg : Str → Option Value} {base : Heap} {f : Addr} {fd : FuncData}
--@@LED
/-! ### House.led -/
def spLed (K : PySem.W.Frag) (c : Cn) : Sp := fun vs H Q _ => ∃ (x q : Addr) (M : Addr → Prop) (ds : Dims) (ms : List Str) (S : Hs) (day : Int) (keys : List Str), vs = [.ref x, .int day, .ref q] ∧ HoO K c H M x ds ms S ∧ SqT K H q (keys.map V.str) ∧ ds.length ≤ 4 ∧ (∀ t ∈ thOf ds keys, Known S.ts day t) ∧
  ∀ r H', Same H H' → H' r = some (.tup ((thOf ds keys).map fun t => V.int (S.ts.numOn t day))) → Q (.ref r) H'
abbrev N_House_led : List Str := ["self", "day", "keys", "thing"]
theorem sc_House_led : FnScope N_House_led ["self", "day", "keys"] (defScope s_House_led) := ⟨rfl, rfl, rfl, by decide +kernel, rfl, by decide +kernel, by decide +kernel⟩
/-! slots: 0 self 1 day 2 keys 3 thing; cells: day self -/
theorem ok_led {c : Cn} {fN fV : Addr} {fdN fdV : FuncData} (F : FnP K "led" "House.led" s_House_led f fd) (TX : HsTxt K c.CH) (c_things_named : Fun P w K mg base "things_named" 2 ["plan", "keys"] (spNamed K c.CP) fN fdN) (mV : MFun P w K mg base c.CT "version_on" 1 ["self", "thing", "day"] (spVerOn K c.CT) fV fdV) (z_tuple : mg "tuple" = none) : FnOk P w K mg base CX0 3 f fd ["self", "day", "keys"] (spLed K c) := by
  refine F.ok sc_House_led (fun vs H Q E h => ?_) (fun cdv A outer s H vs Q E hr h => ?_)
  · obtain ⟨x, q, M, ds, ms, S, day, keys, rfl, _⟩ := h
    rfl
  · obtain ⟨x, q, M, ds, ms, S, day, keys, rfl, ⟨MT, MS, dx, p, th, kf, tr, wd, fa, wa, rs, rfl, X⟩, hq, d4, kn, k⟩ := h
    have nd := sc_House_led.nd
    refine ⟨_, PSs.nox (pss_one (ps_ret (pe_callTy call_tuple_of (by rfl) z_tuple (by decide +kernel) (pa_cons (pe_lc (own := [("thing", 3)]) (g := gName 3) (tt := tYes) (te := tOp (rIxT K) (tMeth c.CT "version_on" (spVerOn K c.CT) [] E0 (tFld K (tVar 0) "things") (tCons (tVar 3) (tCons (tVar 1) tNil))) (tC (.int 0))) rfl nd (pi_list (pe_call c_things_named.G (hr.mono (by decide)) rfl c_things_named.g c_things_named.k c_things_named.b .nil pass0 (pa_cons (pe_fld (pv 0) rfl) (pa_cons (pv 2) pa_nil)))) (blkOk_by (own := [("thing", 3)]) (N := N_House_led) (sc := defScope s_House_led) (by decide +kernel))
        (fun _ _ _ _ _ => pg_name (i := 3) nd rfl (Or.inl rfl)) (fun _ _ _ _ _ => pts_nil) (fun _ _ _ _ _ => pe_ix ix_tup (pe_meth (pe_fld (pv 0) rfl) mV.cl mV.m mV.G (hr.mono (by decide)) mV.b .nil pass0 (pa_cons (pv 3) (pa_cons (pv 1) pa_nil))) pe_int (fun _ _ => rfl))) pa_nil)))), ?_⟩
    refine ⟨_, rfl, x, c.CH, dx, _, _, rfl, X.hx, TX.cl, TX.nP, hs_plan p th kf tr wd, _, rfl, p, q, keys, ds, ms, rfl, X.pl.at, hq, d4, fun ln xs H1 s1 nln eln pn => ?_⟩
    have X1 := X.same s1
    have lth : (thOf ds keys).length ≤ 4 := by
      unfold thOf
      rw [List.length_zip, List.length_map]
      omega
    have lxs : xs.length = (thOf ds keys).length := pn.length
    refine ⟨ln, rfl, ⟨_, SqL.of eln⟩, fun D nD => ?_⟩
    refine lc_build (walk_list (K := K) (a := ln)) nD (fun i ys R => Same H1 R ∧ ys = ((thOf ds keys).take i).map fun t => V.int (S.ts.numOn t day)) ⟨Same.refl _, rfl⟩ (fun _ _ _ _ z => SqL.of ((z.1.trans cd_sub) _ _ eln)) ?_ ?_
    · rintro i ys y R R' hi e ly ⟨sm, rfl⟩ ⟨rfl, hy⟩
      obtain ⟨t, ht, r, rfl, h1⟩ := paired_at pn hy
      obtain ⟨vers, ver, k1, k2, k3⟩ := kn t (List.mem_of_getElem? ht)
      have sR := sm.trans cd_sub
      have XR := X1.same sR
      obtain ⟨dxt, kd, nb, ka, na, XT⟩ := XR.th.x
      refine ⟨rfl, yes ?_⟩
      refine ⟨_, rfl, x, c.CH, dx, _, _, rfl, XR.hx, TX.cl, TX.nT, hs_things p th kf tr wd, th, dxt, _, rfl, XT.hx, th_no (by decide +kernel) (by decide +kernel) (by decide +kernel) (by decide +kernel), _, rfl, _, rfl, th, p, r, MT, day, t, S.ts, vers, ver, rfl, XR.th, sR _ _ h1, k1, k2, k3, fun v H2 s2 hv => ?_⟩
      obtain ⟨qv, yv, rfl, hqv, _, _⟩ := hv
      refine ⟨qv, _, _, _, rfl, rfl, SqT.of hqv, atI_nat (j := 0) rfl, LcNx.add (s2 _ _ e) ly (by omega) ⟨sm.trans (cd_same s2), ?_⟩⟩
      rw [← numOn_of k1 k3]
      exact take_snoc (g := fun t => V.int (S.ts.numOn t day)) ht
    · rintro ys H2 e ly ⟨sm, rfl⟩
      rw [lxs, List.take_length] at e
      refine ⟨D, _, rfl, .inl ⟨SqL.of e, fun r nr => ?_⟩⟩
      generalize e3 : upd H2 r _ = H3
      obtain ⟨s3, e4⟩ := new_of nr e3
      exact k r H3 (s1.trans ((sm.trans cd_sub).trans s3)) e4
--@@END
end
end Kd

namespace Kd
open PySem PySem.Spec PyProof.Rows L2 LamX
def tTruth (K : PySem.W.Frag) (ta : TE) : TT := fun σ H Q => ta σ H fun x H' => ∃ k, TruV K x H' k ∧ Q k H'
def Ts.parts (ts : Ts) (tl : List Th) : Ts := tl.foldl Ts.gone ts
def Ts.partsN (ts : Ts) (tl : List Th) : Int := (tl.map fun t => ((ts.vs t).length : Int)).sum
theorem parts_snoc (ts : Ts) (tl : List Th) (t : Th) : ts.parts (tl ++ [t]) = (ts.parts tl).gone t := by
  unfold Ts.parts
  rw [List.foldl_append]
  rfl
theorem parts_kinds : ∀ (tl : List Th) (ts : Ts), (ts.parts tl).kinds = ts.kinds
  | [], _ => rfl
  | t :: tl, ts => parts_kinds tl (ts.gone t)
theorem parts_lk : ∀ (tl : List Th) (ts : Ts) (t : Th), lk (ts.parts tl).nums t = if t ∈ tl then none else lk ts.nums t
  | [], ts, t => by rw [if_neg (List.not_mem_nil)]; rfl
  | a :: tl, ts, t => by
    show lk ((ts.gone a).parts tl).nums t = _
    rw [parts_lk tl (ts.gone a) t]
    show (if t ∈ tl then none else lk (dp ts.nums a) t) = _
    rw [lk_dp]
    by_cases h1 : t ∈ tl
    · rw [if_pos h1, if_pos (List.mem_cons_of_mem _ h1)]
    · rw [if_neg h1]
      by_cases h2 : t = a
      · rw [if_pos h2, if_pos (by rw [h2]; exact List.mem_cons_self ..)]
      · rw [if_neg h2, if_neg (fun z => (List.mem_cons.mp z).elim h2 h1)]
def goneB (ds : Dims) (S : Hs) (t : Th) : Bool := (lk S.ts.kinds t).isNone && (fdays ds S.facts t).isEmpty
section
variable {P : Program} {w : World} {K : PySem.W.Frag} {mg : Str → Option Value} {base : Heap} {f : Addr} {fd : FuncData}
/-- the things turned, no more than their own objects -/
theorem HoX.turn {c : Cn} {MT MT' MS : Addr → Prop} {x dx p th kf tr wd : Addr} {ds : Dims} {ms : List Str} {S : Hs} {fa wa : Str → Addr} {rs : List V} {T : TB} {H H' : Hp} {ts' : Ts} (h : HoX K c H MT MS x ds ms S dx p th kf tr wd fa wa rs) (fr : Fr T MT H H') (nw : Nw MT MT' H) (o : ThO K c.CT H' MT' th p ts') :
    HoX K c H' MT' MS x ds ms { S with ts := ts' } dx p th kf tr wd fa wa rs ∧ Fr T (hoM MT MS kf tr wd) H H' ∧ Nw (hoM MT MS kf tr wd) (hoM MT' MS kf tr wd) H := by
  have live := h.live
  have a1 : ∀ b, MS b → ¬ MT' b := nw.apart h.pl.1 h.d1
  have ks : Keep MS H H' := fr.keep h.d1
  have one : ∀ b o, H b = some o → Chg o → ¬ MT b → ¬ MT' b := fun b o e c n m => (nw b m).elim n fun z => z o e c.noTb
  refine ⟨⟨ks.at h.hx trivial h.sx, h.sx, h.pl.keep ks, o, fr.at h.hf trivial h.f1, fun e he => (h.fi e he).keep ks, fr.at h.hr trivial h.r1, PySem.Paired.mono (fun _ _ => RwRef.keep ks) h.ri, fr.at h.hw trivial h.w1, fun e he => ⟨(h.wi e he).1, (h.wi e he).2.keep (h.wi e he).1 ks⟩, a1, one _ _ h.hf trivial h.f1, h.f2, one _ _ h.hr trivial h.r1, h.r2, one _ _ h.hw trivial h.w1, h.w2, h.fw⟩, fr.mono fun _ z => .inl z, fun b hb => ?_⟩
  rcases hb with hb | hb
  · exact (nw b hb).imp .inl id
  · exact .inl (.inr hb)
/-! ### House.part_from -/
def spPartF (K : PySem.W.Frag) (c : Cn) : Sp := fun vs H Q _ => ∃ (x l : Addr) (M : Addr → Prop) (ds : Dims) (ms : List Str) (S : Hs) (xs : List V) (tl : List Th), vs = [.ref x, .ref l] ∧ HoO K c H M x ds ms S ∧ H l = some (.lst xs) ∧ ¬ M l ∧ Paired (ThAt H) xs tl ∧ tl.length ≤ 10 ∧ tl.Nodup ∧ (∀ t ∈ tl, Tx t.1 ∧ Tx t.2 ∧ ∃ vers, lk S.ts.nums t = some vers) ∧ FOk ds S.facts ∧
  ∀ H', Fr (tbS c.Pt) M H H' → HoO K c H' M x ds ms { S with ts := S.ts.parts (tl.filter (goneB ds S)) } → Q (.int (S.ts.partsN (tl.filter (goneB ds S)))) H'
abbrev N_House_part_from : List Str := ["self", "things", "thing", "gone"]
theorem sc_House_part_from : FnScope N_House_part_from ["self", "things"] (defScope s_House_part_from) := ⟨rfl, rfl, rfl, by decide +kernel, rfl, by decide +kernel, by decide +kernel⟩
/-! slots: 0 self 1 things 2 thing 3 gone; cells: self -/
theorem ok_partF {c : Cn} {fD fP : Addr} {fdD fdP : FuncData} (F : FnP K "part_from" "House.part_from" s_House_part_from f fd) (TX : HsTxt K c.CH) (TT : ThTxt K c.CT) (mD : MFun P w K mg base c.CH "fact_days" 3 ["self", "thing"] (spFdays K c) fD fdD) (mP : MFun P w K mg base c.CT "part" 1 ["self", "thing"] (spPart K (tbS c.Pt) c.CT) fP fdP) (z_sum : mg "sum" = none) : FnOk P w K mg base CX0 4 f fd ["self", "things"] (spPartF K c) := by
  refine F.ok sc_House_part_from (fun vs H Q E h => ?_) (fun cdv A outer s H vs Q E hr h => ?_)
  · obtain ⟨x, l, M, ds, ms, S, xs, tl, rfl, _⟩ := h
    rfl
  · obtain ⟨x, l, M, ds, ms, S, xs, tl, rfl, ⟨MT, MS, dx, p, th, kf, tr, wd, fa, wa, rs, rfl, X⟩, hl, nl, pl, l10, ndp, hk, ok, k⟩ := h
    have nd := sc_House_part_from.nd
    have hu := hr.units
    have hu1 : (A.deeper (envOfC "House.part_from" (defScope s_House_part_from) s.heap.objs.size f cdv)).units + 1 < cLine := by omega
    refine ⟨_, PSs.nox (pss_cons (ps_setLc (i := 3) (own := [("thing", 2)]) (g := gName 2) (tt := tAnd (tB (tDNotIn (tVar 2) (tFld K (tFld K (tVar 0) "things") "kinds"))) (tNot (tTruth K (tMeth c.CH "fact_days" (spFdays K c) [] E0 (tVar 0) (tCons (tVar 2) tNil))))) (te := tVar 2) rfl nd rfl rfl (sw_true rfl rfl rfl (by decide +kernel)) (pi_list (pv 1)) (blkOk_by (own := [("thing", 2)]) (N := N_House_part_from) (sc := defScope s_House_part_from) (by decide +kernel))
        (fun _ _ _ _ _ => pg_name (i := 2) nd rfl (Or.inl rfl)) (fun _ _ _ _ _ => pts_one (PW.pt (pw_and (pt_cmp (pc_dnotin hu1 (pv 2) (pe_fld (pe_fld (pv 0) rfl) rfl))) (pw_and1 (pt_not (pt_truth (pe_meth (pv 0) mD.cl mD.m mD.G (hr.mono (by decide)) mD.b .nil pass0 (pa_cons (pv 2) pa_nil)) (by intro _; rfl))))))) (fun _ _ _ _ _ => pv 2))
      (pss_one (ps_ret (pe_callB (cr_sum rfl) (by rfl) z_sum (by decide +kernel) (pa_cons (pe_lc (own := [("thing", 2)]) (g := gName 2) (tt := tYes) (te := tMeth c.CT "part" (spPart K (tbS c.Pt) c.CT) [] E0 (tFld K (tVar 0) "things") (tCons (tVar 2) tNil)) rfl nd (pi_list (pv 3)) (blkOk_by (own := [("thing", 2)]) (N := N_House_part_from) (sc := defScope s_House_part_from) (by decide +kernel))
        (fun _ _ _ _ _ => pg_name (i := 2) nd rfl (Or.inl rfl)) (fun _ _ _ _ _ => pts_nil) (fun _ _ _ _ _ => pe_meth (pe_fld (pv 0) rfl) mP.cl mP.m mP.G (hr.mono (by decide)) mP.b .nil pass0 (pa_cons (pv 2) pa_nil))) pa_nil))))), ?_⟩
    have lxs : xs.length = tl.length := pl.length
    refine ⟨_, rfl, l, rfl, ⟨_, SqL.of hl⟩, fun D nD => ?_⟩
    refine lc_build (walk_list (K := K) (a := l)) nD (fun i ys R => Same H R ∧ Paired (ThAt R) ys ((tl.take i).filter (goneB ds S))) ⟨Same.refl _, .nil⟩ (fun _ _ _ _ z => SqL.of ((z.1.trans cd_sub) _ _ hl)) ?_ ?_
    · rintro i ys y R R' hi e ly ⟨sm, pz⟩ ⟨rfl, hy⟩
      obtain ⟨t, ht, r, rfl, h1⟩ := paired_at pl hy
      obtain ⟨t1, t2, _⟩ := hk t (List.mem_of_getElem? ht)
      have sR := sm.trans cd_sub
      have XR := X.same sR
      obtain ⟨dxt, kd, nb, ka, na, XT⟩ := XR.th.x
      have efl := flt_snoc (p := goneB ds S) ht
      refine ⟨rfl, _, rfl, _, rfl, x, c.CH, dx, _, _, rfl, XR.hx, TX.cl, TX.nT, hs_things p th kf tr wd, th, c.CT, dxt, _, _, rfl, XT.hx, TT.cl, TT.nK, th_kinds p kd nb _, kd, _, rfl, DGet.t (k := thK t) XT.hk (sR _ _ h1), _, rfl, ?_⟩
      rw [val_map (r := fun t => V.ref (ka t)) thK_inj]
      have gb : goneB ds S t = ((lk S.ts.kinds t).isNone && (fdays ds S.facts t).isEmpty) := rfl
      cases hlk : lk S.ts.kinds t with
      | some ks =>
        refine iteF ?_
        refine iteF (LcNx.skip e ly ⟨sm, ?_⟩)
        rw [efl, gb, hlk]
        show Paired _ _ (_ ++ [])
        rw [List.append_nil]
        exact pz
      | none =>
        refine iteT ?_
        refine ⟨_, rfl, x, dx, _, rfl, XR.hx, hs_no (by decide +kernel), _, rfl, x, r, _, ds, ms, S, t, rfl, XR.o, sR _ _ h1, ok, t1, t2, fun lf H2 s2 nlf elf => ?_⟩
        refine ⟨_, .inl ⟨_, SqL.of elf, rfl⟩, ?_⟩
        have e2 := s2 _ _ e
        have pz2 := PySem.Paired.mono (fun _ _ => ThAt.same (cd_same (D := D) s2)) pz
        rw [List.isEmpty_map]
        cases hem : (fdays ds S.facts t).isEmpty with
        | false =>
          refine iteF (LcNx.skip e2 ly ⟨sm.trans (cd_same s2), ?_⟩)
          rw [efl, gb, hlk, hem]
          show Paired _ _ (_ ++ [])
          rw [List.append_nil]
          exact pz2
        | true =>
          refine iteT ⟨_, rfl, LcNx.add e2 ly (by omega) ⟨sm.trans (cd_same s2), ?_⟩⟩
          rw [efl, gb, hlk, hem]
          refine PySem.Paired.snoc pz2 ⟨r, rfl, cd_of ((sR.trans s2) _ _ h1) (fun z => ?_)⟩
          have h5 := (sR.trans s2) _ _ h1
          rw [z, e2] at h5
          cases h5
    · rintro gs H2 e ly ⟨sm, pz⟩
      rw [lxs, List.take_length] at pz
      have s2 : Same H H2 := sm.trans cd_sub
      have X2 := X.same s2
      have pg : Paired (ThAt H2) gs (tl.filter (goneB ds S)) := PySem.Paired.mono (fun _ _ => ThAt.same cd_sub) pz
      generalize hgl : tl.filter (goneB ds S) = gl at *
      have gsub : gl.Sublist tl := by rw [← hgl]; exact List.filter_sublist
      have gnd : gl.Nodup := ndp.sublist gsub
      have lgs : gs.length = gl.length := pg.length
      have lgl : gl.length ≤ 10 := Nat.le_trans gsub.length_le l10
      have nMD : ¬ MT D := fun m => X.live.notN nD (.inl m)
      refine set_sl (σ' := [some (.ref x), some (.ref l), none, some (.ref D)]) rfl ?_
      refine ⟨_, rfl, D, rfl, ⟨_, SqL.of e⟩, fun D2 nD2 => ?_⟩
      have nM2 : ¬ MT D2 := fun m => X2.live.notN nD2 (.inl m)
      have nDD : D ≠ D2 := fun z => by rw [← z, e] at nD2; cases nD2
      refine lc_build (walk_list (K := K) (a := D) (xs := gs)) nD2 (fun i ys R => ys = ((gl.take i).map fun t => V.int ((S.ts.vs t).length : Int)) ∧ ThO K c.CT R MT th p (S.ts.parts (gl.take i)) ∧ Fr (tbS c.Pt) MT H2 R) ⟨rfl, X2.th, Fr.refl⟩ (fun i ys R _ z => ?_) ?_ ?_
      · exact SqL.of (cd_sub _ _ (z.2.2.at e trivial nMD))
      · rintro i ys y R R' hi e3 ly3 ⟨rfl, hT3, fr3⟩ ⟨rfl, hy⟩
        obtain ⟨t, ht, r, rfl, h1⟩ := paired_at pg hy
        obtain ⟨_, _, vers, hv⟩ := hk t (gsub.subset (List.mem_of_getElem? ht))
        have hv2 : lk (S.ts.parts (gl.take i)).nums t = some vers := by
          rw [parts_lk, if_neg (fun z => ?_), hv]
          obtain ⟨j, hj, ej⟩ := List.mem_iff_getElem.mp z
          obtain ⟨g1, g2⟩ := List.getElem?_eq_some_iff.mp ht
          rw [List.length_take] at hj
          rw [List.getElem_take] at ej
          have := (List.getElem_inj gnd).mp (ej.trans g2.symm)
          omega
        have hxR : R' x = some (.ins c.CH dx (hsF p th kf tr wd)) := cd_sub _ _ (fr3.at X2.hx trivial (X.d1 x X.sx))
        obtain ⟨dxt, kd, nb, ka, na, XT⟩ := hT3.x
        refine ⟨rfl, yes ?_⟩
        refine ⟨_, rfl, x, c.CH, dx, _, _, rfl, hxR, TX.cl, TX.nT, hs_things p th kf tr wd, th, dxt, _, rfl, cd_sub _ _ XT.hx, th_no (by decide +kernel) (by decide +kernel) (by decide +kernel) (by decide +kernel), _, rfl, th, p, r, MT, _, t, vers, rfl, hT3.same cd_sub, cd_sub _ _ (fr3.tup h1), hv2, fun H5 f5 O5 => ?_⟩
        have e5 : H5 D2 = some (.lst (List.map (fun t => V.int ((S.ts.vs t).length : Int)) (gl.take i))) := f5.at e3 trivial nM2
        refine LcNx.add e5 ly3 (by omega) ⟨?_, ?_, fr3.trans (f5.cd e5)⟩
        · have ev : ((vers.length : Nat) : Int) = ((S.ts.vs t).length : Int) := by unfold Ts.vs; rw [hv]; rfl
          rw [ev]
          exact take_snoc (g := fun t => V.int ((S.ts.vs t).length : Int)) ht
        · obtain ⟨g1, g2⟩ := List.getElem?_eq_some_iff.mp ht
          rw [List.take_succ_eq_append_getElem g1, g2, parts_snoc]
          exact O5.keep (keep_cd e5 nM2)
      · rintro ys H3 e3 ly3 ⟨rfl, hT3, fr3⟩
        rw [lgs, List.take_length] at e3 hT3
        refine ⟨D2, gl.map fun t => ((S.ts.vs t).length : Int), rfl, SqL.of (by rw [List.map_map]; exact e3), ?_⟩
        have f3 : Fr (tbS c.Pt) MT H2 H3 := fr3.trans (Fr.of cd_sub)
        obtain ⟨X3, F3, _⟩ := X2.turn f3 Nw.refl (hT3.same cd_sub)
        exact k H3 ((Fr.of s2).trans F3) X3.o
end
end Kd

namespace Kd
open PySem PySem.Spec PyProof.Rows L2 LamX
def Ts.taken (ts : Ts) (ws : List Str) (t : Th) (day : Int) (vals : List Fv) : Ts := (ts.kept t day vals).anew ws t
def ledN (ds : Dims) (S : Hs) (ts' : Ts) (t : Th) : Nat := ((((fdays ds S.facts t).map fun y => ts'.numOn t y).zip ((fdays ds S.facts t).map fun y => S.ts.numOn t y)).filter fun p => !decide (p.1 = p.2)).length
/-- the things of the facts are known -/
def FKn (ds : Dims) (S : Hs) : Prop := ∀ e ∈ S.facts, ∀ t ∈ thOf ds e.2.keys, ∃ vers, lk S.ts.nums t = some vers
theorem fdays_mem {ds : Dims} {fs : List (Str × Fct)} {t : Th} {y : Int} (h : y ∈ fdays ds fs t) : ∃ e ∈ fs, t ∈ thOf ds e.2.keys := by
  unfold fdays at h
  obtain ⟨e, he, _⟩ := List.mem_map.mp h
  obtain ⟨h1, h2⟩ := List.mem_filter.mp he
  exact ⟨e, h1, of_decide_eq_true h2⟩
theorem fdays_len (ds : Dims) (fs : List (Str × Fct)) (t : Th) : (fdays ds fs t).length ≤ fs.length := by
  unfold fdays
  rw [List.length_map]
  exact List.length_filter_le _ _
theorem TsOk.known {ds : Dims} {ts : Ts} {n m : Nat} (h : TsOk ds ts n m) (hn : n ≤ 3000) {t : Th} {vers : List Ver} (e : lk ts.nums t = some vers) (day : Int) : Known ts day t := by
  obtain ⟨ver, hv⟩ := h.on e day
  have h1 := h.vs_le t
  unfold Ts.vs at h1
  rw [e] at h1
  have h2 : vers.length ≤ n + 1 := h1
  exact ⟨vers, ver, e, by omega, hv⟩
theorem anew_lk (ts : Ts) (ws : List Str) (t : Th) : lk (ts.anew ws t).nums t = some (numS (oldOf (ts.vs t)) ts.given (sv ws (ts.ks t))).1 := by
  unfold Ts.anew
  show lk (pt ts.nums t _) t = _
  rw [lk_pt, if_pos rfl]
theorem ints_of {xs : List Int} {i : Nat} {x : V} (h : (xs.map V.int)[i]? = some x) : ∃ z, x = .int z ∧ xs[i]? = some z := by
  rw [List.getElem?_map] at h
  obtain ⟨z, h1, h2⟩ := Option.map_eq_some_iff.mp h
  exact ⟨z, h2.symm, h1⟩
section
variable {P : Program} {w : World} {K : PySem.W.Frag} {mg : Str → Option Value} {base : Heap} {f : Addr} {fd : FuncData}
/-! ### House.take_kind -/
def spHKind (K : PySem.W.Frag) (c : Cn) : Sp := fun vs H Q _ => ∃ (x r q : Addr) (M : Addr → Prop) (ds : Dims) (ms : List Str) (S : Hs) (t : Th) (d : Str × List (Str × Str)) (day : Int) (vals : List Fv) (n m : Nat), vs = [.ref x, .ref r, .int day, .ref q] ∧ HoO K c H M x ds ms S ∧ H r = some (.tup [.str t.1, .str t.2]) ∧ SqT K H q (vals.map Fv.v) ∧
  FOk ds S.facts ∧ Tx t.1 ∧ Tx t.2 ∧ inD ds t d ∧ vals.length = d.2.length ∧ TsOk ds S.ts n m ∧ n < 199 ∧ m < 3999 ∧ FKn ds S ∧ Tabs (tbS c.Pt) H ∧
  ∀ H' M' r', Fr (tbS c.Pt) M H H' → Nw M M' H → HoO K c H' M' x ds ms { S with ts := S.ts.taken (d.2.map (·.2)) t day vals } → H' r' = some (.tup [.str "kind", .int ((S.ts.kept t day vals).came (d.2.map (·.2)) t), .int ((S.ts.kept t day vals).went (d.2.map (·.2)) t), .int (ledN ds S (S.ts.taken (d.2.map (·.2)) t day vals) t)]) → Q (.ref r') H'
abbrev N_House_take_kind : List Str := ["self", "thing", "day", "values", "days", "fact_day", "ahead", "came", "went", "behind", "number", "old", "led"]
theorem sc_House_take_kind : FnScope N_House_take_kind ["self", "thing", "day", "values"] (defScope s_House_take_kind) := ⟨rfl, rfl, rfl, by decide +kernel, rfl, by decide +kernel, by decide +kernel⟩
/-! slots: 0 self 1 thing 2 day 3 values 4 days 5 fact_day 6 ahead 7 came 8 went 9 behind 10 number 11 old 12 led; cells: self thing -/
theorem ok_hkind {c : Cn} {fD fV fT : Addr} {fdD fdV fdT : FuncData} (F : FnP K "take_kind" "House.take_kind" s_House_take_kind f fd) (TX : HsTxt K c.CH) (mD : MFun P w K mg base c.CH "fact_days" 3 ["self", "thing"] (spFdays K c) fD fdD) (mV : MFun P w K mg base c.CT "version_on" 1 ["self", "thing", "day"] (spVerOn K c.CT) fV fdV) (mT : MFun P w K mg base c.CT "take_kind" 6 ["self", "thing", "day", "values"] (spTakeK K c.Pt c.CT c.CP) fT fdT)
    (z_len : mg "len" = none) (z_zip : mg "zip" = none) : FnOk P w K mg base CX0 7 f fd ["self", "thing", "day", "values"] (spHKind K c) := by
  refine F.ok sc_House_take_kind (fun vs H Q E h => ?_) (fun cdv A outer s H vs Q E hr h => ?_)
  · obtain ⟨x, r, q, M, ds, ms, S, t, d, day, vals, n, m, rfl, _⟩ := h
    rfl
  · obtain ⟨x, r, q, M, ds, ms, S, t, d, day, vals, n, m, rfl, ⟨MT, MS, dx, p, th, kf, tr, wd, fa, wa, rs, rfl, X⟩, hr2, hq, ok, t1, t2, hd, hv, tok, hn, hm, fkn, hT, k⟩ := h
    have nd := sc_House_take_kind.nd
    generalize hcm : (S.ts.kept t day vals).came (d.2.map (·.2)) t = cm at k
    generalize hwn : (S.ts.kept t day vals).went (d.2.map (·.2)) t = wn at k
    refine ⟨_, PSs.nox (pss_cons (ps_set (i := 4) nd rfl (Or.inl rfl) (pe_meth (pv 0) mD.cl mD.m mD.G (hr.mono (by decide)) mD.b .nil pass0 (pa_cons (pv 1) pa_nil)))
      (pss_cons (ps_setLc (i := 6) (own := [("fact_day", 5)]) (g := gName 5) (tt := tYes) (te := tOp (rIxT K) (tMeth c.CT "version_on" (spVerOn K c.CT) [] E0 (tFld K (tVar 0) "things") (tCons (tVar 1) (tCons (tVar 5) tNil))) (tC (.int 0))) rfl nd rfl rfl (sw_true rfl rfl rfl (by decide +kernel)) (pi_list (pv 4)) (blkOk_by (own := [("fact_day", 5)]) (N := N_House_take_kind) (sc := defScope s_House_take_kind) (by decide +kernel))
        (fun _ _ _ _ _ => pg_name (i := 5) nd rfl (Or.inl rfl)) (fun _ _ _ _ _ => pts_nil) (fun _ _ _ _ _ => pe_ix ix_tup (pe_meth (pe_fld (pv 0) rfl) mV.cl mV.m mV.G (hr.mono (by decide)) mV.b .nil pass0 (pa_cons (pv 1) (pa_cons (pv 5) pa_nil))) pe_int (fun _ _ => rfl)))
      (pss_cons (ps_asg (pe_meth (pe_fld (pv 0) rfl) mT.cl mT.m mT.G (hr.mono (by decide)) mT.b .nil pass0 (pa_cons (pv 1) (pa_cons (pv 2) (pa_cons (pv 3) pa_nil)))) (pg_tup rfl (pgs_cons (pg_name (i := 7) nd rfl (Or.inl rfl)) (pgs_cons (pg_name (i := 8) nd rfl (Or.inl rfl)) pgs_nil))))
      (pss_cons (ps_setLc (i := 9) (own := [("fact_day", 5)]) (g := gName 5) (tt := tYes) (te := tOp (rIxT K) (tMeth c.CT "version_on" (spVerOn K c.CT) [] E0 (tFld K (tVar 0) "things") (tCons (tVar 1) (tCons (tVar 5) tNil))) (tC (.int 0))) rfl nd rfl rfl (sw_true rfl rfl rfl (by decide +kernel)) (pi_list (pv 4)) (blkOk_by (own := [("fact_day", 5)]) (N := N_House_take_kind) (sc := defScope s_House_take_kind) (by decide +kernel))
        (fun _ _ _ _ _ => pg_name (i := 5) nd rfl (Or.inl rfl)) (fun _ _ _ _ _ => pts_nil) (fun _ _ _ _ _ => pe_ix ix_tup (pe_meth (pe_fld (pv 0) rfl) mV.cl mV.m mV.G (hr.mono (by decide)) mV.b .nil pass0 (pa_cons (pv 1) (pa_cons (pv 5) pa_nil))) pe_int (fun _ _ => rfl)))
      (pss_cons (ps_set (i := 12) nd rfl (Or.inl rfl) (pe_callB call_len_seq (by rfl) z_len boot_len (pa_cons (pe_lc (own := [("number", 10), ("old", 11)]) (g := gTup K 2 (gCons (gName 10) (gCons (gName 11) gNil))) (tt := tTest (tOp rNe (tVar 10) (tVar 11))) (te := tVar 10) rfl nd (pi_zip rfl z_zip (pa_cons (pv 9) (pa_cons (pv 6) pa_nil))) (blkOk_by (own := [("number", 10), ("old", 11)]) (N := N_House_take_kind) (sc := defScope s_House_take_kind) (by decide +kernel))
        (fun _ _ _ _ _ => pg_tup rfl (pgs_cons (pg_name (i := 10) nd rfl (Or.inl rfl)) (pgs_cons (pg_name (i := 11) nd rfl (Or.inl rfl)) pgs_nil))) (fun _ _ _ _ _ => pts_one (pt_cmpR op_ne (pv 10) (pv 11) (nomark _))) (fun _ _ _ _ _ => pv 10)) pa_nil)))
      (pss_one (ps_ret (pe_tup (pa_cons pe_str (pa_cons (pv 7) (pa_cons (pv 8) (pa_cons (pv 12) pa_nil)))))))))))), ?_⟩
    refine ⟨_, rfl, x, dx, _, rfl, X.hx, hs_no (by decide +kernel), _, rfl, x, r, _, ds, ms, S, t, rfl, X.o, hr2, ok, t1, t2, fun ld H1 s1 nld eld => ?_⟩
    have X1 := X.same s1
    have ldy : (fdays ds S.facts t).length ≤ 200 := Nat.le_trans (fdays_len _ _ _) ok.fl
    generalize hdy : fdays ds S.facts t = dys at *
    have nMl : ¬ MT ld := fun z => X.live.notN nld (.inl z)
    refine set_sl (σ' := [some (.ref x), some (.ref r), some (.int day), some (.ref q), some (.ref ld), none, none, none, none, none, none, none, none]) rfl ?_
    refine ⟨_, rfl, ld, rfl, ⟨_, SqL.of eld⟩, fun D nD => ?_⟩
    -- the numbers of these days in a heap that has the things
    have turn : ∀ (R0 : Hp) (MT0 : Addr → Prop) (ts : Ts) (D : Addr), (∀ y ∈ dys, Known ts y t) → R0 x = some (.ins c.CH dx (hsF p th kf tr wd)) → ThO K c.CT R0 MT0 th p ts → R0 r = some (.tup [.str t.1, .str t.2]) → ∀ (i : Nat) (zs : List V) (y : V) (R : Hp) (σ : L2.St), i < (dys.map V.int).length → R D = some (.lst zs) → zs.length ≤ i → Same R0 (cd D R) ∧ zs = ((dys.take i).map fun y => V.int (ts.numOn t y)) → (dys.map V.int)[i]? = some y → σ[0]? = some (some (.ref x)) → σ[1]? = some (some (.ref r)) → σ[5]? = some (some y) →
        tOp (rIxT K) (tMeth c.CT "version_on" (spVerOn K c.CT) [] E0 (tFld K (tVar 0) "things") (tCons (tVar 1) (tCons (tVar 5) tNil))) (tC (.int 0)) σ R fun z H4 => ∃ acc, H4 D = some (.lst acc) ∧ acc.length < sizeLine ∧ LcNx D (fun i ys R => Same R0 R ∧ ys = (dys.take i).map fun y => V.int (ts.numOn t y)) (i + 1) (upd H4 D (.lst (acc ++ [z]))) := by
      intro R0 MT0 ts D kn hx0 hO0 hr0 i zs y R σ hi e ly ⟨sm, ez⟩ hy σ0 σ1 σ5
      obtain ⟨yi, rfl, hyi⟩ := ints_of hy
      obtain ⟨vers, ver, k1, k2, k3⟩ := kn yi (List.mem_of_getElem? hyi)
      have sR := sm.trans cd_sub
      obtain ⟨dxt, kd, nb, ka, na, XT⟩ := (hO0.same sR).x
      refine ⟨_, σ0, x, c.CH, dx, _, _, rfl, sR _ _ hx0, TX.cl, TX.nT, hs_things p th kf tr wd, th, dxt, _, rfl, XT.hx, th_no (by decide +kernel) (by decide +kernel) (by decide +kernel) (by decide +kernel), _, σ1, _, σ5, th, p, r, MT0, yi, t, ts, vers, ver, rfl, XT.o, sR _ _ hr0, k1, k2, k3, fun v H2 s2 hv => ?_⟩
      obtain ⟨qv, yv, rfl, hqv, _, _⟩ := hv
      rw [List.length_map] at hi
      refine ⟨qv, _, _, _, rfl, rfl, SqT.of hqv, atI_nat (j := 0) rfl, LcNx.add (s2 _ _ e) ly (by omega) ⟨sm.trans (cd_same s2), ?_⟩⟩
      rw [ez, ← numOn_of k1 k3]
      exact take_snoc (g := fun y => V.int (ts.numOn t y)) hyi
    have kn1 : ∀ y ∈ dys, Known S.ts y t := fun y hy => by
      obtain ⟨e, he, ht⟩ := fdays_mem (by rw [hdy]; exact hy)
      obtain ⟨vers, hvv⟩ := fkn e he t ht
      exact tok.known (by omega) hvv y
    refine lc_build (walk_list (K := K) (a := ld) (xs := dys.map V.int)) nD (fun i ys R => Same H1 R ∧ ys = (dys.take i).map fun y => V.int (S.ts.numOn t y)) ⟨Same.refl _, rfl⟩ (fun _ _ _ _ z => SqL.of ((z.1.trans cd_sub) _ _ eld)) ?_ ?_
    · rintro i zs y R R' hi e ly hP ⟨rfl, hy⟩
      exact ⟨rfl, yes (turn H1 MT S.ts D kn1 X1.hx X1.th (s1 _ _ hr2) i zs y R' _ hi e ly hP hy rfl rfl rfl)⟩
    · rintro zs H2 e2 ly ⟨sm, rfl⟩
      rw [List.length_map, List.take_length] at e2
      have s12 : Same H1 H2 := sm.trans cd_sub
      have s02 := s1.trans s12
      have X2 := X.same s02
      have nMD : ¬ MT D := fun z => X1.live.notN nD (.inl z)
      refine set_sl (σ' := [some (.ref x), some (.ref r), some (.int day), some (.ref q), some (.ref ld), none, some (.ref D), none, none, none, none, none, none]) rfl ?_
      obtain ⟨dxt, kd, nb, ka, na, XT⟩ := X2.th.x
      refine ⟨_, rfl, x, c.CH, dx, _, _, rfl, X2.hx, TX.cl, TX.nT, hs_things p th kf tr wd, th, dxt, _, rfl, XT.hx, th_no (by decide +kernel) (by decide +kernel) (by decide +kernel) (by decide +kernel), _, rfl, _, rfl, _, rfl, th, p, r, q, MT, MS, S.ts, ds, ms, t, d, day, vals, rfl, X2.th, X2.pl, X.d1, s02 _ _ hr2, Same.seqT s02 hq, tok.kept_num (by omega) (by omega) hd hv, ?_, ?_, hT.ext s02, fun H3 MT3 v3 q3 f3 nw3 O3 ev3 hq3 => ?_⟩
      · have := tok.kl; omega
      · have := tok.ks_le t; omega
      subst ev3
      rw [hcm, hwn] at hq3
      obtain ⟨X3, F3, NW3⟩ := X2.turn f3 nw3 O3
      refine ⟨q3, _, rfl, SqT.of hq3, rfl, _, _, rfl, _, _, rfl, rfl, ?_⟩
      generalize hts : ({ S with ts := (S.ts.kept t day vals).anew (d.2.map (·.2)) t } : Hs) = S3 at X3
      have ets : S3.ts = S.ts.taken (d.2.map (·.2)) t day vals := by rw [← hts]; rfl
      have eld3 : H3 ld = some (.lst (dys.map V.int)) := f3.at (s12 _ _ eld) trivial nMl
      have eD3 : H3 D = some (.lst (dys.map fun y => V.int (S.ts.numOn t y))) := f3.at e2 trivial nMD
      refine sl_eq (σ' := [some (.ref x), some (.ref r), some (.int day), some (.ref q), some (.ref ld), none, some (.ref D), some (.int cm), some (.int wn), none, none, none, none]) rfl ?_
      refine ⟨_, rfl, ld, rfl, ⟨_, SqL.of eld3⟩, fun D4 nD4 => ?_⟩
      have kn3 : ∀ y ∈ dys, Known S3.ts y t := fun y hy => by
        rw [ets]
        exact (tok.taken hd hv).known (by omega) (anew_lk _ _ _) y
      refine lc_build (walk_list (K := K) (a := ld) (xs := dys.map V.int)) nD4 (fun i ys R => Same H3 R ∧ ys = (dys.take i).map fun y => V.int (S3.ts.numOn t y)) ⟨Same.refl _, rfl⟩ (fun _ _ _ _ z => SqL.of ((z.1.trans cd_sub) _ _ eld3)) ?_ ?_
      · rintro i zs y R R' hi e ly hP ⟨rfl, hy⟩
        exact ⟨rfl, yes (turn H3 MT3 S3.ts D4 kn3 X3.hx X3.th (f3.tup (s02 _ _ hr2)) i zs y R' _ hi e ly hP hy rfl rfl rfl)⟩
      · rintro zs H4 e4 ly4 ⟨sm4, rfl⟩
        rw [List.length_map, List.take_length] at e4
        have s34 : Same H3 H4 := sm4.trans cd_sub
        refine set_sl (σ' := [some (.ref x), some (.ref r), some (.int day), some (.ref q), some (.ref ld), none, some (.ref D), some (.int cm), some (.int wn), some (.ref D4), none, none, none]) rfl ?_
        refine ⟨_, rfl, _, rfl, D4, D, _, _, rfl, SqL.of e4, SqL.of (s34 _ _ eD3), fun D5 nD5 => ?_⟩
        refine lc_build (walk_zip (K := K) (a := D4) (b := D) (xs := dys.map fun y => V.int (S3.ts.numOn t y)) (ys := dys.map fun y => V.int (S.ts.numOn t y)) rfl) nD5 (fun i ys R => Same H4 R ∧ ys.length = ((((dys.map fun y => S3.ts.numOn t y).zip (dys.map fun y => S.ts.numOn t y)).take i).filter fun p => !decide (p.1 = p.2)).length) ⟨Same.refl _, rfl⟩ (fun _ _ _ _ z => ⟨SqL.of ((z.1.trans cd_sub) _ _ e4), SqL.of ((z.1.trans cd_sub) _ _ (s34 _ _ eD3))⟩) ?_ ?_
        · rintro i zs y R R' hi e ly ⟨sm5, ez⟩ ⟨T0, a, b, rfl, nT, rfl, ga, gb⟩
          have ga : (dys.map fun y => V.int (S3.ts.numOn t y))[i]? = some a := ga
          have gb : (dys.map fun y => V.int (S.ts.numOn t y))[i]? = some b := gb
          rw [List.getElem?_map] at ga gb
          obtain ⟨yi, h1, rfl⟩ := Option.map_eq_some_iff.mp ga
          obtain ⟨yj, h2, rfl⟩ := Option.map_eq_some_iff.mp gb
          rw [h1] at h2
          cases h2
          generalize eT : upd R T0 _ = R1
          obtain ⟨sT, eT0⟩ := new_of nT eT
          have e5 := sT _ _ e
          have hz : (((dys.map fun y => S3.ts.numOn t y).zip (dys.map fun y => S.ts.numOn t y)))[i]? = some (S3.ts.numOn t yi, S.ts.numOn t yi) := by
            rw [List.getElem?_zip_eq_some]
            exact ⟨by rw [List.getElem?_map, h1]; rfl, by rw [List.getElem?_map, h1]; rfl⟩
          have efl := flt_snoc (p := fun p : Int × Int => !decide (p.1 = p.2)) hz
          refine ⟨T0, _, rfl, SqT.of eT0, rfl, _, _, rfl, _, _, rfl, rfl, rfl, _, rfl, _, rfl, rfl, _, rfl, ?_⟩
          have li : i < 4000 := by
            rw [List.length_map, List.length_map] at hi
            omega
          by_cases ce : S3.ts.numOn t yi = S.ts.numOn t yi
          · rw [ce, decide_eq_true rfl]
            refine iteF (LcNx.skip e5 ly ⟨sm5.trans (cd_same sT), ?_⟩)
            rw [efl, if_neg (by simp [ce]), List.append_nil]
            exact ez
          · have ce2 : ¬ V.int (S3.ts.numOn t yi) = V.int (S.ts.numOn t yi) := fun z => ce (V.int.inj z)
            rw [decide_eq_false ce2]
            refine iteT ⟨_, rfl, LcNx.add e5 ly li ⟨sm5.trans (cd_same sT), ?_⟩⟩
            rw [efl, if_pos (by simp [ce]), List.length_append, List.length_append, ez]
            rfl
        · rintro zs H5 e5 ly5 ⟨sm5, ez⟩
          have s45 : Same H4 H5 := sm5.trans cd_sub
          refine ⟨D5, zs, rfl, .inl (SqL.of e5), ?_⟩
          refine set_sl (σ' := [some (.ref x), some (.ref r), some (.int day), some (.ref q), some (.ref ld), none, some (.ref D), some (.int cm), some (.int wn), some (.ref D4), none, none, some (.int zs.length)]) rfl ?_
          refine ⟨_, rfl, _, rfl, _, rfl, by show 4 ≤ sizeLine; decide, fun r' nr' => ?_⟩
          generalize e6 : upd H5 r' _ = H6
          obtain ⟨s6, er6⟩ := new_of nr' e6
          have s36 := (s34.trans s45).trans s6
          have el : zs.length = ledN ds S (S.ts.taken (d.2.map (·.2)) t day vals) t := by
            rw [ez]
            unfold ledN
            rw [hdy, ← ets]
            rw [List.take_of_length_le (by simp [List.length_zip])]
          rw [el] at er6
          refine k H6 (hoM MT3 MS kf tr wd) r' (((Fr.of s02).trans F3).trans (Fr.of s36)) (fun b hb => (NW3 b hb).imp id fun z o e nt => z o (s02 _ _ e) nt) ?_ er6
          have X6 := (X3.same s36).o
          rw [← hts] at X6
          exact X6
end
end Kd

namespace Kd
open PySem PySem.Spec PyProof.Rows L2 LamX
/-! ### things met -/
def meetStep (ds : Dims) (acc : Ts × List Int) (t : Th) : Ts × List Int := (acc.1.meet (wsOf ds t.1) t, acc.2 ++ [acc.1.meetN (wsOf ds t.1) t])
def Ts.meetF (ds : Dims) (ts : Ts) (tl : List Th) : Ts × List Int := tl.foldl (meetStep ds) (ts, [])
theorem meetF_take {ds : Dims} {ts : Ts} {tl : List Th} {i : Nat} {t : Th} (h : tl[i]? = some t) : ts.meetF ds (tl.take (i + 1)) = meetStep ds (ts.meetF ds (tl.take i)) t := by
  obtain ⟨h1, h2⟩ := List.getElem?_eq_some_iff.mp h
  unfold Ts.meetF
  rw [List.take_succ_eq_append_getElem h1, List.foldl_append, h2]
  rfl
theorem meet_known {ts : Ts} {ws : List Str} {t t' : Th} (h : (lk ts.nums t').isSome = true ∨ t' = t) : (lk (ts.meet ws t).nums t').isSome = true := by
  unfold Ts.meet
  split
  · rename_i h2
    rcases h with h | rfl
    · exact h
    · exact h2
  · by_cases e : t' = t
    · rw [e, anew_lk]; rfl
    · show (lk (pt ts.nums t _) t').isSome = true
      rw [lk_pt, if_neg e]
      exact h.resolve_right e
theorem meetG_known {ds : Dims} {t' : Th} : ∀ (tl : List Th) (acc : Ts × List Int), (lk acc.1.nums t').isSome = true ∨ t' ∈ tl → (lk (tl.foldl (meetStep ds) acc).1.nums t').isSome = true
  | [], acc, h => h.resolve_right List.not_mem_nil
  | t :: tl, acc, h => by
    rw [List.foldl_cons]
    refine meetG_known tl _ ?_
    rcases h with h | h
    · exact .inl (meet_known (.inl h))
    · rcases List.mem_cons.mp h with h | h
      · exact .inl (meet_known (.inr h))
      · exact .inr h
theorem meetF_known {ds : Dims} {ts : Ts} {tl : List Th} {t' : Th} (h : (lk ts.nums t').isSome = true ∨ t' ∈ tl) : (lk (ts.meetF ds tl).1.nums t').isSome = true := meetG_known tl (ts, []) h
theorem meetF_ok {ds : Dims} {ts : Ts} {n m : Nat} (h : TsOk ds ts n m) {tl : List Th} (hd : ∀ t ∈ tl, ∃ d, inD ds t d) : ∀ i, i ≤ tl.length → TsOk ds (ts.meetF ds (tl.take i)).1 n (m + i)
  | 0, _ => h
  | i + 1, hi => by
    have g1 : i < tl.length := by omega
    have e : tl[i]? = some tl[i] := List.getElem?_eq_getElem g1
    rw [meetF_take e]
    obtain ⟨d, h2⟩ := hd tl[i] (List.getElem_mem g1)
    show TsOk ds (Ts.meet (wsOf ds tl[i].1) _ tl[i]) n (m + (i + 1))
    rw [wsOf_some h2]
    exact (meetF_ok h hd i (by omega)).meet h2
def oldTh (ds : Dims) (S : Hs) (name : Str) : List Th := match lk S.facts name with
  | some fc => thOf ds fc.keys
  | none => []
theorem zip_fst_sub {α β : Type} : ∀ (l : List α) (k : List β), ((l.zip k).map (·.1)).Sublist l
  | [], _ => by simp
  | a :: l, [] => by simp
  | a :: l, b :: k => by
    rw [List.zip_cons_cons, List.map_cons]
    exact (zip_fst_sub l k).cons_cons a
theorem thOf_nodup {ds : Dims} (h : (ds.map (·.1)).Nodup) (keys : List Str) : (thOf ds keys).Nodup := by
  have e : ((thOf ds keys).map (·.1)).Nodup := by
    exact h.sublist (zip_fst_sub _ _)
  exact List.Pairwise.of_map (·.1) (fun a b h z => h (by rw [z])) e
theorem find_dim {ds : Dims} (h : (ds.map (·.1)).Nodup) {d : Str × List (Str × Str)} (hd : d ∈ ds) : ds.find? (fun e => decide (e.1 = d.1)) = some d := by
  induction ds with
  | nil => cases hd
  | cons a l ih =>
    rw [List.map_cons, List.nodup_cons] at h
    rcases List.mem_cons.mp hd with rfl | hd
    · rw [List.find?_cons_of_pos (by simp)]
    · have ne : ¬ a.1 = d.1 := fun z => h.1 (by rw [z]; exact List.mem_map_of_mem (f := (·.1)) hd)
      rw [List.find?_cons_of_neg (by simp [ne])]
      exact ih h.2 hd
theorem thOf_in {ds : Dims} (h : (ds.map (·.1)).Nodup) {keys : List Str} {t : Th} (ht : t ∈ thOf ds keys) : ∃ d, inD ds t d := by
  obtain ⟨⟨d, hd, e⟩, _⟩ := thOf_mem ht
  refine ⟨d, ?_⟩
  unfold inD
  rw [← e]
  exact find_dim h hd
theorem thOf_len (ds : Dims) (keys : List Str) : (thOf ds keys).length ≤ ds.length := by
  unfold thOf
  rw [List.length_zip, List.length_map]
  omega
section
variable {P : Program} {w : World} {K : PySem.W.Frag} {mg : Str → Option Value} {base : Heap} {f : Addr} {fd : FuncData}
theorem HoX.keepF {c : Cn} {MT MS : Addr → Prop} {x dx p th kf tr wd : Addr} {ds : Dims} {ms : List Str} {S : Hs} {fa wa : Str → Addr} {rs : List V} {H : Hp} (h : HoX K c H MT MS x ds ms S dx p th kf tr wd fa wa rs) (o : HO) : Keep (fun b => b ≠ kf) H (upd H kf o) := fun b u eb tb q => by
  by_cases z : b = kf
  · rw [z, h.hf] at eb
    cases eb
    exact q.elim (fun q => absurd q (Chg.notT trivial)) fun q => absurd z q
  · rw [upd_ne z]; exact eb
/-- the facts turned -/
theorem HoX.facts {c : Cn} {MT MS : Addr → Prop} {x dx p th kf tr wd : Addr} {ds : Dims} {ms : List Str} {S : Hs} {fa fa' wa : Str → Addr} {rs : List V} {H H' : Hp} {fs : List (Str × Fct)} (h : HoX K c H MT MS x ds ms S dx p th kf tr wd fa wa rs) (eH : upd H kf (.dK (fs.map fun e => (Sum.inr e.1, .ref (fa' e.1)))) = H')
    (hf : ∀ e ∈ fs, FctAt K H (fa' e.1) e.2) : HoX K c H' MT MS x ds ms { S with facts := fs } dx p th kf tr wd fa' wa rs := by
  have kk := h.keepF (.dK (fs.map fun e => (Sum.inr e.1, .ref (fa' e.1))))
  rw [eH] at kk
  have ks : Keep MS H H' := kk.mono fun b m z => h.f2 (by rw [← z]; exact m)
  have kt : Keep MT H H' := kk.mono fun b m z => h.f1 (by rw [← z]; exact m)
  exact ⟨ks.at h.hx trivial h.sx, h.sx, h.pl.keep ks, h.th.keep kt, by rw [← eH]; exact upd_same, fun e he => (hf e he).keep kk, kk.at h.hr trivial (ne_of h.hr h.hf (fun z => nomatch z)), PySem.Paired.mono (fun _ _ => RwRef.keep kk) h.ri, kk.at h.hw trivial h.fw.symm, fun e he => ⟨(h.wi e he).1, (h.wi e he).2.keep (h.wi e he).1 ks⟩, h.d1, h.f1, h.f2, h.r1, h.r2, h.w1, h.w2, h.fw⟩
end
end Kd

namespace Kd
open PySem PySem.Spec PyProof.Rows L2 LamX
def Hs.fact1 (S : Hs) (ds : Dims) (name : Str) (fc : Fct) : Hs := { S with facts := pt S.facts name fc, ts := (S.ts.meetF ds (thOf ds fc.keys)).1 }
def Hs.fgone (S : Hs) (ds : Dims) (name : Str) (fc : Fct) : List Th := (oldTh ds S name).filter (goneB ds (S.fact1 ds name fc))
def Hs.factS (S : Hs) (ds : Dims) (name : Str) (fc : Fct) : Hs := { S.fact1 ds name fc with ts := (S.fact1 ds name fc).ts.parts (S.fgone ds name fc) }
/-- what a fact asks -/
structure FactOk (ds : Dims) (S : Hs) (fc : Fct) (n m : Nat) : Prop where
  ok : FOk ds S.facts
  fl : S.facts.length < 200
  kx : ∀ z ∈ fc.keys, Tx z
  dn : (ds.map (·.1)).Nodup
  tok : TsOk ds S.ts n m
  hn : n < 199
  hm : m < 3990
  fkn : FKn ds S
theorem FactOk.f1 {ds : Dims} {S : Hs} {fc : Fct} {n m : Nat} (h : FactOk ds S fc n m) (name : Str) : FOk ds (S.fact1 ds name fc).facts := by
  refine ⟨h.ok.d4, h.ok.dx, fun e he => ?_, ?_⟩
  · rcases mem_pt he with rfl | ⟨he, _⟩
    · exact h.kx
    · exact h.ok.fx e he
  · have := pt_length S.facts name fc
    have := h.fl
    show (pt S.facts name fc).length ≤ 200
    omega
theorem old_known {ds : Dims} {S : Hs} (h : FKn ds S) (name : Str) : ∀ t ∈ oldTh ds S name, ∃ vers, lk S.ts.nums t = some vers := fun t ht => by
  unfold oldTh at ht
  cases e : lk S.facts name with
  | none => rw [e] at ht; cases ht
  | some fc => rw [e] at ht; exact h (name, fc) (lk_mem e) t ht
theorem old_tx {ds : Dims} {S : Hs} (h : FOk ds S.facts) (name : Str) : ∀ t ∈ oldTh ds S name, Tx t.1 ∧ Tx t.2 := fun t ht => by
  unfold oldTh at ht
  cases e : lk S.facts name with
  | none => rw [e] at ht; cases ht
  | some fc => rw [e] at ht; exact thOf_tx h.dx (h.fx (name, fc) (lk_mem e)) t ht
theorem old_nodup {ds : Dims} {S : Hs} (h : (ds.map (·.1)).Nodup) (name : Str) : (oldTh ds S name).Nodup := by
  unfold oldTh
  split
  · exact thOf_nodup h _
  · exact List.nodup_nil
theorem old_len {ds : Dims} {S : Hs} (name : Str) : (oldTh ds S name).length ≤ ds.length := by
  unfold oldTh
  split
  · exact thOf_len _ _
  · exact Nat.zero_le _
theorem isSome_ex {α : Type} {o : Option α} (h : o.isSome = true) : ∃ a, o = some a := Option.isSome_iff_exists.mp h
/-- a thing that a kept fact names is not let go -/
theorem not_gone {ds : Dims} {S : Hs} {e : Str × Fct} (he : e ∈ S.facts) {t : Th} (ht : t ∈ thOf ds e.2.keys) : goneB ds S t = false := by
  unfold goneB
  have : fdays ds S.facts t ≠ [] := fun z => by
    have hm : e.2.day ∈ fdays ds S.facts t := List.mem_map.mpr ⟨e, List.mem_filter.mpr ⟨he, decide_eq_true ht⟩, rfl⟩
    rw [z] at hm
    cases hm
  rw [List.isEmpty_eq_false_iff.mpr this, Bool.and_false]
theorem new_known {ds : Dims} {S : Hs} {name : Str} {fc : Fct} : ∀ t ∈ thOf ds fc.keys, ∃ vers, lk (S.factS ds name fc).ts.nums t = some vers := fun t ht => by
  obtain ⟨v, hv⟩ := isSome_ex (meetF_known (ds := ds) (ts := S.ts) (tl := thOf ds fc.keys) (.inr ht))
  refine ⟨v, ?_⟩
  show lk (Ts.parts _ (S.fgone ds name fc)).nums t = some v
  rw [parts_lk, if_neg]
  · exact hv
  · intro z
    have g := (List.mem_filter.mp z).2
    have hm : (name, fc) ∈ (S.fact1 ds name fc).facts := lk_mem (by
      show lk (pt S.facts name fc) name = some fc
      rw [lk_pt, if_pos rfl])
    rw [not_gone hm ht] at g
    cases g
theorem TsOk.parts {ds : Dims} {n m : Nat} : ∀ (tl : List Th) {ts : Ts}, TsOk ds ts n m → TsOk ds (ts.parts tl) n m
  | [], _, h => h
  | t :: tl, _, h => TsOk.parts tl (h.gone t)
section
variable {P : Program} {w : World} {K : PySem.W.Frag} {mg : Str → Option Value} {base : Heap} {f : Addr} {fd : FuncData}
/-! ### House.take_fact -/
def spHFact (K : PySem.W.Frag) (c : Cn) : Sp := fun vs H Q _ => ∃ (x q1 q2 : Addr) (M : Addr → Prop) (ds : Dims) (ms : List Str) (S : Hs) (name : Str) (fc : Fct) (n m : Nat), vs = [.ref x, .str name, .int fc.day, .ref q1, .ref q2] ∧ HoO K c H M x ds ms S ∧ SqT K H q1 (fc.keys.map V.str) ∧ SqT K H q2 (fc.nums.map V.int) ∧ FactOk ds S fc n m ∧ Tabs (tbS c.Pt) H ∧
  ∀ H' M' r' q, Fr (tbS c.Pt) M H H' → Nw M M' H → HoO K c H' M' x ds ms (S.factS ds name fc) → H' r' = some (.tup [.str "fact", .int (S.ts.meetF ds (thOf ds fc.keys)).2.sum, .int ((S.fact1 ds name fc).ts.partsN (S.fgone ds name fc)), .ref q]) → H' q = some (.tup ((thOf ds fc.keys).map fun t => V.int ((S.factS ds name fc).ts.numOn t fc.day))) → Q (.ref r') H'
abbrev N_House_take_fact : List Str := ["self", "name", "day", "keys", "numbers", "replaced", "thing", "came", "went"]
theorem sc_House_take_fact : FnScope N_House_take_fact ["self", "name", "day", "keys", "numbers"] (defScope s_House_take_fact) := ⟨rfl, rfl, rfl, by decide +kernel, rfl, by decide +kernel, by decide +kernel⟩
/-! slots: 0 self 1 name 2 day 3 keys 4 numbers 5 replaced 6 thing 7 came 8 went; cells: self -/
theorem ok_hfact {c : Cn} {fN fM fF fL : Addr} {fdN fdM fdF fdL : FuncData} (F : FnP K "take_fact" "House.take_fact" s_House_take_fact f fd) (TX : HsTxt K c.CH) (c_things_named : Fun P w K mg base "things_named" 2 ["plan", "keys"] (spNamed K c.CP) fN fdN) (mM : MFun P w K mg base c.CT "meet" 6 ["self", "thing"] (spMeet K c.Pt c.CT c.CP) fM fdM) (mF : MFun P w K mg base c.CH "part_from" 4 ["self", "things"] (spPartF K c) fF fdF) (mL : MFun P w K mg base c.CH "led" 3 ["self", "day", "keys"] (spLed K c) fL fdL)
    (z_sum : mg "sum" = none) : FnOk P w K mg base CX0 7 f fd ["self", "name", "day", "keys", "numbers"] (spHFact K c) := by
  refine F.ok sc_House_take_fact (fun vs H Q E h => ?_) (fun cdv A outer s H vs Q E hr h => ?_)
  · obtain ⟨x, q1, q2, M, ds, ms, S, name, fc, n, m, rfl, _⟩ := h
    rfl
  · obtain ⟨x, q1, q2, M, ds, ms, S, name, fc, n, m, rfl, ⟨MT, MS, dx, p, th, kf, tr, wd, fa, wa, rs, rfl, X⟩, hq1, hq2, ok, hT, k⟩ := h
    have nd := sc_House_take_fact.nd
    have hu := hr.units
    have hu1 : (A.deeper (envOfC "House.take_fact" (defScope s_House_take_fact) s.heap.objs.size f cdv)).units + 1 < cLine := by omega
    generalize hcm : (S.ts.meetF ds (thOf ds fc.keys)).2.sum = cm at k
    generalize hwn : (S.fact1 ds name fc).ts.partsN (S.fgone ds name fc) = wn at k
    refine ⟨_, PSs.nox (pss_cons (ps_set (i := 5) nd rfl (Or.inl rfl) (pe_lst pa_nil))
      (pss_cons (ps_if (pt_cmp (pc_din hu1 (pv 1) (pe_fld (pv 0) rfl)))
        (pss_one (ps_set (i := 5) nd rfl (Or.inl rfl) (pe_call c_things_named.G (hr.mono (by decide)) rfl c_things_named.g c_things_named.k c_things_named.b .nil pass0 (pa_cons (pe_fld (pv 0) rfl) (pa_cons (pe_ix ix_tup (pe_dget hu1 (pe_fld (pv 0) rfl) (pv 1) (fun _ _ => rfl)) pe_int (fun _ _ => rfl)) pa_nil)))))
        pss_nil)
      (pss_cons (ps_dput hu1 (pe_fld (pv 0) rfl) (pv 1) (pe_tup (pa_cons (pv 2) (pa_cons (pv 3) (pa_cons (pv 4) pa_nil)))) rfl)
      (pss_cons (ps_set (i := 7) nd rfl (Or.inl rfl) (pe_callB (cr_sum rfl) (by rfl) z_sum (by decide +kernel) (pa_cons (pe_lc (own := [("thing", 6)]) (g := gName 6) (tt := tYes) (te := tMeth c.CT "meet" (spMeet K c.Pt c.CT c.CP) [] E0 (tFld K (tVar 0) "things") (tCons (tVar 6) tNil)) rfl nd (pi_list (pe_call c_things_named.G (hr.mono (by decide)) rfl c_things_named.g c_things_named.k c_things_named.b .nil pass0 (pa_cons (pe_fld (pv 0) rfl) (pa_cons (pv 3) pa_nil)))) (blkOk_by (own := [("thing", 6)]) (N := N_House_take_fact) (sc := defScope s_House_take_fact) (by decide +kernel))
        (fun _ _ _ _ _ => pg_name (i := 6) nd rfl (Or.inl rfl)) (fun _ _ _ _ _ => pts_nil) (fun _ _ _ _ _ => pe_meth (pe_fld (pv 0) rfl) mM.cl mM.m mM.G (hr.mono (by decide)) mM.b .nil pass0 (pa_cons (pv 6) pa_nil))) pa_nil)))
      (pss_cons (ps_set (i := 8) nd rfl (Or.inl rfl) (pe_meth (pv 0) mF.cl mF.m mF.G (hr.mono (by decide)) mF.b .nil pass0 (pa_cons (pv 5) pa_nil)))
      (pss_one (ps_ret (pe_tup (pa_cons pe_str (pa_cons (pv 7) (pa_cons (pv 8) (pa_cons (pe_meth (pv 0) mL.cl mL.m mL.G (hr.mono (by decide)) mL.b .nil pass0 (pa_cons (pv 2) (pa_cons (pv 3) pa_nil))) pa_nil)))))))))))), ?_⟩
    refine ⟨by show 0 ≤ sizeLine; decide, fun l0 n0 => ?_⟩
    generalize e0 : upd H l0 _ = H0
    obtain ⟨s0, el0⟩ := new_of n0 e0
    refine set_sl (σ' := [some (.ref x), some (.str name), some (.int fc.day), some (.ref q1), some (.ref q2), some (.ref l0), none, none, none]) rfl ?_
    dsimp only [tSeq]
    refine join_if (fun σ R => ∃ lr xs, σ = [some (.ref x), some (.str name), some (.int fc.day), some (.ref q1), some (.ref q2), some (.ref lr), none, none, none] ∧ Same H R ∧ R lr = some (.lst xs) ∧ H lr = none ∧ Paired (ThAt R) xs (oldTh ds S name)) ?_ ?_
    · rintro σ1 H1 ⟨lr, xr, rfl, s1, elr, nlr, pxr⟩
      have X1 := X.same s1
      refine ⟨_, rfl, _, rfl, _, rfl, by show 3 ≤ sizeLine; decide, fun tq ntq => ?_⟩
      generalize e2 : upd H1 tq _ = H2
      obtain ⟨s2, etq⟩ := new_of ntq e2
      have X2 := X1.same s2
      have s02 := s1.trans s2
      have lf : (S.facts.map fun e => ((Sum.inr e.1 : L2.Key), V.ref (fa e.1))).length < sizeLine := by rw [List.length_map]; exact Nat.lt_trans ok.fl (by decide)
      refine ⟨_, rfl, x, c.CH, dx, _, _, rfl, X2.hx, TX.cl, TX.nF, hs_facts p th kf tr wd, _, rfl, kf, _, rfl, DPut.k (k := Sum.inr name) X2.hf lf, ?_⟩
      generalize e3 : upd H2 kf _ = H3
      obtain ⟨f3, _, o3⟩ := put_of (T := tbS c.Pt) (N := hoM MT MS kf tr wd) X2.hf trivial (.inr (.inr (.inl rfl))) e3
      have em := map_pt (g := fun n : Str => (Sum.inr n : L2.Key)) (r := fun n => V.ref (fa n)) (r' := fun n => V.ref (if n = name then tq else fa n)) inr_inj (k := name) (b := fc) (fun t h => by rw [if_neg h]) (ms := S.facts)
      rw [if_pos rfl] at em
      have X3 := X2.facts (H' := H3) (fa' := fun n => if n = name then tq else fa n) (fs := pt S.facts name fc) (by rw [em]; exact e3) (fun e he => by
        rcases mem_pt he with rfl | ⟨he, ne⟩
        · show FctAt K H2 (if name = name then tq else fa name) fc
          rw [if_pos rfl]
          exact ⟨q1, q2, SqT.of etq, Same.seqT s02 hq1, Same.seqT s02 hq2⟩
        · show FctAt K H2 (if e.1 = name then tq else fa e.1) e.2
          rw [if_neg ne]
          exact X2.fi e he)
      refine ⟨_, rfl, x, c.CH, dx, _, _, rfl, X3.hx, TX.cl, TX.nP, hs_plan p th kf tr wd, _, rfl, p, q1, fc.keys, ds, ms, rfl, X3.pl.at, f3.seqT (Same.seqT s02 hq1), ok.ok.d4, fun ln xs H4 s4 nln eln pn => ?_⟩
      have X4 := X3.same s4
      have f04 : Fr (tbS c.Pt) (hoM MT MS kf tr wd) H H4 := ((Fr.of s02).trans f3).trans (Fr.of s4)
      have lth : (thOf ds fc.keys).length ≤ 4 := Nat.le_trans (thOf_len _ _) ok.ok.d4
      have hin : ∀ t ∈ thOf ds fc.keys, ∃ d, inD ds t d := fun t ht => thOf_in ok.dn ht
      have lxs : xs.length = (thOf ds fc.keys).length := pn.length
      have nMl : ¬ MT ln := fun z => X3.live.notN nln (.inl z)
      have T4 : Tabs (tbS c.Pt) H4 := f04.tb hT
      refine ⟨ln, rfl, ⟨_, SqL.of eln⟩, fun D nD => ?_⟩
      have nMD : ¬ MT D := fun z => X4.live.notN nD (.inl z)
      refine lc_build (walk_list (K := K) (a := ln) (xs := xs)) nD (fun i ys R => ∃ MTi : Addr → Prop, ys = (S.ts.meetF ds ((thOf ds fc.keys).take i)).2.map V.int ∧ ThO K c.CT R MTi th p (S.ts.meetF ds ((thOf ds fc.keys).take i)).1 ∧ Fr (tbS c.Pt) MT H4 R ∧ Nw MT MTi H4 ∧ ¬ MTi D) ⟨MT, rfl, X4.th, Fr.refl, Nw.refl, nMD⟩ (fun i ys R _ z => ?_) ?_ ?_
      · obtain ⟨MTi, _, _, fr, _, _⟩ := z
        exact SqL.of (cd_sub _ _ (fr.at eln trivial nMl))
      · rintro i ys y R R' hi e5 ly ⟨MTi, rfl, hTi, fr, nw, nDi⟩ ⟨rfl, hy⟩
        obtain ⟨t, ht, r, rfl, h1⟩ := paired_at pn hy
        obtain ⟨d, hd⟩ := hin t (List.mem_of_getElem? ht)
        have tki := meetF_ok ok.tok hin i (by omega)
        have emt := meetF_take (ds := ds) (ts := S.ts) ht
        have ew : wsOf ds t.1 = d.2.map (·.2) := wsOf_some hd
        generalize hacc : S.ts.meetF ds ((thOf ds fc.keys).take i) = acc at *
        have hxR : R' x = some (.ins c.CH dx (hsF p th kf tr wd)) := cd_sub _ _ (fr.at X4.hx trivial (X.d1 x X.sx))
        obtain ⟨dxt, kd, nb, ka, na, XT⟩ := hTi.x
        have apt : ∀ b, MS b → ¬ MTi b := nw.apart X4.pl.1 X.d1
        refine ⟨rfl, yes ?_⟩
        refine ⟨_, rfl, x, c.CH, dx, _, _, rfl, hxR, TX.cl, TX.nT, hs_things p th kf tr wd, th, dxt, _, rfl, cd_sub _ _ XT.hx, th_no (by decide +kernel) (by decide +kernel) (by decide +kernel) (by decide +kernel), _, rfl, th, p, r, MTi, MS, acc.1, ds, ms, t, d, rfl, hTi.same cd_sub, (X4.pl.keep (fr.keep X.d1)).keep (Keep.of cd_sub), apt, cd_sub _ _ (fr.tup h1), tki.num (by have := ok.hn; omega) (by have := ok.hm; omega) hd, (fr.tb T4).ext cd_sub, fun H5 MT5 f5 nw5 O5 => ?_⟩
        have e6 := f5.at e5 trivial nDi
        have nD5 : ¬ MT5 D := fun z => (nw5 D z).elim nDi fun q => q _ e5 (Chg.noTb trivial)
        refine LcNx.add e6 ly (by omega) ⟨MT5, ?_, ?_, fr.transN nw (f5.cd e6), fun b hb => ?_, nD5⟩
        · rw [emt]
          unfold meetStep
          rw [List.map_append, ew]
          rfl
        · rw [emt]
          unfold meetStep
          rw [ew]
          exact O5.keep (keep_cd e6 nD5)
        · rcases nw5 b hb with z | z
          · exact nw b z
          · by_cases mb : MT b
            · exact .inl mb
            · exact .inr (z.back (fr.trans (Fr.of cd_sub)) mb)
      · rintro ys H6 e6 ly ⟨MT6, rfl, hT6, fr6, nw6, nD6⟩
        rw [lxs, List.take_length] at e6 hT6
        refine ⟨D, _, rfl, SqL.of e6, ?_⟩
        rw [hcm]
        refine set_sl (σ' := [some (.ref x), some (.str name), some (.int fc.day), some (.ref q1), some (.ref q2), some (.ref lr), none, some (.int cm), none]) rfl ?_
        have f46 : Fr (tbS c.Pt) MT H4 H6 := fr6.trans (Fr.of cd_sub)
        obtain ⟨X6, F6, NW6⟩ := X4.turn f46 nw6 (hT6.same cd_sub)
        have X6 : HoX K c H6 MT6 MS x ds ms (S.fact1 ds name fc) dx p th kf tr wd _ wa rs := X6
        have nlM : ¬ hoM MT MS kf tr wd lr := X.live.notN nlr
        have elr2 : H2 lr = some (.lst xr) := s2 _ _ elr
        have nlk : lr ≠ kf := ne_of elr2 X2.hf (fun z => nomatch z)
        have elr4 : H4 lr = some (.lst xr) := s4 _ _ (by rw [o3 lr nlk]; exact elr2)
        have elr6 : H6 lr = some (.lst xr) := f46.at elr4 trivial fun z => nlM (.inl z)
        have nlM6 : ¬ hoM MT6 MS kf tr wd lr := fun z => (NW6 lr z).elim nlM fun q => q _ elr4 (Chg.noTb trivial)
        have kp16 : Keep no H1 H6 := (((Fr.of s2).trans f3).trans (Fr.of s4)).keep0.trans f46.keep0
        have pxr6 : Paired (ThAt H6) xr (oldTh ds S name) := PySem.Paired.mono (fun _ _ ⟨r, e, h⟩ => ⟨r, e, kp16.tup h⟩) pxr
        have okn : ∀ t ∈ oldTh ds S name, Tx t.1 ∧ Tx t.2 ∧ ∃ vers, lk (S.fact1 ds name fc).ts.nums t = some vers := fun t ht => by
          obtain ⟨v, hv⟩ := old_known ok.fkn name t ht
          refine ⟨(old_tx ok.ok name t ht).1, (old_tx ok.ok name t ht).2, isSome_ex (meetF_known (.inl ?_))⟩
          rw [hv]
          rfl
        refine ⟨_, rfl, x, dx, _, rfl, X6.hx, hs_no (by decide +kernel), _, rfl, x, lr, _, ds, ms, S.fact1 ds name fc, xr, oldTh ds S name, rfl, X6.o, elr6, nlM6, pxr6, by have := old_len (ds := ds) (S := S) name; have := ok.ok.d4; omega, old_nodup ok.dn name, okn, ok.f1 name, fun H7 f7 O7 => ?_⟩
        show gName _ (.int ((S.fact1 ds name fc).ts.partsN (S.fgone ds name fc))) _ _ _
        rw [hwn]
        refine set_sl (σ' := [some (.ref x), some (.str name), some (.int fc.day), some (.ref q1), some (.ref q2), some (.ref lr), none, some (.int cm), some (.int wn)]) rfl ?_
        have O7 : HoO K c H7 (hoM MT6 MS kf tr wd) x ds ms (S.factS ds name fc) := O7
        have tok6 : TsOk ds (S.fact1 ds name fc).ts n (m + (thOf ds fc.keys).length) := by
          have := meetF_ok ok.tok hin (thOf ds fc.keys).length (Nat.le_refl _)
          rw [List.take_length] at this
          exact this
        have f06 := f04.trans F6
        have nw06 : Nw (hoM MT MS kf tr wd) (hoM MT6 MS kf tr wd) H := fun b hb => (NW6 b hb).elim .inl fun z => (Classical.em (hoM MT MS kf tr wd b)).imp id fun nb => z.back f04 nb
        have f07 := f06.transN nw06 f7
        have hkn : ∀ t ∈ thOf ds fc.keys, Known (S.factS ds name fc).ts fc.day t := fun t ht => by
          obtain ⟨v, hv⟩ := new_known (S := S) (name := name) t ht
          exact (TsOk.parts _ tok6).known (by have := ok.hn; omega) hv fc.day
        obtain ⟨MT7, MS7, dx7, p7, th7, kf7, tr7, wd7, fa7, wa7, rs7, eM7, X7⟩ := id O7
        refine ⟨_, rfl, _, rfl, _, rfl, x, dx7, _, rfl, X7.hx, hs_no (by decide +kernel), _, rfl, _, rfl, x, q1, _, ds, ms, _, fc.day, fc.keys, rfl, O7, f07.seqT hq1, ok.ok.d4, hkn, fun rl H8 s8 hrl => ?_⟩
        refine ⟨by show 4 ≤ sizeLine; decide, fun r' nr' => ?_⟩
        generalize e9 : upd H8 r' _ = H9
        obtain ⟨s9, er9⟩ := new_of nr' e9
        exact k H9 (hoM MT6 MS kf tr wd) r' rl (f07.trans (Fr.of (s8.trans s9))) nw06 (O7.same (s8.trans s9)) er9 (s9 _ _ hrl)
    · intro go
      have X0 := X.same s0
      refine ⟨_, rfl, _, rfl, x, c.CH, dx, _, _, rfl, X0.hx, TX.cl, TX.nF, hs_facts p th kf tr wd, kf, _, rfl, DGet.k (k := Sum.inr name) X0.hf, _, rfl, ?_⟩
      have ev := val_map (r := fun n => V.ref (fa n)) (g := fun n : Str => (Sum.inr n : L2.Key)) inr_inj (k := name) (ms := S.facts)
      rw [ev]
      cases e : lk S.facts name with
      | none => exact iteF (go _ _ ⟨l0, [], rfl, s0, el0, n0, by unfold oldTh; rw [e]; exact .nil⟩)
      | some f0 =>
        refine iteT ?_
        rw [e] at ev
        obtain ⟨p1, p2, a1, a2, a3⟩ := X0.fi (name, f0) (lk_mem e)
        refine ⟨_, rfl, x, c.CH, dx, _, _, rfl, X0.hx, TX.cl, TX.nP, hs_plan p th kf tr wd, _, rfl, x, c.CH, dx, _, _, rfl, X0.hx, TX.cl, TX.nF, hs_facts p th kf tr wd, _, rfl, kf, _, rfl, .inl ⟨_, Sum.inr name, .inl X0.hf, rfl, ev.symm⟩, fa name, _, _, _, rfl, rfl, a1, atI_nat (j := 1) rfl, p, p1, f0.keys, ds, ms, rfl, X0.pl.at, a2, ok.ok.d4, fun ln xs H1 s1 nln eln pn => ?_⟩
        refine set_sl (σ' := [some (.ref x), some (.str name), some (.int fc.day), some (.ref q1), some (.ref q2), some (.ref ln), none, none, none]) rfl ?_
        exact go _ _ ⟨ln, xs, rfl, s0.trans s1, eln, s0.free nln, by unfold oldTh; rw [e]; exact pn⟩
end
end Kd

namespace Kd
open PySem PySem.Spec PyProof.Rows L2 LamX
def Hs.drop1 (S : Hs) (name : Str) : Hs := { S with facts := dp S.facts name }
def Hs.dgone (S : Hs) (ds : Dims) (name : Str) (fc : Fct) : List Th := (thOf ds fc.keys).filter (goneB ds (S.drop1 name))
def Hs.forgetS (S : Hs) (ds : Dims) (name : Str) (fc : Fct) : Hs := { S.drop1 name with ts := S.ts.parts (S.dgone ds name fc) }
theorem FOk.drop {ds : Dims} {fs : List (Str × Fct)} (h : FOk ds fs) (name : Str) : FOk ds (dp fs name) :=
  ⟨h.d4, h.dx, fun e he => h.fx e (mem_dp.mp he).1, Nat.le_trans (dp_length _ _) h.fl⟩
section
variable {P : Program} {w : World} {K : PySem.W.Frag} {mg : Str → Option Value} {base : Heap} {f : Addr} {fd : FuncData}
/-! ### House.take_forget -/
def spHForget (K : PySem.W.Frag) (c : Cn) : Sp := fun vs H Q _ => ∃ (x : Addr) (M : Addr → Prop) (ds : Dims) (ms : List Str) (S : Hs) (name : Str) (fc : Fct), vs = [.ref x, .str name] ∧ HoO K c H M x ds ms S ∧ lk S.facts name = some fc ∧ FOk ds S.facts ∧ (ds.map (·.1)).Nodup ∧ FKn ds S ∧
  ∀ H' r', Fr (tbS c.Pt) M H H' → HoO K c H' M x ds ms (S.forgetS ds name fc) → H' r' = some (.tup [.str "forget", .int (S.ts.partsN (S.dgone ds name fc))]) → Q (.ref r') H'
abbrev N_House_take_forget : List Str := ["self", "name", "day", "keys", "numbers"]
theorem sc_House_take_forget : FnScope N_House_take_forget ["self", "name"] (defScope s_House_take_forget) := ⟨rfl, rfl, rfl, by decide +kernel, rfl, by decide +kernel, by decide +kernel⟩
/-! slots: 0 self 1 name 2 day 3 keys 4 numbers; cells:  -/
theorem ok_hforget {c : Cn} {fN fF : Addr} {fdN fdF : FuncData} (F : FnP K "take_forget" "House.take_forget" s_House_take_forget f fd) (TX : HsTxt K c.CH) (c_things_named : Fun P w K mg base "things_named" 2 ["plan", "keys"] (spNamed K c.CP) fN fdN) (mF : MFun P w K mg base c.CH "part_from" 4 ["self", "things"] (spPartF K c) fF fdF) : FnOk P w K mg base CX0 5 f fd ["self", "name"] (spHForget K c) := by
  refine F.ok sc_House_take_forget (fun vs H Q E h => ?_) (fun cdv A outer s H vs Q E hr h => ?_)
  · obtain ⟨x, M, ds, ms, S, name, fc, rfl, _⟩ := h
    rfl
  · obtain ⟨x, M, ds, ms, S, name, fc, rfl, ⟨MT, MS, dx, p, th, kf, tr, wd, fa, wa, rs, rfl, X⟩, hlk, ok, dn, fkn, k⟩ := h
    have nd := sc_House_take_forget.nd
    generalize hwn : S.ts.partsN (S.dgone ds name fc) = wn at k
    refine ⟨_, PSs.nox (pss_cons (ps_asg (pe_dpop1 (pe_fld (pv 0) rfl) (pv 1) ⟨rfl, rfl, rfl, rfl⟩) (pg_tup rfl (pgs_cons (pg_name (i := 2) nd rfl (Or.inl rfl)) (pgs_cons (pg_name (i := 3) nd rfl (Or.inl rfl)) (pgs_cons (pg_name (i := 4) nd rfl (Or.inl rfl)) pgs_nil)))))
      (pss_one (ps_ret (pe_tup (pa_cons pe_str (pa_cons (pe_meth (pv 0) mF.cl mF.m mF.G (hr.mono (by decide)) mF.b .nil pass0 (pa_cons (pe_call c_things_named.G (hr.mono (by decide)) rfl c_things_named.g c_things_named.k c_things_named.b .nil pass0 (pa_cons (pe_fld (pv 0) rfl) (pa_cons (pv 3) pa_nil))) pa_nil)) pa_nil)))))), ?_⟩
    have ev := val_map (r := fun n => V.ref (fa n)) (g := fun n : Str => (Sum.inr n : L2.Key)) inr_inj (k := name) (ms := S.facts)
    rw [hlk] at ev
    obtain ⟨p1, p2, a1, a2, a3⟩ := X.fi (name, fc) (lk_mem hlk)
    refine ⟨_, rfl, x, c.CH, dx, _, _, rfl, X.hx, TX.cl, TX.nF, hs_facts p th kf tr wd, kf, rfl, .inl ⟨_, .inl X.hf⟩, _, rfl, _, Sum.inr name, _, X.hf, rfl, ev, ?_⟩
    generalize e1 : upd H kf _ = H1
    obtain ⟨f1, _, o1⟩ := put_of (T := tbS c.Pt) (N := hoM MT MS kf tr wd) X.hf trivial (.inr (.inr (.inl rfl))) e1
    have em := map_dp (g := fun n : Str => (Sum.inr n : L2.Key)) (r := fun n => V.ref (fa n)) inr_inj (k := name) (ms := S.facts)
    have X1 := X.facts (H' := H1) (fa' := fa) (fs := dp S.facts name) (by rw [em]; exact e1) (fun e he => X.fi e (mem_dp.mp he).1)
    have X1 : HoX K c H1 MT MS x ds ms (S.drop1 name) dx p th kf tr wd fa wa rs := X1
    refine ⟨fa name, _, rfl, f1.seqT a1, rfl, _, _, rfl, _, _, rfl, _, _, rfl, rfl, ?_⟩
    refine sl_eq (σ' := [some (.ref x), some (.str name), some (.int fc.day), some (.ref p1), some (.ref p2)]) rfl ?_
    refine ⟨_, rfl, x, dx, _, rfl, X1.hx, hs_no (by decide +kernel), _, rfl, x, c.CH, dx, _, _, rfl, X1.hx, TX.cl, TX.nP, hs_plan p th kf tr wd, _, rfl, p, p1, fc.keys, ds, ms, rfl, X1.pl.at, f1.seqT a2, ok.d4, fun ln xs H2 s2 nln eln pn => ?_⟩
    have X2 := X1.same s2
    have tx := thOf_tx ok.dx (ok.fx (name, fc) (lk_mem hlk))
    refine ⟨x, ln, _, ds, ms, S.drop1 name, xs, thOf ds fc.keys, rfl, X2.o, eln, X1.live.notN nln, pn, by have := thOf_len ds fc.keys; have := ok.d4; omega, thOf_nodup dn _, fun t ht => ⟨(tx t ht).1, (tx t ht).2, fkn (name, fc) (lk_mem hlk) t ht⟩, ok.drop name, fun H3 f3 O3 => ?_⟩
    refine ⟨by show 2 ≤ sizeLine; decide, fun r' nr' => ?_⟩
    generalize e4 : upd H3 r' _ = H4
    obtain ⟨s4, er⟩ := new_of nr' e4
    have er2 : H4 r' = some (.tup [.str "forget", .int (S.ts.partsN (S.dgone ds name fc))]) := er
    rw [hwn] at er2
    exact k H4 r' (((f1.trans (Fr.of s2)).trans f3).trans (Fr.of s4)) (O3.same s4) er2
end
end Kd

namespace KdXc
open PySem PySem.Spec PyProof.Rows L2
/-! ### C(e, ..) in a try's body, where C's __init__ may raise -/
section
variable {X : Cx} {CX : CXT} {k : Nat} {f C : Addr} {fd : FuncData} {ps : List Str} {sp : Sp} {dvs : List V} {ds : List Value} {E : L2.St → XK} {x : Str} {p pos : Pos} {e : Expr} {es : List Expr} {t : TA}
end
/-! ### what the head says of a refusal's class -/
def oexB (K : PySem.W.Frag) (C : Addr) : Bool := match K.lookup C with
  | some ⟨.type c, _, .cls cd, sl⟩ => decide (c = "type") && (match cd.mro, sl.toList with
    | .ref D :: bm, [_, _, _, _, some (.builtin n), _] => decide (D = C) && (decide (n = "ValueError.__new__") && (!cd.hasDel && (cd.hasDict && PySem.HandSPX.refsVE bm)))
    | _, _ => false)
  | _ => false
theorem oexB_ok {K : PySem.W.Frag} {C : Addr} (h : oexB K C = true) : ∃ nm q N bs bm sn sub ab col dd k0 k1 k2 k3 k5, K.lookup C = some (excClassObj nm q C N bs bm true sn sub ab col dd k0 k1 k2 k3 k5 "ValueError.__new__") ∧ PySem.HandSPX.refsVE bm = true := by
  unfold oexB at h
  split at h
  · rename_i c dd cd sl ho
    obtain ⟨hc, h⟩ := He.ba h
    have hc : c = "type" := of_decide_eq_true hc
    split at h
    · rename_i D bm k0 k1 k2 k3 n k5 hm hs
      obtain ⟨h1, h⟩ := He.ba h
      obtain ⟨h2, h⟩ := He.ba h
      obtain ⟨h3, h⟩ := He.ba h
      obtain ⟨h4, h5⟩ := He.ba h
      have e1 : D = C := of_decide_eq_true h1
      have e2 : n = "ValueError.__new__" := of_decide_eq_true h2
      have e3 : cd.hasDel = false := by simpa using h3
      obtain ⟨nm, bs, mro, ns, qn, hd, sn, sub, ab, col, del⟩ := cd
      dsimp only at hm e3 h4
      subst hc e1 e2 e3 h4 hm
      have hsl : sl = #[k0, k1, k2, k3, some (.builtin "ValueError.__new__"), k5] := by
        obtain ⟨l⟩ := sl
        simp only at hs
        rw [hs]
      subst hsl
      exact ⟨nm, qn, ns, bs, bm, sn, sub, ab, col, dd, k0, k1, k2, k3, k5, ho, h5⟩
    · cases h
  · cases h
structure ErrC (K : PySem.W.Frag) (C fI : Addr) : Prop where
  o : OexC K C
  iC : PySem.W.findIn K (.ref C) "__init__" = some (some (.ref fI))
  tI : PySem.W.typeIn K (.ref fI) = some (.type "function")
  nW : PySem.W.findIn K (.ref C) "what" = some none
  nN : PySem.W.findIn K (.ref C) "name" = some none
  x : XfC K C
  em : PySem.W.exmOne K (.ref C) (.ref C) = some true
  ca : PySem.W.findIn K (.ref C) "__class__" = some (some (.builtin "object.__class__"))
  cn : PySem.W.specialIn K (.builtin "object.__class__") "__get__" = some (some (.builtin "getset_descriptor.__get__"))
  ct : PySem.W.takesIn K (.builtin "object.__class__") = some true
  cm : PySem.W.mroIn K C (.type "object") = some true
  cs : (PySem.W.clsIn K C).isSome = true
def errB (K : PySem.W.Frag) (C fI : Addr) : Bool := oexB K C && (He.eqO (PySem.W.findIn K (.ref C) "__setattr__") (some (some (.builtin "object.__setattr__"))) && (decide (PySem.W.subIn K (.ref C) (.type "BaseException") = some true) && (decide (PySem.W.typeIn K (.ref C) = some (.type "type")) &&
  (PySem.W.keepIn K (.ref C) && (He.eqO (PySem.W.findIn K (.ref C) "__init__") (some (some (.ref fI))) && (decide (PySem.W.typeIn K (.ref fI) = some (.type "function")) && (He.eqO (PySem.W.findIn K (.ref C) "what") (some none) && (He.eqO (PySem.W.findIn K (.ref C) "name") (some none) &&
  (xfB K C && (decide (PySem.W.exmOne K (.ref C) (.ref C) = some true) && (He.eqO (PySem.W.findIn K (.ref C) "__class__") (some (some (.builtin "object.__class__"))) && (He.eqO (PySem.W.specialIn K (.builtin "object.__class__") "__get__") (some (some (.builtin "getset_descriptor.__get__"))) &&
  (decide (PySem.W.takesIn K (.builtin "object.__class__") = some true) && (decide (PySem.W.mroIn K C (.type "object") = some true) && (PySem.W.clsIn K C).isSome))))))))))))))
theorem errB_ok {K : PySem.W.Frag} {C fI : Addr} (h : errB K C fI = true) : ErrC K C fI := by
  obtain ⟨h1, h⟩ := He.ba h
  obtain ⟨h2, h⟩ := He.ba h
  obtain ⟨h3, h⟩ := He.ba h
  obtain ⟨h4, h⟩ := He.ba h
  obtain ⟨h5, h⟩ := He.ba h
  obtain ⟨h6, h⟩ := He.ba h
  obtain ⟨h7, h⟩ := He.ba h
  obtain ⟨h8, h⟩ := He.ba h
  obtain ⟨h9, h⟩ := He.ba h
  obtain ⟨h10, h⟩ := He.ba h
  obtain ⟨h11, h⟩ := He.ba h
  obtain ⟨h12, h⟩ := He.ba h
  obtain ⟨h13, h⟩ := He.ba h
  obtain ⟨h14, h⟩ := He.ba h
  obtain ⟨h15, h16⟩ := He.ba h
  exact ⟨⟨oexB_ok h1, He.eqO_ok h2, of_decide_eq_true h3, of_decide_eq_true h4, h5⟩, He.eqO_ok h6, of_decide_eq_true h7, He.eqO_ok h8, He.eqO_ok h9, xfB_ok h10, of_decide_eq_true h11, He.eqO_ok h12, He.eqO_ok h13, of_decide_eq_true h14, of_decide_eq_true h15, h16⟩
/-- DayError.__init__ as an attribute of its class, and ValueError's -/
def valB (o : Option PySem.W.CFound) (v : Value) : Bool := match o with
  | some (.val u) => decide (u = v)
  | _ => false
theorem valB_ok {o : Option PySem.W.CFound} {v : Value} (h : valB o v = true) : o = some (.val v) := by
  unfold valB at h
  split at h
  · rw [of_decide_eq_true h]
  · cases h
def cfnB (K : PySem.W.Frag) (C f : Addr) (m : Str) : Bool := He.eqO (PySem.W.specialIn K (.ref C) "__getattribute__") (some (some (.builtin "type.__getattribute__"))) && (PySem.W.readsIn K C (.type "type") && (valB (PySem.W.findCls K (.ref C) (.type "type") m) (.ref f) && PySem.W.keepIn K (.ref f)))
theorem cfnB_ok {K : PySem.W.Frag} {C f : Addr} {m : Str} (h : cfnB K C f m = true) : KdEx.ClsFn K C f m := by
  obtain ⟨h1, h⟩ := He.ba h
  obtain ⟨h2, h⟩ := He.ba h
  obtain ⟨h3, h4⟩ := He.ba h
  exact ⟨He.eqO_ok h1, h2, valB_ok h3, h4⟩
def veB (K : PySem.W.Frag) : Bool := valB (PySem.W.findCls K (.type "ValueError") (.type "type") "__init__") (.builtin "ValueError.__init__")
/-! ### isinstance of a caught refusal -/
/-! ### a refusal is made -/
/-- C(e), C's own __init__ keeping the promise of a refusal: its dict is new and holds fs -/
def spErr (K : PySem.W.Frag) (C : Addr) (fs : V → List (Str × V)) (Ok : V → Hp → Prop) : Sp := fun vs H Q _ => ∃ (a : Addr) (v : V), vs = [.ref a, v] ∧ H a = some (exo a C none) ∧ Ok v H ∧
  ∀ (d : Addr) (H' : Hp), H d = none → d ≠ a → H' a = some (exo a C (some d)) → H' d = some (exd d (fs v)) → (∀ b, b ≠ a → b ≠ d → H' b = H b) → Q .non H'
theorem err_ok {K : PySem.W.Frag} {C : Addr} {fs : V → List (Str × V)} {Ok : V → Hp → Prop} {H1 : Hp} {v : V} {Q : XK} (ok : ∀ a, H1 a = none → Ok v (upd H1 a (exo a C none))) (k : ∀ d, H1 d = none → Q (.ref C) (some d) (upd H1 d (.xd (fs v)))) :
    [v].length ≤ 1000 ∧ ∀ a, H1 a = none → spErr K C fs Ok (.ref a :: ([v] ++ [])) (upd H1 a (exo a C none))
      (fun u H2 => u = .non ∧ ∃ (d : Addr) (gs : List (Str × V)), H2 a = some (exo a C (some d)) ∧ H2 d = some (exd d gs) ∧ H1 d = none ∧ Q (.ref C) (some d) (upd (del H2 a) d (.xd gs))) (fun _ _ _ => False) := by
  refine ⟨by show 1 ≤ 1000; decide, fun a ha => ⟨a, v, rfl, upd_same, ok a ha, fun d H' hd nd e1 e2 rest => ⟨rfl, d, fs v, e1, e2, ?_, ?_⟩⟩⟩
  · rw [upd_ne nd] at hd
    exact hd
  · have hd1 : H1 d = none := by
      rw [upd_ne nd] at hd
      exact hd
    have eq : upd (del H' a) d (.xd (fs v)) = upd H1 d (.xd (fs v)) := by
      funext b
      by_cases hb : b = d
      · rw [hb, upd_same, upd_same]
      · rw [upd_ne hb, upd_ne hb]
        by_cases hba : b = a
        · rw [hba, del_same, ha]
        · rw [del_ne hba, rest b hba hb, upd_ne hba]
    rw [eq]
    exact k d hd1
/-- raise C(e): its making -/
theorem pmk_err {X : Cx} {x : Str} {C fI : Addr} {k : Nat} {fd : FuncData} {ps : List Str} {fs : V → List (Str × V)} {Ok : V → Hp → Prop} {e : Expr} {te : TE} {p pos : Pos} (T : ErrC X.K C fI)
    (G : FnOk X.prog X.w X.K X.mg X.base CX0 k fI fd ps (spErr X.K C fs Ok)) (hr : Room (k + 1) X.A) (hb : Binds X.K fd ps []) (hg : Gl X x) (hm : X.mg x = some (.ref C)) (he : PE X e te)
    (hdb : (x == ("__debug__" : Str)) = false := by decide) (hs : starEach [e] X.env = (false, eval e X.env) :: starEach [] X.env := by rfl) (hpl : (backTo pos (starEach [] X.env)).any (·.1) = false := by rfl) :
    PMk X (.Call (.Name x p) [e] [] pos) (tMkO C (spErr X.K C fs Ok) [] (tCons te tNil)) :=
  pmk_oex T.o T.iC T.tI G hr hb .nil pass0 hg hm (pa_cons he pa_nil hs) hdb hs hpl
/-! ### x in [y], by an own == -/
section
variable {X : Cx} {CX : CXT} {n : Nat} {C f : Addr} {fd : FuncData} {ps : List Str} {sp : Sp} {E : XK}
open MeetsSeq MeetsSeq2 MeetsSeq3 SeqRoads2 in
end
end KdXc

set_option maxHeartbeats 4000000
namespace KdXv
open PySem PySem.W PySem.Calls PyProof.Rows PySem.HandSPX
open Builtin Builtin.ObjectAttr
/-! ### C(k = v), C an own class over ValueError with an __init__ -/
section
variable {M : Model} {prog : Program} {w : World} {A : Around} {E : Value → Shared → Prop} {R : Result → Shared → Prop} {h : Heap} {g : Array GenState} {d : Drawn} {t : Nat} {os : OsState} {kw : List (Str × Value)}
variable {nm q : Str} {C N : Addr} {bs bm bmB : List Value} {hdct : Bool} {sn : List Str} {sub : List Value} {ab : Bool} {col : Option Bool} {dd : Option Addr} {k0 k1 k2 k3 k5 : Option Value} {B newId initId : String}
end
end KdXv
namespace KdXv
open PySem PySem.Spec PyProof.Rows L2 KdXc
/-! ### a refusal's field, as it is made -/
end KdXv

namespace Kd
open PySem PySem.Spec PyProof.Rows L2 KdXc
section
variable {P : Program} {w : World} {K : PySem.W.Frag} {mg : Str → Option Value} {base : Heap} {f : Addr} {fd : FuncData}
/-! ### a refusal's __init__ -/
def dayF (v : V) : List (Str × V) := [("name", .str "DayError"), ("what", v)]
def noF (nm : Str) (v : V) : List (Str × V) := ("name", .str nm) :: dayF v
abbrev RepOk (K : PySem.W.Frag) (v : V) (H : Hp) : Prop := KdRp.Rep2 K v H
theorem sc_DayError : FnScope ["self", "what"] ["self", "what"] (defScope s_DayError_init) := ⟨rfl, rfl, rfl, by decide +kernel, rfl, by decide +kernel, by decide +kernel⟩
theorem ok_DayError {C fI : Addr} (F : FnP K "__init__" "DayError.__init__" s_DayError_init f fd) (T : ErrC K C fI) (z_ValueError : mg "ValueError" = none) (vV : PySem.W.findCls K (.type "ValueError") (.type "type") "__init__" = some (.val (.builtin "ValueError.__init__"))) (z_repr : mg "repr" = none) :
    FnOk P w K mg base CX0 1 f fd ["self", "what"] (spErr K C dayF (RepOk K)) := by
  refine F.ok sc_DayError (fun vs H Q E h => ?_) (fun cdv A outer s H vs Q E hr h => ?_)
  · obtain ⟨a, v, rfl, _⟩ := h
    rfl
  · obtain ⟨a, v, rfl, ha, hv, k⟩ := h
    have nd := sc_DayError.nd
    refine ⟨_, PSs.nox (pss_cons (ps_expr (pe_veinit rfl z_ValueError vV (pa_cons (pv 0) (pa_cons (pe_callB (KdRp.cr_rep2 hr.units) (by rfl) z_repr (by decide +kernel) (pa_cons (pv 1) pa_nil)) pa_nil))))
      (pss_cons (ps_ost (pv 0) (pv 1)) (pss_one (ps_ost (pv 0) pe_str)))), ?_⟩
    refine ⟨_, rfl, _, rfl, v, rfl, hv, fun m => ⟨a, C, [.str m], rfl, by show 1 ≤ 1000; decide, T.o, ha, ?_⟩⟩
    refine ⟨_, rfl, _, rfl, a, C, rfl, T.o, T.nW, .inl ⟨ha, fun d hd nda => ?_⟩⟩
    refine ⟨_, rfl, a, C, rfl, T.o, T.nN, .inr ⟨d, _, upd_same, by rw [upd_ne nda]; exact upd_same, by show 1 ≤ 900; decide, ?_⟩⟩
    refine k d _ hd nda (by rw [upd_ne nda.symm]; exact upd_same) upd_same fun b hba hbd => ?_
    rw [upd_ne hbd, upd_ne hba, upd_ne hbd]
theorem sc_NoRow : FnScope ["self", "what"] ["self", "what"] (defScope s_NoRow_init) := ⟨rfl, rfl, rfl, by decide +kernel, rfl, by decide +kernel, by decide +kernel⟩
theorem ok_NoRow {C fI D fD : Addr} {fdD : FuncData} (F : FnP K "__init__" "NoRow.__init__" s_NoRow_init f fd) (T : ErrC K C fI) (GD : FnOk P w K mg base CX0 1 fD fdD ["self", "what"] (spErr K C dayF (RepOk K))) (cD : KdEx.ClsFn K D fD "__init__") (bD : Binds K fdD ["self", "what"] []) (gD : mg "DayError" = some (.ref D)) :
    FnOk P w K mg base CX0 2 f fd ["self", "what"] (spErr K C (noF "NoRow") (RepOk K)) := by
  refine F.ok sc_NoRow (fun vs H Q E h => ?_) (fun cdv A outer s H vs Q E hr h => ?_)
  · obtain ⟨a, v, rfl, _⟩ := h
    rfl
  · obtain ⟨a, v, rfl, ha, hv, k⟩ := h
    refine ⟨_, PSs.nox (pss_cons (ps_expr (KdEx.pe_clsfn rfl gD cD GD hr bD .nil pass0 (pa_cons (pv 0) (pa_cons (pv 1) pa_nil)))) (pss_one (ps_ost (pv 0) pe_str))), ?_⟩
    refine ⟨_, rfl, _, rfl, a, v, rfl, ha, hv, fun d H' hd nda e1 e2 rest => ?_⟩
    refine ⟨_, rfl, a, C, rfl, T.o, T.nN, .inr ⟨d, _, e1, e2, by show 2 ≤ 900; decide, ?_⟩⟩
    refine k d _ hd nda (by rw [upd_ne nda.symm]; exact e1) upd_same fun b hba hbd => ?_
    rw [upd_ne hbd]
    exact rest b hba hbd
theorem sc_NoFact : FnScope ["self", "what"] ["self", "what"] (defScope s_NoFact_init) := ⟨rfl, rfl, rfl, by decide +kernel, rfl, by decide +kernel, by decide +kernel⟩
theorem ok_NoFact {C fI D fD : Addr} {fdD : FuncData} (F : FnP K "__init__" "NoFact.__init__" s_NoFact_init f fd) (T : ErrC K C fI) (GD : FnOk P w K mg base CX0 1 fD fdD ["self", "what"] (spErr K C dayF (RepOk K))) (cD : KdEx.ClsFn K D fD "__init__") (bD : Binds K fdD ["self", "what"] []) (gD : mg "DayError" = some (.ref D)) :
    FnOk P w K mg base CX0 2 f fd ["self", "what"] (spErr K C (noF "NoFact") (RepOk K)) := by
  refine F.ok sc_NoFact (fun vs H Q E h => ?_) (fun cdv A outer s H vs Q E hr h => ?_)
  · obtain ⟨a, v, rfl, _⟩ := h
    rfl
  · obtain ⟨a, v, rfl, ha, hv, k⟩ := h
    refine ⟨_, PSs.nox (pss_cons (ps_expr (KdEx.pe_clsfn rfl gD cD GD hr bD .nil pass0 (pa_cons (pv 0) (pa_cons (pv 1) pa_nil)))) (pss_one (ps_ost (pv 0) pe_str))), ?_⟩
    refine ⟨_, rfl, _, rfl, a, v, rfl, ha, hv, fun d H' hd nda e1 e2 rest => ?_⟩
    refine ⟨_, rfl, a, C, rfl, T.o, T.nN, .inr ⟨d, _, e1, e2, by show 2 ≤ 900; decide, ?_⟩⟩
    refine k d _ hd nda (by rw [upd_ne nda.symm]; exact e1) upd_same fun b hba hbd => ?_
    rw [upd_ne hbd]
    exact rest b hba hbd
end
end Kd

namespace Kd
open PySem PySem.Spec PyProof.Rows L2 KdXc
section
variable {P : Program} {w : World} {K : PySem.W.Frag} {mg : Str → Option Value} {base : Heap} {f : Addr} {fd : FuncData}
/-- a class of refusals, and how one is made -/
structure ErrM (P : Program) (w : World) (K : PySem.W.Frag) (mg : Str → Option Value) (base : Heap) (x : Str) (C fI : Addr) (fdI : FuncData) : Prop where
  T : ErrC K C fI
  G : FnOk P w K mg base CX0 2 fI fdI ["self", "what"] (spErr K C (noF x) (RepOk K))
  b : Binds K fdI ["self", "what"] []
  g : mg x = some (.ref C)
/-! ### Plan.__init__ of faulty lists -/
end
end Kd

namespace Kd
open PySem PySem.Spec PyProof.Rows L2 KdXc
theorem iteF0 {c : Prop} [Decidable c] {A B : Prop} (h : ¬ c) (b : B) : if c then A else B := by
  rw [if_neg h]
  exact b
theorem iteT0 {c : Prop} [Decidable c] {A B : Prop} (h : c) (b : A) : if c then A else B := by
  rw [if_pos h]
  exact b
def kfits (ds : List Dm) (d : Str) (n : Nat) : Bool := match ds.find? (fun e => decide (e.1 = d)) with
  | some e => decide (n = e.2.length)
  | none => false
def ffits (ds : List Dm) (ms : List Str) (k n : Nat) : Bool := decide (k = ds.length) && decide (n = ms.length)
def Rw.fits (ds : List Dm) (ms : List Str) : Rw → Bool
  | .kind d _ _ vals => kfits ds d vals.length
  | .fact _ _ keys nums => ffits ds ms keys.length nums.length
  | .forget _ => true
theorem natEq (a b : Nat) : decide (V.int (a : Int) = V.int (b : Int)) = decide (a = b) := by
  by_cases h : a = b
  · rw [h]
    simp
  · rw [decide_eq_false h]
    exact decide_eq_false fun q => h (by have := V.int.inj q; omega)
section
variable {P : Program} {w : World} {K : PySem.W.Frag} {mg : Str → Option Value} {base : Heap} {f : Addr} {fd : FuncData}
/-! ### kind_fits -/
abbrev N_kind_fits : List Str := ["plan", "dimension", "values", "attributes"]
theorem sc_kind_fits : FnScope N_kind_fits ["plan", "dimension", "values"] (defScope s_kind_fits) := ⟨rfl, rfl, rfl, by decide +kernel, rfl, by decide +kernel, by decide +kernel⟩
/-! slots: 0 plan 1 dimension 2 values 3 attributes; cells:  -/
def spKf (K : PySem.W.Frag) (C : Addr) : Sp := fun vs H Q _ => ∃ (x q : Addr) (d : Str) (ys : List V) (ds : List Dm) (ms : List Str), vs = [.ref x, .str d, .ref q] ∧ PlanAt K C H x ds ms ∧ SqT K H q ys ∧ ∀ H', Same H H' → Q (.bl (kfits ds d ys.length)) H'
theorem ok_kf {C fA : Addr} {fdA : FuncData} (F : FnP K "kind_fits" "kind_fits" s_kind_fits f fd) (c_attributes_of : Fun P w K mg base "attributes_of" 2 ["plan", "dimension"] (spAttr K C) fA fdA) (z_len : mg "len" = none) : FnOk P w K mg base CX0 3 f fd ["plan", "dimension", "values"] (spKf K C) := by
  refine F.ok sc_kind_fits (fun vs H Q E h => ?_) (fun cdv A outer s H vs Q E hr h => ?_)
  · obtain ⟨x, q, d, ys, ds, ms, rfl, _⟩ := h
    rfl
  · obtain ⟨x, q, d, ys, ds, ms, rfl, hx, hq, k⟩ := h
    have nd := sc_kind_fits.nd
    refine ⟨_, PSs.nox (pss_cons (ps_set (i := 3) nd rfl (Or.inl rfl) (pe_call c_attributes_of.G (hr.mono (by decide)) rfl c_attributes_of.g c_attributes_of.k c_attributes_of.b .nil pass0 (pa_cons (pv 0) (pa_cons (pv 1) pa_nil))))
      (pss_one (ps_ret (pe_and (pe_cmp (pc_notN (pv 3)) rfl) (pe_one (pe_cmpR op_eq (pe_callB call_len_seq (by rfl) z_len boot_len (pa_cons (pv 2) pa_nil)) (pe_callB call_len_seq (by rfl) z_len boot_len (pa_cons (pv 3) pa_nil)) (nomark _))))))), ?_⟩
    refine ⟨_, rfl, _, rfl, x, d, ds, ms, rfl, hx, fun e qa H1 he ha s1 => ?_, fun he H1 s1 => ?_⟩
    · have ek : kfits ds d ys.length = decide (ys.length = e.2.length) := by unfold kfits; rw [he]
      rw [ek] at k
      obtain ⟨zs, a1, a2⟩ := ha
      refine ⟨_, rfl, _, rfl, iteT ⟨_, rfl, q, _, rfl, .inr (Same.seqT s1 hq), _, rfl, qa, _, rfl, .inr a1, rfl, ?_⟩⟩
      rw [natEq, a2.length]
      exact k H1 s1
    · have ek : kfits ds d ys.length = false := by unfold kfits; rw [he]
      rw [ek] at k
      exact ⟨_, rfl, _, rfl, iteF (k H1 s1)⟩
/-! ### fact_fits -/
abbrev N_fact_fits : List Str := ["plan", "keys", "numbers"]
theorem sc_fact_fits : FnScope N_fact_fits ["plan", "keys", "numbers"] (defScope s_fact_fits) := ⟨rfl, rfl, rfl, by decide +kernel, rfl, by decide +kernel, by decide +kernel⟩
/-! slots: 0 plan 1 keys 2 numbers; cells:  -/
def spFf (K : PySem.W.Frag) (C : Addr) : Sp := fun vs H Q _ => ∃ (x q1 q2 : Addr) (ys zs : List V) (ds : List Dm) (ms : List Str), vs = [.ref x, .ref q1, .ref q2] ∧ PlanAt K C H x ds ms ∧ SqT K H q1 ys ∧ SqT K H q2 zs ∧ ∀ H', Same H H' → Q (.bl (ffits ds ms ys.length zs.length)) H'
theorem ok_ff {C fD fM : Addr} {fdD fdM : FuncData} (F : FnP K "fact_fits" "fact_fits" s_fact_fits f fd) (T : PlTxt K C) (GD : FnOk P w K mg base CX0 1 fD fdD ["self"] (spDims K C)) (bD : Binds K fdD ["self"] []) (mD : Meth K C "dimensions" fD) (GM : FnOk P w K mg base CX0 1 fM fdM ["self"] (spMeas K C)) (bM : Binds K fdM ["self"] []) (mM : Meth K C "measures" fM)
    (z_len : mg "len" = none) : FnOk P w K mg base CX0 2 f fd ["plan", "keys", "numbers"] (spFf K C) := by
  refine F.ok sc_fact_fits (fun vs H Q E h => ?_) (fun cdv A outer s H vs Q E hr h => ?_)
  · obtain ⟨x, q1, q2, ys, zs, ds, ms, rfl, _⟩ := h
    rfl
  · obtain ⟨x, q1, q2, ys, zs, ds, ms, rfl, hx, h1, h2, k⟩ := h
    have nd := sc_fact_fits.nd
    refine ⟨_, PSs.nox (pss_one (ps_ret (pe_and (pe_cmpR op_eq (pe_callB call_len_seq (by rfl) z_len boot_len (pa_cons (pv 1) pa_nil)) (pe_callB call_len_seq (by rfl) z_len boot_len (pa_cons (pe_meth0 (pv 0) T.cl mD GD (hr.mono (by decide)) bD .nil pass0) pa_nil)) (nomark _)) (pe_one (pe_cmpR op_eq (pe_callB call_len_seq (by rfl) z_len boot_len (pa_cons (pv 2) pa_nil)) (pe_callB call_len_seq (by rfl) z_len boot_len (pa_cons (pe_meth0 (pv 0) T.cl mM GM (hr.mono (by decide)) bM .nil pass0) pa_nil)) (nomark _)))))), ?_⟩
    obtain ⟨dx, pa, pb, px, e1, e2, e3, e4⟩ := id hx.ex
    refine ⟨_, rfl, q1, _, rfl, .inr h1, _, rfl, x, dx, _, rfl, e1, pl_no0 (by decide +kernel) (by decide +kernel), x, ds, ms, rfl, hx, fun l xs nl pl => ?_⟩
    have s1 : Same H (upd H l (.lst xs)) := same_new nl
    refine ⟨l, _, rfl, .inl (SqL.of upd_same), rfl, _, rfl, ?_⟩
    rw [natEq, pl.length]
    by_cases c : ys.length = ds.length
    · rw [decide_eq_true c]
      refine iteT ⟨_, rfl, q2, _, rfl, .inr (Same.seqT s1 h2), _, rfl, x, dx, _, rfl, s1 _ _ e1, pl_no0 (by decide +kernel) (by decide +kernel), x, ds, ms, rfl, hx.same s1, fun l2 nl2 => ?_⟩
      refine ⟨l2, _, rfl, .inl (SqL.of upd_same), rfl, ?_⟩
      rw [natEq, List.length_map]
      have ek : ffits ds ms ys.length zs.length = decide (zs.length = ms.length) := by unfold ffits; rw [decide_eq_true c, Bool.true_and]
      rw [ek] at k
      exact k _ (s1.trans (same_new nl2))
    · rw [decide_eq_false c]
      have ek : ffits ds ms ys.length zs.length = false := by unfold ffits; rw [decide_eq_false c, Bool.false_and]
      rw [ek] at k
      exact iteF (k _ s1)
/-! ### has_form -/
abbrev N_has_form : List Str := ["plan", "row"]
theorem sc_has_form : FnScope N_has_form ["plan", "row"] (defScope s_has_form) := ⟨rfl, rfl, rfl, by decide +kernel, rfl, by decide +kernel, by decide +kernel⟩
/-! slots: 0 plan 1 row; cells:  -/
def spForm (K : PySem.W.Frag) (C : Addr) : Sp := fun vs H Q _ => ∃ (x p : Addr) (r : Rw) (ds : List Dm) (ms : List Str), vs = [.ref x, .ref p] ∧ PlanAt K C H x ds ms ∧ r.at K H p ∧ ∀ H', Same H H' → Q (.bl (r.fits ds ms)) H'
theorem ok_form {C fK fF : Addr} {fdK fdF : FuncData} (F : FnP K "has_form" "has_form" s_has_form f fd) (c_kind_fits : Fun P w K mg base "kind_fits" 3 ["plan", "dimension", "values"] (spKf K C) fK fdK) (c_fact_fits : Fun P w K mg base "fact_fits" 2 ["plan", "keys", "numbers"] (spFf K C) fF fdF) : FnOk P w K mg base CX0 4 f fd ["plan", "row"] (spForm K C) := by
  refine F.ok sc_has_form (fun vs H Q E h => ?_) (fun cdv A outer s H vs Q E hr h => ?_)
  · obtain ⟨x, p, r, ds, ms, rfl, _⟩ := h
    rfl
  · obtain ⟨x, p, r, ds, ms, rfl, hx, hr', k⟩ := h
    have nd := sc_has_form.nd
    refine ⟨_, PSs.nox (pss_cons (ps_if (pt_cmpR op_eq (pe_ix ix_tup (pv 1) pe_int (fun _ _ => rfl)) pe_str (nomark _))
        (pss_one (ps_ret (pe_call c_kind_fits.G (hr.mono (by decide)) rfl c_kind_fits.g c_kind_fits.k c_kind_fits.b .nil pass0 (pa_cons (pv 0) (pa_cons (pe_ix ix_tup (pv 1) pe_int (fun _ _ => rfl)) (pa_cons (pe_ix ix_tup (pv 1) pe_int (fun _ _ => rfl)) pa_nil))))))
        pss_nil)
      (pss_cons (ps_if (pt_cmpR op_eq (pe_ix ix_tup (pv 1) pe_int (fun _ _ => rfl)) pe_str (nomark _))
        (pss_one (ps_ret (pe_call c_fact_fits.G (hr.mono (by decide)) rfl c_fact_fits.g c_fact_fits.k c_fact_fits.b .nil pass0 (pa_cons (pv 0) (pa_cons (pe_ix ix_tup (pv 1) pe_int (fun _ _ => rfl)) (pa_cons (pe_ix ix_tup (pv 1) pe_int (fun _ _ => rfl)) pa_nil))))))
        pss_nil)
      (pss_one (ps_ret (pe_cmpR op_eq (pe_ix ix_tup (pv 1) pe_int (fun _ _ => rfl)) pe_str (nomark _)))))), ?_⟩
    cases r with
    | kind d key day vals =>
      obtain ⟨q, h1, h2⟩ := hr'
      refine ⟨_, rfl, p, _, _, _, rfl, rfl, h1, atI_nat (j := 0) rfl, rfl, _, rfl, iteT0 (decide_eq_true rfl) ?_⟩
      refine ⟨_, rfl, _, rfl, p, _, _, _, rfl, rfl, h1, atI_nat (j := 1) rfl, _, rfl, p, _, _, _, rfl, rfl, h1, atI_nat (j := 4) rfl, x, q, d, _, ds, ms, rfl, hx, h2, fun H1 s1 => ?_⟩
      rw [List.length_map]
      exact k H1 s1
    | fact name day keys nums =>
      obtain ⟨q1, q2, h1, h2, h3⟩ := hr'
      refine ⟨_, rfl, p, _, _, _, rfl, rfl, h1, atI_nat (j := 0) rfl, rfl, _, rfl, iteF0 (by decide +kernel) ?_⟩
      refine ⟨_, rfl, p, _, _, _, rfl, rfl, h1, atI_nat (j := 0) rfl, rfl, _, rfl, iteT0 (decide_eq_true rfl) ?_⟩
      refine ⟨_, rfl, _, rfl, p, _, _, _, rfl, rfl, h1, atI_nat (j := 3) rfl, _, rfl, p, _, _, _, rfl, rfl, h1, atI_nat (j := 4) rfl, x, q1, q2, _, _, ds, ms, rfl, hx, h2, h3, fun H1 s1 => ?_⟩
      rw [List.length_map, List.length_map]
      exact k H1 s1
    | forget name =>
      refine ⟨_, rfl, p, _, _, _, rfl, rfl, hr', atI_nat (j := 0) rfl, rfl, _, rfl, iteF0 (by decide +kernel) ?_⟩
      refine ⟨_, rfl, p, _, _, _, rfl, rfl, hr', atI_nat (j := 0) rfl, rfl, _, rfl, iteF0 (by decide +kernel) ?_⟩
      refine ⟨_, rfl, p, _, _, _, rfl, rfl, hr', atI_nat (j := 0) rfl, rfl, ?_⟩
      have e : decide (V.str "forget" = V.str "forget") = true := decide_eq_true rfl
      rw [e]
      exact k H (Same.refl H)
/-! ### look -/
abbrev N_look : List Str := ["plan", "row"]
theorem sc_look : FnScope N_look ["plan", "row"] (defScope s_look) := ⟨rfl, rfl, rfl, by decide +kernel, rfl, by decide +kernel, by decide +kernel⟩
/-! slots: 0 plan 1 row; cells:  -/
def spLook (K : PySem.W.Frag) (C N : Addr) : Sp := fun vs H Q E => ∃ (x p : Addr) (r : Rw) (ds : List Dm) (ms : List Str), vs = [.ref x, .ref p] ∧ PlanAt K C H x ds ms ∧ r.at K H p ∧ r.ok ∧ (r.fits ds ms = true → ∀ H', Same H H' → Q .non H') ∧
  (r.fits ds ms = false → ∀ d H', Same H H' → H d = none → H' d = some (.xd (noF "NoRow" (.ref p))) → E (.ref N) (some d) H')
theorem ok_look {C fH N fN : Addr} {fdH fdN : FuncData} (F : FnP K "look" "look" s_look f fd) (c_has_form : Fun P w K mg base "has_form" 4 ["plan", "row"] (spForm K C) fH fdH) (M : ErrM P w K mg base "NoRow" N fN fdN) : FnOk P w K mg base (L2.CX P w) 5 f fd ["plan", "row"] (spLook K C N) := by
  refine F.ok sc_look (fun vs H Q E h => ?_) (fun cdv A outer s H vs Q E hr h => ?_)
  · obtain ⟨x, p, r, ds, ms, rfl, _⟩ := h
    rfl
  · obtain ⟨x, p, r, ds, ms, rfl, hx, hp, ok, k1, k2⟩ := h
    have nd := sc_look.nd
    refine ⟨_, pss_one (ps_if (pt_not (pt_val (pe_call c_has_form.G (hr.mono (by decide)) rfl c_has_form.g c_has_form.k c_has_form.b .nil pass0 (pa_cons (pv 0) (pa_cons (pv 1) pa_nil)))))
      (pss_one (ps_raise rfl (takes_of rfl rfl rfl rfl) (pmk_err M.T M.G (hr.mono (by decide)) M.b rfl M.g (pv 1)))) pss_nil), ?_⟩
    refine ⟨_, rfl, _, rfl, x, p, r, ds, ms, rfl, hx, hp, fun H1 s1 => ⟨_, rfl, ?_⟩⟩
    cases c : r.fits ds ms with
    | true => exact iteF (k1 c H1 s1)
    | false =>
      refine iteT ⟨_, rfl, err_ok (fun a ha => Rw.rep (Rw.same (s1.trans (same_new ha)) hp) ok) fun d hd => ?_⟩
      exact k2 c d _ (s1.trans (same_new hd)) (s1.free hd) upd_same
end
end Kd

namespace Kd
open PySem PySem.Spec PyProof.Rows L2
/-! ### a row told -/
def Hs.told (S : Hs) (r : Rw) : Hs := { S with rows := S.rows ++ [r] }
def Hs.tell (S : Hs) (ds : Dims) (r : Rw) : Hs := match r with
  | .kind d key day vals => { S.told r with ts := S.ts.taken (wsOf ds d) (d, key) day vals }
  | .fact name day keys nums => (S.told r).factS ds name ⟨day, keys, nums⟩
  | .forget name => match lk S.facts name with
    | some fc => (S.told r).forgetS ds name fc
    | none => S
def Hs.tellD (S : Hs) (ds : Dims) (r : Rw) : PyData := match r with
  | .kind d key day vals => .tuple [.str "kind", .int ((S.ts.kept (d, key) day vals).came (wsOf ds d) (d, key)), .int ((S.ts.kept (d, key) day vals).went (wsOf ds d) (d, key)), .int (ledN ds S (S.ts.taken (wsOf ds d) (d, key) day vals) (d, key))]
  | .fact name day keys nums => .tuple [.str "fact", .int (S.ts.meetF ds (thOf ds keys)).2.sum, .int ((S.fact1 ds name ⟨day, keys, nums⟩).ts.partsN (S.fgone ds name ⟨day, keys, nums⟩)), .tuple ((thOf ds keys).map fun t => PyData.int ((S.factS ds name ⟨day, keys, nums⟩).ts.numOn t day))]
  | .forget name => match lk S.facts name with
    | some fc => .tuple [.str "forget", .int (S.ts.partsN (S.dgone ds name fc))]
    | none => .none
/-- it is told, not refused -/
def Hs.takes (S : Hs) (ds : Dims) (ms : List Str) (r : Rw) : Bool := r.fits ds ms && match r with
  | .forget name => (lk S.facts name).isSome
  | _ => true
def Ts.dimN (ts : Ts) (z : Str) : Nat := (ts.nums.filter fun e => decide (e.1.1 = z)).length
structure HsOk (ds : Dims) (ms : List Str) (S : Hs) : Prop where
  d4 : ds.length ≤ 4
  dx : ∀ d ∈ ds, Tx d.1
  dn : (ds.map (·.1)).Nodup
  tok : TsOk ds S.ts S.rows.length (5 * S.rows.length)
  fl : S.facts.length ≤ S.rows.length
  fn : (S.facts.map (·.1)).Nodup
  fx : ∀ e ∈ S.facts, ∀ z ∈ e.2.keys, Tx z
  ff : ∀ e ∈ S.facts, e.2.keys.length = ds.length ∧ e.2.nums.length = ms.length
  fkn : FKn ds S
  kin : ∀ t, (lk S.ts.kinds t).isSome = true → (lk S.ts.nums t).isSome = true
  kno : ∀ t, (lk S.ts.nums t).isSome = true → goneB ds S t = false
  nx : ∀ e ∈ S.ts.nums, Tx e.1.1 ∧ Tx e.1.2
  nd : ∀ z, S.ts.dimN z ≤ S.rows.length
theorem HsOk.fo {ds : Dims} {ms : List Str} {S : Hs} (h : HsOk ds ms S) (hn : S.rows.length ≤ 200) : FOk ds S.facts := ⟨h.d4, h.dx, h.fx, Nat.le_trans h.fl hn⟩
theorem kfits_in {ds : Dims} {d : Str} {n : Nat} (h : kfits ds d n = true) : ∃ e, ds.find? (fun e => decide (e.1 = d)) = some e ∧ n = e.2.length := by
  unfold kfits at h
  split at h
  · rename_i e he
    exact ⟨e, he, of_decide_eq_true h⟩
  · cases h
/-! counts of a dimension's things -/
theorem filter_put {α β : Type} [DecidableEq α] (p : α → Bool) (ms : List (α × β)) (k : α) (b : β) : ((pt ms k b).filter fun e => p e.1).length ≤ (ms.filter fun e => p e.1).length + (if p k = true then 1 else 0) := by
  cases e : lk ms k with
  | some c =>
    rw [pt_old e, List.filter_map, List.length_map]
    have : (ms.filter ((fun e => p e.1) ∘ fun m => if m.1 = k then (m.1, b) else m)) = ms.filter fun e => p e.1 := by
      apply List.filter_congr
      intro m _
      show p (if m.1 = k then (m.1, b) else m).1 = p m.1
      split <;> rfl
    rw [this]
    omega
  | none =>
    rw [pt_new e, List.filter_append, List.length_append]
    by_cases q : p k = true
    · rw [if_pos q, List.filter_cons_of_pos (by exact q)]
      exact Nat.le_refl _
    · rw [if_neg q, List.filter_cons_of_neg (by exact q)]
      exact Nat.le_refl _
theorem anew_dimN (ts : Ts) (ws : List Str) (t : Th) (z : Str) : (ts.anew ws t).dimN z ≤ ts.dimN z + (if t.1 = z then 1 else 0) := by
  have h := filter_put (fun u : Th => decide (u.1 = z)) ts.nums t (numS (oldOf (ts.vs t)) ts.given (sv ws (ts.ks t))).1
  simp only [decide_eq_true_iff] at h
  exact h
theorem meet_dimN (ts : Ts) (ws : List Str) (t : Th) (z : Str) : (ts.meet ws t).dimN z ≤ ts.dimN z + (if t.1 = z then 1 else 0) := by
  unfold Ts.meet
  split
  · omega
  · exact anew_dimN ts ws t z
theorem meetG_dimN {ds : Dims} (z : Str) : ∀ (tl : List Th) (acc : Ts × List Int), (tl.foldl (meetStep ds) acc).1.dimN z ≤ acc.1.dimN z + (tl.filter fun t => decide (t.1 = z)).length
  | [], acc => Nat.le_refl _
  | t :: tl, acc => by
    rw [List.foldl_cons]
    have h1 := meetG_dimN (ds := ds) z tl (meetStep ds acc t)
    have h2 := meet_dimN acc.1 (wsOf ds t.1) t z
    have h3 : (meetStep ds acc t).1.dimN z ≤ acc.1.dimN z + (if t.1 = z then 1 else 0) := h2
    by_cases q : t.1 = z
    · rw [List.filter_cons_of_pos (by simp [q]), List.length_cons]
      rw [if_pos q] at h3
      omega
    · rw [List.filter_cons_of_neg (by simp [q])]
      rw [if_neg q] at h3
      omega
theorem count_dim {ds : Dims} (h : (ds.map (·.1)).Nodup) (keys : List Str) (z : Str) : ((thOf ds keys).filter fun t => decide (t.1 = z)).length ≤ 1 := by
  have e : ((thOf ds keys).filter fun t => decide (t.1 = z)).length = (((thOf ds keys).map (·.1)).filter fun y => decide (y = z)).length := by
    rw [List.filter_map, List.length_map]
    rfl
  rw [e]
  have hn : ((thOf ds keys).map (·.1)).Nodup := h.sublist (zip_fst_sub _ _)
  generalize (thOf ds keys).map (·.1) = l at hn
  have hn2 : (l.filter fun y => decide (y = z)).Nodup := hn.sublist List.filter_sublist
  match hl : l.filter fun y => decide (y = z), hn2 with
  | [], _ => exact Nat.zero_le _
  | [a], _ => exact Nat.le_refl _
  | a :: b :: r, hn2 =>
    have ha : a = z := of_decide_eq_true (List.mem_filter.mp (show a ∈ l.filter fun y => decide (y = z) by rw [hl]; exact List.mem_cons_self ..)).2
    have hb : b = z := of_decide_eq_true (List.mem_filter.mp (show b ∈ l.filter fun y => decide (y = z) by rw [hl]; exact List.mem_cons_of_mem _ (List.mem_cons_self ..))).2
    rw [ha, hb] at hn2
    exact absurd (List.mem_cons_self ..) (List.nodup_cons.mp hn2).1
theorem parts_dimN (z : Str) : ∀ (tl : List Th) (ts : Ts), (ts.parts tl).dimN z ≤ ts.dimN z
  | [], _ => Nat.le_refl _
  | t :: tl, ts => Nat.le_trans (parts_dimN z tl (ts.gone t)) (by
      unfold Ts.dimN Ts.gone dp
      exact (List.Sublist.filter _ List.filter_sublist).length_le)
/-! kinds are untouched by facts -/
theorem meet_kinds (ts : Ts) (ws : List Str) (t : Th) : (ts.meet ws t).kinds = ts.kinds := by
  unfold Ts.meet
  split <;> rfl
theorem meetG_kinds {ds : Dims} : ∀ (tl : List Th) (acc : Ts × List Int), (tl.foldl (meetStep ds) acc).1.kinds = acc.1.kinds
  | [], _ => rfl
  | t :: tl, acc => by
    rw [List.foldl_cons, meetG_kinds tl]
    exact meet_kinds _ _ _
theorem meetF_kinds (ds : Dims) (ts : Ts) (tl : List Th) : (ts.meetF ds tl).1.kinds = ts.kinds := meetG_kinds tl (ts, [])
theorem meet_mem {ts : Ts} {ws : List Str} {t : Th} {e : Th × List Ver} (h : e ∈ (ts.meet ws t).nums) : e ∈ ts.nums ∨ e.1 = t := by
  unfold Ts.meet at h
  split at h
  · exact .inl h
  · rcases mem_pt h with rfl | ⟨h, _⟩
    · exact .inr rfl
    · exact .inl h
theorem meetG_mem {ds : Dims} {e : Th × List Ver} : ∀ (tl : List Th) (acc : Ts × List Int), e ∈ (tl.foldl (meetStep ds) acc).1.nums → e ∈ acc.1.nums ∨ e.1 ∈ tl
  | [], _, h => .inl h
  | t :: tl, acc, h => by
    rw [List.foldl_cons] at h
    rcases meetG_mem tl _ h with h | h
    · rcases meet_mem h with h | h
      · exact .inl h
      · exact .inr (by rw [h]; exact List.mem_cons_self ..)
    · exact .inr (List.mem_cons_of_mem _ h)
theorem meetF_mem {ds : Dims} {ts : Ts} {tl : List Th} {e : Th × List Ver} (h : e ∈ (ts.meetF ds tl).1.nums) : e ∈ ts.nums ∨ e.1 ∈ tl := meetG_mem tl (ts, []) h
theorem parts_mem {e : Th × List Ver} : ∀ (tl : List Th) {ts : Ts}, e ∈ (ts.parts tl).nums → e ∈ ts.nums
  | [], _, h => h
  | t :: tl, _, h => (mem_dp.mp (parts_mem tl h)).1
theorem parts_isSome {ts : Ts} {tl : List Th} {t : Th} (h : (lk (ts.parts tl).nums t).isSome = true) : (lk ts.nums t).isSome = true ∧ t ∉ tl := by
  rw [parts_lk] at h
  by_cases q : t ∈ tl
  · rw [if_pos q] at h; cases h
  · rw [if_neg q] at h; exact ⟨h, q⟩
theorem parts_keeps {ts : Ts} {tl : List Th} {t : Th} (h : (lk ts.nums t).isSome = true) (n : t ∉ tl) : (lk (ts.parts tl).nums t).isSome = true := by
  rw [parts_lk, if_neg n]
  exact h
theorem isSome_of {α : Type} {o : Option α} {a : α} (h : o = some a) : o.isSome = true := by rw [h]; rfl
/-- what is not let go: it has kinds, or a fact names it -/
theorem goneB_false {ds : Dims} {S : Hs} {t : Th} (h : goneB ds S t = false) : (lk S.ts.kinds t).isSome = true ∨ ∃ e ∈ S.facts, t ∈ thOf ds e.2.keys := by
  unfold goneB at h
  cases e : lk S.ts.kinds t with
  | some ks => exact .inl rfl
  | none =>
    rw [e] at h
    have h2 : (fdays ds S.facts t).isEmpty = false := h
    cases q : fdays ds S.facts t with
    | nil => rw [q] at h2; cases h2
    | cons y r => exact .inr (fdays_mem (y := y) (by rw [q]; exact List.mem_cons_self ..))
theorem goneB_kinds {ds : Dims} {S : Hs} {t : Th} (h : (lk S.ts.kinds t).isSome = true) : goneB ds S t = false := by
  obtain ⟨ks, e⟩ := isSome_ex h
  unfold goneB
  rw [e]
  rfl
theorem HsOk.kind {ds : Dims} {ms : List Str} {S : Hs} (h : HsOk ds ms S) {t : Th} {d : Str × List (Str × Str)} {day : Int} {vals : List Fv} {r : Rw} (hd : inD ds t d) (hv : vals.length = d.2.length) (t1 : Tx t.1) (t2 : Tx t.2) : HsOk ds ms { S.told r with ts := S.ts.taken (d.2.map (·.2)) t day vals } := by
  have el : (S.told r).rows.length = S.rows.length + 1 := by unfold Hs.told; rw [List.length_append]; rfl
  have lkn : ∀ t', lk (S.ts.taken (d.2.map (·.2)) t day vals).nums t' = if t' = t then some (numS (oldOf (S.ts.vs t)) S.ts.given (sv (d.2.map (·.2)) ((S.ts.kept t day vals).ks t))).1 else lk S.ts.nums t' := fun t' => lk_pt
  have lkk : ∀ t', lk (S.ts.taken (d.2.map (·.2)) t day vals).kinds t' = if t' = t then some (pt (S.ts.ks t) day vals) else lk S.ts.kinds t' := fun t' => lk_pt
  refine ⟨h.d4, h.dx, h.dn, ?_, ?_, h.fn, h.fx, h.ff, fun e he t' ht => ?_, fun t' ht => ?_, fun t' ht => ?_, fun e he => ?_, fun z => ?_⟩
  · show TsOk ds _ (S.told r).rows.length (5 * (S.told r).rows.length)
    rw [el]
    exact (h.tok.taken hd hv).mono (Nat.le_refl _) (by omega)
  · show S.facts.length ≤ (S.told r).rows.length
    rw [el]
    exact Nat.le_succ_of_le h.fl
  · show ∃ vers, lk (S.ts.taken (d.2.map (·.2)) t day vals).nums t' = some vers
    rw [lkn]
    by_cases e : t' = t
    · rw [if_pos e]; exact ⟨_, rfl⟩
    · rw [if_neg e]; exact h.fkn _ he t' ht
  · show (lk (S.ts.taken (d.2.map (·.2)) t day vals).nums t').isSome = true
    have ht : (lk (S.ts.taken (d.2.map (·.2)) t day vals).kinds t').isSome = true := ht
    rw [lkk] at ht
    rw [lkn]
    by_cases e : t' = t
    · rw [if_pos e]; rfl
    · rw [if_neg e] at ht ⊢; exact h.kin t' ht
  · have ht : (lk (S.ts.taken (d.2.map (·.2)) t day vals).nums t').isSome = true := ht
    rw [lkn] at ht
    by_cases e : t' = t
    · refine goneB_kinds ?_
      show (lk (S.ts.taken (d.2.map (·.2)) t day vals).kinds t').isSome = true
      rw [lkk, if_pos e]
      rfl
    · rw [if_neg e] at ht
      have := h.kno t' ht
      unfold goneB at this ⊢
      show ((lk (S.ts.taken (d.2.map (·.2)) t day vals).kinds t').isNone && _) = false
      rw [lkk, if_neg e]
      exact this
  · have he : e ∈ pt S.ts.nums t _ := he
    rcases mem_pt he with rfl | ⟨he, _⟩
    · exact ⟨t1, t2⟩
    · exact h.nx e he
  · show (S.ts.taken (d.2.map (·.2)) t day vals).dimN z ≤ (S.told r).rows.length
    rw [el]
    have h1 := anew_dimN (S.ts.kept t day vals) (d.2.map (·.2)) t z
    have h2 : (S.ts.kept t day vals).dimN z = S.ts.dimN z := rfl
    have h3 := h.nd z
    unfold Ts.taken
    split at h1 <;> omega
theorem HsOk.fact {ds : Dims} {ms : List Str} {S : Hs} (h : HsOk ds ms S) {name : Str} {fc : Fct} {r : Rw} (hk : fc.keys.length = ds.length ∧ fc.nums.length = ms.length) (kx : ∀ z ∈ fc.keys, Tx z) : HsOk ds ms ((S.told r).factS ds name fc) := by
  have el : (S.told r).rows.length = S.rows.length + 1 := by unfold Hs.told; rw [List.length_append]; rfl
  have hin : ∀ t ∈ thOf ds fc.keys, ∃ d, inD ds t d := fun t ht => thOf_in h.dn ht
  have tok1 := meetF_ok h.tok hin (thOf ds fc.keys).length (Nat.le_refl _)
  rw [List.take_length] at tok1
  have lth := Nat.le_trans (thOf_len ds fc.keys) h.d4
  have gq : ∀ t, goneB ds ((S.told r).factS ds name fc) t = goneB ds ((S.told r).fact1 ds name fc) t := fun t => by
    unfold goneB
    show ((lk (Ts.parts _ _).kinds t).isNone && _) = _
    rw [parts_kinds]
    rfl
  have kq : ((S.told r).fact1 ds name fc).ts.kinds = S.ts.kinds := meetF_kinds ds S.ts _
  have kq2 : ((S.told r).factS ds name fc).ts.kinds = S.ts.kinds := by
    show (Ts.parts _ _).kinds = _
    rw [parts_kinds]
    exact kq
  refine ⟨h.d4, h.dx, h.dn, ?_, ?_, pt_nodup h.fn, fun e he => ?_, fun e he => ?_, fun e he t ht => ?_, fun t ht => ?_, fun t ht => ?_, fun e he => ?_, fun z => ?_⟩
  · show TsOk ds _ (S.told r).rows.length (5 * (S.told r).rows.length)
    rw [el]
    exact (TsOk.parts _ tok1).mono (Nat.le_succ _) (by omega)
  · show (pt S.facts name fc).length ≤ (S.told r).rows.length
    rw [el]
    exact Nat.le_trans (pt_length _ _ _) (Nat.succ_le_succ h.fl)
  · rcases mem_pt he with rfl | ⟨he, _⟩
    · exact kx
    · exact h.fx e he
  · rcases mem_pt he with rfl | ⟨he, _⟩
    · exact hk
    · exact h.ff e he
  · have he : e ∈ pt S.facts name fc := he
    rcases mem_pt he with rfl | ⟨he2, ne⟩
    · exact new_known t ht
    · obtain ⟨v, hv⟩ := h.fkn e he2 t ht
      refine isSome_ex (parts_keeps (meetF_known (.inl (isSome_of hv))) fun z => ?_)
      have g := (List.mem_filter.mp z).2
      rw [not_gone (S := (S.told r).fact1 ds name fc) he ht] at g
      cases g
  · rw [kq2] at ht
    refine parts_keeps (meetF_known (.inl (h.kin t ht))) fun z => ?_
    have g := (List.mem_filter.mp z).2
    rw [goneB_kinds (by rw [kq]; exact ht)] at g
    cases g
  · rw [gq]
    obtain ⟨h1, h2⟩ := parts_isSome ht
    obtain ⟨v, hv⟩ := isSome_ex h1
    have hm : (name, fc) ∈ ((S.told r).fact1 ds name fc).facts := lk_mem (by
      show lk (pt S.facts name fc) name = some fc
      rw [lk_pt, if_pos rfl])
    rcases meetF_mem (lk_mem hv) with h3 | h3
    · have h4 : (lk S.ts.nums t).isSome = true := by
        obtain ⟨b, hb⟩ := lk_some_key (List.mem_map_of_mem (f := (·.1)) h3)
        exact isSome_of hb
      rcases goneB_false (h.kno t h4) with h5 | ⟨e, he, ht2⟩
      · exact goneB_kinds (by rw [kq]; exact h5)
      · by_cases q : e.1 = name
        · have ho : t ∈ oldTh ds (S.told r) name := by
            unfold oldTh
            have : lk (S.told r).facts name = some e.2 := by
              show lk S.facts name = some e.2
              rw [← q]
              exact lk_of_mem h.fn he
            rw [this]
            exact ht2
          cases g : goneB ds ((S.told r).fact1 ds name fc) t with
          | false => rfl
          | true => exact absurd (List.mem_filter.mpr ⟨ho, g⟩) h2
        · refine not_gone (e := e) ?_ ht2
          show e ∈ pt S.facts name fc
          have : lk (pt S.facts name fc) e.1 = some e.2 := by rw [lk_pt, if_neg q]; exact lk_of_mem h.fn he
          exact lk_mem this
    · exact not_gone hm h3
  · rcases meetF_mem (parts_mem _ he) with h1 | h1
    · exact h.nx e h1
    · exact thOf_tx h.dx kx _ h1
  · show (Ts.parts _ _).dimN z ≤ (S.told r).rows.length
    rw [el]
    have h1 := parts_dimN z ((S.told r).fgone ds name fc) ((S.told r).fact1 ds name fc).ts
    have h2 : ((S.told r).fact1 ds name fc).ts.dimN z ≤ S.ts.dimN z + ((thOf ds fc.keys).filter fun t => decide (t.1 = z)).length := meetG_dimN z (thOf ds fc.keys) (S.ts, [])
    have h3 := count_dim h.dn fc.keys z
    have h4 := h.nd z
    omega
theorem HsOk.forget {ds : Dims} {ms : List Str} {S : Hs} (h : HsOk ds ms S) {name : Str} {fc : Fct} {r : Rw} (hlk : lk S.facts name = some fc) : HsOk ds ms ((S.told r).forgetS ds name fc) := by
  have el : (S.told r).rows.length = S.rows.length + 1 := by unfold Hs.told; rw [List.length_append]; rfl
  have gq : ∀ t, goneB ds ((S.told r).forgetS ds name fc) t = goneB ds ((S.told r).drop1 name) t := fun t => by
    unfold goneB
    show ((lk (Ts.parts _ _).kinds t).isNone && _) = _
    rw [parts_kinds]
    rfl
  have kq2 : ((S.told r).forgetS ds name fc).ts.kinds = S.ts.kinds := by
    show (Ts.parts _ _).kinds = _
    rw [parts_kinds]
    rfl
  have fm : ∀ e ∈ S.facts, e.1 ≠ name → e ∈ ((S.told r).drop1 name).facts := fun e he ne => mem_dp.mpr ⟨he, ne⟩
  refine ⟨h.d4, h.dx, h.dn, ?_, ?_, dp_nodup h.fn, fun e he => h.fx e (mem_dp.mp he).1, fun e he => h.ff e (mem_dp.mp he).1, fun e he t ht => ?_, fun t ht => ?_, fun t ht => ?_, fun e he => h.nx e (parts_mem _ he), fun z => ?_⟩
  · show TsOk ds _ (S.told r).rows.length (5 * (S.told r).rows.length)
    rw [el]
    exact (TsOk.parts _ h.tok).mono (Nat.le_succ _) (by omega)
  · show (dp S.facts name).length ≤ (S.told r).rows.length
    rw [el]
    exact Nat.le_trans (dp_length _ _) (Nat.le_succ_of_le h.fl)
  · obtain ⟨he1, ne⟩ := mem_dp.mp he
    obtain ⟨v, hv⟩ := h.fkn e he1 t ht
    refine isSome_ex (parts_keeps (isSome_of hv) fun z => ?_)
    have g := (List.mem_filter.mp z).2
    rw [not_gone (S := (S.told r).drop1 name) he ht] at g
    cases g
  · rw [kq2] at ht
    refine parts_keeps (h.kin t ht) fun z => ?_
    have g := (List.mem_filter.mp z).2
    rw [goneB_kinds (S := (S.told r).drop1 name) ht] at g
    cases g
  · rw [gq]
    obtain ⟨h1, h2⟩ := parts_isSome ht
    rcases goneB_false (h.kno t h1) with h5 | ⟨e, he, ht2⟩
    · exact goneB_kinds (S := (S.told r).drop1 name) h5
    · by_cases q : e.1 = name
      · have e2 : e.2 = fc := by
          have := lk_of_mem h.fn he
          rw [q, hlk] at this
          exact (Option.some.inj this).symm
        rw [e2] at ht2
        cases g : goneB ds ((S.told r).drop1 name) t with
        | false => rfl
        | true => exact absurd (List.mem_filter.mpr ⟨ht2, g⟩) h2
      · exact not_gone (fm e he q) ht2
  · show (Ts.parts _ _).dimN z ≤ (S.told r).rows.length
    rw [el]
    have h1 := parts_dimN z ((S.told r).dgone ds name fc) S.ts
    have h4 := h.nd z
    exact Nat.le_trans h1 (by omega)
theorem HsOk.tell {ds : Dims} {ms : List Str} {S : Hs} (h : HsOk ds ms S) {r : Rw} (ok : r.ok) (ht : S.takes ds ms r = true) : HsOk ds ms (S.tell ds r) ∧ (S.tell ds r).rows = S.rows ++ [r] := by
  unfold Hs.takes at ht
  rw [Bool.and_eq_true] at ht
  obtain ⟨h1, h2⟩ := ht
  cases r with
  | kind d key day vals =>
    obtain ⟨e, he, hl⟩ := kfits_in h1
    have := h.kind (r := .kind d key day vals) (t := (d, key)) (day := day) (vals := vals) (d := e) he hl ok.1 ok.2.1
    rw [← wsOf_some he] at this
    exact ⟨this, rfl⟩
  | fact name day keys nums =>
    have hf : (decide (keys.length = ds.length) && decide (nums.length = ms.length)) = true := h1
    rw [Bool.and_eq_true] at hf
    exact ⟨h.fact ⟨of_decide_eq_true hf.1, of_decide_eq_true hf.2⟩ ok.2.2.1.2, rfl⟩
  | forget name =>
    obtain ⟨fc, hlk⟩ := isSome_ex h2
    have e : S.tell ds (.forget name) = (S.told (.forget name)).forgetS ds name fc := by unfold Hs.tell; simp only [hlk]
    rw [e]
    exact ⟨h.forget hlk, rfl⟩
end Kd

namespace Kd
open PySem PySem.Spec PyProof.Rows L2 LamX KdXc
/-- a def of the module that may raise -/
structure FunX (P : Program) (w : World) (K : PySem.W.Frag) (mg : Str → Option Value) (base : Heap) (x : Str) (n : Nat) (ps : List Str) (sp : Sp) (f : Addr) (fd : FuncData) : Prop where
  G : FnOk P w K mg base (L2.CX P w) n f fd ps sp
  k : PySem.W.keepIn K (.ref f) = true
  b : Binds K fd ps []
  g : mg x = some (.ref f)
section
variable {P : Program} {w : World} {K : PySem.W.Frag} {mg : Str → Option Value} {base : Heap} {f : Addr} {fd : FuncData}
/-- a row appended -/
theorem HoX.row {c : Cn} {MT MS : Addr → Prop} {x dx p th kf tr wd pr : Addr} {ds : Dims} {ms : List Str} {S : Hs} {fa wa : Str → Addr} {rs : List V} {H H' : Hp} {r : Rw} (h : HoX K c H MT MS x ds ms S dx p th kf tr wd fa wa rs) (hr : r.at K H pr) (eH : upd H tr (.lst (rs ++ [.ref pr])) = H') : HoX K c H' MT MS x ds ms (S.told r) dx p th kf tr wd fa wa (rs ++ [.ref pr]) := by
  have kk : Keep (fun b => b ≠ tr) H H' := fun b u eb tb q => by
    rw [← eH]
    by_cases z : b = tr
    · rw [z, h.hr] at eb
      cases eb
      exact q.elim (fun q => absurd q (Chg.notT trivial)) fun q => absurd z q
    · rw [upd_ne z]; exact eb
  have ks : Keep MS H H' := kk.mono fun b m z => h.r2 (by rw [← z]; exact m)
  have kt : Keep MT H H' := kk.mono fun b m z => h.r1 (by rw [← z]; exact m)
  exact ⟨ks.at h.hx trivial h.sx, h.sx, h.pl.keep ks, h.th.keep kt, kk.at h.hf trivial (ne_of h.hf h.hr (fun z => nomatch z)), fun e he => (h.fi e he).keep kk, by rw [← eH]; exact upd_same, PySem.Paired.snoc (PySem.Paired.mono (fun _ _ => RwRef.keep kk) h.ri) ⟨pr, rfl, kk.rw_at hr⟩, kk.at h.hw trivial (ne_of h.hw h.hr (fun z => nomatch z)), fun e he => ⟨(h.wi e he).1, (h.wi e he).2.keep (h.wi e he).1 ks⟩, h.d1, h.f1, h.f2, h.r1, h.r2, h.w1, h.w2, h.fw⟩
theorem ints_dp {H : Hp} : ∀ (xs : List Int), DpAll K H (xs.map V.int) (xs.map PyData.int)
  | [] => .nil
  | x :: xs => .cons (.int x) (ints_dp xs)
theorem fints_dp {α : Type} {H : Hp} (g : α → Int) : ∀ (l : List α), DpAll K H (l.map fun t => V.int (g t)) (l.map fun t => PyData.int (g t))
  | [] => .nil
  | x :: xs => .cons (.int _) (fints_dp g xs)
/-! ### House.tell -/
def spTell (K : PySem.W.Frag) (c : Cn) (NR NF : Addr) : Sp := fun vs H Q E => ∃ (x pr : Addr) (M : Addr → Prop) (ds : Dims) (ms : List Str) (S : Hs) (r : Rw), vs = [.ref x, .ref pr] ∧ HoO K c H M x ds ms S ∧ r.at K H pr ∧ r.ok ∧ HsOk ds ms S ∧ S.rows.length < 190 ∧ Tabs (tbS c.Pt) H ∧
  (r.fits ds ms = false → ∀ d H', Same H H' → H d = none → H' d = some (.xd (noF "NoRow" (.ref pr))) → E (.ref NR) (some d) H') ∧
  (∀ name, r = .forget name → lk S.facts name = none → ∀ d H', Same H H' → H d = none → H' d = some (.xd (noF "NoFact" (.str name))) → E (.ref NF) (some d) H') ∧
  (S.takes ds ms r = true → ∀ H' M' v, Fr (tbS c.Pt) M H H' → Nw M M' H → HoO K c H' M' x ds ms (S.tell ds r) → Dp K H' v (S.tellD ds r) → Q v H')
abbrev N_House_tell : List Str := ["self", "row"]
theorem sc_House_tell : FnScope N_House_tell ["self", "row"] (defScope s_House_tell) := ⟨rfl, rfl, rfl, by decide +kernel, rfl, by decide +kernel, by decide +kernel⟩
/-! slots: 0 self 1 row; cells:  -/
theorem ok_tell {c : Cn} {NR NF fL fE f1 f2 f3 : Addr} {fdL fdE fd1 fd2 fd3 : FuncData} (F : FnP K "tell" "House.tell" s_House_tell f fd) (TX : HsTxt K c.CH) (c_look : FunX P w K mg base "look" 5 ["plan", "row"] (spLook K c.CP NR) fL fdL) (EF : ErrM P w K mg base "NoFact" NF fE fdE) (mk1 : MFun P w K mg base c.CH "take_kind" 7 ["self", "thing", "day", "values"] (spHKind K c) f1 fd1)
    (mk2 : MFun P w K mg base c.CH "take_fact" 7 ["self", "name", "day", "keys", "numbers"] (spHFact K c) f2 fd2) (mk3 : MFun P w K mg base c.CH "take_forget" 5 ["self", "name"] (spHForget K c) f3 fd3) : FnOk P w K mg base (L2.CX P w) 8 f fd ["self", "row"] (spTell K c NR NF) := by
  refine F.ok sc_House_tell (fun vs H Q E h => ?_) (fun cdv A outer s H vs Q E hr h => ?_)
  · obtain ⟨x, pr, M, ds, ms, S, r, rfl, _⟩ := h
    rfl
  · obtain ⟨x, pr, M, ds, ms, S, r, rfl, ⟨MT, MS, dx, p, th, kf, tr, wd, fa, wa, rs, rfl, X⟩, hpr, ok, hS, hn, hT, kR, kF, k⟩ := h
    have nd := sc_House_tell.nd
    have hu := hr.units
    have hu1 : (A.deeper (envOfC "House.tell" (defScope s_House_tell) s.heap.objs.size f cdv)).units + 1 < cLine := by omega
    refine ⟨_, (pss_cons (ps_expr (pe_call c_look.G (hr.mono (by decide)) rfl c_look.g c_look.k c_look.b .nil (passes_call (takes_of rfl rfl rfl rfl) (fun _ _ _ _ h => h)) (pa_cons (pe_fld (pv 0) rfl) (pa_cons (pv 1) pa_nil))))
      (pss_cons (ps_if (PW.pt (pw_and (pt_cmpR op_eq (pe_ix ix_tup (pv 1) pe_int (fun _ _ => rfl)) pe_str (nomark _)) (pw_and1 (pt_cmp (pc_dnotin hu1 (pe_ix ix_tup (pv 1) pe_int (fun _ _ => rfl)) (pe_fld (pv 0) rfl))))))
        (pss_one (ps_raise rfl (takes_of rfl rfl rfl rfl) (pmk_err EF.T EF.G (hr.mono (by decide)) EF.b rfl EF.g (pe_ix ix_tup (pv 1) pe_int (fun _ _ => rfl)))))
        pss_nil)
      (pss_cons (ps_expr (pe_bm PySem.F.plainAttrs_list PySem.F.slot_list_append PySem.F.type_list_append mt_append (pe_fld (pv 0) rfl) (pa_cons (pv 1) pa_nil)))
      (pss_cons (ps_if (pt_cmpR op_eq (pe_ix ix_tup (pv 1) pe_int (fun _ _ => rfl)) pe_str (nomark _))
        (pss_one (ps_ret (pe_meth (pv 0) mk1.cl mk1.m mk1.G (hr.mono (by decide)) mk1.b .nil pass0 (pa_cons (pe_tup (pa_cons (pe_ix ix_tup (pv 1) pe_int (fun _ _ => rfl)) (pa_cons (pe_ix ix_tup (pv 1) pe_int (fun _ _ => rfl)) pa_nil))) (pa_cons (pe_ix ix_tup (pv 1) pe_int (fun _ _ => rfl)) (pa_cons (pe_ix ix_tup (pv 1) pe_int (fun _ _ => rfl)) pa_nil))))))
        pss_nil)
      (pss_cons (ps_if (pt_cmpR op_eq (pe_ix ix_tup (pv 1) pe_int (fun _ _ => rfl)) pe_str (nomark _))
        (pss_one (ps_ret (pe_meth (pv 0) mk2.cl mk2.m mk2.G (hr.mono (by decide)) mk2.b .nil pass0 (pa_cons (pe_ix ix_tup (pv 1) pe_int (fun _ _ => rfl)) (pa_cons (pe_ix ix_tup (pv 1) pe_int (fun _ _ => rfl)) (pa_cons (pe_ix ix_tup (pv 1) pe_int (fun _ _ => rfl)) (pa_cons (pe_ix ix_tup (pv 1) pe_int (fun _ _ => rfl)) pa_nil)))))))
        pss_nil)
      (pss_one (ps_ret (pe_meth (pv 0) mk3.cl mk3.m mk3.G (hr.mono (by decide)) mk3.b .nil pass0 (pa_cons (pe_ix ix_tup (pv 1) pe_int (fun _ _ => rfl)) pa_nil))))))))), ?_⟩
    refine ⟨_, rfl, x, c.CH, dx, _, _, rfl, X.hx, TX.cl, TX.nP, hs_plan p th kf tr wd, _, rfl, p, pr, r, ds, ms, rfl, X.pl.at, hpr, ok, fun hfit H1 s1 => ?_, kR⟩
    have X1 := X.same s1
    have lrs : rs.length < sizeLine := by
      rw [X.ri.length]
      exact Nat.lt_trans hn (by decide)
    have wk : ¬ decide (V.str ("kind" : Str) = V.str "forget") = true := by decide +kernel
    have wf : ¬ decide (V.str ("fact" : Str) = V.str "forget") = true := by decide +kernel
    have wfk : ¬ decide (V.str ("fact" : Str) = V.str "kind") = true := by decide +kernel
    have wok : ¬ decide (V.str ("forget" : Str) = V.str "kind") = true := by decide +kernel
    have wof : ¬ decide (V.str ("forget" : Str) = V.str "fact") = true := by decide +kernel
    have back : ∀ {H3 : Hp} {M4 : Addr → Prop}, Fr (tbS c.Pt) (hoM MT MS kf tr wd) H H3 → Nw (hoM MT MS kf tr wd) M4 H3 → Nw (hoM MT MS kf tr wd) M4 H := fun f nw b hb => (nw b hb).elim .inl fun z => (Classical.em (hoM MT MS kf tr wd b)).imp id fun q => z.back f q
    cases r with
    | kind d key day vals =>
      obtain ⟨q, h1, h2⟩ := Rw.same s1 hpr
      have ht : S.takes ds ms (.kind d key day vals) = true := by unfold Hs.takes; rw [hfit]; rfl
      obtain ⟨e, he, hl⟩ := kfits_in hfit
      refine ⟨_, rfl, pr, _, _, _, rfl, rfl, h1, atI_nat (j := 0) rfl, rfl, _, rfl, iteF0 wk (iteF ?_)⟩
      refine ⟨_, rfl, x, c.CH, dx, _, _, rfl, X1.hx, TX.cl, TX.nR, hs_rows p th kf tr wd, .inl ⟨rfl, _, SqL.of X1.hr⟩, _, rfl, tr, rs, _, rfl, rfl, X1.hr, lrs, ?_⟩
      generalize e2 : upd H1 tr _ = H2
      obtain ⟨f2, _, _⟩ := put_of (T := tbS c.Pt) (N := hoM MT MS kf tr wd) X1.hr trivial (.inr (.inr (.inr (.inl rfl)))) e2
      have X2 := X1.row (r := .kind d key day vals) ⟨q, h1, h2⟩ e2
      have h12 := f2.seqT h1
      refine ⟨_, rfl, pr, _, _, _, rfl, rfl, h12, atI_nat (j := 0) rfl, rfl, _, rfl, iteT0 (decide_eq_true rfl) ?_⟩
      refine ⟨_, rfl, x, dx, _, rfl, X2.hx, hs_no (by decide +kernel), _, rfl, pr, _, _, _, rfl, rfl, h12, atI_nat (j := 1) rfl, _, rfl, pr, _, _, _, rfl, rfl, h12, atI_nat (j := 2) rfl, by show 2 ≤ sizeLine; decide, fun t nt => ?_⟩
      generalize e3 : upd H2 t _ = H3
      obtain ⟨s3, et⟩ := new_of nt e3
      have h13 := Same.seqT s3 h12
      have f03 : Fr (tbS c.Pt) (hoM MT MS kf tr wd) H H3 := ((Fr.of s1).trans f2).trans (Fr.of s3)
      have hS0 := hS.tok
      refine ⟨_, rfl, pr, _, _, _, rfl, rfl, h13, atI_nat (j := 3) rfl, _, rfl, pr, _, _, _, rfl, rfl, h13, atI_nat (j := 4) rfl, x, t, q, _, ds, ms, _, (d, key), e, day, vals, S.rows.length, 5 * S.rows.length, rfl, (X2.same s3).o, et, Same.seqT s3 (f2.seqT h2), hS.fo (by omega), ok.1, ok.2.1, he, hl, hS.tok, by omega, by omega, hS.fkn, f03.tb hT, fun H4 M4 r' f4 nw4 O4 hr' => ?_⟩
      have ew : wsOf ds d = e.2.map (·.2) := wsOf_some he
      refine k ht H4 M4 (.ref r') (f03.trans f4) (back f03 nw4) ?_ ?_
      · unfold Hs.tell
        simp only [ew]
        exact O4
      · unfold Hs.tellD
        simp only [ew]
        exact .tup (SqT.of hr') (.cons (.str _) (.cons (.int _) (.cons (.int _) (.cons (.int _) .nil))))
    | fact name day keys nums =>
      obtain ⟨q1, q2, h1, h2, h3⟩ := Rw.same s1 hpr
      have ht : S.takes ds ms (.fact name day keys nums) = true := by unfold Hs.takes; rw [hfit]; rfl
      refine ⟨_, rfl, pr, _, _, _, rfl, rfl, h1, atI_nat (j := 0) rfl, rfl, _, rfl, iteF0 wf (iteF ?_)⟩
      refine ⟨_, rfl, x, c.CH, dx, _, _, rfl, X1.hx, TX.cl, TX.nR, hs_rows p th kf tr wd, .inl ⟨rfl, _, SqL.of X1.hr⟩, _, rfl, tr, rs, _, rfl, rfl, X1.hr, lrs, ?_⟩
      generalize e2 : upd H1 tr _ = H2
      obtain ⟨f2, _, _⟩ := put_of (T := tbS c.Pt) (N := hoM MT MS kf tr wd) X1.hr trivial (.inr (.inr (.inr (.inl rfl)))) e2
      have X2 := X1.row (r := .fact name day keys nums) ⟨q1, q2, h1, h2, h3⟩ e2
      have h12 := f2.seqT h1
      have f02 : Fr (tbS c.Pt) (hoM MT MS kf tr wd) H H2 := (Fr.of s1).trans f2
      refine ⟨_, rfl, pr, _, _, _, rfl, rfl, h12, atI_nat (j := 0) rfl, rfl, _, rfl, iteF0 wfk ?_⟩
      refine ⟨_, rfl, pr, _, _, _, rfl, rfl, h12, atI_nat (j := 0) rfl, rfl, _, rfl, iteT0 (decide_eq_true rfl) ?_⟩
      refine ⟨_, rfl, x, dx, _, rfl, X2.hx, hs_no (by decide +kernel), _, rfl, pr, _, _, _, rfl, rfl, h12, atI_nat (j := 1) rfl, _, rfl, pr, _, _, _, rfl, rfl, h12, atI_nat (j := 2) rfl, _, rfl, pr, _, _, _, rfl, rfl, h12, atI_nat (j := 3) rfl, _, rfl, pr, _, _, _, rfl, rfl, h12, atI_nat (j := 4) rfl,
        x, q1, q2, _, ds, ms, _, name, ⟨day, keys, nums⟩, S.rows.length, 5 * S.rows.length, rfl, X2.o, f2.seqT h2, f2.seqT h3, ⟨hS.fo (by omega), by have := hS.fl; show S.facts.length < 200; omega, ok.2.2.1.2, hS.dn, hS.tok, by omega, by omega, hS.fkn⟩, f02.tb hT, fun H4 M4 r' q f4 nw4 O4 hr' hq => ?_⟩
      refine k ht H4 M4 (.ref r') (f02.trans f4) (back f02 nw4) O4 ?_
      refine .tup (SqT.of hr') (.cons (.str _) (.cons (.int _) (.cons (.int _) (.cons (.tup (SqT.of hq) ?_) .nil))))
      exact fints_dp (fun t => (S.factS ds name ⟨day, keys, nums⟩).ts.numOn t day) (thOf ds keys)
    | forget name =>
      have h1 : SqT K H1 pr [.str "forget", .str name] := Rw.same s1 hpr
      have ev := val_map (r := fun n => V.ref (fa n)) (g := fun n : Str => (Sum.inr n : L2.Key)) inr_inj (k := name) (ms := S.facts)
      refine ⟨_, rfl, pr, _, _, _, rfl, rfl, h1, atI_nat (j := 0) rfl, rfl, _, rfl, iteT0 (decide_eq_true rfl) ?_⟩
      refine ⟨_, rfl, pr, _, _, _, rfl, rfl, h1, atI_nat (j := 1) rfl, _, rfl, x, c.CH, dx, _, _, rfl, X1.hx, TX.cl, TX.nF, hs_facts p th kf tr wd, kf, _, rfl, DGet.k (k := Sum.inr name) X1.hf, _, rfl, ?_⟩
      rw [ev]
      cases hlk : lk S.facts name with
      | none =>
        refine iteT ⟨_, rfl, pr, _, _, _, rfl, rfl, h1, atI_nat (j := 1) rfl, err_ok (fun a ha => .inl ⟨name, rfl, ?_⟩) fun d hd => ?_⟩
        · exact ⟨fun c hc => Nat.lt_of_lt_of_le (Tx.ok ok c hc) (by decide), by have := Tx.le ok; omega⟩
        · exact kF name rfl hlk d _ (s1.trans (same_new hd)) (s1.free hd) upd_same
      | some fc =>
        have ht : S.takes ds ms (.forget name) = true := by
          unfold Hs.takes
          rw [hfit]
          show (true && (lk S.facts name).isSome) = true
          rw [hlk]
          rfl
        refine iteF ?_
        refine ⟨_, rfl, x, c.CH, dx, _, _, rfl, X1.hx, TX.cl, TX.nR, hs_rows p th kf tr wd, .inl ⟨rfl, _, SqL.of X1.hr⟩, _, rfl, tr, rs, _, rfl, rfl, X1.hr, lrs, ?_⟩
        generalize e2 : upd H1 tr _ = H2
        obtain ⟨f2, _, _⟩ := put_of (T := tbS c.Pt) (N := hoM MT MS kf tr wd) X1.hr trivial (.inr (.inr (.inr (.inl rfl)))) e2
        have X2 := X1.row (r := .forget name) h1 e2
        have h12 := f2.seqT h1
        have f02 : Fr (tbS c.Pt) (hoM MT MS kf tr wd) H H2 := (Fr.of s1).trans f2
        refine ⟨_, rfl, pr, _, _, _, rfl, rfl, h12, atI_nat (j := 0) rfl, rfl, _, rfl, iteF0 wok ?_⟩
        refine ⟨_, rfl, pr, _, _, _, rfl, rfl, h12, atI_nat (j := 0) rfl, rfl, _, rfl, iteF0 wof ?_⟩
        refine ⟨_, rfl, x, dx, _, rfl, X2.hx, hs_no (by decide +kernel), _, rfl, pr, _, _, _, rfl, rfl, h12, atI_nat (j := 1) rfl, x, _, ds, ms, _, name, fc, rfl, X2.o, hlk, hS.fo (by omega), hS.dn, hS.fkn, fun H4 r' f4 O4 hr' => ?_⟩
        refine k ht H4 _ (.ref r') (f02.trans f4) Nw.refl ?_ ?_
        · unfold Hs.tell
          simp only [hlk]
          exact O4
        · unfold Hs.tellD
          simp only [hlk]
          exact .tup (SqT.of hr') (.cons (.str _) (.cons (.int _) .nil))
end
end Kd

/-! texts sorted -/
namespace Kd
open PySem PySem.Spec PyProof.Rows L2
def leS (a b : Str) : Bool := !ltCps b.cps.toList a.cps.toList
def srtS (l : List Str) : List Str := l.mergeSort leS
theorem leS_iff (a b : Str) : leS a b = true ↔ a.cps.toList ≤ b.cps.toList := by
  unfold leS
  rw [ltCps_eq, Bool.not_eq_true', decide_eq_false_iff_not]
  exact List.not_lt
theorem str_ext {a b : Str} (h : a.cps.toList = b.cps.toList) : a = b := by
  cases a; cases b
  congr 1
  exact Array.toList_inj.mp h
theorem leS_trans (a b c : Str) (h1 : leS a b = true) (h2 : leS b c = true) : leS a c = true := by
  rw [leS_iff] at *
  exact List.le_trans h1 h2
theorem leS_total (a b : Str) : (leS a b || leS b a) = true := by
  rw [Bool.or_eq_true, leS_iff, leS_iff]
  exact List.le_total _ _
theorem leS_anti {a b : Str} (h1 : leS a b = true) (h2 : leS b a = true) : a = b := by
  rw [leS_iff] at *
  exact str_ext (List.le_antisymm h1 h2)
theorem rising_pw : ∀ (p : Str) (l : List Str), risingS p l = true → (p :: l).Pairwise fun a b => leS a b = true
  | p, [], _ => List.pairwise_singleton _ _
  | p, x :: r, h => by
    have h : (!ltCps x.cps.toList p.cps.toList && risingS x r) = true := h
    rw [Bool.and_eq_true] at h
    have ih := rising_pw x r h.2
    refine List.pairwise_cons.mpr ⟨fun y hy => ?_, ih⟩
    rcases List.mem_cons.mp hy with rfl | hy
    · exact h.1
    · exact leS_trans _ _ _ h.1 (List.rel_of_pairwise_cons ih hy)
theorem sorted_pw {l : List Str} (h : sortedS l = true) : l.Pairwise fun a b => leS a b = true := by
  cases l with
  | nil => exact List.Pairwise.nil
  | cons x r => exact rising_pw x r h
theorem sorted_eq {ys l : List Str} (hp : ys.Perm l) (h : sortedS ys = true) : ys = srtS l := by
  refine List.Perm.eq_of_pairwise (le := fun a b => leS a b = true) (fun a b _ _ h1 h2 => leS_anti h1 h2) (sorted_pw h) ?_ (hp.trans (List.mergeSort_perm l _).symm)
  exact List.pairwise_mergeSort leS_trans leS_total l
theorem srtS_perm (l : List Str) : (srtS l).Perm l := List.mergeSort_perm l _
theorem srtS_len (l : List Str) : (srtS l).length = l.length := (srtS_perm l).length_eq
/-- the order of what is sorted is nothing to it -/
theorem srtS_of_perm {a b : List Str} (h : a.Perm b) : srtS a = srtS b := by
  refine List.Perm.eq_of_pairwise (le := fun a b => leS a b = true) (fun a b _ _ h1 h2 => leS_anti h1 h2) (List.pairwise_mergeSort leS_trans leS_total a) (List.pairwise_mergeSort leS_trans leS_total b) ((srtS_perm a).trans (h.trans (srtS_perm b).symm))
end Kd

/-! len(o) of an own class -/
namespace KdLn
open PySem PySem.Spec PyProof.Rows L2
section
variable {X : Cx} {CX : CXT} {n : Nat} {C f : Addr} {fd : FuncData} {ps : List Str} {sp : Sp} {E : XK}
end
end KdLn

namespace Kd
open PySem PySem.Spec PyProof.Rows L2 LamX
def factD (ds : Dims) (S : Hs) (name : Str) : PyData := match lk S.facts name with
  | some fc => .tuple [.str name, .int fc.day, .tuple (fc.keys.map PyData.str), .tuple (fc.nums.map PyData.int), .tuple ((thOf ds fc.keys).map fun t => PyData.int (S.ts.numOn t fc.day))]
  | none => .none
def Hs.names (S : Hs) : List Str := srtS (S.facts.map (·.1))
def Hs.factsD (S : Hs) (ds : Dims) : List PyData := S.names.map (factD ds S)
theorem factD_nol (ds : Dims) (S : Hs) (name : Str) : NoL 3 (factD ds S name) := by
  unfold factD
  split
  · intro d hd
    simp only [List.mem_cons, List.not_mem_nil, or_false] at hd
    rcases hd with rfl | rfl | rfl | rfl | rfl
    · exact trivial
    · exact trivial
    · intro e he
      obtain ⟨z, _, rfl⟩ := List.mem_map.mp he
      exact trivial
    · intro e he
      obtain ⟨z, _, rfl⟩ := List.mem_map.mp he
      exact trivial
    · intro e he
      obtain ⟨z, _, rfl⟩ := List.mem_map.mp he
      exact trivial
  · exact trivial
def Ts.keysL (ts : Ts) (z : Str) : List Str := (ts.nums.filter fun e => decide (e.1.1 = z)).map fun e => e.1.2
def Hs.keysOf (S : Hs) (z : Str) : List Str := srtS (S.ts.keysL z)
section
variable {P : Program} {w : World} {K : PySem.W.Frag} {mg : Str → Option Value} {base : Heap} {f : Addr} {fd : FuncData}
/-! ### House.rows -/
/-! slots: 0 self; cells:  -/
/-! ### House.__len__ -/
/-! slots: 0 self; cells:  -/
/-! ### House.facts -/
def spFactsH (K : PySem.W.Frag) (c : Cn) : Sp := fun vs H Q _ => ∃ (x : Addr) (M : Addr → Prop) (ds : Dims) (ms : List Str) (S : Hs), vs = [.ref x] ∧ HoO K c H M x ds ms S ∧ S.facts.length < 64 ∧ ds.length ≤ 4 ∧ (S.facts.map (·.1)).Nodup ∧ (∀ e ∈ S.facts, ∀ t ∈ thOf ds e.2.keys, Known S.ts e.2.day t) ∧
  ∀ l ys H', Same H H' → H l = none → H' l = some (.lst ys) → DpAll K H' ys (S.factsD ds) → Q (.ref l) H'
abbrev N_House_facts : List Str := ["self", "told", "name", "day", "keys", "numbers"]
theorem sc_House_facts : FnScope N_House_facts ["self"] (defScope s_House_facts) := ⟨rfl, rfl, rfl, by decide +kernel, rfl, by decide +kernel, by decide +kernel⟩
/-! slots: 0 self 1 told 2 name 3 day 4 keys 5 numbers; cells:  -/
theorem ok_factsH {c : Cn} {fL : Addr} {fdL : FuncData} (F : FnP K "facts" "House.facts" s_House_facts f fd) (TX : HsTxt K c.CH) (mL : MFun P w K mg base c.CH "led" 3 ["self", "day", "keys"] (spLed K c) fL fdL) (z_list : mg "list" = none) (z_sorted : mg "sorted" = none) : FnOk P w K mg base CX0 4 f fd ["self"] (spFactsH K c) := by
  refine F.ok sc_House_facts (fun vs H Q E h => ?_) (fun cdv A outer s H vs Q E hr h => ?_)
  · obtain ⟨x, M, ds, ms, S, rfl, _⟩ := h
    rfl
  · obtain ⟨x, M, ds, ms, S, rfl, ⟨MT, MS, dx, p, th, kf, tr, wd, fa, wa, rs, rfl, X⟩, l64, d4, fn, kn, k⟩ := h
    have nd := sc_House_facts.nd
    have hu := hr.units
    have hu1 : (A.deeper (envOfC "House.facts" (defScope s_House_facts) s.heap.objs.size f cdv)).units + 1 < cLine := by omega
    refine ⟨_, PSs.nox (pss_cons (ps_set (i := 1) nd rfl (Or.inl rfl) (pe_lst pa_nil))
      (pss_cons (ps_for PassesOwn.never rfl (pi_list (pe_callB cr_sortedS (by rfl) z_sorted (by decide +kernel) (pa_cons (pe_callTy (call_listD rfl) (by rfl) z_list (by decide +kernel) (pa_cons (pe_fld (pv 0) rfl) pa_nil)) pa_nil))) (pg_name (i := 2) nd rfl (Or.inl rfl))
        (pss_cons (ps_asg (pe_dget hu1 (pe_fld (pv 0) rfl) (pv 2) (fun _ _ => rfl)) (pg_tup rfl (pgs_cons (pg_name (i := 3) nd rfl (Or.inl rfl)) (pgs_cons (pg_name (i := 4) nd rfl (Or.inl rfl)) (pgs_cons (pg_name (i := 5) nd rfl (Or.inl rfl)) pgs_nil)))))
        (pss_one (ps_expr (pe_bm PySem.F.plainAttrs_list PySem.F.slot_list_append PySem.F.type_list_append mt_append (pv 1) (pa_cons (pe_tup (pa_cons (pv 2) (pa_cons (pv 3) (pa_cons (pv 4) (pa_cons (pv 5) (pa_cons (pe_meth (pv 0) mL.cl mL.m mL.G (hr.mono (by decide)) mL.b .nil pass0 (pa_cons (pv 3) (pa_cons (pv 4) pa_nil))) pa_nil)))))) pa_nil))))))
      (pss_one (ps_ret (pv 1))))), ?_⟩
    refine ⟨by show 0 ≤ sizeLine; decide, fun D nD => ?_⟩
    generalize e0 : upd H D _ = H0
    obtain ⟨s0, eD⟩ := new_of nD e0
    have X0 := X.same s0
    refine set_sl (σ' := [some (.ref x), some (.ref D), none, none, none, none]) rfl ?_
    refine ⟨_, rfl, x, c.CH, dx, _, _, rfl, X0.hx, TX.cl, TX.nF, hs_facts p th kf tr wd, kf, _, rfl, .inl X0.hf, fun l1 n1 => ?_⟩
    generalize e1 : upd H0 l1 _ = H1
    obtain ⟨s1, el1⟩ := new_of n1 e1
    have el1' : H1 l1 = some (.lst ((S.facts.map (·.1)).map V.str)) := by
      rw [el1, List.map_map, List.map_map]
      rfl
    refine ⟨l1, S.facts.map (·.1), rfl, SqL.of el1', by rw [List.length_map]; exact l64, fun ns l2 hperm hsort n2 => ?_⟩
    have ens : ns = S.names := sorted_eq hperm hsort
    subst ens
    generalize e2 : upd H1 l2 _ = H2
    obtain ⟨s2, el2⟩ := new_of n2 e2
    have s02 : Same H H2 := s0.trans (s1.trans s2)
    have eD2 := (s1.trans s2) _ _ eD
    have nl2D : l2 ≠ D := fun z => by rw [z, s1 _ _ eD] at n2; cases n2
    have lnm : S.names.length < 64 := by
      unfold Hs.names
      rw [srtS_len, List.length_map]
      exact l64
    have nMD : ¬ hoM MT MS kf tr wd D := X.live.notN nD
    refine ⟨l2, rfl, ⟨_, SqL.of el2⟩, for_list (K := K) (a := l2) (xs := S.names.map V.str) (fun i σ R => ∃ ys b2 b3 b4 b5, σ = [some (.ref x), some (.ref D), b2, b3, b4, b5] ∧ R D = some (.lst ys) ∧ ys.length ≤ i ∧ DpAll K R ys ((S.names.take i).map (factD ds S)) ∧ Same H2 (upd R D (.lst [])) ∧ R l2 = some (.lst (S.names.map V.str))) ⟨[], none, none, none, none, rfl, eD2, Nat.le_refl _, .nil, ?_, el2⟩ (fun i σ R _ z => ?_) (fun i y σ R hy z => ?_) (fun σ R z => ?_)⟩
    · intro b o e
      by_cases q : b = D
      · rw [q] at e ⊢
        rw [eD2] at e
        rw [upd_same]
        exact e
      · rw [upd_ne q]; exact e
    · obtain ⟨_, _, _, _, _, _, _, _, _, _, h⟩ := z
      exact SqL.of h
    · obtain ⟨ys, b2, b3, b4, b5, rfl, hD, ly, dy, sm, hl2⟩ := z
      obtain ⟨name, rfl, hnm⟩ := strs_at hy
      have hin : name ∈ S.facts.map (·.1) := (srtS_perm _).mem_iff.mp (List.mem_of_getElem? hnm)
      obtain ⟨fc, hlk⟩ := lk_some_key hin
      have kR : Keep (fun b => b ≠ D) H R := fun b o e tb q => by
        have nb : b ≠ D := fun z => by rw [z, nD] at e; cases e
        have := sm _ _ (s02 _ _ e)
        rw [upd_ne nb] at this
        exact this
      have XR := X.keep (H' := R) (kR.mono fun b m z => nMD (by rw [← z]; exact m))
      obtain ⟨q1, q2, a1, a2, a3⟩ := XR.fi (name, fc) (lk_mem hlk)
      have ev := val_map (r := fun n => V.ref (fa n)) (g := fun n : Str => (Sum.inr n : L2.Key)) inr_inj (k := name) (ms := S.facts)
      rw [hlk] at ev
      refine set_sl (σ' := [some (.ref x), some (.ref D), some (.str name), b3, b4, b5]) rfl ?_
      refine ⟨_, rfl, x, c.CH, dx, _, _, rfl, XR.hx, TX.cl, TX.nF, hs_facts p th kf tr wd, _, rfl, kf, _, rfl, .inl ⟨_, Sum.inr name, .inl XR.hf, rfl, ev.symm⟩, fa name, _, rfl, a1, rfl, _, _, rfl, _, _, rfl, _, _, rfl, rfl, ?_⟩
      refine sl_eq (σ' := [some (.ref x), some (.ref D), some (.str name), some (.int fc.day), some (.ref q1), some (.ref q2)]) rfl ?_
      refine ⟨_, rfl, .inl ⟨rfl, _, SqL.of hD⟩, _, rfl, _, rfl, _, rfl, _, rfl, _, rfl, x, dx, _, rfl, XR.hx, hs_no (by decide +kernel), _, rfl, _, rfl, x, q1, _, ds, ms, S, fc.day, fc.keys, rfl, XR.o, a2, d4, kn (name, fc) (lk_mem hlk), fun rl H3 s3 hrl => ?_⟩
      refine ⟨by show 5 ≤ sizeLine; decide, fun tq ntq => ?_⟩
      generalize e4 : upd H3 tq _ = H4
      obtain ⟨s4, etq⟩ := new_of ntq e4
      have s34 := s3.trans s4
      have hD4 := s34 _ _ hD
      have li : i < 64 := by
        have := (List.getElem?_eq_some_iff.mp hnm).1
        omega
      refine ⟨D, ys, _, rfl, rfl, hD4, Nat.lt_of_le_of_lt (by omega : ys.length ≤ 64) (by decide), ?_⟩
      generalize e5 : upd H4 D _ = H5
      obtain ⟨f5, eD5, o5⟩ := put_of (T := []) (N := fun b => b = D) hD4 trivial rfl e5
      have k5 : Keep no H4 H5 := f5.keep0
      refine ⟨_, _, _, _, _, rfl, eD5, by rw [List.length_append]; show ys.length + 1 ≤ i + 1; omega, ?_, fun b o e => ?_, by rw [o5 l2 nl2D]; exact s34 _ _ hl2⟩
      · obtain ⟨g1, g2⟩ := List.getElem?_eq_some_iff.mp hnm
        rw [List.take_succ_eq_append_getElem g1, g2, List.map_append]
        refine dpall_snoc (k5.dpall' _ 3 _ (fun d hd => ?_) (DpAll.same s34 _ _ dy)) ?_
        · obtain ⟨z, _, rfl⟩ := List.mem_map.mp hd
          exact factD_nol ds S z
        · refine k5.dp (factD_nol ds S name) ?_
          unfold factD
          rw [hlk]
          exact .tup (SqT.of etq) (.cons (.str _) (.cons (.int _) (.cons (.tup (Same.seqT s34 a2) (DpAll.strs _)) (.cons (.tup (Same.seqT s34 a3) (ints_dp _)) (.cons (.tup (SqT.of (s4 _ _ hrl)) (fints_dp _ _)) .nil)))))
      · by_cases q : b = D
        · have := sm _ _ e
          rw [q, upd_same] at this
          rw [q, upd_same]
          exact this
        · have := sm _ _ e
          rw [upd_ne q] at this
          rw [upd_ne q, o5 b q]
          exact s34 _ _ this
    · obtain ⟨ys, b2, b3, b4, b5, rfl, hD, ly, dy, sm, hl2⟩ := z
      rw [List.length_map, List.take_length] at dy
      refine ⟨_, rfl, k D ys R (fun b o e => ?_) nD hD dy⟩
      have nb : b ≠ D := fun z => by rw [z, nD] at e; cases e
      have := sm _ _ (s02 _ _ e)
      rw [upd_ne nb] at this
      exact this
end
end Kd

namespace Kd
open PySem PySem.Spec PyProof.Rows L2 LamX
section
variable {P : Program} {w : World} {K : PySem.W.Frag} {mg : Str → Option Value} {base : Heap} {f : Addr} {fd : FuncData}
/-! ### House.__init__ -/
theorem hs_put (p th kf tr wd : Addr) : putF "watchers" (.ref wd) (putF "told_rows" (.ref tr) (putF "kept_facts" (.ref kf) (putF "things" (.ref th) (putF "plan" (.ref p) [])))) = hsF p th kf tr wd := by
  have a1 : ("things" : Str) ≠ "plan" := by decide +kernel
  have a2 : ("kept_facts" : Str) ≠ "plan" := by decide +kernel
  have a3 : ("kept_facts" : Str) ≠ "things" := by decide +kernel
  have a4 : ("told_rows" : Str) ≠ "plan" := by decide +kernel
  have a5 : ("told_rows" : Str) ≠ "things" := by decide +kernel
  have a6 : ("told_rows" : Str) ≠ "kept_facts" := by decide +kernel
  have a7 : ("watchers" : Str) ≠ "plan" := by decide +kernel
  have a8 : ("watchers" : Str) ≠ "things" := by decide +kernel
  have a9 : ("watchers" : Str) ≠ "kept_facts" := by decide +kernel
  have a0 : ("watchers" : Str) ≠ "told_rows" := by decide +kernel
  simp [putF, hsF, a1, a2, a3, a4, a5, a6, a7, a8, a9, a0, a1.symm, a2.symm, a3.symm, a4.symm, a5.symm, a6.symm, a7.symm, a8.symm, a9.symm, a0.symm]
def Hs.none : Hs := ⟨⟨[], [], 0⟩, [], [], []⟩
theorem HsOk.start {ds : Dims} {ms : List Str} (d4 : ds.length ≤ 4) (d5 : ∀ d ∈ ds, d.2.length ≤ 5) (dx : ∀ d ∈ ds, Tx d.1) (dn : (ds.map (·.1)).Nodup) : HsOk ds ms Hs.none :=
  ⟨d4, dx, dn, ⟨d5, List.nodup_nil, List.nodup_nil, fun e he => (by cases he), fun e he => (by cases he), fun e he => (by cases he), fun e he => (by cases he), Nat.zero_le _, fun e he => (by cases he), Nat.zero_le _⟩, Nat.zero_le _, List.nodup_nil, fun e he => (by cases he), fun e he => (by cases he), fun e he => (by cases he), fun t h => (by cases h), fun t h => (by cases h), fun e he => (by cases he), fun z => Nat.zero_le _⟩
end
end Kd

namespace Kd
open PySem PySem.Spec PyProof.Rows L2 LamX
section
variable {P : Program} {w : World} {K : PySem.W.Frag} {mg : Str → Option Value} {base : Heap} {f : Addr} {fd : FuncData}
abbrev InitD (K : PySem.W.Frag) (e f : Addr) (fd : FuncData) : Prop := FunD K "__init__" "Plan.__init__" (defArgs s_Plan_init) (defBody s_Plan_init) (defScope s_Plan_init) [.ref e] [] f fd
theorem init_b3 {e : Addr} (F : InitD K e f fd) : ∃ ds, Vals [] ds ∧ Binds K fd ["self", "dimensions", "measures"] ds :=
  F.binds1 (ps := ["self", "dimensions", "measures"]) 3 1 (by simp) rfl fun T kV doc pm an cdv ct us its h1 h2 => match us, its, h1, h2 with
    | [_, _, _], [_], _, _ => ⟨_, rfl, rfl⟩
/-- the class Plan, and how it is called -/
structure PlanC (P : Program) (w : World) (K : PySem.W.Frag) (mg : Str → Option Value) (base : Heap) (C e fI : Addr) (fdI : FuncData) : Prop where
  T : PlTxt K C
  M : Mk K C fI
  GI : FnOk P w K mg base CX0 5 fI fdI ["self", "dimensions", "measures"] (spInit K C)
  gC : mg "Plan" = some (.ref C)
  I : InitD K e fI fdI
  E : ∀ H, SqT K H e []
/-- a class with an __init__ -/
structure ClsC (P : Program) (w : World) (K : PySem.W.Frag) (mg : Str → Option Value) (base : Heap) (x : Str) (n : Nat) (ps : List Str) (sp : Sp) (C fI : Addr) (fdI : FuncData) : Prop where
  M : Mk K C fI
  G : FnOk P w K mg base CX0 n fI fdI ps sp
  b : Binds K fdI ps []
  g : mg x = some (.ref C)
/-! ### House.__init__ -/
def spHInit (K : PySem.W.Frag) (c : Cn) : Sp := fun vs H Q _ => ∃ (x dx p0 : Addr) (ds : Dims) (ms : List Str), vs = [.ref x, .ref p0] ∧ H x = some (.ins c.CH dx []) ∧ PlanAt K c.CP H p0 ds ms ∧ Szd ds ms ∧ ffV ds ms = .non ∧
  ∀ H' M, Fr (tbS c.Pt) (fun b => b = x) H H' → (∀ b, M b → b = x ∨ Fresh H b) → HoO K c H' M x ds ms Hs.none → Q .non H'
theorem sc_hinit : FnScope ["self", "plan"] ["self", "plan"] (defScope s_House_init) := ⟨rfl, rfl, rfl, by decide +kernel, rfl, by decide +kernel, by decide +kernel⟩
theorem ok_hinit {c : Cn} {e fI fT fD fM : Addr} {fdI fdT fdD fdM : FuncData} (F : FnP K "__init__" "House.__init__" s_House_init f fd) (TX : HsTxt K c.CH) (PC : PlanC P w K mg base c.CP e fI fdI) (TC : ClsC P w K mg base "Things" 1 ["self", "plan"] (spThings K c.CT) c.CT fT fdT)
    (GD : FnOk P w K mg base CX0 1 fD fdD ["self"] (spDims K c.CP)) (bD : Binds K fdD ["self"] []) (mD : Meth K c.CP "dimensions" fD) (GM : FnOk P w K mg base CX0 1 fM fdM ["self"] (spMeas K c.CP)) (bM : Binds K fdM ["self"] []) (mM : Meth K c.CP "measures" fM) : FnOk P w K mg base CX0 7 f fd ["self", "plan"] (spHInit K c) := by
  refine F.ok sc_hinit (fun vs H Q E h => ?_) (fun cdv A outer s H vs Q E hr h => ?_)
  · obtain ⟨x, dx, p0, ds, ms, rfl, _⟩ := h
    rfl
  · obtain ⟨x, dx, p0, ds, ms, rfl, hx, hp, sz, ff, k⟩ := h
    obtain ⟨b3s, v3, b3⟩ := init_b3 PC.I
    refine ⟨_, PSs.nox (pss_cons (ps_fld (pv 0) (pe_make PC.M PC.GI (hr.mono (by decide)) rfl PC.gC b3 v3 pass0 (pa_cons (pe_meth0 (pv 1) PC.T.cl mD GD (hr.mono (by decide)) bD .nil pass0) (pa_cons (pe_meth0 (pv 1) PC.T.cl mM GM (hr.mono (by decide)) bM .nil pass0) pa_nil))) rfl)
      (pss_cons (ps_fld (pv 0) (pe_make TC.M TC.G (hr.mono (by decide)) rfl TC.g TC.b .nil pass0 (pa_cons (pe_fld (pv 0) rfl) pa_nil)) rfl)
      (pss_cons (ps_fld (pv 0) pe_dnewK rfl) (pss_cons (ps_fld (pv 0) (pe_lst pa_nil) rfl) (pss_one (ps_fld (pv 0) pe_dnewK rfl)))))), ?_⟩
    obtain ⟨dxp, pa, pb, px, h1, h2, h3, h4⟩ := id hp.ex
    refine ⟨_, rfl, p0, dxp, _, rfl, h1, pl_no0 (by decide +kernel) (by decide +kernel), p0, ds, ms, rfl, hp, fun l xs nl pl => ?_⟩
    generalize e1 : upd H l _ = H1
    obtain ⟨s1, el⟩ := new_of nl e1
    refine ⟨_, rfl, p0, dxp, _, rfl, s1 _ _ h1, pl_no0 (by decide +kernel) (by decide +kernel), p0, ds, ms, rfl, hp.same s1, fun m nm => ?_⟩
    generalize e2 : upd H1 m _ = H2
    obtain ⟨s2, em⟩ := new_of nm e2
    have s02 := s1.trans s2
    intro y dy ny ndy ney
    have sx : Same H2 (upd (upd H2 dy (.own y)) y (.ins c.CP dy [])) := fun b o q => by rw [upd_ne (ne_of_none q ny), upd_ne (ne_of_none q ndy)]; exact q
    refine ⟨y, dy, l, m, ds, ms, rfl, upd_same, ⟨xs, SqL.of (sx _ _ (s2 _ _ el)), PySem.Paired.mono (fun _ _ => DimAt.same (s02.trans sx)) pl⟩, .inl (SqL.of (sx _ _ em)), sz, ff, fun H3 a b zs na nb e1 e2 e3 e4 s3 => ⟨rfl, ?_⟩⟩
    have s23 : Same H2 H3 := fun b o e => cd_sub _ _ (s3 b o (cd_of (sx b o e) (ne_of_none e ny)))
    have s03 := s02.trans s23
    have fr0 : ∀ b, H3 b ≠ none → (∀ o, H b = some o → H3 b = some o) := fun b _ o e => s03 _ _ e
    have hx3 := s03 _ _ hx
    have nya : y ≠ a := fun z => by rw [← z, upd_same] at na; cases na
    have nyb : y ≠ b := fun z => by rw [← z, upd_same] at nb; cases nb
    have n2a : H2 a = none := sx.free na
    have n2b : H2 b = none := sx.free nb
    have hx2 := s02 _ _ hx
    have nxy : y ≠ x := fun z => by rw [z, hx2] at ny; cases ny
    have nxa : a ≠ x := fun z => by rw [z, hx2] at n2a; cases n2a
    have nxb : b ≠ x := fun z => by rw [z, hx2] at n2b; cases n2b
    refine ⟨_, rfl, x, c.CH, dx, _, rfl, hx3, TX.cl, TX.nP, (by show 0 < 1000; decide), ?_⟩
    generalize e5 : upd H3 x _ = H4
    obtain ⟨f4, ex4, o4⟩ := put_of (T := tbS c.Pt) (N := fun b => b = x) hx3 trivial rfl e5
    have k34 : Keep (fun b => b ≠ x) H3 H4 := f4.keep fun _ z => z
    refine ⟨_, rfl, x, c.CH, dx, _, _, rfl, ex4, TX.cl, TX.nP, (show (putF "plan" (V.ref y) []).lookup ("plan" : Str) = some (V.ref y) by simp [putF, List.lookup]), ?_⟩
    intro th dt nth ndt net
    have st : Same H4 (upd (upd H4 dt (.own th)) th (.ins c.CT dt [])) := fun b o q => by rw [upd_ne (ne_of_none q nth), upd_ne (ne_of_none q ndt)]; exact q
    refine ⟨th, dt, y, rfl, upd_same, fun H5 kd nbn nkd nnb nkn t1 t2 t3 s5 => ⟨rfl, ?_⟩⟩
    have s45 : Same H4 H5 := fun b o e => cd_sub _ _ (s5 b o (cd_of (st b o e) (ne_of_none e nth)))
    have n4k : H4 kd = none := st.free nkd
    have n4n : H4 nbn = none := st.free nnb
    have nxth : th ≠ x := fun z => by rw [z, ex4] at nth; cases nth
    have nxkd : kd ≠ x := fun z => by rw [z, ex4] at n4k; cases n4k
    have nxnb : nbn ≠ x := fun z => by rw [z, ex4] at n4n; cases n4n
    have hx5 := s45 _ _ ex4
    refine ⟨_, rfl, x, c.CH, dx, _, rfl, hx5, TX.cl, TX.nT, (by show 1 < 1000; decide), ?_⟩
    generalize e6 : upd H5 x _ = H6
    obtain ⟨f6, ex6, o6⟩ := put_of (T := tbS c.Pt) (N := fun b => b = x) hx5 trivial rfl e6
    have k56 : Keep (fun b => b ≠ x) H5 H6 := f6.keep fun _ z => z
    intro kf nkf
    generalize e7 : upd H6 kf _ = H7
    obtain ⟨s7, ekf⟩ := new_of nkf e7
    have nxkf : kf ≠ x := fun z => by rw [z, ex6] at nkf; cases nkf
    refine ⟨_, rfl, x, c.CH, dx, _, rfl, s7 _ _ ex6, TX.cl, TX.nF, (by show 2 < 1000; decide), ?_⟩
    generalize e8 : upd H7 x _ = H8
    obtain ⟨f8, ex8, o8⟩ := put_of (T := tbS c.Pt) (N := fun b => b = x) (s7 _ _ ex6) trivial rfl e8
    have k78 : Keep (fun b => b ≠ x) H7 H8 := f8.keep fun _ z => z
    refine ⟨by show 0 ≤ sizeLine; decide, fun tr ntr => ?_⟩
    generalize e9 : upd H8 tr _ = H9
    obtain ⟨s9, etr⟩ := new_of ntr e9
    have nxtr : tr ≠ x := fun z => by rw [z, ex8] at ntr; cases ntr
    refine ⟨_, rfl, x, c.CH, dx, _, rfl, s9 _ _ ex8, TX.cl, TX.nR, (by show 3 < 1000; decide), ?_⟩
    generalize e10 : upd H9 x _ = Ha
    obtain ⟨fa, exa, oa⟩ := put_of (T := tbS c.Pt) (N := fun b => b = x) (s9 _ _ ex8) trivial rfl e10
    have k9a : Keep (fun b => b ≠ x) H9 Ha := fa.keep fun _ z => z
    intro wd nwd
    generalize e11 : upd Ha wd _ = Hb
    obtain ⟨sb, ewd⟩ := new_of nwd e11
    have nxwd : wd ≠ x := fun z => by rw [z, exa] at nwd; cases nwd
    refine ⟨_, rfl, x, c.CH, dx, _, rfl, sb _ _ exa, TX.cl, TX.nW, (by show 4 < 1000; decide), ?_⟩
    rw [hs_put]
    generalize e12 : upd Hb x _ = Hc
    obtain ⟨fc, exc, oc⟩ := put_of (T := tbS c.Pt) (N := fun b => b = x) (sb _ _ exa) trivial rfl e12
    have kbc : Keep (fun b => b ≠ x) Hb Hc := fc.keep fun _ z => z
    -- what stands at the end
    have k5c : Keep (fun b => b ≠ x) H5 Hc := ((((k56.trans (Keep.of s7)).trans k78).trans (Keep.of s9)).trans ((k9a.trans (Keep.of sb)).trans kbc))
    have k3c : Keep (fun b => b ≠ x) H3 Hc := (k34.trans (Keep.of s45)).trans k5c
    have k7c : Keep (fun b => b ≠ x) H7 Hc := (k78.trans (Keep.of s9)).trans ((k9a.trans (Keep.of sb)).trans kbc)
    have f0c : Fr (tbS c.Pt) (fun b => b = x) H Hc := (((((Fr.of s03).trans f4).trans (Fr.of s45)).trans f6).trans ((Fr.of s7).trans f8)).trans (((Fr.of s9).trans fa).trans ((Fr.of sb).trans fc))
    have f04 : Fr (tbS c.Pt) (fun b => b = x) H H4 := (Fr.of s03).trans f4
    have f06 : Fr (tbS c.Pt) (fun b => b = x) H H6 := (f04.trans (Fr.of s45)).trans f6
    have f08 : Fr (tbS c.Pt) (fun b => b = x) H H8 := f06.trans ((Fr.of s7).trans f8)
    have f0a : Fr (tbS c.Pt) (fun b => b = x) H Ha := f08.trans ((Fr.of s9).trans fa)
    have pc1 := k3c.at e1 trivial nxy
    have pc2 := k3c.at e2 trivial nxa
    have pc4 := k3c.at e4 trivial nxb
    have pc3 : Paired (DimAt K Hc) zs ds := PySem.Paired.mono (fun _ _ => keep_dim k3c) e3
    have tc1 := k5c.at t1 trivial nxth
    have tc2 := k5c.at t2 trivial nxkd
    have tc3 := k5c.at t3 trivial nxnb
    have kfc := k7c.at ekf trivial nxkf
    have trc := (k9a.trans (Keep.of sb)).trans kbc |>.at etr trivial nxtr
    have wdc := kbc.at ewd trivial nxwd
    -- the new things stand apart of the plan's objects
    have n4 : ∀ u o, H4 u = some o → u ≠ th ∧ u ≠ kd ∧ u ≠ nbn := fun u o e => ⟨ne_of_none e nth, ne_of_none e n4k, ne_of_none e n4n⟩
    have ay := n4 y _ (k34.at e1 trivial nxy)
    have aa := n4 a _ (k34.at e2 trivial nxa)
    have ab := n4 b _ (k34.at e4 trivial nxb)
    have ax := n4 x _ ex4
    have n6 : ∀ u o, H6 u = some o → u ≠ kf := fun u o e => ne_of_none e nkf
    have n8 : ∀ u o, H8 u = some o → u ≠ tr := fun u o e => ne_of_none e ntr
    have na : ∀ u o, Ha u = some o → u ≠ wd := fun u o e => ne_of_none e nwd
    have k36 := (k34.trans (Keep.of s45)).trans k56
    have k68 : Keep (fun b => b ≠ x) H6 H8 := (Keep.of s7).trans k78
    have k8a : Keep (fun b => b ≠ x) H8 Ha := (Keep.of s9).trans k9a
    have hkf8 := k78.at ekf trivial nxkf
    have hkfa := k8a.at hkf8 trivial nxkf
    have htra := k9a.at etr trivial nxtr
    have py6 := k36.at e1 trivial nxy
    have pa6 := k36.at e2 trivial nxa
    have pb6 := k36.at e4 trivial nxb
    have pt6 := k56.at t1 trivial nxth
    have pk6 := k56.at t2 trivial nxkd
    have pn6 := k56.at t3 trivial nxnb
    have PO : PlanO K c.CP Hc (fun u => u = x ∨ u = y ∨ u = a ∨ u = b) y ds ms := by
      obtain ⟨lv, pl0⟩ := PlanO.mk (K := K) (C := c.CP) pc1 pc2 pc3 pc4
      refine ⟨?_, fun H' kp => pl0 H' (kp.mono fun u hu => .inr hu)⟩
      rintro u (rfl | hu)
      · exact ⟨_, exc, trivial⟩
      · exact lv u hu
    have X : HoX K c Hc (fun u => u = th ∨ u = kd ∨ u = nbn) (fun u => u = x ∨ u = y ∨ u = a ∨ u = b) x ds ms Hs.none dx y th kf tr wd (fun _ => x) (fun _ => x) [] := by
      refine ⟨exc, .inl rfl, PO, ⟨?_, dt, kd, nbn, fun _ => x, fun _ => x, tc1, tc2, tc3, nkn, .inl rfl, .inr (.inl rfl), .inr (.inr rfl), fun e he => (by cases he), fun e he => (by cases he), fun e he => (by cases he)⟩, kfc, fun e he => (by cases he), trc, .nil, wdc, fun e he => (by cases he), ?_, ?_, ?_, ?_, ?_, ?_, ?_, ?_⟩
      · rintro u (rfl | rfl | rfl)
        · exact ⟨_, tc1, trivial⟩
        · exact ⟨_, tc2, trivial⟩
        · exact ⟨_, tc3, trivial⟩
      · rintro u (rfl | rfl | rfl | rfl) (q | q | q)
        · exact ax.1 q
        · exact ax.2.1 q
        · exact ax.2.2 q
        · exact ay.1 q
        · exact ay.2.1 q
        · exact ay.2.2 q
        · exact aa.1 q
        · exact aa.2.1 q
        · exact aa.2.2 q
        · exact ab.1 q
        · exact ab.2.1 q
        · exact ab.2.2 q
      · rintro (q | q | q)
        · exact n6 th _ pt6 q.symm
        · exact n6 kd _ pk6 q.symm
        · exact n6 nbn _ pn6 q.symm
      · rintro (q | q | q | q)
        · exact nxkf q
        · exact n6 y _ py6 q.symm
        · exact n6 a _ pa6 q.symm
        · exact n6 b _ pb6 q.symm
      · rintro (q | q | q)
        · exact n8 th _ (k68.at pt6 trivial nxth) q.symm
        · exact n8 kd _ (k68.at pk6 trivial nxkd) q.symm
        · exact n8 nbn _ (k68.at pn6 trivial nxnb) q.symm
      · rintro (q | q | q | q)
        · exact nxtr q
        · exact n8 y _ (k68.at py6 trivial nxy) q.symm
        · exact n8 a _ (k68.at pa6 trivial nxa) q.symm
        · exact n8 b _ (k68.at pb6 trivial nxb) q.symm
      · rintro (q | q | q)
        · exact na th _ (k8a.at (k68.at pt6 trivial nxth) trivial nxth) q.symm
        · exact na kd _ (k8a.at (k68.at pk6 trivial nxkd) trivial nxkd) q.symm
        · exact na nbn _ (k8a.at (k68.at pn6 trivial nxnb) trivial nxnb) q.symm
      · rintro (q | q | q | q)
        · exact nxwd q
        · exact na y _ (k8a.at (k68.at py6 trivial nxy) trivial nxy) q.symm
        · exact na a _ (k8a.at (k68.at pa6 trivial nxa) trivial nxa) q.symm
        · exact na b _ (k8a.at (k68.at pb6 trivial nxb) trivial nxb) q.symm
      · exact na kf _ hkfa
    refine k Hc _ f0c (fun u hu => ?_) X.o
    rcases hu with (rfl | rfl | rfl) | (rfl | rfl | rfl | rfl) | rfl | rfl | rfl
    · exact .inr ((Fresh.of nth).back f04 nxth)
    · exact .inr ((Fresh.of n4k).back f04 nxkd)
    · exact .inr ((Fresh.of n4n).back f04 nxnb)
    · exact .inl rfl
    · exact .inr (Fresh.of (s02.free ny))
    · exact .inr (Fresh.of (s02.free n2a))
    · exact .inr (Fresh.of (s02.free n2b))
    · exact .inr ((Fresh.of nkf).back f06 nxkf)
    · exact .inr ((Fresh.of ntr).back f08 nxtr)
    · exact .inr ((Fresh.of nwd).back f0a nxwd)
end
end Kd

namespace Kd
open PySem PySem.Spec PyProof.Rows L2 LamX
section
variable {P : Program} {w : World} {K : PySem.W.Frag} {mg : Str → Option Value} {base : Heap} {f : Addr} {fd : FuncData} {H H' : Hp} {a g l m x : Addr} {n : Nat} {T : TB} {M N : Addr → Prop} {ds : Dims} {ms : List Str} {c : Cn} {S : Hs}
theorem att_keep {y : V} {z : Str × Str} (k : Keep M H H') : AttAt K H y z → AttAt K H' y z := fun ⟨r, h1, h2⟩ => ⟨r, h1, k.seqT h2⟩
theorem atts_keep {q : Addr} {as : List (Str × Str)} (k : Keep M H H') : AttsAt K H q as → AttsAt K H' q as := fun ⟨ys, h1, h2⟩ => ⟨ys, k.seqT h1, PySem.Paired.mono (fun _ _ => att_keep k) h2⟩
theorem dim_keep {y : V} {d : Dm} (k : Keep M H H') : DimAt K H y d → DimAt K H' y d := fun ⟨p, q, h1, h2, h3⟩ => ⟨p, q, h1, k.seqT h2, atts_keep k h3⟩
theorem sql_keep {xs : List V} (k : Keep M H H') (hm : M l) (h : SqL K H l xs) : SqL K H' l xs := by
  rcases h with (q | ⟨o, q⟩) | q
  · exact .inl (.inl (k _ _ q (fun _ z => nomatch z) (.inr hm)))
  · exact .inl (.inr ⟨o, k _ _ q (fun _ z => nomatch z) (.inr hm)⟩)
  · exact .inr q
theorem dims_keep {l : Addr} (k : Keep M H H') (hm : M l) : DimsAt K H l ds → DimsAt K H' l ds := fun ⟨xs, h1, h2⟩ => ⟨xs, sql_keep k hm h1, PySem.Paired.mono (fun _ _ => dim_keep k) h2⟩
/-- own objects, told of later: not the deck's, not the lists' -/
theorem Nw.out {M' : Addr → Prop} {b : Addr} {o : HO} (nw : Nw M M' H) (e : H b = some o) (t : NoTb o) (h : ¬ M b) : ¬ M' b := fun z => (nw b z).elim h fun q => q o e t
end
end Kd

/-! a source of draws: two objects that change, at a and g; all else stays -/
namespace Kd
open PySem PySem.Spec PyProof.Rows L2 LamX
def dkM (a g : Addr) : Addr → Prop := fun b => b = a ∨ b = g
structure Two (H : Hp) (a g : Addr) : Prop where
  ex : ∃ oa og, H a = some oa ∧ H g = some og ∧ Chg oa ∧ Chg og
section
variable {P : Program} {w : World} {K : PySem.W.Frag} {mg : Str → Option Value} {base : Heap} {f : Addr} {fd : FuncData} {a g b l x p : Addr} {n : Nat} {H H' : Hp} {T : TB} {M N : Addr → Prop} {c : Cn} {ds : Dims} {ms : List Str} {S : Hs}
theorem ctkeepG (s : Same (ct a g H) (ct a g H')) {o : HO} (e : H b = some o) (ha : b ≠ a) (hg : b ≠ g) : H' b = some o := ct_sub _ _ (s b o (ct_of e ha hg))
theorem Two.live (t : Two H a g) : Live (dkM a g) H := by
  obtain ⟨A, G, h1, h2, c1, c2⟩ := t.ex
  rintro b (rfl | rfl)
  · exact ⟨_, h1, c1⟩
  · exact ⟨_, h2, c2⟩
theorem tabs_two (t : Two H a g) (h : Tabs T H) : Tabs T (ct a g H) := fun p hp => by
  obtain ⟨A, G, h1, h2, c1, c2⟩ := t.ex
  obtain ⟨ps, q1, q2, q3⟩ := h p hp
  have na : ∀ {ob : HO}, Chg ob → ob ≠ .tbl ps := fun h z => by rw [z] at h; exact h
  have nx : ∀ {b : Addr} {ob : HO}, H b = some ob → Chg ob → p.1 ≠ b := fun e h z => by
    rw [z, e] at q1
    exact na h (Option.some.inj q1)
  refine ⟨ps, ct_of q1 (nx h1 c1) (nx h2 c2), q2, fun pos cv hc => ?_⟩
  obtain ⟨c, e1, e2⟩ := q3 pos cv hc
  have nn : ∀ {b : Addr} {ob ox : HO}, H b = some ob → Chg ob → H c = some ox → ¬ Chg ox → c ≠ b := fun e h e3 h3 z => by
    rw [z, e] at e3
    exact h3 (by rw [← Option.some.inj e3]; exact h)
  exact ⟨c, e1, ct_of e2 (nn h1 c1 e2 (fun z => z)) (nn h2 c2 e2 (fun z => z))⟩
theorem tabs_drawG (t : Two H a g) (s : Same (ct a g H) (ct a g H')) (h : Tabs T H) : Tabs T H' := Tabs.ext (tabs_two t h) (s.trans ct_sub)
theorem Two.fr (t : Two H a g) (s : Same (ct a g H) (ct a g H')) : Fr T (dkM a g) H H' := by
  obtain ⟨A, G, h1, h2, c1, c2⟩ := t.ex
  refine ⟨fun b o e tb c => ?_, fun tt => tabs_drawG t s tt⟩
  have hb : ¬ dkM a g b := by
    rcases c with c | c
    · rintro (rfl | rfl)
      · rw [h1] at e; cases e; exact c1.notT c
      · rw [h2] at e; cases e; exact c2.notT c
    · exact c
  exact ctkeepG s e (fun z => hb (.inl z)) (fun z => hb (.inr z))
theorem Two.keepX (t : Two H a g) (s : Same (ct a g H) (ct a g H')) : Keep (fun b => ¬ dkM a g b) H H' := (t.fr (T := []) s).keep fun _ z => z
theorem Two.keep0 (t : Two H a g) (s : Same (ct a g H) (ct a g H')) : Keep no H H' := (t.fr (T := []) s).keep0
theorem Two.dims (t : Two H a g) (s : Same (ct a g H) (ct a g H')) (h1 : l ≠ a) (h2 : l ≠ g) (h : DimsAt K H l ds) : DimsAt K H' l ds := dims_keep (t.keepX s) (fun z => z.elim h1 h2) h
theorem Two.rws (t : Two H a g) (s : Same (ct a g H) (ct a g H')) {rs : List V} {rws : List Rw} (h : Paired (RwRef K H) rs rws) : Paired (RwRef K H') rs rws := PySem.Paired.mono (fun _ _ => RwRef.keep (t.keep0 s)) h
theorem Two.rw (t : Two H a g) (s : Same (ct a g H) (ct a g H')) {r : Rw} (h : r.at K H p) : r.at K H' p := (t.keep0 s).rw_at h
theorem Two.seqT (t : Two H a g) {xs : List V} (h : SqT K H p xs) : SqT K (ct a g H) p xs := by
  obtain ⟨A, G, h1, h2, c1, c2⟩ := t.ex
  have nx : ∀ {b : Addr} {ob ox : HO}, H b = some ob → Chg ob → H p = some ox → ¬ Chg ox → p ≠ b := fun e h e3 h3 z => by
    rw [z, e] at e3
    exact h3 (by rw [← Option.some.inj e3]; exact h)
  rcases h with (q | ⟨o, q⟩) | q
  · exact .inl (.inl (ct_of q (nx h1 c1 q (fun z => z)) (nx h2 c2 q (fun z => z))))
  · exact .inl (.inr ⟨o, ct_of q (nx h1 c1 q (fun z => z)) (nx h2 c2 q (fun z => z))⟩)
  · exact .inr q
theorem rws_same {rs : List V} {rws : List Rw} (s : Same H H') (h : Paired (RwRef K H) rs rws) : Paired (RwRef K H') rs rws := PySem.Paired.mono (fun _ _ => RwRef.keep (Keep.of (M := fun _ => True) s)) h
end
end Kd

namespace Kd
open PySem PySem.Spec PyProof.Rows L2
/-- a statement by cases that goes on alike -/
theorem stm_cut {A B : TS} {D : Ends} {σ : L2.St} {H : Hp} (C : L2.St → Hp → Prop) (h2 : ∀ nx : L2.St → Hp → Prop, (∀ σ' H', C σ' H' → nx σ' H') → A { D with nx := nx } σ H) (h1 : ∀ σ' H', C σ' H' → B D σ' H') : tSeq A B D σ H := h2 _ h1
theorem nx_of {D : Ends} {σ : L2.St} {H : Hp} (h : D.nx σ H) : tNext D σ H := h
end Kd

/-! the bag of the laws k60 to k64: a dict of great cells and of what is left, turned, folded -/
namespace Kd
open PySem PySem.Spec PyProof.Rows L2
def bagF (g : Addr) (l t fo : Int) : List (Key × V) := [(Sum.inr "great", .ref g), (Sum.inr "left", .int l), (Sum.inr "turn", .int t), (Sum.inr "fold", .int fo)]
theorem bag_great (g : Addr) (l t fo : Int) : valV (bagF g l t fo) (Sum.inr "great") = some (.ref g) := by simp [bagF, valV, List.find?]
theorem bag_left (g : Addr) (l t fo : Int) : valV (bagF g l t fo) (Sum.inr "left") = some (.int l) := by
  simp [bagF, valV, List.find?, show ("great" : Str) ≠ "left" by decide +kernel]
theorem bag_turn (g : Addr) (l t fo : Int) : valV (bagF g l t fo) (Sum.inr "turn") = some (.int t) := by
  simp [bagF, valV, List.find?, show ("great" : Str) ≠ "turn" by decide +kernel, show ("left" : Str) ≠ "turn" by decide +kernel]
theorem bag_fold (g : Addr) (l t fo : Int) : valV (bagF g l t fo) (Sum.inr "fold") = some (.int fo) := by
  simp [bagF, valV, List.find?, show ("great" : Str) ≠ "fold" by decide +kernel, show ("left" : Str) ≠ "fold" by decide +kernel, show ("turn" : Str) ≠ "fold" by decide +kernel]
theorem bag_putL (g : Addr) (l t fo l' : Int) : putK (bagF g l t fo) (Sum.inr "left") (.int l') = bagF g l' t fo := by
  simp [bagF, putK, show ("great" : Str) ≠ "left" by decide +kernel, show ("turn" : Str) ≠ "left" by decide +kernel, show ("fold" : Str) ≠ "left" by decide +kernel]
theorem bag_putT (g : Addr) (l t fo t' : Int) : putK (bagF g l t fo) (Sum.inr "turn") (.int t') = bagF g l t' fo := by
  simp [bagF, putK, show ("great" : Str) ≠ "turn" by decide +kernel, show ("left" : Str) ≠ "turn" by decide +kernel, show ("fold" : Str) ≠ "turn" by decide +kernel]
theorem bag_merge (g : Addr) (l t fo : Int) : mergeK [] (bagF g l t fo) = bagF g l t fo := by
  simp [mergeK, bagF, putK, show ("great" : Str) ≠ "left" by decide +kernel, show ("great" : Str) ≠ "turn" by decide +kernel, show ("left" : Str) ≠ "turn" by decide +kernel, show ("great" : Str) ≠ "fold" by decide +kernel, show ("left" : Str) ≠ "fold" by decide +kernel, show ("turn" : Str) ≠ "fold" by decide +kernel]
theorem ints_atB {l : List Int} {j : Nat} {v : V} (h : (l.map V.int)[j]? = some v) : ∃ z, v = .int z ∧ l[j]? = some z := by
  rw [List.getElem?_map] at h
  obtain ⟨z, hz, rfl⟩ := Option.map_eq_some_iff.mp h
  exact ⟨z, rfl, hz⟩
theorem mix_ltB {x : Int} : (x % 2305843009213693951).natAbs < 2 ^ 64 := by
  have h0 : 0 ≤ x % 2305843009213693951 := Int.emod_nonneg _ (by decide)
  have h1 : x % 2305843009213693951 < 2305843009213693951 := Int.emod_lt_of_pos _ (by decide)
  omega
structure Bag6 (H : Hp) (a g : Addr) (n : Nat) : Prop where
  ex : ∃ (l t fo : Int) (gs : List Int), H a = some (.dK (bagF g l t fo)) ∧ H g = some (.lst (gs.map V.int)) ∧ (0 ≤ fo ∧ fo < 2305843009213693951) ∧ (0 ≤ t ∧ t ≤ n) ∧ 0 ≤ l ∧ ∀ z ∈ gs, 0 ≤ z
section
variable {P : Program} {w : World} {K : PySem.W.Frag} {mg : Str → Option Value} {base : Heap} {f : Addr} {fd : FuncData} {H H' : Hp} {a g : Addr} {n m : Nat}
theorem Bag6.same (s : Same H H') (t : Bag6 H a g n) : Bag6 H' a g n := by
  obtain ⟨l, t, fo, gs, h1, h2, h3⟩ := t.ex
  exact ⟨l, t, fo, gs, s _ _ h1, s _ _ h2, h3⟩
theorem Bag6.mono (t : Bag6 H a g n) (h : n ≤ m) : Bag6 H a g m := by
  obtain ⟨l, t, fo, gs, h1, h2, h3, h4, h5⟩ := t.ex
  exact ⟨l, t, fo, gs, h1, h2, h3, ⟨h4.1, by omega⟩, h5⟩
theorem Bag6.two (t : Bag6 H a g n) : Two H a g := by
  obtain ⟨l, t, fo, gs, h1, h2, h3⟩ := t.ex
  exact ⟨_, _, h1, h2, trivial, trivial⟩
/-! ### _law_bag -/
def spBag6 (K : PySem.W.Frag) : Sp := fun vs H Q _ => ∃ (l : Addr) (ns : List Int), vs = [.ref l] ∧ SqL K H l (ns.map V.int) ∧ ns.length ≤ 63 ∧ ∀ a g H', H a = none → H g = none → Bag6 H' a g 0 → Same H H' → Q (.ref a) H'
abbrev N_l_bag : List Str := ["script", "fold", "great", "cell"]
theorem sc_l_bag : FnScope N_l_bag ["script"] (defScope s_l_bag) := ⟨rfl, rfl, rfl, by decide +kernel, rfl, by decide +kernel, by decide +kernel⟩
/-! slots: 0 script 1 fold 2 great 3 cell; cells:  -/
theorem ok_bag6 (F : FnP K "_law_bag" "_law_bag" s_l_bag f fd) (z_abs : mg "abs" = none) : FnOk P w K mg base CX0 1 f fd ["script"] (spBag6 K) := by
  refine F.ok sc_l_bag (fun vs H Q E h => ?_) (fun cdv A outer s H vs Q E hr h => ?_)
  · obtain ⟨l, ns, rfl, _⟩ := h
    rfl
  · obtain ⟨l, ns, rfl, hS, hn, k⟩ := h
    have nd := sc_l_bag.nd
    refine ⟨_, PSs.nox (pss_cons (ps_par (i := 1) (j := 2) rfl nd rfl rfl (by decide) rfl rfl (pa_cons pe_int (pa_cons (pe_lst pa_nil) pa_nil)) (by rfl))
      (pss_cons (ps_for PassesOwn.never rfl (pi_list (pv 0)) (pg_name (i := 3) nd rfl (Or.inl rfl))
        (pss_cons (ps_set (i := 1) nd rfl (Or.inl rfl) (pe_op op_mod (pe_op op_add (pe_op op_mul (pv 1) pe_int) (pv 3)) pe_int))
        (pss_one (ps_if (pt_cmpR op_ge (pe_callB call_abs (by rfl) z_abs (by decide +kernel) (pa_cons (pv 3) pa_nil)) (pe_op op_pow pe_int pe_int) (nomark _))
          (pss_one (ps_expr (pe_bm PySem.F.plainAttrs_list PySem.F.slot_list_append PySem.F.type_list_append mt_append (pv 2) (pa_cons (pe_callB call_abs (by rfl) z_abs (by decide +kernel) (pa_cons (pv 3) pa_nil)) pa_nil))))
          pss_nil))))
      (pss_one (ps_ret (pe_disp (pps_cons pe_str (pv 2) (pps_cons pe_str pe_int (pps_cons pe_str pe_int (pps_cons pe_str (pv 1) pps_nil)))) rfl rfl (by simp) (by decide)))))), ?_⟩
    refine ⟨by show 0 ≤ sizeLine; decide, fun g hg => ⟨_, _, rfl, ?_⟩⟩
    refine ⟨_, rfl, l, rfl, ⟨_, (same_new hg).seq hS⟩, for_list (K := K) (a := l) (xs := ns.map V.int) (fun i σ H2 => ∃ (fo : Int) (gs : List Int) (u : Option V), σ = [some (.ref l), some (.int fo), some (.ref g), u] ∧ Same H H2 ∧ H2 g = some (.lst (gs.map V.int)) ∧ gs.length ≤ i ∧ 0 ≤ fo ∧ fo < 2305843009213693951 ∧ ∀ z ∈ gs, 0 ≤ z)
      ⟨_, [], _, rfl, same_new hg, upd_same, Nat.le_refl _, by decide, by decide, fun z hz => (by cases hz)⟩ (fun i σ H2 _ ⟨_, _, _, _, s2, _⟩ => s2.seq hS) ?_ ?_⟩
    · rintro i x σ H2 hi ⟨fo, gs, u, rfl, s2, h2, l2, f0, f1, gz⟩
      have hil : i < (ns.map V.int).length := (List.getElem?_eq_some_iff.mp hi).1
      rw [List.length_map] at hil
      obtain ⟨z, rfl, hz⟩ := ints_atB hi
      refine ⟨_, rfl, _, _, rfl, rfl, .inl ⟨by omega, by omega⟩, _, rfl, _, _, rfl, rfl, _, _, rfl, rfl, (by show (0 : Int) < 2305843009213693951; decide), ?_⟩
      have fb : 0 ≤ (fo * 1000003 + z) % 2305843009213693951 ∧ (fo * 1000003 + z) % 2305843009213693951 < 2305843009213693951 := ⟨Int.emod_nonneg _ (by decide), Int.emod_lt_of_pos _ (by decide)⟩
      refine ⟨_, rfl, _, rfl, _, _, rfl, rfl, ⟨by decide, by decide, by decide⟩, _, _, rfl, rfl, _, rfl, ?_⟩
      refine ite2 (fun _ => ?_) (fun _ => ?_)
      · refine ⟨_, rfl, .inl ⟨rfl, _, SqL.of h2⟩, _, rfl, _, rfl, ?_⟩
        refine ⟨g, _, _, rfl, rfl, h2, small1000 (by rw [List.length_map]; omega), ?_⟩
        refine ⟨_, gs ++ [if z < 0 then -z else z], _, rfl, Same.upd s2 hg, by rw [upd_same, List.map_append]; rfl, by rw [List.length_append]; show _ + 1 ≤ _; omega, fb.1, fb.2, fun y hy => ?_⟩
        rcases List.mem_append.mp hy with h | h
        · exact gz y h
        · rw [List.mem_singleton.mp h]
          split <;> omega
      · exact ⟨_, gs, _, rfl, s2, h2, by omega, fb.1, fb.2, gz⟩
    · rintro σ H2 ⟨fo, gs, u, rfl, s2, h2, l2, f0, f1, gz⟩
      intro a ha
      refine ⟨_, rfl, _, rfl, upd_same, bagF g 0 0 fo, rfl, by show 4 ≤ 15; decide, ?_⟩
      rw [bag_merge, upd_upd]
      exact k a g _ (s2.free ha) hg ⟨0, 0, fo, gs, upd_same, by rw [upd_ne (ne_of_none h2 ha)]; exact h2, ⟨f0, f1⟩, ⟨by decide, by decide⟩, by decide, gz⟩ (Same.to_new s2 ha)
/-! ### _law_draw -/
theorem bag_dg {l t fo : Int} {k : Key} {v : V} (h : H a = some (.dK (bagF g l t fo))) (e : valV (bagF g l t fo) k = some v) : DGet H a (kV k) (some v) := by
  have := DGet.k (k := k) h
  rwa [e] at this
def spDraw6 : Sp := fun vs H Q _ => ∃ (a g : Addr) (n : Nat) (many : Int), vs = [.ref a, .int many] ∧ Bag6 H a g n ∧ n ≤ 10000000 ∧ 0 < many ∧ many < 2 ^ 60 ∧ ∀ (r : Int) H', 0 ≤ r → r < many → Bag6 H' a g (n + 1) → Same (ct a g H) (ct a g H') → Q (.int r) H'
abbrev N_l_draw : List Str := ["bag", "many", "drawn", "turn", "mixed"]
theorem sc_l_draw : FnScope N_l_draw ["bag", "many"] (defScope s_l_draw) := ⟨rfl, rfl, rfl, by decide +kernel, rfl, by decide +kernel, by decide +kernel⟩
/-! slots: 0 bag 1 many 2 drawn 3 turn 4 mixed; cells:  -/
theorem ok_draw6 (F : FnP K "_law_draw" "_law_draw" s_l_draw f fd) (z_len : mg "len" = none) : FnOk P w K mg base CX0 1 f fd ["bag", "many"] spDraw6 := by
  refine F.ok sc_l_draw (fun vs H Q E h => ?_) (fun cdv A outer s H vs Q E hr h => ?_)
  · obtain ⟨a, g, n, many, rfl, _⟩ := h
    rfl
  · obtain ⟨a, g, n, many, rfl, hT, hn, m0, m1, k⟩ := h
    have nd := sc_l_draw.nd
    have hu := hr.units
    have hu1 : (A.deeper (envOfC "_law_draw" (defScope s_l_draw) s.heap.objs.size f cdv)).units + 1 < cLine := by omega
    refine ⟨_, PSs.nox (pss_cons (ps_if (PW.pt (pw_and (pt_cmpR op_lt (pe_dget (hu_of hr) (pv 0) pe_str (fun _ _ => rfl)) (pv 1) (nomark _)) (pw_and1 (pt_cmpR op_gt (pe_callB call_len_seq (by rfl) z_len boot_len (pa_cons (pe_dget (hu_of hr) (pv 0) pe_str (fun _ _ => rfl)) pa_nil)) pe_int (nomark _)))))
        (pss_one (ps_dput (hu_of hr) (pv 0) pe_str (pe_bm PySem.F.plainAttrs_list PySem.F.slot_list_pop PySem.F.type_list_pop mt_popAt (pe_dget (hu_of hr) (pv 0) pe_str (fun _ _ => rfl)) (pa_cons pe_int pa_nil)) rfl))
        pss_nil)
      (pss_cons (ps_if (pt_cmpR op_ge (pe_dget (hu_of hr) (pv 0) pe_str (fun _ _ => rfl)) (pv 1) (nomark _))
        (pss_cons (ps_set (i := 2) nd rfl (Or.inl rfl) (pe_op op_mod (pe_dget (hu_of hr) (pv 0) pe_str (fun _ _ => rfl)) (pv 1)))
        (pss_cons (ps_dput (hu_of hr) (pv 0) pe_str (pe_op op_fdivW (pe_dget (hu_of hr) (pv 0) pe_str (fun _ _ => rfl)) (pv 1)) rfl)
        (pss_one (ps_ret (pv 2)))))
        pss_nil)
      (pss_cons (ps_daug (hu_of hr) (pv 0) pe_str pe_int in_add (fun _ _ _ => rfl))
      (pss_cons (ps_set (i := 3) nd rfl (Or.inl rfl) (pe_dget (hu_of hr) (pv 0) pe_str (fun _ _ => rfl)))
      (pss_cons (ps_set (i := 4) nd rfl (Or.inl rfl) (pe_op op_add (pe_op op_mul (pe_op op_add (pe_dget (hu_of hr) (pv 0) pe_str (fun _ _ => rfl)) (pe_op op_mul pe_int (pv 3))) (pe_op op_pow (pe_op op_add (pv 3) pe_int) pe_int)) (pe_op op_mul pe_int (pv 3))))
      (pss_one (ps_ret (pe_op op_mod (pe_op op_fdiv (pe_op op_mod (pe_op op_pow (pe_op op_mod (pv 4) pe_int) pe_int) (pe_op op_add (pe_op op_pow pe_int pe_int) pe_int)) pe_int) (pv 1))))))))), ?_⟩
    refine stm_cut (fun σ' R' => σ' = [some (.ref a), some (.int many), none, none, none] ∧ Bag6 R' a g n ∧ Same (ct a g H) (ct a g R')) (fun nx hnx => ?_) ?_
    · obtain ⟨l, t, fo, gs, h1, h2, hf, ht, hl, hz⟩ := hT.ex
      have stay : nx [some (.ref a), some (.int many), none, none, none] H := hnx _ _ ⟨rfl, hT, Same.refl _⟩
      refine ⟨_, rfl, a, _, rfl, bag_dg (k := Sum.inr "left") h1 (bag_left ..), _, rfl, _, _, rfl, rfl, _, rfl, ?_⟩
      refine ite2 (fun c1 => ?_) (fun c1 => nx_of stay)
      refine ⟨_, rfl, a, _, rfl, bag_dg (k := Sum.inr "great") h1 (bag_great ..), g, _, rfl, .inl (SqL.of h2), _, _, rfl, rfl, _, rfl, ?_⟩
      rw [List.length_map]
      cases gs with
      | nil => exact ite2 (fun c2 => absurd c2 (by simp)) (fun _ => nx_of stay)
      | cons z zs =>
        refine ite2 (fun _ => ?_) (fun _ => nx_of stay)
        have hag : a ≠ g := fun e => by rw [e, h2] at h1; cases h1
        refine ⟨_, rfl, a, _, rfl, bag_dg (k := Sum.inr "great") h1 (bag_great ..), .inl ⟨rfl, _, SqL.of h2⟩, g, _, 0, 0, .int z, rfl, rfl, h2, by decide, by decide, by simp [seqIndex?], rfl, ?_⟩
        generalize e3 : upd H g _ = H3
        have h3a : H3 a = some (.dK (bagF g l t fo)) := by rw [← e3, upd_ne hag]; exact h1
        refine ⟨_, rfl, a, _, rfl, DPut.k (k := Sum.inr "left") h3a (by show 4 < sizeLine; decide), nx_of ?_⟩
        rw [bag_putL]
        refine hnx _ _ ⟨rfl, ⟨z, t, fo, zs, upd_same, by rw [upd_ne hag.symm, ← e3, upd_same]; rfl, hf, ht, hz z (List.mem_cons_self ..), fun y hy => hz y (List.mem_cons_of_mem _ hy)⟩, ?_⟩
        rw [ct_upda, ← e3, ct_updg]
        exact Same.refl _
    · rintro σ' R ⟨rfl, hB, sB⟩
      obtain ⟨l, t, fo, gs, h1, h2, hf, ht, hl, hz⟩ := hB.ex
      have hag : a ≠ g := fun e => by rw [e, h2] at h1; cases h1
      refine ⟨_, rfl, a, _, rfl, bag_dg (k := Sum.inr "left") h1 (bag_left ..), _, rfl, _, _, rfl, rfl, _, rfl, ?_⟩
      refine ite2 (fun c1 => ?_) (fun c1 => ?_)
      · refine ⟨_, rfl, a, _, rfl, bag_dg (k := Sum.inr "left") h1 (bag_left ..), _, rfl, _, _, rfl, rfl, m0, ?_⟩
        refine set_sl (σ' := [some (.ref a), some (.int many), some (.int (l % many)), none, none]) rfl ?_
        refine ⟨_, rfl, a, _, rfl, bag_dg (k := Sum.inr "left") h1 (bag_left ..), _, rfl, _, _, rfl, rfl, ⟨m0, ?_⟩, ?_⟩
        · have h60 : many.natAbs < 2 ^ 60 := by omega
          exact (Nat.log2_lt (by omega)).mpr (Nat.lt_of_lt_of_le h60 (Nat.pow_le_pow_right (by decide) (by decide)))
        refine ⟨_, rfl, a, _, rfl, DPut.k (k := Sum.inr "left") h1 (by show 4 < sizeLine; decide), ?_⟩
        rw [bag_putL]
        refine ⟨_, rfl, k _ _ (Int.emod_nonneg _ (by omega)) (Int.emod_lt_of_pos _ m0) ⟨l / many, t, fo, gs, upd_same, by rw [upd_ne hag.symm]; exact h2, hf, ⟨ht.1, by omega⟩, Int.ediv_nonneg hl (by omega), hz⟩ ?_⟩
        rw [ct_upda]
        exact sB
      · refine nx_of ?_
        refine ⟨_, rfl, a, .int t, rfl, bag_dg (k := Sum.inr "turn") h1 (bag_turn ..), ?_⟩
        refine ⟨_, _, rfl, rfl, _, DPut.k (k := Sum.inr "turn") h1 (by show 4 < sizeLine; decide), ?_⟩
        rw [bag_putT]
        generalize e3 : upd R a _ = R3
        have h3a : R3 a = some (.dK (bagF g l (t + 1) fo)) := by rw [← e3, upd_same]
        have h3g : R3 g = some (.lst (gs.map V.int)) := by rw [← e3, upd_ne hag.symm]; exact h2
        have s3 : Same (ct a g H) (ct a g R3) := by rw [← e3, ct_upda]; exact sB
        refine ⟨_, rfl, a, _, rfl, bag_dg (k := Sum.inr "turn") h3a (bag_turn ..), ?_⟩
        refine set_sl (σ' := [some (.ref a), some (.int many), none, some (.int (t + 1)), none]) rfl ?_
        refine ⟨_, rfl, a, _, rfl, bag_dg (k := Sum.inr "fold") h3a (bag_fold ..), ?_⟩
        have q0 := hf.1
        have q1 := hf.2
        have q2 := ht.1
        have q3 := ht.2
        refine ⟨_, rfl, _, _, rfl, rfl, .inl ⟨by decide, by decide⟩, _, _, rfl, rfl, ?_⟩
        refine ⟨_, rfl, _, _, rfl, rfl, _, _, rfl, rfl, ⟨by decide, by decide, by omega⟩, _, _, rfl, rfl, .inl ⟨by omega, by omega⟩, ?_⟩
        refine ⟨_, rfl, _, _, rfl, rfl, .inl ⟨by decide, by decide⟩, _, _, rfl, rfl, ?_⟩
        refine set_sl rfl ?_
        refine ⟨_, rfl, _, _, rfl, rfl, (by show (0 : Int) < 2305843009213693951; decide), ?_⟩
        refine ⟨_, _, rfl, rfl, ⟨by decide, by decide, mix_ltB⟩, ?_⟩
        refine ⟨_, _, rfl, rfl, ⟨by decide, by decide, by decide⟩, _, _, rfl, rfl, _, _, rfl, rfl, (by show (0 : Int) < 10 ^ 18 + 9; decide), _, _, rfl, rfl, ⟨by decide, by decide⟩, _, rfl, _, _, rfl, rfl, m0, ?_⟩
        exact k _ _ (Int.emod_nonneg _ (by omega)) (Int.emod_lt_of_pos _ m0) ⟨l, t + 1, fo, gs, h3a, h3g, hf, ⟨by omega, by omega⟩, hl, hz⟩ s3
end
end Kd

namespace Kd
open PySem PySem.Spec PyProof.Rows L2
theorem nm_iff {z : Str} : nmB z = true ↔ IsNm z := by
  unfold nmB
  rw [Bool.and_eq_true, Bool.and_eq_true, decide_eq_true_iff, decide_eq_true_iff, List.all_eq_true]
  constructor
  · rintro ⟨h1, h2, h3⟩
    exact ⟨fun c hc => of_decide_eq_true (h3 c hc), h1, h2⟩
  · rintro ⟨h1, h2, h3⟩
    exact ⟨h2, h3, fun c hc => decide_eq_true (h1 c hc)⟩
/-- a name, or the empty text -/
structure Nm0 (z : Str) : Prop where
  low : Low z
  le8 : z.length ≤ 8
theorem Nm0.nm {z : Str} (h : Nm0 z) (ne : z ≠ Str.empty) : IsNm z := ⟨h.low, by
  rcases Nat.eq_zero_or_pos z.length with e | e
  · refine absurd (Str.ext' (Array.eq_empty_of_size_eq_zero e)) ne
  · exact e, h.le8⟩
theorem flat_len : ∀ (parts : List Str), (∀ z ∈ parts, z.length = 1) → ((parts.map fun z => z.cps.toList).flatten).length = parts.length
  | [], _ => rfl
  | z :: r, h => by
    have ih := flat_len r fun y hy => h y (List.mem_cons_of_mem _ hy)
    have h1 := h z (List.mem_cons_self ..)
    have h2 : z.cps.toList.length = 1 := by rw [Array.length_toList]; exact h1
    rw [List.map_cons, List.flatten_cons, List.length_append, ih, h2, List.length_cons]
    omega
theorem Low.ok {z : Str} (h : Low z) : PyData.strOk z = true := by
  unfold PyData.strOk
  rw [Array.all_eq_true']
  intro c hc
  have := h c (Array.mem_toList_iff.mpr hc)
  exact decide_eq_true (by omega)
end Kd

namespace Kd
open PySem PySem.Spec PyProof.Rows L2
section
variable {P : Program} {w : World} {K : PySem.W.Frag} {mg : Str → Option Value} {base : Heap} {f : Addr} {fd : FuncData}
/-! ### _law_names -/
/-! ### _law_one_of -/
abbrev wayL : List Str := ["day", "day", "first", "last", "before"]
/-! ### what is drawn is a plan -/
structure Good (ds : List (Str × List (Str × Str))) (ms : List Str) : Prop where
  d1 : 1 ≤ ds.length
  d4 : ds.length ≤ 4
  dn : ∀ d ∈ ds, IsNm d.1
  du : (ds.map (·.1)).Nodup
  al : ∀ d ∈ ds, d.2.length ≤ 5
  an : ∀ d ∈ ds, ∀ a ∈ d.2, IsNm a.1 ∧ a.2 ∈ wayL
  au : ∀ d ∈ ds, (d.2.map (·.1)).Nodup
  m4 : ms.length ≤ 4
  mn : ∀ m ∈ ms, IsNm m
  mu : ms.Nodup
theorem flt_false {xs : List Str} {m : Int} (h1 : (xs.length : Int) ≤ m) (h2 : ∀ z ∈ xs, IsNm z) (h3 : xs.Nodup) : fltB xs m = false := by
  unfold fltB
  rw [KdS.dcn_nodup h3 xs.length (Nat.le_refl _), decide_eq_false (by omega), decide_eq_false (by omega), List.all_eq_true.mpr (fun z hz => nm_iff.mpr (h2 z hz))]
  rfl
theorem Good.ff {ds : List (Str × List (Str × Str))} {ms : List Str} (h : Good ds ms) : ffV ds ms = .non := by
  have e1 : ds.isEmpty = false := by
    cases ds with
    | nil => exact absurd h.d1 (by decide)
    | cons _ _ => rfl
  have e2 : fltB (ds.map (·.1)) 4 = false := flt_false (by rw [List.length_map]; have := h.d4; omega) (fun z hz => by
    obtain ⟨d, hd, rfl⟩ := List.mem_map.mp hz
    exact h.dn d hd) h.du
  have e3 : ds.any (fun d => fltB (d.2.map (·.1)) 5) = false := by
    rw [List.any_eq_false]
    intro d hd
    rw [flt_false (by rw [List.length_map]; have := h.al d hd; omega) (fun z hz => by
      obtain ⟨a, ha, rfl⟩ := List.mem_map.mp hz
      exact (h.an d hd a ha).1) (h.au d hd)]
    decide
  have e4 : fltB ms 4 = false := flt_false (by have := h.m4; omega) h.mn h.mu
  unfold ffV
  rw [e1, e2, e3, e4]
  rfl
theorem Good.szd {ds : List (Str × List (Str × Str))} {ms : List Str} (h : Good ds ms) : Szd ds ms where
  dl := by have := h.d4; omega
  dn := fun d hd => ⟨by have := (h.dn d hd).le8; omega, by have := h.al d hd; omega, fun a ha => by have := (h.an d hd a ha).1.le8; omega⟩
  ml := by have := h.m4; omega
  mn := fun m hm => by have := (h.mn m hm).le8; omega

/-! tuples do not lean on lists -/
/-! ### _law_plan -/
end
end Kd

namespace Kd
open PySem PySem.Spec PyProof.Rows L2
theorem cutTo6 (xs : List V) (j : Nat) : cutV xs none (some (j : Int)) = xs.take j := by
  unfold cutV
  rw [HT.sIx_none, HT.sIx_nat, List.drop_zero, Nat.sub_zero]
  by_cases h : j ≤ xs.length
  · rw [Nat.min_eq_left h]
  · rw [Nat.min_eq_right (by omega), List.take_of_length_le (by omega), List.take_of_length_le (by omega)]
theorem slA_take {K : PySem.W.Frag} {H : Hp} {q : Addr} {xs : List V} {k : Nat} {Q : VK} (h : SqT K H q xs) (k1 : ∀ p H', Same H H' → SqT K H' p (xs.take k) → Q (.ref p) H') : rSlA K (.ref q) none (some (k : Int)) H Q := by
  refine ⟨q, xs, rfl, h, fun z => ?_, fun _ p np => ?_⟩
  · refine k1 q H (Same.refl _) ?_
    have h2 := z.2
    rw [HT.sIx_nat] at h2
    rw [List.take_of_length_le (by omega)]
    exact h
  · rw [cutTo6]
    exact k1 p _ (same_new np) (SqT.of upd_same)
abbrev dimL6 : List Str := ["ware", "shop", "hand"]
abbrev attL6 : List Str := ["a", "ab", "b", "c"]
section
variable {P : Program} {w : World} {K : PySem.W.Frag} {mg : Str → Option Value} {base : Heap} {f : Addr} {fd : FuncData}
theorem Bag6.upd {H : Hp} {a g x : Addr} {n : Nat} {o : HO} (h : Bag6 H a g n) (xa : x ≠ a) (xg : x ≠ g) : Bag6 (L2.upd H x o) a g n := by
  obtain ⟨l, t, fo, gs, h1, h2, h3⟩ := h.ex
  exact ⟨l, t, fo, gs, by rw [upd_ne xa.symm]; exact h1, by rw [upd_ne xg.symm]; exact h2, h3⟩
theorem free_ct {H R : Hp} {a g x : Addr} (s : Same (ct a g H) (ct a g R)) (h : R x = none) (xa : x ≠ a) (xg : x ≠ g) : H x = none := by
  cases q : H x with
  | none => rfl
  | some o =>
    have := ct_sub _ _ (s _ _ (ct_of q xa xg))
    rw [this] at h
    cases h
theorem same_putct {H R : Hp} {a g x : Addr} {o : HO} (s : Same (ct a g H) (ct a g R)) (h : H x = none) : Same (ct a g H) (ct a g (L2.upd R x o)) := fun b u e => by
  have hb : b ≠ x := fun z => by
    have := ct_sub _ _ e
    rw [z, h] at this
    cases this
  exact ct_of (by rw [upd_ne hb]; exact ct_sub _ _ (s _ _ e)) (ct_ne e).1 (ct_ne e).2
theorem att_ctB {H : Hp} {a g : Addr} {y : V} {d : Str × Str} (t : Two H a g) : AttAt K H y d → AttAt K (ct a g H) y d := fun ⟨r, e1, e2⟩ => ⟨r, e1, t.seqT e2⟩
theorem dim_ctB {H : Hp} {a g : Addr} {y : V} {d : Dm} (t : Two H a g) : DimAt K H y d → DimAt K (ct a g H) y d :=
  fun ⟨p, q, h1, h2, zs, h3, h4⟩ => ⟨p, q, h1, t.seqT h2, zs, t.seqT h3, PySem.Paired.mono (fun _ _ => att_ctB t) h4⟩
theorem PairedU6 {α β : Type} {F : α → β → Prop} {a : α} {b : β} : ∀ {l₁ : List α} {l₂ : List β}, Paired F l₁ l₂ → F a b → Paired F (l₁ ++ [a]) (l₂ ++ [b])
  | _, _, .nil, h => .cons h .nil
  | _, _, .cons x t, h => .cons x (PairedU6 t h)
def Dims6 (ds : Dims) (k : Nat) : Prop := ds.map (·.1) = dimL6.take k ∧ ∀ d ∈ ds, ∃ j, d.2.map (·.1) = attL6.take j ∧ ∀ z ∈ d.2, z.2 ∈ wayL
/-! ### _law_plan -/
def spPlan6 (K : PySem.W.Frag) : Sp := fun vs H Q _ => ∃ (a g : Addr) (n : Nat), vs = [.ref a] ∧ Bag6 H a g n ∧ n ≤ 9000000 ∧
  ∀ (r lo mo : Addr) (ds : Dims) (ms : List Str) H', H lo = none → H mo = none → H' r = some (.tup [.ref lo, .ref mo]) → (∃ xs, H' lo = some (.lst xs) ∧ Paired (DimAt K H') xs ds) → H' mo = some (.lst (ms.map V.str)) → (∃ k, 1 ≤ k ∧ k ≤ 3 ∧ Dims6 ds k) → (∃ k, ms = (["m", "mm"] : List Str).take k) → lo ≠ a ∧ lo ≠ g ∧ mo ≠ a ∧ mo ≠ g → Bag6 H' a g (n + 30) → Same (ct a g H) (ct a g H') → Q (.ref r) H'
abbrev N_l_plan : List Str := ["bag", "dims", "dim", "some", "name"]
theorem sc_l_plan : FnScope N_l_plan ["bag"] (defScope s_l_plan) := ⟨rfl, rfl, rfl, by decide +kernel, rfl, by decide +kernel, by decide +kernel⟩
/-! slots: 0 bag 1 dims 2 dim 3 some 4 name; cells:  -/
set_option maxHeartbeats 0 in
theorem ok_plan6 {f1 : Addr} {d1 : FuncData} (F : FnP K "_law_plan" "_law_plan" s_l_plan f fd) (c_draw : Fun P w K mg base "_law_draw" 1 ["bag", "many"] spDraw6 f1 d1) (z_tuple : mg "tuple" = none) : FnOk P w K mg base CX0 2 f fd ["bag"] (spPlan6 K) := by
  refine F.ok sc_l_plan (fun vs H Q E h => ?_) (fun cdv A outer s H vs Q E hr h => ?_)
  · obtain ⟨a, g, n, rfl, _⟩ := h
    rfl
  · obtain ⟨a, g, n, rfl, hB, hn, k⟩ := h
    have nd := sc_l_plan.nd
    refine ⟨_, PSs.nox (pss_cons (ps_set (i := 1) nd rfl (Or.inl rfl) (pe_lst pa_nil))
      (pss_cons (ps_for PassesOwn.never rfl (pi_tup (pe_slice sl_tupA (pe_tup (pa_cons pe_str (pa_cons pe_str (pa_cons pe_str pa_nil)))) po_none (po_some (pe_op op_add pe_int (pe_call c_draw.G (hr.mono (by decide)) rfl c_draw.g c_draw.k c_draw.b .nil pass0 (pa_cons (pv 0) (pa_cons pe_int pa_nil))))))) (pg_name (i := 2) nd rfl (Or.inl rfl))
        (pss_cons (ps_set (i := 3) nd rfl (Or.inl rfl) (pe_lst pa_nil))
        (pss_cons (ps_for PassesOwn.never rfl (pi_tup (pe_slice sl_tupA (pe_tup (pa_cons pe_str (pa_cons pe_str (pa_cons pe_str (pa_cons pe_str pa_nil))))) po_none (po_some (pe_call c_draw.G (hr.mono (by decide)) rfl c_draw.g c_draw.k c_draw.b .nil pass0 (pa_cons (pv 0) (pa_cons pe_int pa_nil)))))) (pg_name (i := 4) nd rfl (Or.inl rfl))
          (pss_one (ps_expr (pe_bm PySem.F.plainAttrs_list PySem.F.slot_list_append PySem.F.type_list_append mt_append (pv 3) (pa_cons (pe_tup (pa_cons (pv 4) (pa_cons (pe_ix ix_tup (pe_tup (pa_cons pe_str (pa_cons pe_str (pa_cons pe_str (pa_cons pe_str (pa_cons pe_str pa_nil)))))) (pe_call c_draw.G (hr.mono (by decide)) rfl c_draw.g c_draw.k c_draw.b .nil pass0 (pa_cons (pv 0) (pa_cons pe_int pa_nil))) (fun _ _ => rfl)) pa_nil))) pa_nil)))))
        (pss_one (ps_expr (pe_bm PySem.F.plainAttrs_list PySem.F.slot_list_append PySem.F.type_list_append mt_append (pv 1) (pa_cons (pe_tup (pa_cons (pv 2) (pa_cons (pe_callTy call_tuple_of (by rfl) z_tuple (by decide +kernel) (pa_cons (pv 3) pa_nil)) pa_nil))) pa_nil)))))))
      (pss_one (ps_ret (pe_tup (pa_cons (pv 1) (pa_cons (pe_slice sl_list (pe_lst (pa_cons pe_str (pa_cons pe_str pa_nil))) po_none (po_some (pe_call c_draw.G (hr.mono (by decide)) rfl c_draw.g c_draw.k c_draw.b .nil pass0 (pa_cons (pv 0) (pa_cons pe_int pa_nil))))) pa_nil))))))), ?_⟩
    refine ⟨by show 0 ≤ sizeLine; decide, fun D nD => ?_⟩
    generalize e1 : upd H D _ = H1
    obtain ⟨s1, eD1⟩ := new_of nD e1
    refine set_sl (σ' := [some (.ref a), some (.ref D), none, none, none]) rfl ?_
    have hB1 := hB.same s1
    -- the tuple of names
    refine ⟨by show 3 ≤ sizeLine; decide, fun t1 nt1 => ?_⟩
    generalize e2 : upd H1 t1 _ = H2
    obtain ⟨s2, et1⟩ := new_of nt1 e2
    have hB2 := hB1.same s2
    refine ⟨_, rfl, a, g, n, 3, rfl, hB2, by omega, by decide, by decide, fun x H3 x0 x1 hB3 s3 => ?_⟩
    obtain ⟨kx0, rfl⟩ : ∃ kx : Nat, x = (kx : Int) := ⟨x.toNat, by omega⟩
    refine ⟨_, _, rfl, rfl, _, rfl, ?_⟩
    rw [show (1 : Int) + (kx0 : Int) = ((1 + kx0 : Nat) : Int) by omega]
    refine slA_take (xs := dimL6.map V.str) ((hB2.two.keep0 s3).seqT (SqT.of et1)) fun p H4 s4 hp => ?_
    have hB4 := hB3.same s4
    have s04 : Same (ct a g H) (ct a g H4) := (ct_same (s1.trans s2)).trans (s3.trans (ct_same s4))
    have ne2 : ∀ x, H x = none → x ≠ a ∧ x ≠ g := fun x hx => by
      obtain ⟨oa, og, h1, h2, _, _⟩ := hB.two.ex
      exact ⟨fun z => (by rw [z, h1] at hx; cases hx), fun z => (by rw [z, h2] at hx; cases hx)⟩
    obtain ⟨Da, Dg⟩ := ne2 D nD
    have eD4 : H4 D = some (.lst []) := s4 _ _ (ctkeepG s3 (s2 _ _ eD1) Da Dg)
    refine ⟨p, rfl, ⟨_, hp⟩, ?_⟩
    have hwl : ((dimL6.map V.str).take (1 + kx0)).length = 1 + kx0 := by rw [List.length_take]; show min (1 + kx0) 3 = _; omega
    refine for_it (walk_tup (K := K) (a := p) (xs := (dimL6.map V.str).take (1 + kx0))) (fun i σ R => ∃ (ys : List V) (ds : Dims) (y2 y3 y4 : Option V), σ = [some (.ref a), some (.ref D), y2, y3, y4] ∧ Bag6 R a g (n + 1 + 9 * i) ∧ Same (ct a g H) (ct a g R) ∧ R D = some (.lst ys) ∧ Paired (DimAt K R) ys ds ∧ Dims6 ds i ∧ SqT K R p ((dimL6.map V.str).take (1 + kx0)))
      ⟨[], [], _, _, _, rfl, hB4, s04, eD4, .nil, ⟨rfl, fun d hd => by cases hd⟩, hp⟩ (fun _ _ _ _ ⟨_, _, _, _, _, _, _, _, _, _, _, z⟩ => z) ?_ ?_
    · rintro i y σ R R' hi ⟨ys, ds, y2, y3, y4, rfl, hBR, sR, eDR, pR, dR, hpR⟩ ⟨rfl, hy⟩
      rw [hwl] at hi
      obtain ⟨zn, rfl, hzn⟩ : ∃ zn, y = .str zn ∧ dimL6[i]? = some zn := by
        rw [List.getElem?_take_of_lt hi, List.getElem?_map] at hy
        obtain ⟨zn, h1, h2⟩ := Option.map_eq_some_iff.mp hy
        exact ⟨zn, h2.symm, h1⟩
      refine set_sl (σ' := [some (.ref a), some (.ref D), some (.str zn), y3, y4]) rfl ?_
      refine ⟨by show 0 ≤ sizeLine; decide, fun so nso => ?_⟩
      generalize e5 : upd R' so _ = R5
      obtain ⟨s5, eso⟩ := new_of nso e5
      refine set_sl (σ' := [some (.ref a), some (.ref D), some (.str zn), some (.ref so), y4]) rfl ?_
      have soD : so ≠ D := fun z => by rw [z, eDR] at nso; cases nso
      have sone : so ≠ a ∧ so ≠ g := by
        obtain ⟨oa, og, h1, h2, _, _⟩ := hBR.two.ex
        exact ⟨fun z => (by rw [z, h1] at nso; cases nso), fun z => (by rw [z, h2] at nso; cases nso)⟩
      refine ⟨by show 4 ≤ sizeLine; decide, fun t2 nt2 => ?_⟩
      generalize e6 : upd R5 t2 _ = R6
      obtain ⟨s6, et2⟩ := new_of nt2 e6
      have hB6 := (hBR.same s5).same s6
      refine ⟨_, rfl, a, g, _, 5, rfl, hB6, by omega, by decide, by decide, fun x R7 x0 x1 hB7 s7 => ⟨_, rfl, ?_⟩⟩
      obtain ⟨kj, rfl⟩ : ∃ kj : Nat, x = (kj : Int) := ⟨x.toNat, by omega⟩
      refine slA_take (xs := attL6.map V.str) ((hB6.two.keep0 s7).seqT (SqT.of et2)) fun p2 R8 s8 hp2 => ?_
      have hB8 := hB7.same s8
      have eso8 : R8 so = some (.lst []) := s8 _ _ (ctkeepG s7 (s6 _ _ eso) sone.1 sone.2)
      have eD8 : R8 D = some (.lst ys) := s8 _ _ (ctkeepG s7 ((s5.trans s6) _ _ eDR) Da Dg)
      have k8 : Keep no R' R8 := ((Keep.of (s5.trans s6)).trans (hB6.two.keep0 s7)).trans (Keep.of s8)
      have sR8 : Same (ct a g H) (ct a g R8) := (sR.trans (ct_same (s5.trans s6))).trans (s7.trans (ct_same s8))
      refine ⟨p2, rfl, ⟨_, hp2⟩, ?_⟩
      have hal : ((attL6.map V.str).take kj).length = kj := by rw [List.length_take]; show min kj 4 = _; omega
      refine for_it (walk_tup (K := K) (a := p2) (xs := (attL6.map V.str).take kj)) (fun j σ R => ∃ (zs : List V) (as : List (Str × Str)) (y4 : Option V), σ = [some (.ref a), some (.ref D), some (.str zn), some (.ref so), y4] ∧ Bag6 R a g (n + 1 + 9 * i + 1 + j) ∧ Same (ct a g H) (ct a g R) ∧ R D = some (.lst ys) ∧ R so = some (.lst zs) ∧ Paired (AttAt K R) zs as ∧ as.map (·.1) = attL6.take j ∧ (∀ z ∈ as, z.2 ∈ wayL) ∧ SqT K R p2 ((attL6.map V.str).take kj) ∧ Keep no R' R)
        ⟨[], [], _, rfl, hB8, sR8, eD8, eso8, .nil, rfl, fun z hz => (by cases hz), hp2, k8⟩ (fun _ _ _ _ ⟨_, _, _, _, _, _, _, _, _, _, _, z, _⟩ => z) ?_ ?_
      · rintro j y σ R9 R9' hj ⟨zs, as, y4, rfl, hB9, s9, eD9, eso9, p9, m9, w9, hp9, k9⟩ ⟨rfl, hy9⟩
        rw [hal] at hj
        obtain ⟨an, rfl, han⟩ : ∃ an, y = .str an ∧ attL6[j]? = some an := by
          rw [List.getElem?_take_of_lt hj, List.getElem?_map] at hy9
          obtain ⟨an, h1, h2⟩ := Option.map_eq_some_iff.mp hy9
          exact ⟨an, h2.symm, h1⟩
        refine set_sl (σ' := [some (.ref a), some (.ref D), some (.str zn), some (.ref so), some (.str an)]) rfl ?_
        refine ⟨_, rfl, .inl ⟨rfl, _, SqL.of eso9⟩, _, rfl, by show 5 ≤ sizeLine; decide, fun t3 nt3 => ?_⟩
        generalize e10 : upd R9' t3 _ = R10
        obtain ⟨s10, et3⟩ := new_of nt3 e10
        have hB10 := hB9.same s10
        refine ⟨_, rfl, a, g, _, 5, rfl, hB10, by omega, by decide, by decide, fun x R11 x0 x1 hB11 s11 => ?_⟩
        obtain ⟨kw, rfl⟩ : ∃ kw : Nat, x = (kw : Int) := ⟨x.toNat, by omega⟩
        obtain ⟨wn, hwn⟩ : ∃ wn, wayL[kw]? = some wn := by
          have : kw < wayL.length := by show kw < 5; omega
          exact ⟨wayL[kw], List.getElem?_eq_getElem this⟩
        have hw3 : SqT K R11 t3 (wayL.map V.str) := (hB10.two.keep0 s11).seqT (SqT.of et3)
        refine ⟨t3, _, _, _, rfl, rfl, hw3, atI_nat (j := kw) (by rw [List.getElem?_map, hwn]; rfl), ?_⟩
        refine ⟨by show 2 ≤ sizeLine; decide, fun t4 nt4 => ?_⟩
        generalize e12 : upd R11 t4 _ = R12
        obtain ⟨s12, et4⟩ := new_of nt4 e12
        have eso12 : R12 so = some (.lst zs) := s12 _ _ (ctkeepG s11 (s10 _ _ eso9) sone.1 sone.2)
        have eD12 : R12 D = some (.lst ys) := s12 _ _ (ctkeepG s11 (s10 _ _ eD9) Da Dg)
        have k12 : Keep no R9' R12 := ((Keep.of s10).trans (hB10.two.keep0 s11)).trans (Keep.of s12)
        have lz : zs.length < sizeLine := by
          have h1 := p9.length
          have h2 : as.length ≤ 4 := by
            have := congrArg List.length m9
            rw [List.length_map, List.length_take] at this
            have h4 : attL6.length = 4 := rfl
            omega
          have : 5 < sizeLine := by decide
          omega
        refine ⟨so, _, _, rfl, rfl, eso12, lz, ?_⟩
        have k13 : Keep no R12 (upd R12 so (.lst (zs ++ [.ref t4]))) := (Fr.put (T := []) (N := fun b => b = so) eso12 trivial rfl).keep0
        refine ⟨zs ++ [.ref t4], as ++ [(an, wn)], _, rfl, ?_, ?_, ?_, upd_same, ?_, ?_, ?_, (k12.trans k13).seqT hp9, k9.trans (k12.trans k13)⟩
        · exact (((hB11.same s12).upd sone.1 sone.2).mono (by omega))
        · exact same_putct (((s9.trans (ct_same s10)).trans s11).trans (ct_same s12)) (free_ct sR nso sone.1 sone.2)
        · rw [upd_ne soD.symm]
          exact eD12
        · exact PairedU6 (PySem.Paired.mono (fun _ _ z => att_keep (k12.trans k13) z) p9) ⟨t4, rfl, k13.seqT (SqT.of et4)⟩
        · obtain ⟨g1, g2⟩ := List.getElem?_eq_some_iff.mp han
          rw [List.take_succ_eq_append_getElem g1, g2, List.map_append, m9]
          rfl
        · intro z hz
          rcases List.mem_append.mp hz with h | h
          · exact w9 z h
          · rw [List.mem_singleton.mp h]
            exact List.mem_of_getElem? hwn
      · rintro σ R9 ⟨zs, as, y4, rfl, hB9, s9, eD9, eso9, p9, m9, w9, hp9, k9⟩
        rw [hal] at hB9 m9
        refine ⟨_, rfl, .inl ⟨rfl, _, SqL.of eD9⟩, _, rfl, _, rfl, so, zs, rfl, .inl ⟨SqL.of eso9, fun t5 nt5 => ?_⟩⟩
        generalize e10 : upd R9 t5 _ = R10
        obtain ⟨s10, et5⟩ := new_of nt5 e10
        refine ⟨by show 2 ≤ sizeLine; decide, fun t6 nt6 => ?_⟩
        generalize e11 : upd R10 t6 _ = R11
        obtain ⟨s11, et6⟩ := new_of nt6 e11
        have eD11 : R11 D = some (.lst ys) := (s10.trans s11) _ _ eD9
        have ly : ys.length < sizeLine := by
          have h1 := pR.length
          have h2 := congrArg List.length dR.1
          rw [List.length_map, List.length_take] at h2
          have h4 : dimL6.length = 3 := rfl
          have : 5 < sizeLine := by decide
          omega
        refine ⟨D, _, _, rfl, rfl, eD11, ly, ?_⟩
        have k13 : Keep no R11 (L2.upd R11 D (.lst (ys ++ [.ref t6]))) := (Fr.put (T := []) (N := fun b => b = D) eD11 trivial rfl).keep0
        have k11 : Keep no R9 R11 := (Keep.of s10).trans (Keep.of s11)
        refine ⟨ys ++ [.ref t6], ds ++ [(zn, as)], _, _, _, rfl, ?_, ?_, upd_same, ?_, ?_, (k9.trans (k11.trans k13)).seqT hpR⟩
        · exact ((((hB9.same s10).same s11).upd Da Dg).mono (by omega))
        · exact same_putct (s9.trans (ct_same (s10.trans s11))) nD
        · refine PairedU6 (PySem.Paired.mono (fun _ _ z => dim_keep (k9.trans (k11.trans k13)) z) pR) ⟨t6, t5, rfl, k13.seqT (SqT.of et6), zs, ?_, ?_⟩
          · exact k13.seqT (SqT.of (s11 _ _ et5))
          · exact PySem.Paired.mono (fun _ _ z => att_keep (k11.trans k13) z) p9
        · obtain ⟨g1, g2⟩ := List.getElem?_eq_some_iff.mp hzn
          refine ⟨?_, fun d hd => ?_⟩
          · rw [List.take_succ_eq_append_getElem g1, g2, List.map_append, dR.1]
            rfl
          · rcases List.mem_append.mp hd with h | h
            · exact dR.2 d h
            · rw [List.mem_singleton.mp h]
              exact ⟨kj, m9, w9⟩
    · rintro σ R ⟨ys, ds, y2, y3, y4, rfl, hBR, sR, eDR, pR, dR, hpR⟩
      rw [hwl] at hBR dR
      -- measures
      refine ⟨_, rfl, by show 2 ≤ sizeLine; decide, fun m1 nm1 => ?_⟩
      generalize e5 : upd R m1 _ = R5
      obtain ⟨s5, em1⟩ := new_of nm1 e5
      refine ⟨_, rfl, a, g, _, 3, rfl, hBR.same s5, by omega, by decide, by decide, fun x R6 x0 x1 hB6 s6 => ⟨_, rfl, ?_⟩⟩
      obtain ⟨kx, rfl⟩ : ∃ kx : Nat, x = (kx : Int) := ⟨x.toNat, by omega⟩
      have two5 := (hBR.same s5).two
      have m1ne : m1 ≠ a ∧ m1 ≠ g := by
        obtain ⟨oa, og, h1, h2, _, _⟩ := hBR.two.ex
        exact ⟨fun z => (by rw [z, h1] at nm1; cases nm1), fun z => (by rw [z, h2] at nm1; cases nm1)⟩
      have em6 := ctkeepG s6 em1 m1ne.1 m1ne.2
      refine ⟨m1, _, rfl, SqL.of em6, fun mo nmo => ?_⟩
      rw [cutTo6]
      generalize e7 : upd R6 mo _ = R7
      obtain ⟨s7, emo⟩ := new_of nmo e7
      refine ⟨by show 2 ≤ sizeLine; decide, fun r nr => ?_⟩
      generalize e8 : upd R7 r _ = R8
      obtain ⟨s8, er⟩ := new_of nr e8
      have kp : Keep no R R8 := ((Keep.of s5).trans (two5.keep0 s6)).trans ((Keep.of s7).trans (Keep.of s8))
      have eD6 : R6 D = some (.lst ys) := ctkeepG s6 (s5 _ _ eDR) Da Dg
      have sfin : Same (ct a g H) (ct a g R8) := (sR.trans (ct_same s5)).trans (s6.trans (ct_same (s7.trans s8)))
      have Hmo : H mo = none := by
        cases q : H mo with
        | none => rfl
        | some o =>
          by_cases qa : mo = a
          · obtain ⟨oa, og, h1, h2, _, _⟩ := hB6.two.ex
            rw [qa, h1] at nmo
            cases nmo
          · by_cases qg : mo = g
            · obtain ⟨oa, og, h1, h2, _, _⟩ := hB6.two.ex
              rw [qg, h2] at nmo
              cases nmo
            · have := ct_sub _ _ ((sR.trans (ct_same s5)).trans s6 _ _ (ct_of q qa qg))
              rw [this] at nmo
              cases nmo
      obtain ⟨moa, mog⟩ := ne2 mo Hmo
      refine k r D mo ds ((["m", "mm"] : List Str).take kx) R8 nD Hmo er ⟨ys, (s7.trans s8) _ _ eD6, PySem.Paired.mono (fun _ _ z => dim_keep kp z) pR⟩ ?_ ⟨1 + kx0, by omega, by omega, dR⟩ ⟨kx, rfl⟩ ⟨Da, Dg, moa, mog⟩ (((hB6.same s7).same s8).mono (by omega)) sfin
      rw [s8 _ _ emo, List.map_take]
      rfl
end
end Kd

namespace Kd
open PySem PySem.Spec PyProof.Rows L2
section
variable {P : Program} {w : World} {K : PySem.W.Frag} {mg : Str → Option Value} {base : Heap} {f : Addr} {fd : FuncData}
abbrev keyL6 : List Str := ["x", "samekey01a", "samekey01b", "w"]
abbrev valL6 : List Fv := [.i 0, .i 1, .s "u", .s "v", .s "longvalue1", .s "longvalue2"]
abbrev nameL6 : List Str := ["f", "g", "h", "i", "j", "k", "samefact1a", "samefact1b"]
theorem natI {x : Int} (h : 0 ≤ x) : ∃ k : Nat, x = (k : Int) := ⟨x.toNat, by omega⟩
theorem get_lt {α : Type} {l : List α} {k : Nat} (h : k < l.length) : ∃ a, l[k]? = some a ∧ a ∈ l := ⟨l[k], List.getElem?_eq_getElem h, List.getElem_mem h⟩
/-! ### _law_day, _law_value -/
def Day6 (i : Int) : Prop := -4 ≤ i ∧ i ≤ 8 ∨ i = 10 ^ 20 ∨ i = -(10 ^ 20)
def spDay6 : Sp := fun vs H Q _ => ∃ (a g : Addr) (n : Nat), vs = [.ref a] ∧ Bag6 H a g n ∧ n ≤ 9500000 ∧ ∀ (i : Int) H', Day6 i → Bag6 H' a g (n + 2) → Same (ct a g H) (ct a g H') → Q (.int i) H'
abbrev N_l_day : List Str := ["bag", "shape"]
theorem sc_l_day : FnScope N_l_day ["bag"] (defScope s_l_day) := ⟨rfl, rfl, rfl, by decide +kernel, rfl, by decide +kernel, by decide +kernel⟩
/-! slots: 0 bag 1 shape; cells:  -/
theorem ok_day6 {f1 : Addr} {d1 : FuncData} (F : FnP K "_law_day" "_law_day" s_l_day f fd) (c_draw : Fun P w K mg base "_law_draw" 1 ["bag", "many"] spDraw6 f1 d1) : FnOk P w K mg base CX0 2 f fd ["bag"] spDay6 := by
  refine F.ok sc_l_day (fun vs H Q E h => ?_) (fun cdv A outer s H vs Q E hr h => ?_)
  · obtain ⟨a, g, n, rfl, _⟩ := h
    rfl
  · obtain ⟨a, g, n, rfl, hB, hn, k⟩ := h
    have nd := sc_l_day.nd
    refine ⟨_, PSs.nox (pss_cons (ps_set (i := 1) nd rfl (Or.inl rfl) (pe_call c_draw.G (hr.mono (by decide)) rfl c_draw.g c_draw.k c_draw.b .nil pass0 (pa_cons (pv 0) (pa_cons pe_int pa_nil))))
      (pss_cons (ps_if (pt_cmpR op_gt (pv 1) pe_int (nomark _))
        (pss_one (ps_ret (pe_ix ix_tup (pe_tup (pa_cons (pe_op op_pow pe_int pe_int) (pa_cons (pe_un un_neg (pe_op op_pow pe_int pe_int)) pa_nil))) (pe_op op_sub (pv 1) pe_int) (fun _ _ => rfl))))
        pss_nil)
      (pss_one (ps_ret (pe_op op_sub (pe_call c_draw.G (hr.mono (by decide)) rfl c_draw.g c_draw.k c_draw.b .nil pass0 (pa_cons (pv 0) (pa_cons pe_int pa_nil))) pe_int))))), ?_⟩
    refine ⟨_, rfl, a, g, n, 8, rfl, hB, by omega, by decide, by decide, fun x H1 x0 x1 hB1 s1 => ?_⟩
    refine set_sl (σ' := [some (.ref a), some (.int x)]) rfl ?_
    refine ⟨_, rfl, _, _, rfl, rfl, _, rfl, ?_⟩
    refine ite2 (fun c1 => ?_) (fun c1 => ?_)
    · have c1 := of_decide_eq_true c1
      refine ⟨_, _, rfl, rfl, ⟨by decide, by decide, by decide⟩, _, _, rfl, rfl, ⟨by decide, by decide, by decide⟩, _, rfl, by show 2 ≤ sizeLine; decide, fun t nt => ?_⟩
      generalize e2 : upd H1 t _ = H2
      obtain ⟨s2, et⟩ := new_of nt e2
      refine ⟨_, rfl, _, _, rfl, rfl, ?_⟩
      obtain ⟨kx, hk⟩ := natI (show 0 ≤ x - 6 by omega)
      show rIxT _ (V.ref t) (V.int (x - 6)) H2 _
      rw [hk]
      rcases (show kx = 0 ∨ kx = 1 by omega) with rfl | rfl
      · exact ⟨t, _, _, _, rfl, rfl, SqT.of et, atI_nat (j := 0) rfl, k _ _ (.inr (.inl (by decide))) ((hB1.same s2).mono (by omega)) (s1.trans (ct_same s2))⟩
      · exact ⟨t, _, _, _, rfl, rfl, SqT.of et, atI_nat (j := 1) rfl, k _ _ (.inr (.inr (by decide))) ((hB1.same s2).mono (by omega)) (s1.trans (ct_same s2))⟩
    · refine nx_of ?_
      refine ⟨_, rfl, a, g, _, 9, rfl, hB1, by omega, by decide, by decide, fun y H2 y0 y1 hB2 s2 => ⟨_, _, rfl, rfl, ?_⟩⟩
      exact k _ _ (.inl ⟨by omega, by omega⟩) hB2 (s1.trans s2)
def spValue6 : Sp := fun vs H Q _ => ∃ (a g : Addr) (n : Nat), vs = [.ref a] ∧ Bag6 H a g n ∧ n ≤ 9500000 ∧ ∀ (v : Fv) H', v ∈ valL6 → Bag6 H' a g (n + 1) → Same (ct a g H) (ct a g H') → Q v.v H'
abbrev N_l_value : List Str := ["bag"]
theorem sc_l_value : FnScope N_l_value ["bag"] (defScope s_l_value) := ⟨rfl, rfl, rfl, by decide +kernel, rfl, by decide +kernel, by decide +kernel⟩
/-! slots: 0 bag; cells:  -/
theorem ok_value6 {f1 : Addr} {d1 : FuncData} (F : FnP K "_law_value" "_law_value" s_l_value f fd) (c_draw : Fun P w K mg base "_law_draw" 1 ["bag", "many"] spDraw6 f1 d1) : FnOk P w K mg base CX0 2 f fd ["bag"] spValue6 := by
  refine F.ok sc_l_value (fun vs H Q E h => ?_) (fun cdv A outer s H vs Q E hr h => ?_)
  · obtain ⟨a, g, n, rfl, _⟩ := h
    rfl
  · obtain ⟨a, g, n, rfl, hB, hn, k⟩ := h
    have nd := sc_l_value.nd
    refine ⟨_, PSs.nox (pss_one (ps_ret (pe_ix ix_tup (pe_tup (pa_cons pe_int (pa_cons pe_int (pa_cons pe_str (pa_cons pe_str (pa_cons pe_str (pa_cons pe_str pa_nil))))))) (pe_call c_draw.G (hr.mono (by decide)) rfl c_draw.g c_draw.k c_draw.b .nil pass0 (pa_cons (pv 0) (pa_cons pe_int pa_nil))) (fun _ _ => rfl)))), ?_⟩
    refine ⟨by show 6 ≤ sizeLine; decide, fun t nt => ?_⟩
    generalize e1 : upd H t _ = H1
    obtain ⟨s1, et⟩ := new_of nt e1
    refine ⟨_, rfl, a, g, n, 6, rfl, hB.same s1, by omega, by decide, by decide, fun x H2 x0 x1 hB2 s2 => ?_⟩
    obtain ⟨kx, rfl⟩ := natI x0
    obtain ⟨v, hv, hm⟩ := get_lt (l := valL6) (k := kx) (by show kx < 6; omega)
    have ht : SqT K H2 t (valL6.map Fv.v) := ((hB.same s1).two.keep0 s2).seqT (SqT.of et)
    exact ⟨t, _, _, _, rfl, rfl, ht, atI_nat (j := kx) (by rw [List.getElem?_map, hv]; rfl), k v _ hm hB2 ((ct_same s1).trans s2)⟩
/-! ### _law_kind -/
theorem Bag6.cd {H : Hp} {a g D : Addr} {n : Nat} (h : Bag6 H a g n) (xa : D ≠ a) (xg : D ≠ g) : Bag6 (Kd.cd D H) a g n := by
  obtain ⟨l, t, fo, gs, h1, h2, h3⟩ := h.ex
  exact ⟨l, t, fo, gs, cd_of h1 xa.symm, cd_of h2 xg.symm, h3⟩
theorem Bag6.na {H : Hp} {a g x : Addr} {n : Nat} (h : Bag6 H a g n) (hx : H x = none) : x ≠ a ∧ x ≠ g := by
  obtain ⟨l, t, fo, gs, h1, h2, h3⟩ := h.ex
  exact ⟨fun z => (by rw [z, h1] at hx; cases hx), fun z => (by rw [z, h2] at hx; cases hx)⟩
theorem ctcd6 {H1 H2 H3 : Hp} {a g D : Addr} (hD : H1 D = none) (s1 : Same (ct a g H1) (ct a g (Kd.cd D H2))) (s2 : Same (ct a g H2) (ct a g H3)) : Same (ct a g H1) (ct a g (Kd.cd D H3)) := fun b o e => by
  obtain ⟨na, ng⟩ := ct_ne e
  have nD : b ≠ D := ne_of_none (ct_sub _ _ e) hD
  have e2 := ct_sub _ _ (s1 b o e)
  exact ct_of (cd_of (ct_sub _ _ (s2 b o (ct_of (cd_sub _ _ e2) na ng))) nD) na ng
/-- a plan drawn: its tuple and its lists, apart from the bag -/
structure Pl6 (K : PySem.W.Frag) (H : Hp) (a g pp lo mo : Addr) (ds : Dims) (ms : List Str) : Prop where
  p : SqT K H pp [.ref lo, .ref mo]
  d : DimsAt K (ct a g H) lo ds
  m : SqL K (ct a g H) mo (ms.map V.str)
theorem Pl6.draw {H H' : Hp} {a g pp lo mo : Addr} {ds : Dims} {ms : List Str} (z : Pl6 K H a g pp lo mo ds ms) (t : Two H a g) (s : Same (ct a g H) (ct a g H')) : Pl6 K H' a g pp lo mo ds ms := ⟨(t.keep0 s).seqT z.p, DimsAt.same s z.d, Same.seq s z.m⟩
theorem Pl6.same {H H' : Hp} {a g pp lo mo : Addr} {ds : Dims} {ms : List Str} (z : Pl6 K H a g pp lo mo ds ms) (s : Same H H') : Pl6 K H' a g pp lo mo ds ms := ⟨Same.seqT s z.p, DimsAt.same (ct_same s) z.d, Same.seq (ct_same s) z.m⟩
def spKind6 (K : PySem.W.Frag) : Sp := fun vs H Q _ => ∃ (a g pp lo mo : Addr) (n : Nat) (ds : Dims) (ms : List Str), vs = [.ref a, .ref pp] ∧ Bag6 H a g n ∧ n ≤ 9000000 ∧ Pl6 K H a g pp lo mo ds ms ∧ 1 ≤ ds.length ∧ ds.length ≤ 4 ∧ (∀ d ∈ ds, d.2.length ≤ 5) ∧
  ∀ p d key day vals H', d ∈ ds → key ∈ keyL6 → Day6 day → vals.length = d.2.length → (∀ v ∈ vals, v ∈ valL6) → (Rw.kind d.1 key day vals).at K H' p → Bag6 H' a g (n + 14) → Same (ct a g H) (ct a g H') → Q (.ref p) H'
abbrev N_l_kind : List Str := ["bag", "plan", "dim", "some", "one", "values"]
theorem sc_l_kind : FnScope N_l_kind ["bag", "plan"] (defScope s_l_kind) := ⟨rfl, rfl, rfl, by decide +kernel, rfl, by decide +kernel, by decide +kernel⟩
/-! slots: 0 bag 1 plan 2 dim 3 some 4 one 5 values; cells: bag -/
set_option maxHeartbeats 0 in
theorem ok_kind6 {f1 f2 f3 : Addr} {d1 d2 d3 : FuncData} (F : FnP K "_law_kind" "_law_kind" s_l_kind f fd) (c_draw : Fun P w K mg base "_law_draw" 1 ["bag", "many"] spDraw6 f1 d1) (c_value : Fun P w K mg base "_law_value" 2 ["bag"] spValue6 f2 d2) (c_day : Fun P w K mg base "_law_day" 2 ["bag"] spDay6 f3 d3) (z_len : mg "len" = none) (z_tuple : mg "tuple" = none) : FnOk P w K mg base CX0 3 f fd ["bag", "plan"] (spKind6 K) := by
  refine F.ok sc_l_kind (fun vs H Q E h => ?_) (fun cdv A outer s H vs Q E hr h => ?_)
  · obtain ⟨a, g, pp, lo, mo, n, ds, ms, rfl, _⟩ := h
    rfl
  · obtain ⟨a, g, pp, lo, mo, n, ds, ms, rfl, hB, hn, hP, d1, d4, d5, k⟩ := h
    have nd := sc_l_kind.nd
    refine ⟨_, PSs.nox (pss_cons (ps_asg (pe_ix ix_list (pe_ix ix_tup (pv 1) pe_int (fun _ _ => rfl)) (pe_call c_draw.G (hr.mono (by decide)) rfl c_draw.g c_draw.k c_draw.b .nil pass0 (pa_cons (pv 0) (pa_cons (pe_callB call_len_seq (by rfl) z_len boot_len (pa_cons (pe_ix ix_tup (pv 1) pe_int (fun _ _ => rfl)) pa_nil)) pa_nil))) (fun _ _ => rfl)) (pg_tup rfl (pgs_cons (pg_name (i := 2) nd rfl (Or.inl rfl)) (pgs_cons (pg_name (i := 3) nd rfl (Or.inl rfl)) pgs_nil))))
      (pss_cons (ps_set (i := 5) nd rfl (Or.inl rfl) (pe_callTy call_tuple_of (by rfl) z_tuple (by decide +kernel) (pa_cons (pe_lc (own := [("one", 4)]) (g := gName 4) (tt := tYes) (te := tCall spValue6 [] E0 (tCons (tVar 0) tNil)) rfl nd (pi_tup (pv 3)) (blkOk_by (own := [("one", 4)]) (N := N_l_kind) (sc := defScope s_l_kind) (by decide +kernel))
        (fun _ _ _ _ _ => pg_name (i := 4) nd rfl (Or.inl rfl)) (fun _ _ _ _ _ => pts_nil) (fun _ _ _ _ _ => pe_call c_value.G (hr.mono (by decide)) rfl c_value.g c_value.k c_value.b .nil pass0 (pa_cons (pv 0) pa_nil))) pa_nil)))
      (pss_one (ps_ret (pe_tup (pa_cons pe_str (pa_cons (pv 2) (pa_cons (pe_ix ix_tup (pe_tup (pa_cons pe_str (pa_cons pe_str (pa_cons pe_str pa_nil)))) (pe_call c_draw.G (hr.mono (by decide)) rfl c_draw.g c_draw.k c_draw.b .nil pass0 (pa_cons (pv 0) (pa_cons pe_int pa_nil))) (fun _ _ => rfl)) (pa_cons (pe_call c_day.G (hr.mono (by decide)) rfl c_day.g c_day.k c_day.b .nil pass0 (pa_cons (pv 0) pa_nil)) (pa_cons (pv 5) pa_nil)))))))))), ?_⟩
    obtain ⟨xs, q1, q2⟩ := id hP.d
    have lxs := q2.length
    refine ⟨_, rfl, pp, _, _, _, rfl, rfl, hP.p, atI_nat (j := 0) rfl, _, rfl, _, rfl, pp, _, _, _, rfl, rfl, hP.p, atI_nat (j := 0) rfl, lo, xs, rfl, .inl (ct_sub.seq q1), a, g, n, _, rfl, hB, by omega, by omega, by omega, fun x H1 x0 x1 hB1 s1 => ?_⟩
    obtain ⟨kx, rfl⟩ := natI x0
    have hP1 := hP.draw hB.two s1
    have hkx : kx < xs.length := by omega
    obtain ⟨d, hd, pd, qd, ep, t1, zs, z1, z2⟩ := paired_at q2 (List.getElem?_eq_getElem hkx)
    have dm : d ∈ ds := List.mem_of_getElem? hd
    have l5 := d5 d dm
    have lz := z2.length
    refine ⟨lo, _, _, _, rfl, rfl, (s1.trans ct_sub).seq q1, (by rw [atI_nat (List.getElem?_eq_getElem hkx), ep]), pd, _, rfl, Same.seqT (s1.trans ct_sub) t1, rfl, _, _, rfl, _, _, rfl, rfl, ?_⟩
    refine sl_eq (σ' := [some (.ref a), some (.ref pp), some (.str d.1), some (.ref qd), none, none]) rfl ?_
    refine ⟨_, rfl, qd, rfl, ⟨_, Same.seqT (s1.trans ct_sub) z1⟩, fun D hD => ?_⟩
    obtain ⟨nDa, nDg⟩ := hB1.na hD
    refine lc_build (walk_tup (K := K) (a := qd) (xs := zs)) hD (fun i ys R => ∃ vals : List Fv, ys = vals.map Fv.v ∧ vals.length = i ∧ (∀ v ∈ vals, v ∈ valL6) ∧ Bag6 R a g (n + 1 + i) ∧ Same (ct a g H1) (ct a g R)) ⟨[], rfl, rfl, fun _ h => (nomatch h), hB1, Same.refl _⟩ (fun _ _ _ _ ⟨_, _, _, _, _, s5⟩ => Same.seqT (((s1.trans s5).trans ct_sub).trans cd_sub) z1) ?_ ?_
    · rintro i ys y H5 H5' hi e5 l5' ⟨vals, rfl, lv, hv, T5, s5⟩ ⟨rfl, hy⟩
      refine ⟨rfl, yes ?_⟩
      refine ⟨_, rfl, a, g, n + 1 + i, rfl, T5.same cd_sub, by omega, fun v H7 gv T7 s7 => ?_⟩
      refine LcNx.add (ctkeepG s7 e5 nDa nDg) l5' (by omega) ⟨vals ++ [v], by rw [List.map_append]; rfl, by rw [List.length_append]; show vals.length + 1 = i + 1; omega, fun y hy => ?_, (T7.cd nDa nDg).mono (by omega), ctcd6 hD s5 s7⟩
      rcases List.mem_append.mp hy with hy | hy
      · exact hv y hy
      · rw [List.mem_singleton.mp hy]
        exact gv
    · rintro ys H5 e5 l5' ⟨vals, rfl, lv, hv, T5, s5⟩
      have T5' := T5.same cd_sub
      have s15 : Same (ct a g H1) (ct a g H5) := s5.trans (ct_same cd_sub)
      refine ⟨D, _, rfl, .inl ⟨SqL.of e5, fun q nq => ?_⟩⟩
      generalize e6 : upd H5 q _ = H6
      obtain ⟨s6, eq6⟩ := new_of nq e6
      refine set_sl (σ' := [some (.ref a), some (.ref pp), some (.str d.1), some (.ref qd), none, some (.ref q)]) rfl ?_
      refine ⟨_, rfl, by show 3 ≤ sizeLine; decide, fun t3 nt3 => ?_⟩
      generalize e7 : upd H6 t3 _ = H7
      obtain ⟨s7, et3⟩ := new_of nt3 e7
      have T7 := (T5'.same s6).same s7
      refine ⟨_, rfl, a, g, _, 3, rfl, T7, by omega, by decide, by decide, fun x2 H8 x20 x21 hB8 s8 => ?_⟩
      obtain ⟨kk, rfl⟩ := natI x20
      obtain ⟨key, hkey, hkm⟩ := get_lt (l := keyL6) (k := kk) (by show kk < 4; omega)
      have hkk : (([V.str "x", V.str "samekey01a", V.str "samekey01b"]) : List V)[kk]? = some (.str key) := by
        have h3 : kk < 3 := by omega
        have : (([V.str "x", V.str "samekey01a", V.str "samekey01b"]) : List V) = (keyL6.map V.str).take 3 := rfl
        rw [this, List.getElem?_take_of_lt h3, List.getElem?_map, hkey]
        rfl
      refine ⟨t3, _, _, _, rfl, rfl, (T7.two.keep0 s8).seqT (SqT.of et3), atI_nat hkk, ?_⟩
      refine ⟨_, rfl, a, g, _, rfl, hB8, by omega, fun day H9 hday hB9 s9 => ?_⟩
      refine ⟨_, rfl, by show 5 ≤ sizeLine; decide, fun p np => ?_⟩
      generalize e10 : upd H9 p _ = H10
      obtain ⟨s10, ep10⟩ := new_of np e10
      have hq10 : SqT K H10 q (vals.map Fv.v) := Same.seqT s10 ((hB8.two.keep0 s9).seqT ((T7.two.keep0 s8).seqT (Same.seqT s7 (SqT.of eq6))))
      refine k p d key day vals H10 dm hkm hday (by omega) hv ⟨q, SqT.of ep10, hq10⟩ ((hB9.same s10).mono (by omega)) ?_
      exact ((((s1.trans s15).trans (ct_same (s6.trans s7))).trans s8).trans s9).trans (ct_same s10)
end
end Kd

namespace Kd
open PySem PySem.Spec PyProof.Rows L2
section
variable {P : Program} {w : World} {K : PySem.W.Frag} {mg : Str → Option Value} {base : Heap} {f : Addr} {fd : FuncData}
/-! ### _law_fact -/
def Num6 (i : Int) : Prop := -4 ≤ i ∧ i ≤ 4 ∨ i = 10 ^ 30
def spFact6 (K : PySem.W.Frag) : Sp := fun vs H Q _ => ∃ (a g pp lo mo : Addr) (n : Nat) (ds : Dims) (ms : List Str) (name : Str), vs = [.ref a, .ref pp, .str name] ∧ Bag6 H a g n ∧ n ≤ 9000000 ∧ Pl6 K H a g pp lo mo ds ms ∧ ds.length ≤ 4 ∧ ms.length ≤ 4 ∧
  ∀ p day keys nums H', Day6 day → keys.length = ds.length → (∀ z ∈ keys, z ∈ keyL6) → nums.length = ms.length → (∀ i ∈ nums, Num6 i) → (Rw.fact name day keys nums).at K H' p → Bag6 H' a g (n + 20) → Same (ct a g H) (ct a g H') → Q (.ref p) H'
abbrev N_l_fact : List Str := ["bag", "plan", "name", "one", "keys", "numbers"]
theorem sc_l_fact : FnScope N_l_fact ["bag", "plan", "name"] (defScope s_l_fact) := ⟨rfl, rfl, rfl, by decide +kernel, rfl, by decide +kernel, by decide +kernel⟩
/-! slots: 0 bag 1 plan 2 name 3 one 4 keys 5 numbers; cells: bag -/
set_option maxHeartbeats 0 in
theorem ok_fact6 {f1 f3 : Addr} {d1 d3 : FuncData} (F : FnP K "_law_fact" "_law_fact" s_l_fact f fd) (c_draw : Fun P w K mg base "_law_draw" 1 ["bag", "many"] spDraw6 f1 d1) (c_day : Fun P w K mg base "_law_day" 2 ["bag"] spDay6 f3 d3) (z_tuple : mg "tuple" = none) : FnOk P w K mg base CX0 3 f fd ["bag", "plan", "name"] (spFact6 K) := by
  refine F.ok sc_l_fact (fun vs H Q E h => ?_) (fun cdv A outer s H vs Q E hr h => ?_)
  · obtain ⟨a, g, pp, lo, mo, n, ds, ms, name, rfl, _⟩ := h
    rfl
  · obtain ⟨a, g, pp, lo, mo, n, ds, ms, name, rfl, hB, hn, hP, d4, m4, k⟩ := h
    have nd := sc_l_fact.nd
    refine ⟨_, PSs.nox (pss_cons (ps_set (i := 4) nd rfl (Or.inl rfl) (pe_callTy call_tuple_of (by rfl) z_tuple (by decide +kernel) (pa_cons (pe_lc (own := [("one", 3)]) (g := gName 3) (tt := tYes) (te := tOp (rIxT K) (tTup (tCons (tC (.str "x")) (tCons (tC (.str "samekey01a")) (tCons (tC (.str "samekey01b")) (tCons (tC (.str "w")) tNil))))) (tCall spDraw6 [] E0 (tCons (tVar 0) (tCons (tC (.int 4)) tNil)))) rfl nd (pi_list (pe_ix ix_tup (pv 1) pe_int (fun _ _ => rfl))) (blkOk_by (own := [("one", 3)]) (N := N_l_fact) (sc := defScope s_l_fact) (by decide +kernel))
        (fun _ _ _ _ _ => pg_name (i := 3) nd rfl (Or.inl rfl)) (fun _ _ _ _ _ => pts_nil) (fun _ _ _ _ _ => pe_ix ix_tup (pe_tup (pa_cons pe_str (pa_cons pe_str (pa_cons pe_str (pa_cons pe_str pa_nil))))) (pe_call c_draw.G (hr.mono (by decide)) rfl c_draw.g c_draw.k c_draw.b .nil pass0 (pa_cons (pv 0) (pa_cons pe_int pa_nil))) (fun _ _ => rfl))) pa_nil)))
      (pss_cons (ps_set (i := 5) nd rfl (Or.inl rfl) (pe_callTy call_tuple_of (by rfl) z_tuple (by decide +kernel) (pa_cons (pe_lc (own := [("one", 3)]) (g := gName 3) (tt := tYes) (te := tOp (rIxT K) (tTup (tCons (tOp (rI0 fun i j => .int (i - j)) (tCall spDraw6 [] E0 (tCons (tVar 0) (tCons (tC (.int 9)) tNil))) (tC (.int 4))) (tCons (tOp (rI CPow fun i j => .int (i ^ j.toNat)) (tC (.int 10)) (tC (.int 30))) tNil))) (tOp (rI CDiv fun i j => .int (i / j)) (tCall spDraw6 [] E0 (tCons (tVar 0) (tCons (tC (.int 6)) tNil))) (tC (.int 5)))) rfl nd (pi_list (pe_ix ix_tup (pv 1) pe_int (fun _ _ => rfl))) (blkOk_by (own := [("one", 3)]) (N := N_l_fact) (sc := defScope s_l_fact) (by decide +kernel))
        (fun _ _ _ _ _ => pg_name (i := 3) nd rfl (Or.inl rfl)) (fun _ _ _ _ _ => pts_nil) (fun _ _ _ _ _ => pe_ix ix_tup (pe_tup (pa_cons (pe_op op_sub (pe_call c_draw.G (hr.mono (by decide)) rfl c_draw.g c_draw.k c_draw.b .nil pass0 (pa_cons (pv 0) (pa_cons pe_int pa_nil))) pe_int) (pa_cons (pe_op op_pow pe_int pe_int) pa_nil))) (pe_op op_fdiv (pe_call c_draw.G (hr.mono (by decide)) rfl c_draw.g c_draw.k c_draw.b .nil pass0 (pa_cons (pv 0) (pa_cons pe_int pa_nil))) pe_int) (fun _ _ => rfl))) pa_nil)))
      (pss_one (ps_ret (pe_tup (pa_cons pe_str (pa_cons (pv 2) (pa_cons (pe_call c_day.G (hr.mono (by decide)) rfl c_day.g c_day.k c_day.b .nil pass0 (pa_cons (pv 0) pa_nil)) (pa_cons (pv 4) (pa_cons (pv 5) pa_nil)))))))))), ?_⟩
    obtain ⟨xs, q1, q2⟩ := id hP.d
    have lxs := q2.length
    refine ⟨_, rfl, pp, _, _, _, rfl, rfl, hP.p, atI_nat (j := 0) rfl, lo, rfl, ⟨_, ct_sub.seq q1⟩, fun D hD => ?_⟩
    obtain ⟨nDa, nDg⟩ := hB.na hD
    refine lc_build (walk_list (K := K) (a := lo) (xs := xs)) hD (fun i ys R => ∃ keys : List Str, ys = keys.map V.str ∧ keys.length = i ∧ (∀ v ∈ keys, v ∈ keyL6) ∧ Bag6 R a g (n + i) ∧ Same (ct a g H) (ct a g R)) ⟨[], rfl, rfl, fun _ h => (nomatch h), hB, Same.refl _⟩ (fun _ _ _ _ ⟨_, _, _, _, _, s5⟩ => Same.seq ((s5.trans ct_sub).trans cd_sub) q1) ?_ ?_
    · rintro i ys y H5 H5' hi e5 l5' ⟨keys, rfl, lv, hv, T5, s5⟩ ⟨rfl, hy⟩
      refine ⟨rfl, yes ?_⟩
      refine ⟨by show 4 ≤ sizeLine; decide, fun t nt => ?_⟩
      generalize e6 : upd H5' t _ = H6
      obtain ⟨s6, et⟩ := new_of nt e6
      have T6 := (T5.same cd_sub).same s6
      refine ⟨_, rfl, a, g, n + i, 4, rfl, T6, by omega, by decide, by decide, fun x H7 x0 x1 T7 s7 => ?_⟩
      obtain ⟨kk, rfl⟩ := natI x0
      obtain ⟨key, hkey, hkm⟩ := get_lt (l := keyL6) (k := kk) (by show kk < 4; omega)
      refine ⟨t, _, _, _, rfl, rfl, (T6.two.keep0 s7).seqT (SqT.of et), atI_nat (j := kk) (show ((keyL6.map V.str))[kk]? = some (.str key) by rw [List.getElem?_map, hkey]; rfl), ?_⟩
      refine LcNx.add (ctkeepG s7 (s6 _ _ e5) nDa nDg) l5' (by omega) ⟨keys ++ [key], by rw [List.map_append]; rfl, by rw [List.length_append]; show keys.length + 1 = i + 1; omega, fun y hy => ?_, (T7.cd nDa nDg).mono (by omega), ctcd6 hD s5 ((ct_same s6).trans s7)⟩
      rcases List.mem_append.mp hy with hy | hy
      · exact hv y hy
      · rw [List.mem_singleton.mp hy]
        exact hkm
    · rintro ys H5 e5 l5' ⟨keys, rfl, lv, hv, T5, s5⟩
      have T5' := T5.same cd_sub
      have s15 : Same (ct a g H) (ct a g H5) := s5.trans (ct_same cd_sub)
      refine ⟨D, _, rfl, .inl ⟨SqL.of e5, fun q nq => ?_⟩⟩
      generalize e6 : upd H5 q _ = H6
      obtain ⟨s6, eq6⟩ := new_of nq e6
      refine set_sl (σ' := [some (.ref a), some (.ref pp), some (.str name), none, some (.ref q), none]) rfl ?_
      have T6 := T5'.same s6
      have s16 := s15.trans (ct_same s6)
      have hP6 := hP.draw hB.two s16
      refine ⟨_, rfl, pp, _, _, _, rfl, rfl, hP6.p, atI_nat (j := 1) rfl, mo, rfl, ⟨_, ct_sub.seq hP6.m⟩, fun D2 hD2 => ?_⟩
      obtain ⟨nDa2, nDg2⟩ := T6.na hD2
      refine lc_build (walk_list (K := K) (a := mo) (xs := ms.map V.str)) hD2 (fun i ys R => ∃ nums : List Int, ys = nums.map V.int ∧ nums.length = i ∧ (∀ v ∈ nums, Num6 v) ∧ Bag6 R a g (n + 4 + 2 * i) ∧ Same (ct a g H6) (ct a g R)) ⟨[], rfl, rfl, fun _ h => (nomatch h), T6.mono (by omega), Same.refl _⟩ (fun _ _ _ _ ⟨_, _, _, _, _, s5⟩ => Same.seq ((s5.trans ct_sub).trans cd_sub) hP6.m) ?_ ?_
      · rintro i ys y H7 H7' hi e7 l7 ⟨nums, rfl, ln, hnn, T7, s7⟩ ⟨rfl, hy⟩
        rw [List.length_map] at hi
        refine ⟨rfl, yes ?_⟩
        refine ⟨_, rfl, a, g, _, 9, rfl, T7.same cd_sub, by omega, by decide, by decide, fun x H8 x0 x1 T8 s8 => ?_⟩
        refine ⟨_, _, rfl, rfl, _, _, rfl, rfl, ⟨by decide, by decide, by decide⟩, by show 2 ≤ sizeLine; decide, fun t nt => ?_⟩
        generalize e9 : upd H8 t _ = H9
        obtain ⟨s9, et⟩ := new_of nt e9
        have T9 := T8.same s9
        refine ⟨_, rfl, a, g, _, 6, rfl, T9, by omega, by decide, by decide, fun x2 H10 y0 y1 T10 s10 => ?_⟩
        refine ⟨_, _, rfl, rfl, ⟨by decide, by decide⟩, ?_⟩
        have ht : SqT K H10 t [V.int (x - 4), V.int (10 ^ 30)] := (T9.two.keep0 s10).seqT (SqT.of et)
        have eD10 := ctkeepG s10 (s9 _ _ (ctkeepG s8 e7 nDa2 nDg2)) nDa2 nDg2
        have fin : ∀ z : Int, Num6 z → ∃ acc, H10 D2 = some (.lst acc) ∧ acc.length < sizeLine ∧ LcNx D2 (fun i ys R => ∃ nums : List Int, ys = nums.map V.int ∧ nums.length = i ∧ (∀ v ∈ nums, Num6 v) ∧ Bag6 R a g (n + 4 + 2 * i) ∧ Same (ct a g H6) (ct a g R)) (i + 1) (upd H10 D2 (.lst (acc ++ [.int z]))) := fun z hz => by
          refine LcNx.add eD10 l7 (by omega) ⟨nums ++ [z], by rw [List.map_append]; rfl, by rw [List.length_append]; show nums.length + 1 = i + 1; omega, fun y hy => ?_, (T10.cd nDa2 nDg2).mono (by omega), ctcd6 hD2 s7 ((s8.trans (ct_same s9)).trans s10)⟩
          rcases List.mem_append.mp hy with hy | hy
          · exact hnn y hy
          · rw [List.mem_singleton.mp hy]
            exact hz
        show rIxT _ (V.ref t) (V.int (x2 / 5)) H10 _
        rcases (show x2 / 5 = 0 ∨ x2 / 5 = 1 by omega) with hx | hx
        · rw [hx]
          exact ⟨t, _, _, _, rfl, rfl, ht, atI_nat (j := 0) rfl, fin _ (.inl ⟨by omega, by omega⟩)⟩
        · rw [hx]
          exact ⟨t, _, _, _, rfl, rfl, ht, atI_nat (j := 1) rfl, fin _ (.inr (by decide))⟩
      · rintro ys H7 e7 l7 ⟨nums, rfl, ln, hnn, T7, s7⟩
        rw [List.length_map] at ln T7
        have T7' := T7.same cd_sub
        have s67 : Same (ct a g H6) (ct a g H7) := s7.trans (ct_same cd_sub)
        refine ⟨D2, _, rfl, .inl ⟨SqL.of e7, fun q2 nq2 => ?_⟩⟩
        generalize e8 : upd H7 q2 _ = H8
        obtain ⟨s8, eq8⟩ := new_of nq2 e8
        refine set_sl (σ' := [some (.ref a), some (.ref pp), some (.str name), none, some (.ref q), some (.ref q2)]) rfl ?_
        have T8 := T7'.same s8
        refine ⟨_, rfl, _, rfl, a, g, _, rfl, T8, by omega, fun day H9 hday hB9 s9 => ?_⟩
        refine ⟨_, rfl, _, rfl, by show 5 ≤ sizeLine; decide, fun p np => ?_⟩
        generalize e10 : upd H9 p _ = H10
        obtain ⟨s10, ep10⟩ := new_of np e10
        have h1 : SqT K H10 q (keys.map V.str) := Same.seqT s10 ((T8.two.keep0 s9).seqT (Same.seqT s8 ((T6.two.keep0 s67).seqT (SqT.of eq6))))
        have h2 : SqT K H10 q2 (nums.map V.int) := Same.seqT s10 ((T8.two.keep0 s9).seqT (SqT.of eq8))
        refine k p day keys nums H10 hday (by omega) hv ln hnn ⟨q, q2, SqT.of ep10, h1, h2⟩ ((hB9.same s10).mono (by omega)) ?_
        exact (((s16.trans s67).trans (ct_same s8)).trans s9).trans (ct_same s10)
end
end Kd

namespace KdKw
open PySem PySem.Spec PyProof.Rows L2
section
variable {X : Cx} {CX : CXT} {k : Nat} {f : Addr} {fd : FuncData} {ps ks : List Str} {sp : Sp} {x : Str} {p pos : Pos} {kws : List Keyword} {tk : TA} {g : List Value → List Value → List Value} {gV : List V → List V → List V}
end
end KdKw

namespace KdMs
open PySem PySem.Spec PyProof.Rows L2
section
variable {X : Cx} {CX : CXT} {k : Nat} {f C : Addr} {fd : FuncData} {ps ks : List Str} {sp : Sp} {x m : Str} {p pos apos : Pos} {e o : Expr} {es : List Expr} {kws : List Keyword} {ta : TE} {t tk : TA} {g : List Value → List Value → List Value} {gV : List V → List V → List V} {E : L2.St → XK}
end
end KdMs

namespace Kd
open PySem PySem.Spec PyProof.Rows L2 LamX KdXc
/-- the house's names and rows are fair texts -/
structure HsTx (S : Hs) : Prop where
  nm : ∀ e ∈ S.facts, Tx e.1
  rw : ∀ r ∈ S.rows, r.ok
theorem tell_facts {S : Hs} {ds : Dims} {r : Rw} {e : Str × Fct} (h : e ∈ (S.tell ds r).facts) : e ∈ S.facts ∨ ∃ day keys nums, r = .fact e.1 day keys nums := by
  cases r with
  | kind d key day vals => exact .inl h
  | fact name day keys nums =>
    have h : e ∈ pt S.facts name ⟨day, keys, nums⟩ := h
    rcases mem_pt h with rfl | ⟨h, _⟩
    · exact .inr ⟨day, keys, nums, rfl⟩
    · exact .inl h
  | forget name =>
    cases c : lk S.facts name with
    | none =>
      have q : S.tell ds (.forget name) = S := by unfold Hs.tell; simp only [c]
      rw [q] at h
      exact .inl h
    | some fc =>
      have q : S.tell ds (.forget name) = (S.told (.forget name)).forgetS ds name fc := by unfold Hs.tell; simp only [c]
      rw [q] at h
      have h : e ∈ dp S.facts name := h
      exact .inl (mem_dp.mp h).1
theorem HsTx.tell {ds : Dims} {ms : List Str} {S : Hs} {r : Rw} (t : HsTx S) (ok : r.ok) (e : (S.tell ds r).rows = S.rows ++ [r]) : HsTx (S.tell ds r) := by
  refine ⟨fun x hx => ?_, fun x hx => ?_⟩
  · rcases tell_facts hx with h | ⟨day, keys, nums, rfl⟩
    · exact t.nm x h
    · exact ok.1
  · rw [e] at hx
    rcases List.mem_append.mp hx with h | h
    · exact t.rw x h
    · rw [List.mem_singleton.mp h]
      exact ok
section
variable {P : Program} {w : World} {K : PySem.W.Frag} {mg : Str → Option Value} {base : Heap} {f : Addr} {fd : FuncData}
end
end Kd

namespace Kd
open PySem PySem.Spec PyProof.Rows L2 LamX
theorem tell_kinds {S : Hs} {ds : Dims} {r : Rw} : (∃ d key day vals, r = .kind d key day vals ∧ (S.tell ds r).ts.kinds = (S.ts.kept (d, key) day vals).kinds) ∨ (S.tell ds r).ts.kinds = S.ts.kinds := by
  cases r with
  | kind d key day vals => exact .inl ⟨d, key, day, vals, rfl, rfl⟩
  | fact name day keys nums =>
    refine .inr ?_
    show (Ts.parts _ _).kinds = _
    rw [parts_kinds]
    exact meetF_kinds ds S.ts _
  | forget name =>
    refine .inr ?_
    cases c : lk S.facts name with
    | none =>
      have q : S.tell ds (.forget name) = S := by unfold Hs.tell; simp only [c]
      rw [q]
    | some fc =>
      have q : S.tell ds (.forget name) = (S.told (.forget name)).forgetS ds name fc := by unfold Hs.tell; simp only [c]
      rw [q]
      show (Ts.parts _ _).kinds = _
      rw [parts_kinds]
      rfl
section
variable {K : PySem.W.Frag} {H H' : Hp}
def fctD (fc : Fct) : PyData := .tuple [.int fc.day, .tuple (fc.keys.map PyData.str), .tuple (fc.nums.map PyData.int)]
theorem FctAt.dp {a : Addr} {fc : Fct} (h : FctAt K H a fc) : Dp K H (.ref a) (fctD fc) := by
  obtain ⟨q1, q2, h1, h2, h3⟩ := h
  exact .tup h1 (.cons (.int _) (.cons (.tup h2 (DpAll.strs _)) (.cons (.tup h3 (ints_dp _)) .nil)))
/-! ### _law_known -/
end
end Kd

namespace Kd
open PySem PySem.Spec PyProof.Rows L2
/-! ### the lists as data -/
def attD (a : Str × Str) : PyData := .tuple [.str a.1, .str a.2]
def dimD (d : Str × List (Str × Str)) : PyData := .tuple [.str d.1, .tuple (d.2.map attD)]
def dimsD (ds : List (Str × List (Str × Str))) : PyData := .list (ds.map dimD)
section
variable {K : PySem.W.Frag} {H : Hp}
theorem atts_dp : ∀ {ys : List V} {as : List (Str × Str)}, Paired (AttAt K H) ys as → DpAll K H ys (as.map attD)
  | _, _, .nil => .nil
  | _, _, .cons ⟨r, e1, e2⟩ t => by
    subst e1
    exact .cons (.tup e2 (.cons (.str _) (.cons (.str _) .nil))) (atts_dp t)
theorem dims_dp : ∀ {xs : List V} {ds : List (Str × List (Str × Str))}, Paired (DimAt K H) xs ds → DpAll K H xs (ds.map dimD)
  | _, _, .nil => .nil
  | _, _, .cons ⟨p, q, e1, e2, zs, e3, e4⟩ t => by
    subst e1
    exact .cons (.tup e2 (.cons (.str _) (.cons (.tup e3 (atts_dp e4)) .nil))) (dims_dp t)
theorem DimsAt.dp {l : Addr} {ds : List (Str × List (Str × Str))} (h : DimsAt K H l ds) : Dp K H (.ref l) (dimsD ds) := by
  obtain ⟨xs, h1, h2⟩ := h
  exact .lst h1 (dims_dp h2)
end
end Kd

/-! == of dicts with tuple keys; dicts of dicts of data -/
namespace PySem.W
open Lean Elab Tactic Meta PySem PySem.Calls PyProof.Rows PyProof.V PySem.Spec
section
variable {prog : Program} {w : World} {K : Type} [DecidableEq K] {knd : HeapKind prog w K} {A : Around} {E : Value → Shared → Prop} {s : Shared}
inductive KeqHitsT {K : Type} [DecidableEq K] (prog : Program) (w : World) (A : Around) (s : Shared) (kb : List (K × Addr × Value)) : List (K × Addr × Value) → Bool → Prop
  | nil : KeqHitsT prog w A s kb [] true
  | miss {k : K} {a : Addr} {v : Value} {r : List (K × Addr × Value)} : atKey kb k = none → KeqHitsT prog w A s kb ((k, a, v) :: r) false
  | hit {k : K} {a b : Addr} {v y : Value} {r : List (K × Addr × Value)} {e c : Bool} : atKey kb k = some (b, y) → SeqAt.EqP prog w A s v y e → KeqHitsT prog w A s kb r c → KeqHitsT prog w A s kb ((k, a, v) :: r) (e && c)
end
end PySem.W
namespace Kd
open PySem PySem.Spec PyProof.Rows L2
section
variable {X : Cx} {pins : List (Addr × Obj)} {σ : L2.St} {H : Hp} {s : Shared}
end
section
variable {X : Cx}
end
end Kd

namespace Kd
open PySem PySem.Spec PyProof.Rows L2 LamX
/-! ### == of houses -/
def valsD (vs : List Fv) : PyData := .tuple (vs.map Fv.d)
section
variable {K : PySem.W.Frag} {H : Hp}
/-- all kinds and facts are fair data -/
structure HsSh (S : Hs) : Prop where
  k : ∀ e ∈ S.ts.kinds, ∀ k ∈ e.2, SeqAt.shaped (valsD k.2) = true
  f : ∀ e ∈ S.facts, SeqAt.shaped (fctD e.2) = true
end
end Kd

namespace Kd
open PySem PySem.Spec PyProof.Rows L2 LamX
/-! ### the plain tables -/
def svT (S : Hs) (t : Th) : List PyData := (S.ts.vs t).map fun v => svD v.s
def plnK (S : Hs) (d : Dm) : List Th := (S.keysOf d.1).map fun key => (d.1, key)
def plnL (ds : Dims) (S : Hs) : List Th := ds.flatMap (plnK S)
def plnT (S : Hs) (t : Th) : PyData := .tuple [.str t.1, .str t.2, .list (svT S t)]
def begF (ds : Dims) (S : Hs) (name : Str) : PyData := match lk S.facts name with
  | some fc => .tuple [.str name, .int fc.day, .tuple (fc.keys.map PyData.str), .tuple (fc.nums.map PyData.int), .tuple ((thOf ds fc.keys).map fun t => oD (S.ts.begOn t fc.day))]
  | none => .none
def plnF (ds : Dims) (S : Hs) : List PyData := S.names.map (begF ds S)
def plainD (ds : Dims) (S : Hs) : PyData := .tuple [.list ((plnL ds S).map (plnT S)), .list (plnF ds S)]
theorem plnL_len {ds : Dims} {S : Hs} (h : ∀ z, S.ts.dimN z < 64) : (plnL ds S).length ≤ 64 * ds.length := by
  unfold plnL
  induction ds with
  | nil => exact Nat.zero_le _
  | cons d ds ih =>
    rw [List.flatMap_cons, List.length_append, List.length_cons]
    have h1 : (plnK S d).length = S.ts.dimN d.1 := by
      unfold plnK Hs.keysOf Ts.keysL Ts.dimN
      rw [List.length_map, srtS_len, List.length_map]
    have := h d.1
    omega
end Kd

namespace Kd
open PySem PySem.Spec PyProof.Rows L2
/-! ### what is kept, as maps -/
theorem nodup_keys {α β : Type} : ∀ {l : List (α × β)}, (l.map (·.1)).Nodup → l.Nodup
  | [], _ => List.nodup_nil
  | a :: l, h => by
    rw [List.map_cons, List.nodup_cons] at h
    exact List.nodup_cons.mpr ⟨fun q => h.1 (List.mem_map_of_mem q), nodup_keys h.2⟩
theorem perm_of_lk {α β : Type} [DecidableEq α] {a b : List (α × β)} (na : (a.map (·.1)).Nodup) (nb : (b.map (·.1)).Nodup) (h : ∀ k, lk a k = lk b k) : a.Perm b := by
  rw [List.perm_ext_iff_of_nodup (nodup_keys na) (nodup_keys nb)]
  rintro ⟨k, v⟩
  constructor
  · intro q
    exact lk_mem ((h k).symm.trans (lk_of_mem na q))
  · intro q
    exact lk_mem ((h k).trans (lk_of_mem nb q))
theorem keys_perm {α β γ : Type} [DecidableEq α] {a : List (α × β)} {b : List (α × γ)} (na : (a.map (·.1)).Nodup) (nb : (b.map (·.1)).Nodup) (h : ∀ k, (lk a k).isSome = (lk b k).isSome) : (a.map (·.1)).Perm (b.map (·.1)) := by
  have key : ∀ {β : Type} {a : List (α × β)} {k : α}, k ∈ a.map (·.1) ↔ (lk a k).isSome = true := fun {β a k} => by
    constructor
    · intro q
      obtain ⟨v, e⟩ := lk_some_key q
      rw [e]; rfl
    · intro q
      obtain ⟨v, e⟩ := isSome_ex q
      exact List.mem_map_of_mem (f := (·.1)) (lk_mem e)
  rw [List.perm_ext_iff_of_nodup na nb]
  intro k
  rw [key, key, h]
def kvA (S : Hs) (t : Th) (d : Int) : Option (List Fv) := (lk S.ts.kinds t).bind fun ks => lk ks d
structure MapEq (S S2 : Hs) : Prop where
  k : ∀ t d, kvA S t d = kvA S2 t d
  f : ∀ z, lk S.facts z = lk S2.facts z
def KNe (S : Hs) : Prop := ∀ e ∈ S.ts.kinds, e.2 ≠ []
theorem KNe.some {S : Hs} (h : KNe S) {t : Th} : (lk S.ts.kinds t).isSome = true ↔ ∃ d v, kvA S t d = some v := by
  unfold kvA
  constructor
  · intro q
    obtain ⟨ks, e⟩ := isSome_ex q
    have := h _ (lk_mem e)
    cases ks with
    | nil => exact absurd rfl this
    | cons k ks => exact ⟨k.1, k.2, by rw [e]; show lk (k :: ks) k.1 = _; unfold lk; simp⟩
  · rintro ⟨d, v, e⟩
    cases q : lk S.ts.kinds t with
    | none => rw [q] at e; cases e
    | some ks => rfl
section
variable {ds : Dims} {ms ms2 : List Str} {S S2 : Hs}
theorem MapEq.symm (h : MapEq S S2) : MapEq S2 S := ⟨fun t d => (h.k t d).symm, fun z => (h.f z).symm⟩
theorem MapEq.kin (h : MapEq S S2) (n : KNe S) (n2 : KNe S2) (t : Th) : (lk S.ts.kinds t).isSome = (lk S2.ts.kinds t).isSome := by
  have e : ((lk S.ts.kinds t).isSome = true) ↔ ((lk S2.ts.kinds t).isSome = true) := by
    rw [n.some, n2.some]
    constructor
    · rintro ⟨d, v, e⟩
      exact ⟨d, v, (h.k t d).symm.trans e⟩
    · rintro ⟨d, v, e⟩
      exact ⟨d, v, (h.k t d).trans e⟩
  cases a : (lk S.ts.kinds t).isSome <;> cases b : (lk S2.ts.kinds t).isSome <;> simp_all
theorem MapEq.ks (h : MapEq S S2) (so : HsOk ds ms S) (so2 : HsOk ds ms2 S2) (n : KNe S) (n2 : KNe S2) (t : Th) : (S.ts.ks t).Perm (S2.ts.ks t) := by
  have e := h.kin n n2 t
  unfold Ts.ks
  cases a : lk S.ts.kinds t with
  | none =>
    rw [a] at e
    cases b : lk S2.ts.kinds t with
    | none => exact .refl _
    | some ks => rw [b] at e; cases e
  | some ks =>
    rw [a] at e
    cases b : lk S2.ts.kinds t with
    | none => rw [b] at e; cases e
    | some ks2 =>
      refine perm_of_lk (so.tok.kd _ (lk_mem a)) (so2.tok.kd _ (lk_mem b)) fun d => ?_
      have := h.k t d
      unfold kvA at this
      rw [a, b] at this
      exact this
theorem srt_rise2 {ks : List Kind} (h : (ks.map (·.1)).Nodup) : Rise (srt ks) := by
  have h1 := srt_le ks
  have h2 : ((srt ks).map (·.1)).Nodup := ((srt_perm ks).map (·.1)).nodup_iff.mpr h
  have h3 : (srt ks).Pairwise fun a b => a.1 ≠ b.1 := List.pairwise_map.mp h2
  exact (h1.and h3).imp fun {a b} q => Int.lt_iff_le_and_ne.mpr q
theorem MapEq.srt (h : MapEq S S2) (so : HsOk ds ms S) (so2 : HsOk ds ms2 S2) (n : KNe S) (n2 : KNe S2) (t : Th) : Kd.srt (S.ts.ks t) = Kd.srt (S2.ts.ks t) :=
  srt_of_perm (srt_rise2 (so2.tok.ks_nodup t)) ((h.ks so so2 n n2 t).trans (srt_perm _).symm)
theorem MapEq.sv (h : MapEq S S2) (so : HsOk ds ms S) (so2 : HsOk ds ms2 S2) (n : KNe S) (n2 : KNe S2) (ws : List Str) (t : Th) : Kd.sv ws (S.ts.ks t) = Kd.sv ws (S2.ts.ks t) := by
  unfold Kd.sv
  rw [h.srt so so2 n n2 t]
theorem MapEq.facts (h : MapEq S S2) (so : HsOk ds ms S) (so2 : HsOk ds ms2 S2) : S.facts.Perm S2.facts := perm_of_lk so.fn so2.fn h.f
theorem MapEq.fdays (h : MapEq S S2) (so : HsOk ds ms S) (so2 : HsOk ds ms2 S2) (t : Th) : (Kd.fdays ds S.facts t).isEmpty = (Kd.fdays ds S2.facts t).isEmpty := by
  have p : (Kd.fdays ds S.facts t).Perm (Kd.fdays ds S2.facts t) := ((h.facts so so2).filter _).map _
  cases a : Kd.fdays ds S.facts t with
  | nil =>
    rw [a] at p
    rw [p.symm.eq_nil]
  | cons x l =>
    cases b : Kd.fdays ds S2.facts t with
    | nil => rw [a, b] at p; exact absurd p.eq_nil (by simp)
    | cons y m => rfl
theorem known_iff (so : HsOk ds ms S) (t : Th) : (lk S.ts.nums t).isSome = !goneB ds S t := by
  cases a : (lk S.ts.nums t).isSome with
  | true => rw [so.kno t a]; rfl
  | false =>
    cases b : goneB ds S t with
    | true => rfl
    | false =>
      exfalso
      rcases goneB_false b with q | ⟨e, he, ht⟩
      · rw [so.kin t q] at a; cases a
      · obtain ⟨v, hv⟩ := so.fkn e he t ht
        rw [hv] at a; cases a
theorem MapEq.known (h : MapEq S S2) (so : HsOk ds ms S) (so2 : HsOk ds ms2 S2) (n : KNe S) (n2 : KNe S2) (t : Th) : (lk S.ts.nums t).isSome = (lk S2.ts.nums t).isSome := by
  rw [known_iff so, known_iff so2]
  unfold goneB
  have e1 := h.kin n n2 t
  have e2 := h.fdays so so2 t
  have e3 : (lk S.ts.kinds t).isNone = (lk S2.ts.kinds t).isNone := by
    cases a : lk S.ts.kinds t <;> cases b : lk S2.ts.kinds t <;> simp_all
  rw [e3, e2]
theorem MapEq.keysOf (h : MapEq S S2) (so : HsOk ds ms S) (so2 : HsOk ds ms2 S2) (n : KNe S) (n2 : KNe S2) (z : Str) : S.keysOf z = S2.keysOf z := by
  have p := keys_perm so.tok.nn so2.tok.nn (h.known so so2 n n2)
  have e : ∀ S : Hs, S.ts.keysL z = ((S.ts.nums.map (·.1)).filter fun t => decide (t.1 = z)).map (·.2) := fun S => by
    unfold Ts.keysL
    rw [List.filter_map, List.map_map]
    rfl
  unfold Hs.keysOf
  rw [e, e]
  exact srtS_of_perm ((p.filter _).map _)
theorem MapEq.names (h : MapEq S S2) (so : HsOk ds ms S) (so2 : HsOk ds ms2 S2) : S.names = S2.names := by
  unfold Hs.names
  exact srtS_of_perm ((h.facts so so2).map _)
theorem vs_of2 (so : HsOk ds ms S) {t : Th} (k : (lk S.ts.nums t).isSome = true) : (S.ts.vs t).map Ver.s = sv (wsOf ds t.1) (S.ts.ks t) := by
  obtain ⟨v, e⟩ := isSome_ex k
  have := so.tok.vs_of e
  unfold Ts.vs
  rw [e]
  exact this
theorem MapEq.vss (h : MapEq S S2) (so : HsOk ds ms S) (so2 : HsOk ds ms2 S2) (n : KNe S) (n2 : KNe S2) (t : Th) : (S.ts.vs t).map Ver.s = (S2.ts.vs t).map Ver.s := by
  have k := h.known so so2 n n2 t
  cases a : (lk S.ts.nums t).isSome with
  | true =>
    rw [a] at k
    rw [vs_of2 so a, vs_of2 so2 k.symm, h.sv so so2 n n2]
  | false =>
    rw [a] at k
    unfold Ts.vs
    cases b : lk S.ts.nums t with
    | some v => rw [b] at a; cases a
    | none =>
      cases b2 : lk S2.ts.nums t with
      | some v => rw [b2] at k; cases k
      | none => rfl
theorem MapEq.svT (h : MapEq S S2) (so : HsOk ds ms S) (so2 : HsOk ds ms2 S2) (n : KNe S) (n2 : KNe S2) (t : Th) : Kd.svT S t = Kd.svT S2 t := by
  have e : ∀ S : Hs, Kd.svT S t = ((S.ts.vs t).map Ver.s).map svD := fun S => by unfold Kd.svT; rw [List.map_map]; rfl
  rw [e, e, h.vss so so2 n n2]
theorem begOn_s (ts : Ts) (t : Th) (day : Int) : ts.begOn t day = ((((ts.vs t).map Ver.s).filter fun s => begB day s.1).getLast?.map fun s => s.1).getD none := by
  unfold Ts.begOn verOn
  have : ((ts.vs t).map Ver.s).filter (fun s => begB day s.1) = ((ts.vs t).filter fun r => begB day r.b).map Ver.s := by
    rw [List.filter_map]
    rfl
  rw [this, List.getLast?_map, Option.map_map]
  rfl
theorem MapEq.begOn (h : MapEq S S2) (so : HsOk ds ms S) (so2 : HsOk ds ms2 S2) (n : KNe S) (n2 : KNe S2) (t : Th) (day : Int) : S.ts.begOn t day = S2.ts.begOn t day := by
  rw [begOn_s, begOn_s, h.vss so so2 n n2]
theorem MapEq.plain (h : MapEq S S2) (so : HsOk ds ms S) (so2 : HsOk ds ms2 S2) (n : KNe S) (n2 : KNe S2) : plainD ds S = plainD ds S2 := by
  have e1 : plnL ds S = plnL ds S2 := by
    unfold plnL
    congr 1
    funext d
    unfold plnK
    rw [h.keysOf so so2 n n2]
  have e2 : plnT S = plnT S2 := by
    funext t
    unfold plnT
    rw [h.svT so so2 n n2]
  have e3 : plnF ds S = plnF ds S2 := by
    unfold plnF
    rw [h.names so so2]
    congr 1
    funext z
    unfold begF
    rw [h.f z]
    cases lk S2.facts z with
    | none => rfl
    | some fc =>
      have q : (fun t => oD (S.ts.begOn t fc.day)) = (fun t => oD (S2.ts.begOn t fc.day)) := by
        funext t
        rw [h.begOn so so2 n n2]
      show PyData.tuple [_, _, _, _, .tuple ((thOf ds fc.keys).map fun t => oD (S.ts.begOn t fc.day))] = _
      rw [q]
  unfold plainD
  rw [e1, e2, e3]
/-! == of houses by maps -/
/-! what a row does to the maps -/
theorem KNe.none : KNe Hs.none := fun e he => by cases he
theorem KNe.tell (h : KNe S) (r : Rw) : KNe (S.tell ds r) := fun e he => by
  rcases tell_kinds (S := S) (ds := ds) (r := r) with ⟨d, key, day, vals, rfl, q⟩ | q
  · rw [q] at he
    have he : e ∈ pt S.ts.kinds (d, key) (pt (S.ts.ks (d, key)) day vals) := he
    rcases mem_pt he with rfl | ⟨he, _⟩
    · intro z
      have z : pt (S.ts.ks (d, key)) day vals = [] := z
      have : lk (pt (S.ts.ks (d, key)) day vals) day = Option.some vals := by rw [lk_pt, if_pos rfl]
      rw [z] at this
      cases this
    · exact h e he
  · rw [q] at he
    exact h e he
end
end Kd

namespace Kd
open PySem PySem.Spec PyProof.Rows L2
/-! ### marks of rows, and rows of one mark in their order -/
def runR (ds : Dims) (l : List Rw) : Hs := l.foldl (fun S r => S.tell ds r) Hs.none
theorem runR_snoc (ds : Dims) (l : List Rw) (r : Rw) : runR ds (l ++ [r]) = (runR ds l).tell ds r := by
  unfold runR
  rw [List.foldl_append]
  rfl
section
variable {ds : Dims} {ms : List Str}
/-- none of them is refused -/
def Vd (ds : Dims) (ms : List Str) (l : List Rw) : Prop := ∀ i r, l[i]? = some r → (runR ds (l.take i)).takes ds ms r = true
theorem Vd.nil : Vd ds ms [] := fun i r h => by cases h
theorem Vd.snoc {l : List Rw} {r : Rw} (h : Vd ds ms l) (tk : (runR ds l).takes ds ms r = true) : Vd ds ms (l ++ [r]) := fun i r' e => by
  by_cases q : i < l.length
  · rw [List.getElem?_append_left q] at e
    rw [List.take_append_of_le_length (by omega)]
    exact h i r' e
  · have hi : i = l.length := by
      have := (List.getElem?_eq_some_iff.mp e).1
      rw [List.length_append] at this
      have : i < l.length + 1 := this
      omega
    subst hi
    rw [List.getElem?_append_right (Nat.le_refl _), Nat.sub_self] at e
    cases e
    rw [List.take_left]
    exact tk
theorem KNe.run (l : List Rw) : KNe (runR ds l) := snoc_indl (p := fun l => KNe (runR ds l)) KNe.none (fun l r ih => by rw [runR_snoc]; exact ih.tell r) l
end
end Kd

namespace Kd
open PySem PySem.Spec PyProof.Rows L2
/-- a row as the bag draws it -/
def Row6 (ds : Dims) (ms : List Str) : Rw → Prop
  | .kind dn key day vals => ∃ d ∈ ds, dn = d.1 ∧ key ∈ keyL6 ∧ Day6 day ∧ vals.length = d.2.length ∧ ∀ v ∈ vals, v ∈ valL6
  | .fact name day keys nums => name ∈ nameL6 ∧ Day6 day ∧ keys.length = ds.length ∧ (∀ z ∈ keys, z ∈ keyL6) ∧ nums.length = ms.length ∧ ∀ i ∈ nums, Num6 i
  | .forget name => name ∈ nameL6
/-- names that are there: just those of the facts kept -/
structure There (ds : Dims) (ms : List Str) (rws : List Rw) (th : List Str) : Prop where
  rw : ∀ r ∈ rws, Row6 ds ms r
  vd : Vd ds ms rws
  nd : th.Nodup
  nm : ∀ z ∈ th, z ∈ nameL6
  iff : ∀ z, z ∈ th ↔ (lk (runR ds rws).facts z).isSome = true
section
variable {ds : Dims} {ms : List Str} {rws : List Rw} {th : List Str}
theorem fits_kind (hu : (ds.map (·.1)).Nodup) {d : Dm} {key : Str} {day : Int} {vals : List Fv} (hd : d ∈ ds) (hl : vals.length = d.2.length) : (Rw.kind d.1 key day vals).fits ds ms = true := by
  show kfits ds d.1 vals.length = true
  unfold kfits
  rw [find_dim hu hd]
  exact decide_eq_true hl
theorem There.kind (h : There ds ms rws th) (hu : (ds.map (·.1)).Nodup) {d : Dm} {key : Str} {day : Int} {vals : List Fv} (hr : Row6 ds ms (.kind d.1 key day vals)) (hd : d ∈ ds) (hl : vals.length = d.2.length) : There ds ms (rws ++ [.kind d.1 key day vals]) th where
  rw := fun r hr2 => by
    rcases List.mem_append.mp hr2 with q | q
    · exact h.rw r q
    · rw [List.mem_singleton.mp q]; exact hr
  vd := h.vd.snoc (by
    unfold Hs.takes
    rw [fits_kind hu hd hl]
    rfl)
  nd := h.nd
  nm := h.nm
  iff := fun z => by
    rw [runR_snoc]
    exact h.iff z
theorem There.fact (h : There ds ms rws th) {name : Str} {day : Int} {keys : List Str} {nums : List Int} (hr : Row6 ds ms (.fact name day keys nums)) : There ds ms (rws ++ [.fact name day keys nums]) (th.filter (fun z => !decide (z = name)) ++ [name]) where
  rw := fun r hr2 => by
    rcases List.mem_append.mp hr2 with q | q
    · exact h.rw r q
    · rw [List.mem_singleton.mp q]; exact hr
  vd := h.vd.snoc (by
    obtain ⟨_, _, h3, _, h5, _⟩ := hr
    show ((decide (keys.length = ds.length) && decide (nums.length = ms.length)) && true) = true
    rw [decide_eq_true h3, decide_eq_true h5]
    rfl)
  nd := by
    rw [List.nodup_append]
    refine ⟨h.nd.sublist List.filter_sublist, List.pairwise_singleton _ _, fun x hx y hy e => ?_⟩
    rw [List.mem_singleton.mp hy] at e
    have := (List.mem_filter.mp hx).2
    rw [e, decide_eq_true rfl] at this
    cases this
  nm := fun z hz => by
    rcases List.mem_append.mp hz with q | q
    · exact h.nm z (List.mem_filter.mp q).1
    · rw [List.mem_singleton.mp q]; exact hr.1
  iff := fun z => by
    rw [runR_snoc]
    show _ ↔ (lk (pt (runR ds rws).facts name _) z).isSome = true
    rw [lk_pt, List.mem_append, List.mem_filter, List.mem_singleton, h.iff z]
    by_cases c : z = name
    · rw [if_pos c]
      simp [c]
    · rw [if_neg c]
      simp [c]
theorem There.forget (h : There ds ms rws th) {i : Nat} {name : Str} (hi : th[i]? = some name) : There ds ms (rws ++ [.forget name]) (th.eraseIdx i) := by
  have hm := List.mem_of_getElem? hi
  have hk := (h.iff name).mp hm
  obtain ⟨fc, hfc⟩ := isSome_ex hk
  have hsub : (th.eraseIdx i).Sublist th := List.eraseIdx_sublist th i
  have hne : ∀ z, z ∈ th.eraseIdx i ↔ z ∈ th ∧ z ≠ name := fun z => by
    have hperm : th.Perm (name :: th.eraseIdx i) := by
      obtain ⟨g1, g2⟩ := List.getElem?_eq_some_iff.mp hi
      have e1 : th = th.take i ++ name :: th.drop (i + 1) := by rw [← g2, List.getElem_cons_drop, List.take_append_drop]
      rw [List.eraseIdx_eq_take_drop_succ]
      have hp : (th.take i ++ name :: th.drop (i + 1)).Perm (name :: (th.take i ++ th.drop (i + 1))) := List.perm_middle
      rw [← e1] at hp
      exact hp
    have hn := hperm.nodup_iff.mp h.nd
    rw [List.nodup_cons] at hn
    constructor
    · intro hz
      exact ⟨hsub.subset hz, fun e => hn.1 (e ▸ hz)⟩
    · intro ⟨h1, h2⟩
      rcases List.mem_cons.mp (hperm.mem_iff.mp h1) with q | q
      · exact absurd q h2
      · exact q
  refine ⟨fun r hr2 => ?_, h.vd.snoc ?_, h.nd.sublist hsub, fun z hz => h.nm z (hsub.subset hz), fun z => ?_⟩
  · rcases List.mem_append.mp hr2 with q | q
    · exact h.rw r q
    · rw [List.mem_singleton.mp q]; exact h.nm name hm
  · show (true && (lk (runR ds rws).facts name).isSome) = true
    rw [hfc]
    rfl
  · rw [runR_snoc, hne z, h.iff z]
    have e : ((runR ds rws).tell ds (.forget name)).facts = dp (runR ds rws).facts name := by
      have e : (runR ds rws).tell ds (.forget name) = ((runR ds rws).told (.forget name)).forgetS ds name fc := by unfold Hs.tell; simp only [hfc]
      rw [e]
      rfl
    rw [e, lk_dp]
    by_cases c : z = name
    · rw [if_pos c]
      simp [c]
    · rw [if_neg c]
      simp [c]
end
theorem or_by6 {t u : TT} {σ : L2.St} {H : Hp} {Q : Bool → Hp → Prop} {b1 b2 : Bool} (h1 : ∀ Q : Bool → Hp → Prop, Q b1 H → t σ H Q) (h2 : ∀ Q : Bool → Hp → Prop, Q b2 H → u σ H Q) (k : Q (b1 || b2) H) : tOr t u σ H Q := h1 _ (by
  cases b1 with
  | false => exact h2 _ k
  | true => exact k)
section
variable {P : Program} {w : World} {K : PySem.W.Frag} {mg : Str → Option Value} {base : Heap} {f : Addr} {fd : FuncData}
/-! ### _law_rows -/
def spRows6 (K : PySem.W.Frag) : Sp := fun vs H Q _ => ∃ (a g pp lo mo : Addr) (n : Nat) (ds : Dims) (ms : List Str) (most : Nat), vs = [.ref a, .ref pp, .int most] ∧ Bag6 H a g n ∧ n ≤ 8000000 ∧ Pl6 K H a g pp lo mo ds ms ∧ Good ds ms ∧ most ≤ 60 ∧
  ∀ l rs rws th H', H l = none → H' l = some (.lst rs) → Paired (RwRef K H') rs rws → There ds ms rws th → rws.length ≤ most → Bag6 H' a g (n + 1 + 30 * most) → Same (ct a g H) (ct a g H') → Q (.ref l) H'
abbrev N_l_rows : List Str := ["bag", "plan", "most", "found", "there", "turn", "shape", "name", "one"]
theorem sc_l_rows : FnScope N_l_rows ["bag", "plan", "most"] (defScope s_l_rows) := ⟨rfl, rfl, rfl, by decide +kernel, rfl, by decide +kernel, by decide +kernel⟩
/-! slots: 0 bag 1 plan 2 most 3 found 4 there 5 turn 6 shape 7 name 8 one; cells: name -/
set_option maxHeartbeats 0 in
theorem ok_rows6 {f1 f2 f3 : Addr} {d1 d2 d3 : FuncData} (F : FnP K "_law_rows" "_law_rows" s_l_rows f fd) (c_draw : Fun P w K mg base "_law_draw" 1 ["bag", "many"] spDraw6 f1 d1) (c_kind : Fun P w K mg base "_law_kind" 3 ["bag", "plan"] (spKind6 K) f2 d2) (c_fact : Fun P w K mg base "_law_fact" 3 ["bag", "plan", "name"] (spFact6 K) f3 d3) (z_len : mg "len" = none) (z_range : mg "range" = none) : FnOk P w K mg base CX0 4 f fd ["bag", "plan", "most"] (spRows6 K) := by
  refine F.ok sc_l_rows (fun vs H Q E h => ?_) (fun cdv A outer s H vs Q E hr h => ?_)
  · obtain ⟨a, g, pp, lo, mo, n, ds, ms, most, rfl, _⟩ := h
    rfl
  · obtain ⟨a, g, pp, lo, mo, n, ds, ms, most, rfl, hB, hn, hP, ok, hm, k⟩ := h
    have nd := sc_l_rows.nd
    refine ⟨_, PSs.nox (pss_cons (ps_par (i := 3) (j := 4) rfl nd rfl rfl (by decide) rfl rfl (pa_cons (pe_lst pa_nil) (pa_cons (pe_lst pa_nil) pa_nil)) (by rfl))
      (pss_cons (ps_for PassesOwn.never rfl (pi_range1 rfl z_range (pa_cons (pe_call c_draw.G (hr.mono (by decide)) rfl c_draw.g c_draw.k c_draw.b .nil pass0 (pa_cons (pv 0) (pa_cons (pe_op op_add (pv 2) pe_int) pa_nil))) pa_nil)) (pg_name (i := 5) nd rfl (Or.inl rfl))
        (pss_cons (ps_set (i := 6) nd rfl (Or.inl rfl) (pe_call c_draw.G (hr.mono (by decide)) rfl c_draw.g c_draw.k c_draw.b .nil pass0 (pa_cons (pv 0) (pa_cons pe_int pa_nil))))
        (pss_one (ps_if (pt_cmpR op_lt (pv 6) pe_int (nomark _))
          (pss_one (ps_expr (pe_bm PySem.F.plainAttrs_list PySem.F.slot_list_append PySem.F.type_list_append mt_append (pv 3) (pa_cons (pe_call c_kind.G (hr.mono (by decide)) rfl c_kind.g c_kind.k c_kind.b .nil pass0 (pa_cons (pv 0) (pa_cons (pv 1) pa_nil))) pa_nil))))
          (pss_one (ps_if (PW.pt (pw_or (pt_cmpR op_lt (pv 6) pe_int (nomark _)) (pw_or1 (pt_cmpR op_eq (pe_callB call_len_seq (by rfl) z_len boot_len (pa_cons (pv 4) pa_nil)) pe_int (nomark _)))))
            (pss_cons (ps_set (i := 7) nd rfl (Or.inr rfl) (pe_ix ix_tup (pe_tup (pa_cons pe_str (pa_cons pe_str (pa_cons pe_str (pa_cons pe_str (pa_cons pe_str (pa_cons pe_str (pa_cons pe_str (pa_cons pe_str pa_nil))))))))) (pe_call c_draw.G (hr.mono (by decide)) rfl c_draw.g c_draw.k c_draw.b .nil pass0 (pa_cons (pv 0) (pa_cons pe_int pa_nil))) (fun _ _ => rfl)))
            (pss_cons (ps_expr (pe_bm PySem.F.plainAttrs_list PySem.F.slot_list_append PySem.F.type_list_append mt_append (pv 3) (pa_cons (pe_call c_fact.G (hr.mono (by decide)) rfl c_fact.g c_fact.k c_fact.b .nil pass0 (pa_cons (pv 0) (pa_cons (pv 1) (pa_cons (pv 7) pa_nil)))) pa_nil)))
            (pss_one (ps_set (i := 4) nd rfl (Or.inl rfl) (pe_op op_cat (pe_lc (own := [("one", 8)]) (g := gName 8) (tt := tTest (tOp (rNeD K) (tVar 8) (tVar 7))) (te := tVar 8) rfl nd (pi_list (pv 4)) (blkOk_by (own := [("one", 8)]) (N := N_l_rows) (sc := defScope s_l_rows) (by decide +kernel))
        (fun _ _ _ _ _ => pg_name (i := 8) nd rfl (Or.inl rfl)) (fun _ _ _ _ _ => pts_one (pt_cmpR (op_neD hr.units) (pv 8) (pv 7) (nomark _))) (fun _ _ _ _ _ => pv 8)) (pe_lst (pa_cons (pv 7) pa_nil)))))))
            (pss_one (ps_expr (pe_bm PySem.F.plainAttrs_list PySem.F.slot_list_append PySem.F.type_list_append mt_append (pv 3) (pa_cons (pe_tup (pa_cons pe_str (pa_cons (pe_bm PySem.F.plainAttrs_list PySem.F.slot_list_pop PySem.F.type_list_pop mt_popAt (pv 4) (pa_cons (pe_call c_draw.G (hr.mono (by decide)) rfl c_draw.g c_draw.k c_draw.b .nil pass0 (pa_cons (pv 0) (pa_cons (pe_callB call_len_seq (by rfl) z_len boot_len (pa_cons (pv 4) pa_nil)) pa_nil))) pa_nil)) pa_nil))) pa_nil))))))))))
      (pss_one (ps_ret (pv 3))))), ?_⟩
    refine ⟨by show 0 ≤ sizeLine; decide, fun Fo nF => ⟨by show 0 ≤ sizeLine; decide, fun Th nT => ⟨_, _, rfl, ?_⟩⟩⟩
    generalize e1 : upd H Fo _ = H1 at nT ⊢
    obtain ⟨s1, eF1⟩ := new_of nF e1
    generalize e2 : upd H1 Th _ = H2
    obtain ⟨s2, eT2⟩ := new_of nT e2
    have eF2 := s2 _ _ eF1
    have hB2 := (hB.same s1).same s2
    obtain ⟨Fa, Fg⟩ := hB.na nF
    obtain ⟨Ta, Tg⟩ := (hB.same s1).na nT
    have FT : Fo ≠ Th := fun z => by rw [← z, eF1] at nT; cases nT
    refine sl_eq (σ' := [some (.ref a), some (.ref pp), some (.int most), some (.ref Fo), some (.ref Th), none, none, none, none]) rfl ?_
    refine ⟨_, rfl, _, rfl, _, _, rfl, rfl, a, g, n, _, rfl, hB2, by omega, by omega, by omega, fun x H3 x0 x1 hB3 s3 => ?_⟩
    obtain ⟨N, rfl⟩ := natI x0
    refine ⟨_, rfl, by omega, by omega, ?_⟩
    rw [Int.toNat_natCast]
    have s03 : Same (ct a g H) (ct a g H3) := (ct_same (s1.trans s2)).trans s3
    have eF3 := ctkeepG s3 eF2 Fa Fg
    have eT3 := ctkeepG s3 eT2 Ta Tg
    have HTn : H Th = none := by
      cases q : H Th with
      | none => rfl
      | some o => rw [s1 _ _ q] at nT; cases nT
    refine for_range (lo := 0) (n := N) (fun i σ R => ∃ (rs : List V) (rws : List Rw) (th : List Str) (T : Addr) (y5 y6 y7 : Option V), σ = [some (.ref a), some (.ref pp), some (.int most), some (.ref Fo), some (.ref T), y5, y6, y7, none] ∧ Bag6 R a g (n + 1 + 30 * i) ∧ Same (ct a g H) (ct a g R) ∧ R Fo = some (.lst rs) ∧ R T = some (.lst (th.map V.str)) ∧ H T = none ∧ T ≠ Fo ∧ Paired (RwRef K R) rs rws ∧ There ds ms rws th ∧ rws.length = i ∧ th.length ≤ i)
      ⟨[], [], [], Th, _, _, _, rfl, hB3, s03, eF3, eT3, HTn, FT.symm, .nil, ⟨fun r hr => (by cases hr), Vd.nil, List.nodup_nil, fun z hz => (by cases hz), fun z => ⟨fun h => (by cases h), fun h => (by cases h)⟩⟩, rfl, Nat.le_refl _⟩ ?_ ?_
    · rintro i σ R hi ⟨rs, rws, th, T, y5, y6, y7, rfl, hBR, sR, eFR, eTR, hT, TF, pR, tR, lR, lT⟩
      refine set_sl (σ' := [some (.ref a), some (.ref pp), some (.int most), some (.ref Fo), some (.ref T), some (.int (0 + (i : Int))), y6, y7, none]) rfl ?_
      refine ⟨_, rfl, a, g, _, 8, rfl, hBR, by omega, by decide, by decide, fun sh R1 x0 x1 hB1 s4 => ?_⟩
      refine set_sl (σ' := [some (.ref a), some (.ref pp), some (.int most), some (.ref Fo), some (.ref T), some (.int (0 + (i : Int))), some (.int sh), y7, none]) rfl ?_
      obtain ⟨T1, T2⟩ := hB.na hT
      have eF1' := ctkeepG s4 eFR Fa Fg
      have eT1' := ctkeepG s4 eTR T1 T2
      have sR1 := sR.trans s4
      have pR1 := hBR.two.rws s4 pR
      have hP1 := hP.draw hB.two sR1
      have lrs : rs.length < sizeLine := by
        have := pR.length
        have : 100 < sizeLine := by decide
        omega
      refine ⟨_, rfl, _, _, rfl, rfl, _, rfl, ?_⟩
      refine ite2 (fun c1 => ?_) (fun c1 => ?_)
      · -- a kind
        refine ⟨_, rfl, .inl ⟨rfl, _, SqL.of eF1'⟩, _, rfl, _, rfl, a, g, pp, lo, mo, _, ds, ms, rfl, hB1, by omega, hP1, ok.d1, ok.d4, ok.al, fun p d key day vals R2 hd hk hday hvl hvv hp2 hB2' s5 => ?_⟩
        have eF2' := ctkeepG s5 eF1' Fa Fg
        refine ⟨Fo, _, _, rfl, rfl, eF2', lrs, nx_of ?_⟩
        have kp : Keep no R2 (L2.upd R2 Fo (.lst (rs ++ [.ref p]))) := (Fr.put (T := []) (N := fun b => b = Fo) eF2' trivial rfl).keep0
        refine ⟨rs ++ [.ref p], rws ++ [.kind d.1 key day vals], th, T, _, _, _, rfl, (hB2'.upd Fa Fg).mono (by omega), same_putct (sR1.trans s5) nF, upd_same, by rw [upd_ne TF]; exact ctkeepG s5 eT1' T1 T2, hT, TF, ?_, tR.kind ok.du ⟨d, hd, rfl, hk, hday, hvl, hvv⟩ hd hvl, by rw [List.length_append, lR]; rfl, by omega⟩
        exact PairedU6 (PySem.Paired.mono (fun _ _ => RwRef.keep kp) (hB1.two.rws s5 pR1)) ⟨p, rfl, kp.rw_at hp2⟩
      · refine or_by6 (b1 := decide (sh < 7)) (b2 := decide (V.int (th.length : Int) = V.int 0)) (fun Qb kb => ⟨_, rfl, _, _, rfl, rfl, _, rfl, kb⟩) (fun Qb kb => ?_) ?_
        · refine ⟨_, rfl, T, _, rfl, .inl (SqL.of eT1'), rfl, _, rfl, ?_⟩
          rw [List.length_map]
          exact kb
        · refine ite2 (fun c2 => ?_) (fun c2 => ?_)
          · refine ⟨by show 8 ≤ sizeLine; decide, fun t nt => ?_⟩
            generalize e5 : upd R1 t _ = R2
            obtain ⟨s5, et⟩ := new_of nt e5
            have hB2' := hB1.same s5
            refine ⟨_, rfl, a, g, _, 8, rfl, hB2', by omega, by decide, by decide, fun x2 R3 y0 y1 hB3' s6 => ?_⟩
            obtain ⟨kx, rfl⟩ := natI y0
            obtain ⟨name, hname, hnm⟩ := get_lt (l := nameL6) (k := kx) (by show kx < 8; omega)
            refine ⟨t, _, _, _, rfl, rfl, (hB2'.two.keep0 s6).seqT (SqT.of et), atI_nat (j := kx) (show (nameL6.map V.str)[kx]? = some (.str name) by rw [List.getElem?_map, hname]; rfl), ?_⟩
            refine set_sl (σ' := [some (.ref a), some (.ref pp), some (.int most), some (.ref Fo), some (.ref T), some (.int (0 + (i : Int))), some (.int sh), some (.str name), none]) rfl ?_
            have s13 : Same (ct a g R1) (ct a g R3) := (ct_same s5).trans s6
            have sR3 := sR1.trans s13
            have eF3' := ctkeepG s13 eF1' Fa Fg
            have eT3' := ctkeepG s13 eT1' T1 T2
            refine ⟨_, rfl, .inl ⟨rfl, _, SqL.of eF3'⟩, _, rfl, _, rfl, _, rfl, a, g, pp, lo, mo, _, ds, ms, name, rfl, hB3', by omega, hP.draw hB.two sR3, ok.d4, ok.m4, fun p day keys nums R4 hday hkl hkk hnl hnn hp4 hB4 s7 => ?_⟩
            have eF4' := ctkeepG s7 eF3' Fa Fg
            have eT4' := ctkeepG s7 eT3' T1 T2
            refine ⟨Fo, _, _, rfl, rfl, eF4', lrs, ?_⟩
            have kp : Keep no R4 (L2.upd R4 Fo (.lst (rs ++ [.ref p]))) := (Fr.put (T := []) (N := fun b => b = Fo) eF4' trivial rfl).keep0
            have hB5 := hB4.upd (o := .lst (rs ++ [.ref p])) Fa Fg
            have sR5 : Same (ct a g H) (ct a g (L2.upd R4 Fo (.lst (rs ++ [.ref p])))) := same_putct (sR3.trans s7) nF
            have eF5 : L2.upd R4 Fo (.lst (rs ++ [.ref p])) Fo = some (.lst (rs ++ [.ref p])) := upd_same
            have eT5 : L2.upd R4 Fo (.lst (rs ++ [.ref p])) T = some (.lst (th.map V.str)) := by rw [upd_ne TF]; exact eT4'
            have pR5 : Paired (RwRef K (L2.upd R4 Fo (.lst (rs ++ [.ref p])))) (rs ++ [.ref p]) (rws ++ [.fact name day keys nums]) := PairedU6 (PySem.Paired.mono (fun _ _ => RwRef.keep kp) (hB3'.two.rws s7 (hB1.two.rws s13 pR1))) ⟨p, rfl, kp.rw_at hp4⟩
            have tR5 := tR.fact (name := name) (day := day) (keys := keys) (nums := nums) ⟨hnm, hday, hkl, hkk, hnl, hnn⟩
            generalize L2.upd R4 Fo (.lst (rs ++ [.ref p])) = R5 at hB5 sR5 eF5 eT5 pR5 ⊢
            refine ⟨_, rfl, T, rfl, ⟨_, SqL.of eT5⟩, fun D nD => ?_⟩
            refine lc_build (walk_list (K := K) (a := T)) nD (fun j zs R => Same R5 R ∧ zs = ((th.take j).filter fun z => !decide (z = name)).map V.str) ⟨Same.refl _, rfl⟩ (fun _ _ _ _ q => SqL.of ((q.1.trans cd_sub) _ _ eT5)) ?_ ?_
            · rintro j zs y R6 R6' hj e6 lz ⟨sm, rfl⟩ ⟨rfl, hy⟩
              rw [List.length_map] at hj
              obtain ⟨zn, rfl, hzn⟩ : ∃ zn, y = .str zn ∧ th[j]? = some zn := by
                rw [List.getElem?_map] at hy
                obtain ⟨zn, h1, h2⟩ := Option.map_eq_some_iff.mp hy
                exact ⟨zn, h2.symm, h1⟩
              have shn : ∀ z ∈ nameL6, SeqAt.shaped (.str z) = true := by decide +kernel
              have flts := flt_snoc (p := fun z : Str => !decide (z = name)) hzn
              refine ⟨rfl, ?_⟩
              refine ⟨_, rfl, _, rfl, .str zn, .str name, .str _, .str _, shn _ (tR.nm _ (List.mem_of_getElem? hzn)), shn _ hnm, _, rfl, ?_⟩
              have eqs : PyData.eqv (.str zn) (.str name) = decide (zn = name) := by
                simp only [PyData.eqv]
                rw [Bool.eq_iff_iff]
                simp
              rw [eqs]
              by_cases cz : zn = name
              · rw [decide_eq_true cz]
                refine iteF (LcNx.skip e6 lz ⟨sm, ?_⟩)
                rw [flts, if_neg (by rw [decide_eq_true cz]; exact Bool.false_ne_true), List.append_nil]
              · rw [decide_eq_false cz]
                refine iteT ⟨_, rfl, ?_⟩
                refine LcNx.add e6 lz (by omega) ⟨sm, ?_⟩
                rw [flts, if_pos (by rw [decide_eq_false cz]; rfl), List.map_append]
                rfl
            · rintro zs R6 e6 lz ⟨sm, rfl⟩
              rw [List.length_map, List.take_length] at e6
              have s56 : Same R5 R6 := sm.trans cd_sub
              refine ⟨_, rfl, by show 1 ≤ sizeLine; decide, fun m nm => ?_⟩
              generalize e7 : upd R6 m _ = R7
              obtain ⟨s7', em⟩ := new_of nm e7
              have lf : (th.filter fun z => !decide (z = name)).length ≤ 60 := Nat.le_trans (List.length_filter_le ..) (by omega)
              refine ⟨D, m, _, _, rfl, rfl, s7' _ _ e6, em, ?_, fun q nq => ?_⟩
              · rw [List.length_map]
                have : 100 < sizeLine := by decide
                show _ + 1 ≤ sizeLine
                omega
              generalize e8 : upd R7 q _ = R8
              obtain ⟨s8, eq8⟩ := new_of nq e8
              refine set_sl (σ' := [some (.ref a), some (.ref pp), some (.int most), some (.ref Fo), some (.ref q), some (.int (0 + (i : Int))), some (.int sh), some (.str name), none]) rfl (nx_of ?_)
              have s58 : Same R5 R8 := (s56.trans s7').trans s8
              have hqn : H q = none := by
                obtain ⟨qa, qg⟩ := (hB5.same (s56.trans s7')).na nq
                exact free_ct (sR5.trans (ct_same (s56.trans s7'))) nq qa qg
              have qF : q ≠ Fo := fun z => by rw [z, (s56.trans s7') _ _ eF5] at nq; cases nq
              refine ⟨rs ++ [.ref p], rws ++ [.fact name day keys nums], _, q, _, _, _, rfl, (hB5.same s58).mono (by omega), sR5.trans (ct_same s58), s58 _ _ eF5, ?_, hqn, qF, rws_same s58 pR5, tR5, by rw [List.length_append, lR]; rfl, ?_⟩
              · rw [eq8, List.map_append]
                rfl
              · rw [List.length_append]
                have := List.length_filter_le (fun z : Str => !decide (z = name)) th
                show _ + 1 ≤ _
                omega
          · have c3 : ¬ (sh < 7) ∧ ¬ ((th.length : Int) = 0) := by
              constructor
              · intro q
                exact c2 (by rw [decide_eq_true q]; rfl)
              · intro q
                exact c2 (by rw [q]; simp)
            refine ⟨_, rfl, .inl ⟨rfl, _, SqL.of eF1'⟩, _, rfl, .inl ⟨rfl, _, SqL.of eT1'⟩, _, rfl, _, rfl, T, _, rfl, .inl (SqL.of eT1'), a, g, _, _, rfl, hB1, by omega, by rw [List.length_map]; omega, by rw [List.length_map]; omega, fun x2 R2 y0 y1 hB2' s5 => ?_⟩
            rw [List.length_map] at y1
            obtain ⟨kx, rfl⟩ := natI y0
            have hkx : kx < th.length := by omega
            have eF2' := ctkeepG s5 eF1' Fa Fg
            have eT2' := ctkeepG s5 eT1' T1 T2
            refine ⟨T, _, _, kx, .str (th[kx]), rfl, rfl, eT2', by omega, by omega, ?_, by rw [List.getElem?_map, List.getElem?_eq_getElem hkx]; rfl, ?_⟩
            · rw [List.length_map]
              unfold seqIndex?
              simp
              omega
            generalize e5 : upd R2 T _ = R3
            have eF3' : R3 Fo = some (.lst rs) := by rw [← e5, upd_ne TF.symm]; exact eF2'
            have eT3' : R3 T = some (.lst ((th.eraseIdx kx).map V.str)) := by
              rw [← e5, upd_same]
              congr 2
              simp [List.eraseIdx_eq_take_drop_succ, List.map_take, List.map_drop]
            refine ⟨by show 2 ≤ sizeLine; decide, fun p np => ?_⟩
            generalize e6 : upd R3 p _ = R4
            obtain ⟨s6, ep⟩ := new_of np e6
            have eF4' := s6 _ _ eF3'
            refine ⟨Fo, _, _, rfl, rfl, eF4', lrs, nx_of ?_⟩
            have k23 : Keep no R2 R3 := by rw [← e5]; exact (Fr.put (T := []) (N := fun b => b = T) eT2' trivial rfl).keep0
            have k45 : Keep no R4 (L2.upd R4 Fo (.lst (rs ++ [.ref p]))) := (Fr.put (T := []) (N := fun b => b = Fo) eF4' trivial rfl).keep0
            have kall := (k23.trans (Keep.of s6)).trans k45
            have hB3' : Bag6 R3 a g (n + 1 + 30 * i + 1 + 1) := by rw [← e5]; exact hB2'.upd T1 T2
            have s24 : Same (ct a g H) (ct a g R3) := by rw [← e5]; exact same_putct (sR1.trans s5) hT
            refine ⟨rs ++ [.ref p], rws ++ [.forget (th[kx])], th.eraseIdx kx, T, _, _, _, rfl, ((hB3'.same s6).upd Fa Fg).mono (by omega), same_putct (s24.trans (ct_same s6)) nF, upd_same, by rw [upd_ne TF]; exact s6 _ _ eT3', hT, TF, ?_, tR.forget (List.getElem?_eq_getElem hkx), by rw [List.length_append, lR]; rfl, by have := (List.eraseIdx_sublist th kx).length_le; omega⟩
            exact PairedU6 (PySem.Paired.mono (fun _ _ => RwRef.keep kall) (hB1.two.rws s5 pR1)) ⟨p, rfl, k45.seqT (SqT.of ep)⟩
    · rintro σ R ⟨rs, rws, th, T, y5, y6, y7, rfl, hBR, sR, eFR, eTR, hT, TF, pR, tR, lR, lT⟩
      exact ⟨_, rfl, k Fo rs rws th R nF eFR pR tR (by omega) (hBR.mono (by omega)) sR⟩
end
end Kd

/-! what the law's own house does to its things, against the mirror of a House -/
namespace Kd
open PySem PySem.Spec PyProof.Rows L2
def oldB (ts : Ts) (t : Th) : List (Option Int) := (ts.vs t).map (·.b)
def freB (ds : Dims) (S : Hs) (t : Th) : List (Option Int) := if goneB ds S t = true then [] else (sv (wsOf ds t.1) (S.ts.ks t)).map (·.1)
def cameL (ds : Dims) (S : Hs) (t : Th) : Nat := ((freB ds S t).filter fun b => !decide (b ∈ oldB S.ts t)).length
def wentL (ds : Dims) (S : Hs) (t : Th) : Nat := ((oldB S.ts t).filter fun b => !decide (b ∈ freB ds S t)).length
def numW (ds : Dims) (S : Hs) (t : Th) : Hs := if goneB ds S t = true then { S with ts := S.ts.gone t } else { S with ts := S.ts.anew (wsOf ds t.1) t }
theorem len_two {α : Type} (p : α → Bool) : ∀ l : List α, (l.filter p).length + (l.filter fun a => !p a).length = l.length
  | [] => rfl
  | a :: l => by
    have h := len_two p l
    cases c : p a <;> simp [c] <;> omega
theorem lk_oldOf (vs : List Ver) (b : Option Int) : (lk (oldOf vs) b).isSome = decide (b ∈ vs.map (·.b)) := by
  rw [← lk_any]
  unfold oldOf
  induction vs with
  | nil => rfl
  | cons r vs ih =>
    simp only [List.map_cons, List.any_cons, ih, List.mem_cons]
    by_cases e : r.b = b
    · simp [e]
    · simp [e, Ne.symm e, fun z : b = r.b => e z.symm]
theorem cap_len {α : Type} {A B : List α} {i1 : ∀ a, Decidable (a ∈ B)} {i2 : ∀ a, Decidable (a ∈ A)} (ha : A.Nodup) (hb : B.Nodup) : (A.filter fun a => decide (a ∈ B)).length = (B.filter fun b => decide (b ∈ A)).length := by
  refine List.Perm.length_eq ((List.perm_ext_iff_of_nodup (ha.sublist List.filter_sublist) (hb.sublist List.filter_sublist)).mpr fun a => ?_)
  simp only [List.mem_filter, decide_eq_true_eq]
  exact And.comm
theorem stayed_len (ts : Ts) (t : Th) (ss : List Sv) : (stayed (oldOf (ts.vs t)) ss).length = ((ss.map (·.1)).filter fun b => decide (b ∈ oldB ts t)).length := by
  unfold stayed oldB
  rw [List.filter_map, List.length_map]
  congr 1
  apply List.filter_congr
  intro s _
  show _ = decide (s.1 ∈ _)
  rw [lk_oldOf]
theorem came_eq {ds : Dims} {S : Hs} {t : Th} (g : goneB ds S t = false) : (cameL ds S t : Int) = S.ts.came (wsOf ds t.1) t := by
  unfold cameL freB Ts.came
  rw [if_neg (by rw [g]; decide), stayed_len]
  have h := len_two (fun b => decide (b ∈ oldB S.ts t)) ((sv (wsOf ds t.1) (S.ts.ks t)).map (·.1))
  rw [List.length_map] at h
  omega
theorem went_eq {ds : Dims} {S : Hs} {t : Th} (g : goneB ds S t = false) (ho : (oldB S.ts t).Nodup) (hf : ((sv (wsOf ds t.1) (S.ts.ks t)).map (·.1)).Nodup) : (wentL ds S t : Int) = S.ts.went (wsOf ds t.1) t := by
  unfold wentL freB Ts.went
  rw [if_neg (by rw [g]; decide), stayed_len, ← cap_len ho hf]
  have h := len_two (fun b => decide (b ∈ (sv (wsOf ds t.1) (S.ts.ks t)).map (·.1))) (oldB S.ts t)
  have h2 : (oldB S.ts t).length = (S.ts.vs t).length := List.length_map ..
  omega
/-- nothing comes of a thing whose versions are as they should be -/
theorem numF_self {old : Old} {g : Int} : ∀ (l acc : List Ver), (∀ r ∈ l, lk old r.b = some r.n) → (l.map Ver.s).foldl (numStep old) (acc, g) = (acc ++ l, g)
  | [], acc, _ => by rw [List.append_nil]; rfl
  | r :: l, acc, h => by
    rw [List.map_cons, List.foldl_cons]
    have e : numStep old (acc, g) r.s = (acc ++ [r], g) := by
      have h1 := h r (List.mem_cons_self ..)
      unfold numStep
      show (acc ++ [⟨(lk old r.b).getD _, r.b, r.e, r.d⟩], if (lk old r.b).isSome = true then g else g + 1) = _
      rw [h1]
      rfl
    rw [e, numF_self l _ fun x hx => h x (List.mem_cons_of_mem _ hx), List.append_assoc]
    rfl
theorem old_lk {vs : List Ver} (h : (vs.map (·.b)).Nodup) {r : Ver} (hr : r ∈ vs) : lk (oldOf vs) r.b = some r.n := by
  refine lk_of_mem ?_ (List.mem_map_of_mem (f := fun r : Ver => (r.b, r.n)) hr)
  unfold oldOf
  rw [List.map_map]
  exact h
theorem pt_same {α β : Type} [DecidableEq α] {ms : List (α × β)} {k : α} {b : β} (hn : (ms.map (·.1)).Nodup) (h : lk ms k = some b) : pt ms k b = ms := by
  rw [pt_old h]
  conv => rhs; rw [← List.map_id ms]
  apply List.map_congr_left
  intro m hm
  by_cases e : m.1 = k
  · rw [if_pos e]
    have := lk_of_mem hn (show (k, m.2) ∈ ms by rw [← e]; exact hm)
    rw [h] at this
    have e3 : b = m.2 := Option.some.inj this
    show (m.1, b) = m
    rw [e3]
  · rw [if_neg e]
    rfl
theorem anew_id {ds : Dims} {ts : Ts} {n m : Nat} (h : TsOk ds ts n m) {t : Th} (hk : (lk ts.nums t).isSome = true) : ts.anew (wsOf ds t.1) t = ts := by
  obtain ⟨vs, hv⟩ := isSome_ex hk
  have e1 := h.vs_of hv
  have e2 : ts.vs t = vs := by unfold Ts.vs; rw [hv]; rfl
  have e3 := h.vs_nodup t
  rw [e2] at e3
  have e4 : numS (oldOf vs) ts.given (sv (wsOf ds t.1) (ts.ks t)) = (vs, ts.given) := by
    rw [← e1]
    unfold numS
    rw [numF_self vs [] fun r hr => old_lk e3 hr]
    rfl
  unfold Ts.anew
  rw [e2, e4]
  show { ts with nums := pt ts.nums t vs, given := ts.given } = ts
  rw [pt_same h.nn hv]
theorem oldB_sv {ds : Dims} {ts : Ts} {n m : Nat} (h : TsOk ds ts n m) {t : Th} (hk : (lk ts.nums t).isSome = true) : oldB ts t = (sv (wsOf ds t.1) (ts.ks t)).map (·.1) := by
  obtain ⟨vs, hv⟩ := isSome_ex hk
  have e1 := congrArg (List.map (·.1)) (h.vs_of hv)
  rw [List.map_map] at e1
  have e2 : ts.vs t = vs := by unfold Ts.vs; rw [hv]; rfl
  unfold oldB
  rw [e2]
  exact e1
theorem filter_none {α : Type} {p : α → Bool} {l : List α} (h : ∀ a ∈ l, p a = false) : (l.filter p).length = 0 := by
  rw [List.length_eq_zero_iff, List.filter_eq_nil_iff]
  intro a ha
  rw [h a ha]
  decide
/-- a known thing stays as it is -/
theorem num_known {ds : Dims} {S : Hs} {n m : Nat} (h : TsOk ds S.ts n m) {t : Th} (g : goneB ds S t = false) (hk : (lk S.ts.nums t).isSome = true) : numW ds S t = S ∧ cameL ds S t = 0 ∧ wentL ds S t = 0 := by
  have e := oldB_sv h hk
  refine ⟨?_, ?_, ?_⟩
  · unfold numW
    rw [if_neg (by rw [g]; decide), anew_id h hk]
  · unfold cameL freB
    rw [if_neg (by rw [g]; decide), e]
    exact filter_none fun a ha => by rw [decide_eq_true ha]; rfl
  · unfold wentL freB
    rw [if_neg (by rw [g]; decide), e]
    exact filter_none fun a ha => by rw [decide_eq_true ha]; rfl
theorem vs_none {ts : Ts} {t : Th} (h : lk ts.nums t = none) : ts.vs t = [] := by unfold Ts.vs; rw [h]; rfl
/-- a thing not known ahead comes whole -/
theorem num_new {ds : Dims} {S : Hs} {t : Th} (g : goneB ds S t = false) (hk : lk S.ts.nums t = none) : numW ds S t = { S with ts := S.ts.anew (wsOf ds t.1) t } ∧ (cameL ds S t : Int) = S.ts.came (wsOf ds t.1) t ∧ wentL ds S t = 0 := by
  refine ⟨by unfold numW; rw [if_neg (by rw [g]; decide)], came_eq g, ?_⟩
  unfold wentL oldB
  rw [vs_none hk]
  rfl
/-- a thing that is let go -/
theorem num_gone {ds : Dims} {S : Hs} {t : Th} (g : goneB ds S t = true) : numW ds S t = { S with ts := S.ts.gone t } ∧ cameL ds S t = 0 ∧ wentL ds S t = (S.ts.vs t).length := by
  refine ⟨by unfold numW; rw [if_pos g], ?_, ?_⟩
  · unfold cameL freB
    rw [if_pos g]
    rfl
  · unfold wentL freB
    rw [if_pos g]
    have h := len_two (fun b : Option Int => !decide (b ∈ ([] : List (Option Int)))) (oldB S.ts t)
    have e : (oldB S.ts t).filter (fun b => !decide (b ∈ ([] : List (Option Int)))) = oldB S.ts t := List.filter_eq_self.mpr fun a _ => rfl
    rw [e]
    unfold oldB
    rw [List.length_map]
theorem gone_congr {ds : Dims} {S S' : Hs} (hf : S'.facts = S.facts) (hk : S'.ts.kinds = S.ts.kinds) (t : Th) : goneB ds S' t = goneB ds S t := by
  unfold goneB
  rw [hf, hk]
/-! one after another -/
def numStepL (ds : Dims) (acc : Hs × List (Nat × Nat)) (t : Th) : Hs × List (Nat × Nat) := (numW ds acc.1 t, acc.2 ++ [(cameL ds acc.1 t, wentL ds acc.1 t)])
def numF (ds : Dims) (S : Hs) (tl : List Th) : Hs × List (Nat × Nat) := tl.foldl (numStepL ds) (S, [])
def sums (l : List (Nat × Nat)) : Int × Int := (((l.map fun p => (p.1 : Int)).sum), ((l.map fun p => (p.2 : Int)).sum))
theorem sum_snoc (l : List Int) (a : Int) : (l ++ [a]).sum = l.sum + a := by
  rw [List.sum_append, List.sum_cons, List.sum_nil]
  omega
theorem sums_snoc (l : List (Nat × Nat)) (p : Nat × Nat) : sums (l ++ [p]) = ((sums l).1 + p.1, (sums l).2 + p.2) := by
  unfold sums
  rw [List.map_append, List.map_append]
  show ((_ ++ [(p.1 : Int)]).sum, (_ ++ [(p.2 : Int)]).sum) = _
  rw [sum_snoc, sum_snoc]
theorem numW_facts (ds : Dims) (S : Hs) (t : Th) : (numW ds S t).facts = S.facts ∧ (numW ds S t).ts.kinds = S.ts.kinds ∧ (numW ds S t).rows = S.rows ∧ (numW ds S t).wts = S.wts := by
  unfold numW
  split <;> exact ⟨rfl, rfl, rfl, rfl⟩
/-- the things of a fact met -/
theorem numF_meet {ds : Dims} {n : Nat} : ∀ (tl : List Th) (S : Hs) (acc : List (Nat × Nat)) (an : List Int) (m : Nat), TsOk ds S.ts n m → (∀ t ∈ tl, (∃ d, inD ds t d) ∧ goneB ds S t = false) → (an.sum = (sums acc).1) →
    ∃ l, tl.foldl (numStepL ds) (S, acc) = ({ S with ts := (tl.foldl (meetStep ds) (S.ts, an)).1 }, l) ∧ (sums l).1 = (tl.foldl (meetStep ds) (S.ts, an)).2.sum ∧ (sums l).2 = (sums acc).2
  | [], S, acc, an, _, h, hd, ha => ⟨acc, rfl, ha.symm, rfl⟩
  | t :: tl, S, acc, an, m, h, hd, ha => by
    obtain ⟨⟨d, hdd⟩, g⟩ := hd t (List.mem_cons_self ..)
    rw [List.foldl_cons, List.foldl_cons]
    cases hk : lk S.ts.nums t with
    | some vs =>
      obtain ⟨e1, e2, e3⟩ := num_known h g (by rw [hk]; rfl)
      have em : meetStep ds (S.ts, an) t = (S.ts, an ++ [0]) := by
        unfold meetStep Ts.meet Ts.meetN
        rw [hk]
        rfl
      have en : numStepL ds (S, acc) t = (S, acc ++ [(0, 0)]) := by
        unfold numStepL
        rw [e1, e2, e3]
      rw [em, en]
      obtain ⟨l, h1, h2, h3⟩ := numF_meet tl S (acc ++ [(0, 0)]) (an ++ [0]) m h (fun x hx => hd x (List.mem_cons_of_mem _ hx)) (by rw [sum_snoc, sums_snoc, ha]; show _ + _ = _ + _; rfl)
      refine ⟨l, h1, h2, ?_⟩
      rw [h3, sums_snoc]
      show _ + ((0 : Nat) : Int) = _
      omega
    | none =>
      obtain ⟨e1, e2, e3⟩ := num_new g hk
      have em : meetStep ds (S.ts, an) t = (S.ts.anew (wsOf ds t.1) t, an ++ [S.ts.came (wsOf ds t.1) t]) := by
        unfold meetStep Ts.meet Ts.meetN
        rw [hk]
        rfl
      have en : numStepL ds (S, acc) t = ({ S with ts := S.ts.anew (wsOf ds t.1) t }, acc ++ [(cameL ds S t, wentL ds S t)]) := by
        unfold numStepL
        rw [e1]
      rw [em, en]
      have h4 := h.anew hdd
      rw [← wsOf_some hdd] at h4
      obtain ⟨l, h1, h2, h3⟩ := numF_meet tl { S with ts := S.ts.anew (wsOf ds t.1) t } (acc ++ [(cameL ds S t, wentL ds S t)]) (an ++ [S.ts.came (wsOf ds t.1) t]) (m + 1) h4 (fun x hx => ⟨(hd x (List.mem_cons_of_mem _ hx)).1, (gone_congr rfl rfl x).trans (hd x (List.mem_cons_of_mem _ hx)).2⟩) (by rw [sum_snoc, sums_snoc, ha, e2])
      refine ⟨l, h1, h2, ?_⟩
      rw [h3, sums_snoc, e3]
      show _ + ((0 : Nat) : Int) = _
      omega
end Kd

namespace Kd
open PySem PySem.Spec PyProof.Rows L2
/-! ### what the versions of all things are behind a row, against what they were: numbers -/
def iota (g : Int) (k : Nat) : List Int := (List.range k).map fun (i : Nat) => g + 1 + (i : Int)
theorem iota_zero (g : Int) : iota g 0 = [] := rfl
theorem iota_succ (g : Int) (k : Nat) : iota g (k + 1) = iota g k ++ [g + 1 + (k : Int)] := by
  unfold iota
  rw [List.range_succ, List.map_append]
  rfl
theorem iota_add (g : Int) (a : Nat) : ∀ b : Nat, iota g (a + b) = iota g a ++ iota (g + a) b
  | 0 => by rw [iota_zero, List.append_nil]; rfl
  | b + 1 => by
    rw [← Nat.add_assoc, iota_succ, iota_add g a b, iota_succ, List.append_assoc]
    congr 2
    simp only [List.cons.injEq, and_true]
    omega
theorem numS_new (old : Old) (g : Int) (ss : List Sv) :
    (((numS old g ss).1.filter fun r => !(lk old r.b).isSome).map (·.n)) = iota g (ss.filter fun s => !(lk old s.1).isSome).length ∧ (numS old g ss).2 = g + ((ss.filter fun s => !(lk old s.1).isSome).length : Int) := by
  refine snoc_indl (p := fun ss => (((numS old g ss).1.filter fun r => !(lk old r.b).isSome).map (·.n)) = iota g (ss.filter fun s => !(lk old s.1).isSome).length ∧ (numS old g ss).2 = g + ((ss.filter fun s => !(lk old s.1).isSome).length : Int)) ⟨rfl, by show g = g + ((0 : Nat) : Int); omega⟩ (fun l s ih => ?_) ss
  rw [numS_snoc]
  unfold numStep
  cases e : (lk old s.1).isSome with
  | true =>
    rw [List.filter_append, List.filter_append, List.filter_cons_of_neg (by show ¬ (!(lk old s.1).isSome) = true; rw [e]; decide), List.filter_cons_of_neg (by rw [e]; decide)]
    simp only [List.filter_nil, List.append_nil, if_true]
    exact ih
  | false =>
    rw [List.filter_append, List.filter_append, List.filter_cons_of_pos (by show (!(lk old s.1).isSome) = true; rw [e]; decide), List.filter_cons_of_pos (by rw [e]; decide)]
    simp only [List.filter_nil, Bool.false_eq_true, if_false, List.map_append, List.length_append, List.map_cons, List.map_nil, List.length_cons, List.length_nil]
    have en : lk old s.1 = none := by
      cases q : lk old s.1 with
      | none => rfl
      | some v => rw [q] at e; cases e
    rw [ih.1, ih.2, iota_succ, en]
    refine ⟨?_, ?_⟩
    · simp only [Option.getD_none]
      congr 2
      omega
    · omega
theorem numS_stay (old : Old) (g : Int) (ss : List Sv) : ∀ r ∈ (numS old g ss).1, ∀ n, lk old r.b = some n → r.n = n := by
  refine snoc_indl (p := fun ss => ∀ r ∈ (numS old g ss).1, ∀ n, lk old r.b = some n → r.n = n) (fun r h => by cases h) (fun l s ih r h n e => ?_) ss
  rw [numS_snoc] at h
  unfold numStep at h
  rcases List.mem_append.mp h with h | h
  · exact ih r h n e
  · cases List.mem_singleton.mp h
    have e2 : lk old s.1 = some n := e
    show (lk old s.1).getD _ = n
    rw [e2]
    rfl
/-- the numbers of those that begin where none began -/
def newN (a b : Ts) (t : Th) : List Int := ((b.vs t).filter fun r => !decide (r.b ∈ oldB a t)).map (·.n)
def inB (a b : Ts) (t : Th) : Nat := ((oldB b t).filter fun y => !decide (y ∈ oldB a t)).length
theorem newN_len (a b : Ts) (t : Th) : (newN a b t).length = inB a b t := by
  unfold newN inB oldB
  rw [List.length_map, List.filter_map, List.length_map]
  rfl
theorem inB_same {a b : Ts} {t : Th} (h : b.vs t = a.vs t) : inB a b t = 0 := by
  unfold inB oldB
  rw [h]
  exact filter_none fun y hy => by rw [decide_eq_true hy]; rfl
theorem numW_off {ds : Dims} {S : Hs} {t t' : Th} (h : t' ≠ t) : lk (numW ds S t).ts.nums t' = lk S.ts.nums t' := by
  unfold numW
  split
  · show lk (dp S.ts.nums t) t' = _
    rw [lk_dp, if_neg h]
  · show lk (pt S.ts.nums t _) t' = _
    rw [lk_pt, if_neg h]
theorem vs_of_lk {a b : Ts} {t : Th} (h : lk b.nums t = lk a.nums t) : b.vs t = a.vs t := by
  unfold Ts.vs
  rw [h]
theorem numW_on {ds : Dims} {S : Hs} {t : Th} : (numW ds S t).ts.vs t = if goneB ds S t = true then [] else (numS (oldOf (S.ts.vs t)) S.ts.given (sv (wsOf ds t.1) (S.ts.ks t))).1 := by
  unfold numW
  split
  · show (lk (dp S.ts.nums t) t).getD [] = []
    rw [lk_dp, if_pos rfl]
    rfl
  · show (lk (pt S.ts.nums t _) t).getD [] = _
    rw [lk_pt, if_pos rfl]
    rfl
theorem numW_given {ds : Dims} {S : Hs} {t : Th} : (numW ds S t).ts.given = if goneB ds S t = true then S.ts.given else (numS (oldOf (S.ts.vs t)) S.ts.given (sv (wsOf ds t.1) (S.ts.ks t))).2 := by
  unfold numW
  split <;> rfl
structure NumR (ds : Dims) (S0 S : Hs) (tl : List Th) (l : List (Nat × Nat)) : Prop where
  k : S.ts.kinds = S0.ts.kinds
  f : S.facts = S0.facts
  off : ∀ t, t ∉ tl → lk S.ts.nums t = lk S0.ts.nums t
  on : ∀ t ∈ tl, oldB S.ts t = freB ds S0 t
  st : ∀ t ∈ tl, ∀ r ∈ S.ts.vs t, ∀ n, lk (oldOf (S0.ts.vs t)) r.b = some n → r.n = n
  nw : tl.flatMap (newN S0.ts S.ts) = iota S0.ts.given (tl.map (cameL ds S0)).sum
  gv : S.ts.given = S0.ts.given + ((tl.map (cameL ds S0)).sum : Nat)
  li : l = tl.map fun t => (cameL ds S0 t, wentL ds S0 t)
  kn : ∀ n m, TsOk ds S0.ts n m → ∀ t ∈ tl, (lk S0.ts.nums t).isSome = true → goneB ds S0 t = false → S.ts.vs t = S0.ts.vs t
theorem numR {ds : Dims} {S0 : Hs} (tl : List Th) : tl.Nodup → NumR ds S0 (numF ds S0 tl).1 tl (numF ds S0 tl).2 := by
  refine snoc_indl (p := fun tl => tl.Nodup → NumR ds S0 (numF ds S0 tl).1 tl (numF ds S0 tl).2) (fun _ => ?_) (fun l t ih hn => ?_) tl
  · exact ⟨rfl, rfl, fun _ _ => rfl, fun t h => (by cases h), fun t h => (by cases h), rfl, by show S0.ts.given = S0.ts.given + ((0 : Nat) : Int); omega, rfl, fun _ _ _ t h => (by cases h)⟩
  · have hn1 : l.Nodup := hn.sublist (List.sublist_append_left ..)
    have ht : t ∉ l := fun z => (List.nodup_append.mp hn).2.2 t z t (List.mem_singleton_self t) rfl
    have R := ih hn1
    have ef : numF ds S0 (l ++ [t]) = numStepL ds (numF ds S0 l) t := by
      unfold numF
      rw [List.foldl_append]
      rfl
    rw [ef]
    generalize numF ds S0 l = a at R
    obtain ⟨S, acc⟩ := a
    show NumR ds S0 (numW ds S t) (l ++ [t]) (acc ++ [(cameL ds S t, wentL ds S t)])
    obtain ⟨q1, q2, _, _⟩ := numW_facts ds S t
    have gc : goneB ds S t = goneB ds S0 t := gone_congr R.f R.k t
    have ev : lk S.ts.nums t = lk S0.ts.nums t := R.off t ht
    have evs : S.ts.vs t = S0.ts.vs t := vs_of_lk ev
    have eks : S.ts.ks t = S0.ts.ks t := by unfold Ts.ks; rw [R.k]
    have eo : oldB S.ts t = oldB S0.ts t := by unfold oldB; rw [evs]
    have ef0 : freB ds S t = freB ds S0 t := by unfold freB; rw [gc, eks]
    have ec : cameL ds S t = cameL ds S0 t := by unfold cameL; rw [ef0, eo]
    have ew : wentL ds S t = wentL ds S0 t := by unfold wentL; rw [ef0, eo]
    have hon : oldB (numW ds S t).ts t = freB ds S0 t := by
      unfold oldB freB
      rw [numW_on, gc, eks]
      split
      · rfl
      · have h := numS_map (oldOf (S.ts.vs t)) S.ts.given (sv (wsOf ds t.1) (S0.ts.ks t))
        have h2 := congrArg (List.map (·.1)) h
        rw [List.map_map] at h2
        exact h2
    have keep : ∀ t', t' ∈ l → (numW ds S t).ts.vs t' = S.ts.vs t' := fun t' h => vs_of_lk (numW_off fun e => ht (e ▸ h))
    have hnew : newN S0.ts (numW ds S t).ts t = iota S.ts.given (cameL ds S0 t) ∧ (numW ds S t).ts.given = S.ts.given + (cameL ds S0 t : Int) := by
      cases g : goneB ds S t with
      | true =>
        have c0 : cameL ds S0 t = 0 := (num_gone (gc ▸ g)).2.1
        have e1 : newN S0.ts (numW ds S t).ts t = [] := by
          unfold newN
          rw [numW_on, if_pos g]
          rfl
        rw [e1, c0, numW_given, if_pos g]
        exact ⟨rfl, by show S.ts.given = S.ts.given + ((0 : Nat) : Int); omega⟩
      | false =>
        have hd : ∀ b, (lk (oldOf (S0.ts.vs t)) b).isSome = decide (b ∈ oldB S0.ts t) := fun b => lk_oldOf _ b
        have hc : ((sv (wsOf ds t.1) (S0.ts.ks t)).filter fun s => !(lk (oldOf (S0.ts.vs t)) s.1).isSome).length = cameL ds S0 t := by
          unfold cameL freB
          rw [if_neg (by rw [← gc, g]; decide), List.filter_map, List.length_map]
          congr 1
          apply List.filter_congr
          intro s _
          show (!(lk (oldOf (S0.ts.vs t)) s.1).isSome) = !decide (s.1 ∈ oldB S0.ts t)
          rw [hd]
        obtain ⟨h1, h2⟩ := numS_new (oldOf (S0.ts.vs t)) S.ts.given (sv (wsOf ds t.1) (S0.ts.ks t))
        rw [hc] at h1 h2
        refine ⟨?_, ?_⟩
        · unfold newN
          rw [numW_on, if_neg (by rw [g]; decide), evs, eks, ← h1]
          congr 1
          apply List.filter_congr
          intro r _
          rw [hd]
        · rw [numW_given, if_neg (by rw [g]; decide), evs, eks]
          exact h2
    refine ⟨q2.trans R.k, q1.trans R.f, fun t' h' => ?_, fun t' h' => ?_, fun t' h' r hr n e => ?_, ?_, ?_, ?_, fun n m tok t' h' k' g' => ?_⟩
    · rw [List.mem_append, not_or] at h'
      rw [numW_off fun e => h'.2 (List.mem_singleton.mpr e)]
      exact R.off t' h'.1
    · rcases List.mem_append.mp h' with h | h
      · show ((numW ds S t).ts.vs t').map _ = _
        rw [keep t' h]
        exact R.on t' h
      · cases List.mem_singleton.mp h
        exact hon
    · rcases List.mem_append.mp h' with h | h
      · rw [keep t' h] at hr
        exact R.st t' h r hr n e
      · cases List.mem_singleton.mp h
        rw [numW_on] at hr
        split at hr
        · cases hr
        · exact numS_stay _ _ _ r hr n (by rw [evs]; exact e)
    · rw [List.flatMap_append, List.map_append, List.sum_append]
      have e1 : l.flatMap (newN S0.ts (numW ds S t).ts) = l.flatMap (newN S0.ts S.ts) := by
        rw [List.flatMap_def, List.flatMap_def]
        congr 1
        apply List.map_congr_left
        intro t' h
        unfold newN
        rw [keep t' h]
      rw [e1, R.nw]
      have e2 : [t].flatMap (newN S0.ts (numW ds S t).ts) = newN S0.ts (numW ds S t).ts t := by simp
      have e3 : ([t].map (cameL ds S0)).sum = cameL ds S0 t := by simp
      rw [e2, e3, hnew.1, iota_add, R.gv]
    · rw [hnew.2, R.gv, List.map_append, List.sum_append]
      have e3 : ([t].map (cameL ds S0)).sum = cameL ds S0 t := by simp
      rw [e3]
      omega
    · have rl : acc = l.map fun t => (cameL ds S0 t, wentL ds S0 t) := R.li
      rw [List.map_append, rl, ec, ew]
      rfl
    · rcases List.mem_append.mp h' with h | h
      · rw [keep t' h]
        exact R.kn n m tok t' h k' g'
      · cases List.mem_singleton.mp h
        rw [numW_on, if_neg (by rw [gc, g']; decide), evs, eks]
        cases e : lk S0.ts.nums t with
        | none => rw [e] at k'; cases k'
        | some vs =>
          have e0 : S0.ts.vs t = vs := by unfold Ts.vs; rw [e]; rfl
          have hv := tok.vv _ (lk_mem e)
          have hb : (vs.map (·.b)).Nodup := by
            have := sv_nodup (ws := wsOf ds t.1) (tok.ks_nodup t)
            rw [← hv, List.map_map] at this
            exact this
          rw [e0, ← hv]
          have := numF_self (old := oldOf vs) (g := S.ts.given) vs [] fun r hr => old_lk hb hr
          unfold numS
          show (List.foldl (numStep (oldOf vs)) ([], S.ts.given) (vs.map Ver.s)).1 = vs
          rw [this]
          rfl
end Kd

namespace Kd
open PySem PySem.Spec PyProof.Rows L2 LamX
theorem numF_app (ds : Dims) (S : Hs) (acc : List (Nat × Nat)) (a b : List Th) : (a ++ b).foldl (numStepL ds) (S, acc) = b.foldl (numStepL ds) (a.foldl (numStepL ds) (S, acc)) := List.foldl_append
theorem gone_vs {ts : Ts} {t t' : Th} (h : t' ≠ t) : (ts.gone t).vs t' = ts.vs t' := by
  unfold Ts.vs
  show (lk (dp ts.nums t) t').getD [] = _
  rw [lk_dp, if_neg h]
theorem partsN_gone {ts : Ts} {t : Th} : ∀ {l : List Th}, t ∉ l → (ts.gone t).partsN l = ts.partsN l := fun {l} h => by
  unfold Ts.partsN
  congr 1
  apply List.map_congr_left
  intro t' ht
  rw [gone_vs (fun z => h (by rw [← z]; exact ht))]
/-- the things of a fact that is gone -/
theorem numF_part {ds : Dims} {n m : Nat} : ∀ (tl : List Th) (S : Hs) (acc : List (Nat × Nat)), TsOk ds S.ts n m → tl.Nodup → (∀ t ∈ tl, (lk S.ts.nums t).isSome = true) →
    ∃ l, tl.foldl (numStepL ds) (S, acc) = ({ S with ts := S.ts.parts (tl.filter (goneB ds S)) }, l) ∧ (sums l).1 = (sums acc).1 ∧ (sums l).2 = (sums acc).2 + S.ts.partsN (tl.filter (goneB ds S))
  | [], S, acc, _, _, _ => ⟨acc, rfl, rfl, by show _ = _ + (0 : Int); omega⟩
  | t :: tl, S, acc, h, hn, hk => by
    rw [List.nodup_cons] at hn
    rw [List.foldl_cons]
    cases g : goneB ds S t with
    | false =>
      obtain ⟨e1, e2, e3⟩ := num_known h g (hk t (List.mem_cons_self ..))
      have en : numStepL ds (S, acc) t = (S, acc ++ [(0, 0)]) := by
        unfold numStepL
        rw [e1, e2, e3]
      rw [en, List.filter_cons_of_neg (by rw [g]; decide)]
      obtain ⟨l, h1, h2, h3⟩ := numF_part tl S (acc ++ [(0, 0)]) h hn.2 fun x hx => hk x (List.mem_cons_of_mem _ hx)
      refine ⟨l, h1, ?_, ?_⟩
      · rw [h2, sums_snoc]
        show _ + ((0 : Nat) : Int) = _
        omega
      · rw [h3, sums_snoc]
        show _ + ((0 : Nat) : Int) + _ = _
        omega
    | true =>
      obtain ⟨e1, e2, e3⟩ := num_gone g
      have en : numStepL ds (S, acc) t = ({ S with ts := S.ts.gone t }, acc ++ [(0, (S.ts.vs t).length)]) := by
        unfold numStepL
        rw [e1, e2, e3]
      have gq : (fun t' => goneB ds { S with ts := S.ts.gone t } t') = goneB ds S := funext fun t' => gone_congr rfl rfl t'
      rw [en, List.filter_cons_of_pos (by rw [g])]
      obtain ⟨l, h1, h2, h3⟩ := numF_part tl { S with ts := S.ts.gone t } (acc ++ [(0, (S.ts.vs t).length)]) (h.gone t) hn.2 fun x hx => by
        show (lk (dp S.ts.nums t) x).isSome = true
        rw [lk_dp, if_neg (fun z => hn.1 (by rw [← z]; exact hx))]
        exact hk x (List.mem_cons_of_mem _ hx)
      have gq2 : goneB ds { S with ts := S.ts.gone t } = goneB ds S := gq
      rw [gq2] at h1 h3
      refine ⟨l, h1, ?_, ?_⟩
      · rw [h2, sums_snoc]
        show _ + ((0 : Nat) : Int) = _
        omega
      · rw [h3, sums_snoc]
        have hp : (S.ts.gone t).partsN (tl.filter (goneB ds S)) = S.ts.partsN (tl.filter (goneB ds S)) := partsN_gone fun z => hn.1 (List.mem_filter.mp z).1
        show _ + ((S.ts.vs t).length : Int) + (S.ts.gone t).partsN _ = _ + S.ts.partsN (t :: _)
        rw [hp]
        have : S.ts.partsN (t :: tl.filter (goneB ds S)) = ((S.ts.vs t).length : Int) + S.ts.partsN (tl.filter (goneB ds S)) := by
          unfold Ts.partsN
          rw [List.map_cons, List.sum_cons]
        rw [this]
        omega
/-- what is turned when a fact comes -/
def turnL (ds : Dims) (S : Hs) (name : Str) (keys : List Str) : List Th := thOf ds keys ++ (oldTh ds S name).filter fun t => !decide (t ∈ thOf ds keys)
theorem numF_fact {ds : Dims} {ms : List Str} {S : Hs} {name : Str} {fc : Fct} (so : HsOk ds ms S) (hk : fc.keys.length = ds.length) (kx : ∀ z ∈ fc.keys, Tx z) :
    ∃ l, numF ds { S with facts := pt S.facts name fc } (turnL ds S name fc.keys) = (S.factS ds name fc, l) ∧ (sums l).1 = (S.ts.meetF ds (thOf ds fc.keys)).2.sum ∧ (sums l).2 = (S.fact1 ds name fc).ts.partsN (S.fgone ds name fc) := by
  have hm : (name, fc) ∈ pt S.facts name fc := lk_mem (by
    show lk (pt S.facts name fc) name = some fc
    rw [lk_pt, if_pos rfl])
  have hd : ∀ t ∈ thOf ds fc.keys, (∃ d, inD ds t d) ∧ goneB ds { S with facts := pt S.facts name fc } t = false := fun t ht => ⟨thOf_in so.dn ht, not_gone (S := { S with facts := pt S.facts name fc }) hm ht⟩
  obtain ⟨l1, a1, a2, a3⟩ := numF_meet (thOf ds fc.keys) { S with facts := pt S.facts name fc } [] [] _ so.tok hd rfl
  have e1 : ({ S with facts := pt S.facts name fc, ts := ((thOf ds fc.keys).foldl (meetStep ds) (S.ts, [])).1 } : Hs) = S.fact1 ds name fc := rfl
  have tok1 := meetF_ok so.tok (fun t ht => (hd t ht).1) (thOf ds fc.keys).length (Nat.le_refl _)
  rw [List.take_length] at tok1
  have nog : ∀ t ∈ thOf ds fc.keys, goneB ds (S.fact1 ds name fc) t = false := fun t ht => not_gone (S := S.fact1 ds name fc) hm ht
  obtain ⟨l, b1, b2, b3⟩ := numF_part ((oldTh ds S name).filter fun t => !decide (t ∈ thOf ds fc.keys)) (S.fact1 ds name fc) l1 tok1 ((old_nodup so.dn name).sublist List.filter_sublist) fun t ht => by
    obtain ⟨v, hv⟩ := old_known so.fkn name t (List.mem_filter.mp ht).1
    exact meetF_known (.inl (isSome_of hv))
  have ef : ((oldTh ds S name).filter fun t => !decide (t ∈ thOf ds fc.keys)).filter (goneB ds (S.fact1 ds name fc)) = S.fgone ds name fc := by
    unfold Hs.fgone
    rw [List.filter_filter]
    apply List.filter_congr
    intro t _
    by_cases c : t ∈ thOf ds fc.keys
    · rw [nog t c, Bool.false_and]
    · rw [decide_eq_false c, Bool.not_false, Bool.and_true]
  rw [ef] at b1 b3
  refine ⟨l, ?_, by rw [b2, a2]; rfl, ?_⟩
  · unfold numF turnL
    rw [numF_app, a1]
    exact b1
  · rw [b3, a3]
    show (0 : Int) + _ = _
    omega
theorem numF_forget {ds : Dims} {ms : List Str} {S : Hs} {name : Str} {fc : Fct} (so : HsOk ds ms S) (hl : lk S.facts name = some fc) :
    ∃ l, numF ds (S.drop1 name) (thOf ds fc.keys) = (S.forgetS ds name fc, l) ∧ (sums l).2 = S.ts.partsN (S.dgone ds name fc) := by
  obtain ⟨l, b1, b2, b3⟩ := numF_part (thOf ds fc.keys) (S.drop1 name) [] so.tok (thOf_nodup so.dn _) fun t ht => by
    obtain ⟨v, hv⟩ := so.fkn (name, fc) (lk_mem hl) t ht
    exact isSome_of hv
  refine ⟨l, b1, ?_⟩
  rw [b3]
  show (0 : Int) + S.ts.partsN (S.dgone ds name fc) = _
  omega
/-! what the law asks holds on the way -/
structure NumI (ds : Dims) (S0 S : Hs) (n : Nat) : Prop where
  f : S.facts = S0.facts
  k : S.ts.kinds = S0.ts.kinds
  v : ∀ t, (S.ts.vs t).length ≤ 300
  n : S.ts.nums.length ≤ n
theorem NumI.step {ds : Dims} {S0 S : Hs} {n : Nat} (h : NumI ds S0 S n) (hk : ∀ t, (S0.ts.ks t).length ≤ 200) (t : Th) : NumI ds S0 (numW ds S t) (n + 1) := by
  obtain ⟨e1, e2, _, _⟩ := numW_facts ds S t
  refine ⟨e1.trans h.f, e2.trans h.k, fun t' => ?_, ?_⟩
  · unfold numW
    split
    · by_cases q : t' = t
      · unfold Ts.vs
        show ((lk (dp S.ts.nums t) t').getD []).length ≤ 300
        rw [lk_dp, if_pos q]
        exact Nat.zero_le _
      · show ((S.ts.gone t).vs t').length ≤ 300
        rw [gone_vs q]
        exact h.v t'
    · by_cases q : t' = t
      · unfold Ts.vs
        show ((lk (S.ts.anew _ t).nums t').getD []).length ≤ 300
        rw [q, anew_lk]
        show (numS _ _ _).1.length ≤ 300
        rw [numS_len]
        have h1 := sv_le (wsOf ds t.1) (S.ts.ks t)
        have h2 := hk t
        have h3 : S.ts.ks t = S0.ts.ks t := by unfold Ts.ks; rw [h.k]
        rw [h3] at h1 ⊢
        omega
      · unfold Ts.vs
        show ((lk (pt S.ts.nums t _) t').getD []).length ≤ 300
        rw [lk_pt, if_neg q]
        exact h.v t'
  · unfold numW
    split
    · have := dp_length S.ts.nums t
      have := h.n
      show (dp S.ts.nums t).length ≤ n + 1
      omega
    · have h1 := h.n
      show (pt S.ts.nums t _).length ≤ n + 1
      exact Nat.le_trans (pt_length _ _ _) (by omega)
end Kd

namespace Kd
open PySem PySem.Spec PyProof.Rows L2
/-! ### a row told: what comes and goes, over all things -/
theorem sum_flt {α : Type} (f : α → Nat) : ∀ A : List α, (A.map f).sum = ((A.filter fun a => !decide (f a = 0)).map f).sum
  | [] => rfl
  | a :: A => by
    by_cases c : f a = 0
    · rw [List.filter_cons_of_neg (by rw [decide_eq_true c]; decide), List.map_cons, List.sum_cons, c, sum_flt f A]
      omega
    · rw [List.filter_cons_of_pos (by rw [decide_eq_false c]; rfl), List.map_cons, List.map_cons, List.sum_cons, List.sum_cons, sum_flt f A]
theorem sum_on {α : Type} [DecidableEq α] {f : α → Nat} {A B : List α} (na : A.Nodup) (nb : B.Nodup) (h1 : ∀ a ∈ A, a ∉ B → f a = 0) (h2 : ∀ a ∈ B, a ∉ A → f a = 0) : (A.map f).sum = (B.map f).sum := by
  rw [sum_flt f A, sum_flt f B]
  have hp : (A.filter fun a => !decide (f a = 0)).Perm (B.filter fun a => !decide (f a = 0)) := by
    rw [List.perm_ext_iff_of_nodup (na.sublist List.filter_sublist) (nb.sublist List.filter_sublist)]
    intro a
    rw [List.mem_filter, List.mem_filter]
    constructor
    · intro ⟨m, c⟩
      refine ⟨?_, c⟩
      by_cases q : a ∈ B
      · exact q
      · rw [h1 a m q] at c
        exact absurd c (by decide)
    · intro ⟨m, c⟩
      refine ⟨?_, c⟩
      by_cases q : a ∈ A
      · exact q
      · rw [h2 a m q] at c
        exact absurd c (by decide)
  exact List.Perm.sum_nat (hp.map f)
theorem flat_none {α β : Type} {f : α → List β} : ∀ {L : List α}, (∀ x ∈ L, f x = []) → L.flatMap f = []
  | [], _ => rfl
  | x :: L, h => by rw [List.flatMap_cons, h x (List.mem_cons_self ..), flat_none fun y hy => h y (List.mem_cons_of_mem _ hy)]; rfl
theorem flat_one {α β : Type} {f : α → List β} {a : α} : ∀ {L : List α}, L.Nodup → (∀ x ∈ L, x ≠ a → f x = []) → a ∈ L → L.flatMap f = f a
  | [], _, _, h => by cases h
  | x :: L, hn, h, ha => by
    rw [List.nodup_cons] at hn
    rw [List.flatMap_cons]
    rcases List.mem_cons.mp ha with e | m
    · subst e
      rw [flat_none fun y hy => h y (List.mem_cons_of_mem _ hy) fun e => hn.1 (e ▸ hy), List.append_nil]
    · rw [h x (List.mem_cons_self ..) fun e => hn.1 (e ▸ m), flat_one hn.2 (fun y hy => h y (List.mem_cons_of_mem _ hy)) m]
      rfl
variable {ds : Dims} {ms : List Str} {S S' : Hs}
theorem mem_plnK {d : Dm} {t : Th} : t ∈ plnK S d ↔ t.1 = d.1 ∧ (lk S.ts.nums t).isSome = true := by
  unfold plnK Hs.keysOf Ts.keysL
  rw [List.mem_map]
  constructor
  · intro ⟨key, hk, e⟩
    subst e
    have hk := (srtS_perm _).mem_iff.mp hk
    obtain ⟨e, he, e2⟩ := List.mem_map.mp hk
    obtain ⟨he1, he2⟩ := List.mem_filter.mp he
    have he2 : e.1.1 = d.1 := of_decide_eq_true he2
    refine ⟨rfl, ?_⟩
    have : e.1 = (d.1, key) := by rw [← he2, ← e2]
    rw [← this]
    cases q : lk S.ts.nums e.1 with
    | some v => rfl
    | none => exact absurd rfl (lk_none.mp q e he1)
  · intro ⟨e1, h⟩
    refine ⟨t.2, (srtS_perm _).mem_iff.mpr ?_, by rw [← e1]⟩
    cases q : lk S.ts.nums t with
    | none => rw [q] at h; cases h
    | some v => exact List.mem_map.mpr ⟨(t, v), List.mem_filter.mpr ⟨lk_mem q, decide_eq_true e1⟩, rfl⟩
theorem mem_plnL (so : HsOk ds ms S) {t : Th} : t ∈ plnL ds S ↔ (lk S.ts.nums t).isSome = true := by
  unfold plnL
  rw [List.mem_flatMap]
  constructor
  · intro ⟨d, _, h⟩
    exact (mem_plnK.mp h).2
  · intro h
    cases q : lk S.ts.nums t with
    | none => rw [q] at h; cases h
    | some v =>
      obtain ⟨d, hd⟩ := so.tok.vd _ (lk_mem q)
      have hd : ds.find? (fun d => decide (d.1 = t.1)) = some d := hd
      exact ⟨d, List.mem_of_find?_eq_some hd, mem_plnK.mpr ⟨(by have h9 := List.find?_some hd; exact (of_decide_eq_true h9).symm), h⟩⟩
theorem plnK_nodup (so : HsOk ds ms S) (d : Dm) : (plnK S d).Nodup := by
  unfold plnK Hs.keysOf Ts.keysL
  refine List.Pairwise.map (R := fun a b : Str => a ≠ b) (fun key : Str => (d.1, key)) (fun a b ne e => ne (congrArg Prod.snd e)) ?_
  refine (srtS_perm _).nodup_iff.mpr ?_
  have h1 : (S.ts.nums.map (·.1)).Nodup := so.tok.nn
  have h2 : ((S.ts.nums.filter fun e => decide (e.1.1 = d.1)).map (·.1)).Nodup := h1.sublist (List.Sublist.map _ List.filter_sublist)
  have h3 : ∀ l : List (Th × List Ver), (∀ e ∈ l, e.1.1 = d.1) → (l.map (·.1)).Nodup → (l.map fun e => e.1.2).Nodup := by
    intro l
    induction l with
    | nil => intro _ _; exact List.nodup_nil
    | cons e l ih =>
      intro hd hn
      rw [List.map_cons, List.nodup_cons] at hn ⊢
      refine ⟨fun z => hn.1 ?_, ih (fun x hx => hd x (List.mem_cons_of_mem _ hx)) hn.2⟩
      obtain ⟨x, hx, ex⟩ := List.mem_map.mp z
      refine List.mem_map.mpr ⟨x, hx, ?_⟩
      have a1 := hd x (List.mem_cons_of_mem _ hx)
      have a2 := hd e (List.mem_cons_self ..)
      exact Prod.ext (a1.trans a2.symm) ex
  exact h3 _ (fun e he => of_decide_eq_true (List.mem_filter.mp he).2) h2
theorem plnL_nodup (so : HsOk ds ms S) : (plnL ds S).Nodup := by
  have : ∀ l : Dims, (l.map (·.1)).Nodup → (l.flatMap (plnK S)).Nodup := by
    intro l
    induction l with
    | nil => intro _; exact List.nodup_nil
    | cons d l ih =>
      intro hn
      rw [List.map_cons, List.nodup_cons] at hn
      rw [List.flatMap_cons, List.nodup_append]
      refine ⟨plnK_nodup so d, ih hn.2, fun a ha b hb e => ?_⟩
      subst e
      obtain ⟨d2, hd2, h2⟩ := List.mem_flatMap.mp hb
      exact hn.1 (List.mem_map.mpr ⟨d2, hd2, by rw [← (mem_plnK.mp h2).1, (mem_plnK.mp ha).1]⟩)
  exact this ds so.dn
def cameA (ds : Dims) (S S' : Hs) : Nat := ((plnL ds S').map (inB S.ts S'.ts)).sum
def wentA (ds : Dims) (S S' : Hs) : Nat := ((plnL ds S).map (inB S'.ts S.ts)).sum
/-- how S' came from S: kinds and facts put, then these things numbered anew -/
structure Turned (ds : Dims) (S S0 S' : Hs) (tl : List Th) : Prop where
  en : S0.ts.nums = S.ts.nums
  eg : S0.ts.given = S.ts.given
  nd : tl.Nodup
  e : (numF ds S0 tl).1.ts = S'.ts
theorem vs_none2 {ts : Ts} {t : Th} (h : ¬ (lk ts.nums t).isSome = true) : ts.vs t = [] := by
  cases q : lk ts.nums t with
  | none => exact vs_none q
  | some v => rw [q] at h; exact absurd rfl h
section
variable {S0 : Hs} {tl : List Th}
theorem Turned.R (h : Turned ds S S0 S' tl) : NumR ds S0 (numF ds S0 tl).1 tl (numF ds S0 tl).2 := numR tl h.nd
theorem Turned.vs0 (h : Turned ds S S0 S' tl) (t : Th) : S0.ts.vs t = S.ts.vs t := by unfold Ts.vs; rw [h.en]
theorem Turned.old (h : Turned ds S S0 S' tl) (t : Th) : oldB S0.ts t = oldB S.ts t := by unfold oldB; rw [h.vs0]
theorem Turned.off (h : Turned ds S S0 S' tl) {t : Th} (m : t ∉ tl) : S'.ts.vs t = S.ts.vs t := by
  rw [← h.e]
  refine vs_of_lk ?_
  rw [h.R.off t m, h.en]
theorem Turned.on (h : Turned ds S S0 S' tl) {t : Th} (m : t ∈ tl) : oldB S'.ts t = freB ds S0 t := by rw [← h.e]; exact h.R.on t m
theorem Turned.inB (h : Turned ds S S0 S' tl) {t : Th} (m : t ∈ tl) : inB S.ts S'.ts t = cameL ds S0 t ∧ Kd.inB S'.ts S.ts t = wentL ds S0 t := by
  unfold Kd.inB cameL wentL
  rw [h.on m, h.old]
  exact ⟨rfl, rfl⟩
theorem Turned.came (h : Turned ds S S0 S' tl) (so' : HsOk ds ms S') : cameA ds S S' = (tl.map (cameL ds S0)).sum := by
  have e : (tl.map (cameL ds S0)).sum = (tl.map (Kd.inB S.ts S'.ts)).sum := by
    congr 1
    apply List.map_congr_left
    intro t m
    exact (h.inB m).1.symm
  rw [e]
  refine sum_on (plnL_nodup so') h.nd (fun t _ m => inB_same (h.off m)) fun t m nm => ?_
  have : S'.ts.vs t = [] := vs_none2 fun z => nm ((mem_plnL so').mpr z)
  unfold Kd.inB oldB
  rw [this]
  rfl
theorem Turned.went (h : Turned ds S S0 S' tl) (so : HsOk ds ms S) : wentA ds S S' = (tl.map (wentL ds S0)).sum := by
  have e : (tl.map (wentL ds S0)).sum = (tl.map (Kd.inB S'.ts S.ts)).sum := by
    congr 1
    apply List.map_congr_left
    intro t m
    exact (h.inB m).2.symm
  rw [e]
  refine sum_on (plnL_nodup so) h.nd (fun t _ m => inB_same (h.off m).symm) fun t m nm => ?_
  have : S.ts.vs t = [] := vs_none2 fun z => nm ((mem_plnL so).mpr z)
  unfold Kd.inB oldB
  rw [this]
  rfl
theorem Turned.given (h : Turned ds S S0 S' tl) (so' : HsOk ds ms S') : S'.ts.given = S.ts.given + (cameA ds S S' : Int) := by
  rw [h.came so', ← h.e, h.R.gv, h.eg]
theorem newN_off {a b : Ts} {t : Th} (h : Kd.inB a b t = 0) : newN a b t = [] := by
  have := newN_len a b t
  rw [h] at this
  exact List.length_eq_zero_iff.mp this
theorem Turned.nw (h : Turned ds S S0 S' tl) (so' : HsOk ds ms S') : tl.flatMap (newN S.ts S'.ts) = iota S.ts.given (cameA ds S S') := by
  have hR := h.R.nw
  rw [h.e, h.eg, ← h.came so'] at hR
  rw [← hR]
  have : newN S0.ts S'.ts = newN S.ts S'.ts := funext fun t => by unfold newN; rw [h.old]
  rw [this]
theorem Turned.st (h : Turned ds S S0 S' tl) (so : HsOk ds ms S) (t : Th) : ∀ r ∈ S'.ts.vs t, ∀ n, lk (oldOf (S.ts.vs t)) r.b = some n → r.n = n := fun r hr n e => by
  by_cases m : t ∈ tl
  · refine h.R.st t m r ?_ n ?_
    · rw [h.e]; exact hr
    · rw [h.vs0]; exact e
  · rw [h.off m] at hr
    have hb : ((S.ts.vs t).map (·.b)).Nodup := by
      cases q : lk S.ts.nums t with
      | none => rw [vs_none q]; exact List.nodup_nil
      | some v =>
        have hv := so.tok.vv _ (lk_mem q)
        have e0 : S.ts.vs t = v := by unfold Ts.vs; rw [q]; rfl
        rw [e0]
        have := sv_nodup (ws := wsOf ds t.1) (so.tok.ks_nodup t)
        rw [← hv, List.map_map] at this
        exact this
    have h2 := old_lk hb hr
    exact Option.some.inj (h2.symm.trans e)
end
/-! the three ways a row is told -/
theorem turned_kind (d key : Str) (day : Int) (vals : List Fv) : Turned ds S { S.told (.kind d key day vals) with ts := S.ts.kept (d, key) day vals } (S.tell ds (.kind d key day vals)) [(d, key)] where
  en := rfl
  eg := rfl
  nd := List.pairwise_singleton _ _
  e := by
    have g : goneB ds { S.told (.kind d key day vals) with ts := S.ts.kept (d, key) day vals } (d, key) = false := by
      unfold goneB
      have : lk (S.ts.kept (d, key) day vals).kinds (d, key) = some (pt (S.ts.ks (d, key)) day vals) := by
        show lk (pt _ _ _) _ = _
        rw [lk_pt, if_pos rfl]
      show ((lk (S.ts.kept (d, key) day vals).kinds (d, key)).isNone && _) = false
      rw [this]
      rfl
    show (numW ds _ (d, key)).ts = _
    unfold numW
    rw [g]
    rfl
theorem sums_li {l : List (Nat × Nat)} {tl : List Th} {f g : Th → Nat} (h : l = tl.map fun t => (f t, g t)) : (sums l).1 = ((tl.map f).sum : Nat) ∧ (sums l).2 = ((tl.map g).sum : Nat) := by
  subst h
  unfold sums
  rw [List.map_map, List.map_map]
  induction tl with
  | nil => exact ⟨rfl, rfl⟩
  | cons t tl ih =>
    simp only [List.map_cons, List.sum_cons, Function.comp] at ih ⊢
    rw [ih.1, ih.2]
    exact ⟨by omega, by omega⟩
theorem turn_nodup (so : HsOk ds ms S) (name : Str) (keys : List Str) : (turnL ds S name keys).Nodup := by
  unfold turnL
  rw [List.nodup_append]
  refine ⟨thOf_nodup so.dn _, (old_nodup so.dn name).sublist List.filter_sublist, fun a ha b hb e => ?_⟩
  subst e
  have := (List.mem_filter.mp hb).2
  rw [decide_eq_true ha] at this
  cases this
theorem turned_fact (so : HsOk ds ms S) {name : Str} {day : Int} {keys : List Str} {nums : List Int} (hk : keys.length = ds.length) (kx : ∀ z ∈ keys, Tx z) : Turned ds S { S with facts := pt S.facts name ⟨day, keys, nums⟩ } (S.tell ds (.fact name day keys nums)) (turnL ds S name keys) where
  en := rfl
  eg := rfl
  nd := turn_nodup so name keys
  e := by
    obtain ⟨l, h1, _, _⟩ := numF_fact (name := name) (fc := ⟨day, keys, nums⟩) so hk kx
    rw [h1]
    rfl
theorem turned_forget (so : HsOk ds ms S) {name : Str} {fc : Fct} (hl : lk S.facts name = some fc) : Turned ds S (S.drop1 name) (S.tell ds (.forget name)) (thOf ds fc.keys) where
  en := rfl
  eg := rfl
  nd := thOf_nodup so.dn _
  e := by
    obtain ⟨l, h1, _⟩ := numF_forget (name := name) (fc := fc) so hl
    rw [h1]
    have e : S.tell ds (.forget name) = (S.told (.forget name)).forgetS ds name fc := by unfold Hs.tell; simp only [hl]
    rw [e]
    rfl
/-- what is told of those that came and went -/
theorem told_kind (so : HsOk ds ms S) {r : Rw} {d key : Str} {day : Int} {vals : List Fv} (hr : r = .kind d key day vals) (so' : HsOk ds ms (S.tell ds r)) : ((S.ts.kept (d, key) day vals).came (wsOf ds d) (d, key) = (cameA ds S (S.tell ds r) : Int)) ∧ ((S.ts.kept (d, key) day vals).went (wsOf ds d) (d, key) = (wentA ds S (S.tell ds r) : Int)) := by
  subst hr
  have h := turned_kind (ds := ds) (S := S) d key day vals
  rw [h.came so', h.went so]
  have g : goneB ds { S.told (.kind d key day vals) with ts := S.ts.kept (d, key) day vals } (d, key) = false := by
    unfold goneB
    have : lk (S.ts.kept (d, key) day vals).kinds (d, key) = some (pt (S.ts.ks (d, key)) day vals) := by
      show lk (pt _ _ _) _ = _
      rw [lk_pt, if_pos rfl]
    show ((lk (S.ts.kept (d, key) day vals).kinds (d, key)).isNone && _) = false
    rw [this]
    rfl
  have hk : ((S.ts.kept (d, key) day vals).ks (d, key)) = pt (S.ts.ks (d, key)) day vals := by
    unfold Ts.ks Ts.kept
    show (lk (pt _ _ _) _).getD [] = _
    rw [lk_pt, if_pos rfl]
    rfl
  have c1 := came_eq (ds := ds) (S := { S.told (.kind d key day vals) with ts := S.ts.kept (d, key) day vals }) (t := (d, key)) g
  have c2 := went_eq (ds := ds) (S := { S.told (.kind d key day vals) with ts := S.ts.kept (d, key) day vals }) (t := (d, key)) g (by
      show ((S.ts.vs (d, key)).map (·.b)).Nodup
      cases q : lk S.ts.nums (d, key) with
      | none => rw [vs_none q]; exact List.nodup_nil
      | some v =>
        have hv := so.tok.vv _ (lk_mem q)
        have e0 : S.ts.vs (d, key) = v := by unfold Ts.vs; rw [q]; rfl
        rw [e0]
        have := sv_nodup (ws := wsOf ds d) (so.tok.ks_nodup (d, key))
        rw [← hv, List.map_map] at this
        exact this) (by
      refine sv_nodup ?_
      show (((S.ts.kept (d, key) day vals).ks (d, key)).map (·.1)).Nodup
      rw [hk]
      exact pt_nodup (so.tok.ks_nodup _))
  refine ⟨?_, ?_⟩
  · rw [List.map_cons, List.map_nil, List.sum_cons, List.sum_nil, Nat.add_zero]
    exact c1.symm
  · rw [List.map_cons, List.map_nil, List.sum_cons, List.sum_nil, Nat.add_zero]
    exact c2.symm
theorem told_fact (so : HsOk ds ms S) {r : Rw} {name : Str} {day : Int} {keys : List Str} {nums : List Int} (hr : r = .fact name day keys nums) (hk : keys.length = ds.length) (kx : ∀ z ∈ keys, Tx z) (so' : HsOk ds ms (S.tell ds r)) :
    (S.ts.meetF ds (thOf ds keys)).2.sum = (cameA ds S (S.tell ds r) : Int) ∧ (S.fact1 ds name ⟨day, keys, nums⟩).ts.partsN (S.fgone ds name ⟨day, keys, nums⟩) = (wentA ds S (S.tell ds r) : Int) := by
  subst hr
  have h := turned_fact (name := name) (day := day) (nums := nums) so hk kx
  obtain ⟨l, h1, h2, h3⟩ := numF_fact (name := name) (fc := ⟨day, keys, nums⟩) so hk kx
  have hl := h.R.li
  rw [h1] at hl
  obtain ⟨a1, a2⟩ := sums_li hl
  rw [h.came so', h.went so, ← a1, ← a2]
  exact ⟨h2.symm, h3.symm⟩
theorem told_forget (so : HsOk ds ms S) {name : Str} {fc : Fct} (hl : lk S.facts name = some fc) (so' : HsOk ds ms (S.tell ds (.forget name))) :
    S.ts.partsN (S.dgone ds name fc) = (wentA ds S (S.tell ds (.forget name)) : Int) := by
  have h := turned_forget so hl
  obtain ⟨l, h1, h2⟩ := numF_forget (name := name) (fc := fc) so hl
  have hli := h.R.li
  rw [h1] at hli
  obtain ⟨a1, a2⟩ := sums_li hli
  rw [h.went so, ← a2]
  exact h2.symm
end Kd

namespace Kd
open PySem PySem.Spec PyProof.Rows L2
variable {ds : Dims} {ms : List Str} {S S' : Hs}
/-! ### what the law looks up, as lists -/
def mineB (r : Rw) (z key : Str) (t : Th) : Bool := decide (t.1 = z) && match r with
  | .fact _ _ _ _ => decide (t.2 = key)
  | _ => true
def keyAt (r : Rw) (i : Nat) : Str := match r with
  | .fact _ _ keys _ => keys.getD i ""
  | _ => ""
def dimAt (ds : Dims) (i : Nat) : Str := (ds.map (·.1)).getD i ""
theorem dimAt_get {ds : Dims} {i : Nat} (h : i < ds.length) : dimAt ds i = (ds[i]).1 := by
  unfold dimAt
  rw [List.getD_eq_getElem?_getD, List.getElem?_map, List.getElem?_eq_getElem h]
  rfl
/-! the order in which they come -/
theorem new_kind (so' : HsOk ds ms S') {S0 : Hs} {t0 : Th} (h : Turned ds S S0 S' [t0]) {r : Rw} (hr : ∀ z key t, mineB r z key t = decide (t.1 = z)) (hd : ∃ d, inD ds t0 d) (hk : (lk S'.ts.nums t0).isSome = true) :
    ((List.range ds.length).flatMap fun i => (plnL ds S').flatMap fun t => if mineB r (dimAt ds i) (keyAt r i) t = true then newN S.ts S'.ts t else []) = iota S.ts.given (cameA ds S S') := by
  have hoff : ∀ t, t ≠ t0 → newN S.ts S'.ts t = [] := fun t ne => newN_off (inB_same (h.off fun m => ne (List.mem_singleton.mp m)))
  obtain ⟨d, hd⟩ := hd
  have hd : ds.find? (fun d => decide (d.1 = t0.1)) = some d := hd
  have hdm := List.mem_of_find?_eq_some hd
  have e1 : d.1 = t0.1 := by have h9 := List.find?_some hd; exact of_decide_eq_true h9
  obtain ⟨j, hj, ej⟩ := List.mem_iff_getElem.mp hdm
  have ez : ∀ i, i < ds.length → dimAt ds i = t0.1 → i = j := fun i hi e => by
    rw [dimAt_get hi] at e
    have hn := so'.dn
    have h1 : (ds.map (·.1))[i]'(by rw [List.length_map]; exact hi) = (ds.map (·.1))[j]'(by rw [List.length_map]; exact hj) := by
      rw [List.getElem_map, List.getElem_map, e, ej, e1]
    exact (List.getElem_inj hn).mp h1
  have e2 : dimAt ds j = t0.1 := by
    rw [dimAt_get hj, ej]
    exact e1
  rw [flat_one (a := j) List.nodup_range ?_ (List.mem_range.mpr hj)]
  · show (plnL ds S').flatMap (fun t => if mineB r (dimAt ds j) (keyAt r j) t = true then newN S.ts S'.ts t else []) = _
    rw [flat_one (a := t0) (plnL_nodup so') ?_ ((mem_plnL so').mpr hk)]
    · show (if mineB r _ _ t0 = true then newN S.ts S'.ts t0 else []) = _
      rw [hr, e2, if_pos (decide_eq_true rfl)]
      have := h.nw so'
      rw [← this]
      simp
    · intro t _ ne
      show (if mineB r _ _ t = true then newN S.ts S'.ts t else []) = []
      rw [hoff t ne]
      split <;> rfl
  · intro i hi ne
    have hi := List.mem_range.mp hi
    refine flat_none fun t _ => ?_
    show (if mineB r _ _ t = true then newN S.ts S'.ts t else []) = []
    by_cases c : t = t0
    · subst c
      rw [hr, decide_eq_false fun e => ne (ez i hi e.symm)]
      rfl
    · rw [hoff t c]
      split <;> rfl
end Kd

namespace Kd
open PySem PySem.Spec PyProof.Rows L2
/-! ### versions in a row: begins and ends meet, begins rise, each day lies in just one -/
theorem srt_asc {ks : List Kind} (h : (ks.map (·.1)).Nodup) : (srt ks).Pairwise fun a b => a.1 < b.1 := by
  have h1 : (srt ks).Pairwise fun a b => a.1 ≤ b.1 := by
    have := List.pairwise_mergeSort (le := fun a b : Kind => decide (a.1 ≤ b.1)) (fun a b c h1 h2 => by simp at *; omega) (fun a b => by simp; omega) ks
    exact this.imp fun h => of_decide_eq_true h
  have h2 : ((srt ks).map (·.1)).Nodup := ((List.mergeSort_perm ks _).map (·.1)).nodup_iff.mpr h
  rw [List.Nodup, List.pairwise_map] at h2
  exact List.Pairwise.imp₂ (fun a b p q => by omega) h1 h2
def opD (ws : List Str) (ks : List Kind) : List Int := (opn ws (srt ks)).map (·.1)
theorem opD_asc {ws : List Str} {ks : List Kind} (h : (ks.map (·.1)).Nodup) : (opD ws ks).Pairwise (· < ·) := by
  unfold opD
  rw [List.pairwise_map]
  exact (srt_asc h).sublist (opn_subl ws (srt ks))
def chain (b : Option Int) : List Int → List (Option Int × Option Int)
  | [] => [(b, none)]
  | d :: l => (b, some d) :: chain (some d) l
theorem chain_len (b : Option Int) : ∀ l : List Int, (chain b l).length = l.length + 1
  | [] => rfl
  | d :: l => by rw [chain, List.length_cons, chain_len (some d) l, List.length_cons]
theorem chain_at : ∀ (l : List Int) (b : Option Int) (j : Nat), j ≤ l.length → (chain b l)[j]? = some ((if j = 0 then b else some (l.getD (j - 1) 0)), (if j < l.length then some (l.getD j 0) else none))
  | [], b, j, h => by
    have : j = 0 := by simpa using h
    subst this
    rfl
  | d :: l, b, 0, _ => by simp [chain]
  | d :: l, b, j + 1, h => by
    have hj : j ≤ l.length := by simpa using h
    rw [chain, List.getElem?_cons_succ, chain_at l (some d) j hj]
    congr 2
    · cases j with
      | zero => simp
      | succ j => simp
    · simp
theorem sv_chain (ws : List Str) (ks : List Kind) : (sv ws ks).map (fun s => (s.1, s.2.1)) = chain none (opD ws ks) := by
  apply List.ext_getElem?
  intro j
  have hl : (opD ws ks).length = (opn ws (srt ks)).length := by unfold opD; rw [List.length_map]
  by_cases h : j ≤ (opD ws ks).length
  · rw [chain_at _ _ _ h]
    unfold sv
    rw [List.map_map, List.getElem?_map, List.getElem?_range (by omega)]
    show some (bO _ j, fO _ j) = _
    congr 2
    · cases j with
      | zero => rfl
      | succ j =>
        show some ((opn ws (srt ks)).getD j (0, [])).1 = _
        rw [if_neg (by omega)]
        congr 1
        unfold opD
        rw [Nat.add_sub_cancel, List.getD_eq_getElem?_getD, List.getD_eq_getElem?_getD, List.getElem?_map, List.getElem?_eq_getElem (by omega)]
        rfl
    · unfold fO
      rw [hl]
      split
      · rename_i q
        congr 1
        unfold opD
        rw [List.getD_eq_getElem?_getD, List.getD_eq_getElem?_getD, List.getElem?_map, List.getElem?_eq_getElem q]
        rfl
      · rfl
  · rw [List.getElem?_eq_none (by rw [List.length_map, sv_len]; omega), List.getElem?_eq_none (by rw [chain_len]; omega)]
def Ver.be (r : Ver) : Option Int × Option Int := (r.b, r.e)
theorem vs_chain {ds : Dims} {ts : Ts} {n m : Nat} (h : TsOk ds ts n m) {t : Th} {vs : List Ver} (e : lk ts.nums t = some vs) : vs.map Ver.be = chain none (opD (wsOf ds t.1) (ts.ks t)) := by
  rw [← sv_chain, ← h.vs_of e, List.map_map]
  rfl
def endB (day : Int) (e : Option Int) : Bool := match e with
  | none => true
  | some e => decide (day < e)
def inV (day : Int) (r : Ver) : Bool := begB day r.b && endB day r.e
def Asc (b : Option Int) (l : List Int) : Prop := l.Pairwise (· < ·) ∧ ∀ x, b = some x → ∀ d ∈ l, x < d
theorem Asc.tail {b : Option Int} {d : Int} {l : List Int} (h : Asc b (d :: l)) : Asc (some d) l := by
  obtain ⟨h1, h2⟩ := List.pairwise_cons.mp h.1
  exact ⟨h2, fun x e y hy => by cases e; exact h1 y hy⟩
theorem chain_off {day : Int} : ∀ (l : List Int) (b : Option Int) (vs : List Ver), vs.map Ver.be = chain b l → Asc b l → begB day b = false → vs.filter (fun r => begB day r.b) = [] ∧ vs.filter (inV day) = []
  | [], b, vs, e, _, hb => by
    obtain ⟨r, vs', rfl, e1, e2⟩ := List.map_eq_cons_iff.mp e
    rw [List.map_eq_nil_iff] at e2
    subst e2
    have h1 : begB day r.b = false := by
      have : r.b = b := congrArg Prod.fst e1
      rw [this]; exact hb
    constructor
    · rw [List.filter_cons_of_neg (by rw [h1]; simp)]; rfl
    · rw [List.filter_cons_of_neg (by unfold inV; rw [h1]; simp)]; rfl
  | d :: l, b, vs, e, ha, hb => by
    obtain ⟨r, vs', rfl, e1, e2⟩ := List.map_eq_cons_iff.mp e
    have h1 : begB day r.b = false := by
      have : r.b = b := congrArg Prod.fst e1
      rw [this]; exact hb
    have hd : begB day (some d) = false := by
      cases b with
      | none => cases hb
      | some x =>
        have hb : decide (x ≤ day) = false := hb
        have := ha.2 x rfl d (List.mem_cons_self ..)
        show decide (d ≤ day) = false
        simp at hb ⊢
        omega
    obtain ⟨h2, h3⟩ := chain_off l (some d) vs' e2 ha.tail hd
    constructor
    · rw [List.filter_cons_of_neg (by rw [h1]; simp)]; exact h2
    · rw [List.filter_cons_of_neg (by unfold inV; rw [h1]; simp)]; exact h3
theorem chain_one {day : Int} : ∀ (l : List Int) (b : Option Int) (vs : List Ver), vs.map Ver.be = chain b l → Asc b l → begB day b = true → ∃ v, vs.filter (inV day) = [v] ∧ (vs.filter fun r => begB day r.b).getLast? = some v
  | [], b, vs, e, _, hb => by
    obtain ⟨r, vs', rfl, e1, e2⟩ := List.map_eq_cons_iff.mp e
    rw [List.map_eq_nil_iff] at e2
    subst e2
    have h1 : begB day r.b = true := by
      have : r.b = b := congrArg Prod.fst e1
      rw [this]; exact hb
    have h2 : r.e = none := congrArg Prod.snd e1
    refine ⟨r, ?_, ?_⟩
    · rw [List.filter_cons_of_pos (by unfold inV; rw [h1, h2]; rfl)]; rfl
    · rw [List.filter_cons_of_pos (by exact h1)]; rfl
  | d :: l, b, vs, e, ha, hb => by
    obtain ⟨r, vs', rfl, e1, e2⟩ := List.map_eq_cons_iff.mp e
    have h1 : begB day r.b = true := by
      have : r.b = b := congrArg Prod.fst e1
      rw [this]; exact hb
    have h2 : r.e = some d := congrArg Prod.snd e1
    by_cases c : d ≤ day
    · obtain ⟨v, g1, g2⟩ := chain_one l (some d) vs' e2 ha.tail (decide_eq_true c)
      refine ⟨v, ?_, ?_⟩
      · rw [List.filter_cons_of_neg (by unfold inV; rw [h1, h2]; show ¬ (true && decide (day < d)) = true; simp; omega)]
        exact g1
      · rw [List.filter_cons_of_pos (by exact h1)]
        cases q : vs'.filter (fun r => begB day r.b) with
        | nil => rw [q] at g2; cases g2
        | cons x xs => rw [q] at g2; rw [List.getLast?_cons_cons]; exact g2
    · obtain ⟨g1, g2⟩ := chain_off l (some d) vs' e2 ha.tail (decide_eq_false c)
      refine ⟨r, ?_, ?_⟩
      · rw [List.filter_cons_of_pos (by unfold inV; rw [h1, h2]; show (true && decide (day < d)) = true; simp; omega), g2]
      · rw [List.filter_cons_of_pos (by exact h1), g1]
        rfl
theorem asc_none {l : List Int} (h : l.Pairwise (· < ·)) : Asc none l := ⟨h, fun x e => by cases e⟩
/-- the version of a day is the one that the day lies in -/
theorem in_one {ds : Dims} {ts : Ts} {n m : Nat} (h : TsOk ds ts n m) {t : Th} {vs : List Ver} (e : lk ts.nums t = some vs) (day : Int) : (vs.filter (inV day)).map (·.n) = [ts.numOn t day] := by
  obtain ⟨v, h1, h2⟩ := chain_one (day := day) _ _ _ (vs_chain h e) (asc_none (opD_asc (h.ks_nodup t))) rfl
  rw [h1]
  unfold Ts.numOn Ts.vs verOn
  rw [e]
  show _ = [((((some vs).getD []).filter _).getLast?.map _).getD 0]
  rw [show (some vs).getD [] = vs from rfl, h2]
  rfl
/-- what the law asks of neighbours -/
structure Meets (vs : List Ver) : Prop where
  ne : 0 < vs.length
  hd : ∀ r, vs[0]? = some r → r.b = none
  la : ∀ r, vs[vs.length - 1]? = some r → r.e = none
  nx : ∀ k r q, vs[k]? = some r → vs[k + 1]? = some q → ∃ d : Int, r.e = some d ∧ q.b = some d ∧ (0 < k → ∃ c : Int, r.b = some c ∧ c < d)
theorem be_at {vs : List Ver} {l : List Int} (e : vs.map Ver.be = chain none l) {j : Nat} {r : Ver} (h : vs[j]? = some r) (hj : j ≤ l.length) : r.b = (if j = 0 then none else some (l.getD (j - 1) 0)) ∧ r.e = (if j < l.length then some (l.getD j 0) else none) := by
  have h1 := congrArg (fun l => l[j]?) e
  simp only [List.getElem?_map] at h1
  rw [h, chain_at l none j hj] at h1
  have h1 := Option.some.inj h1
  exact ⟨congrArg Prod.fst h1, congrArg Prod.snd h1⟩
theorem meets_of {ds : Dims} {ts : Ts} {n m : Nat} (h : TsOk ds ts n m) {t : Th} {vs : List Ver} (e : lk ts.nums t = some vs) : Meets vs := by
  have hc := vs_chain h e
  have ha := opD_asc (ws := wsOf ds t.1) (h.ks_nodup t)
  generalize opD (wsOf ds t.1) (ts.ks t) = l at hc ha
  have hl : vs.length = l.length + 1 := by
    have := congrArg List.length hc
    rw [List.length_map, chain_len] at this
    exact this
  refine ⟨by omega, fun r hr => ?_, fun r hr => ?_, fun k r q hr hq => ?_⟩
  · exact (be_at hc hr (Nat.zero_le _)).1
  · rw [hl, Nat.add_sub_cancel] at hr
    rw [(be_at hc hr (Nat.le_refl _)).2, if_neg (Nat.lt_irrefl _)]
  · have hk : k + 1 < vs.length := (List.getElem?_eq_some_iff.mp hq).1
    obtain ⟨b1, b2⟩ := be_at hc hr (by omega)
    obtain ⟨b3, _⟩ := be_at hc hq (by omega)
    rw [if_pos (by omega)] at b2
    rw [if_neg (by omega), Nat.add_sub_cancel] at b3
    refine ⟨l.getD k 0, b2, b3, fun h0 => ⟨l.getD (k - 1) 0, ?_, ?_⟩⟩
    · rw [b1, if_neg (by omega)]
    · rw [List.getD_eq_getElem?_getD, List.getD_eq_getElem?_getD, List.getElem?_eq_getElem (by omega), List.getElem?_eq_getElem (by omega)]
      exact List.pairwise_iff_getElem.mp ha (k - 1) k (by omega) (by omega) (by omega)
/-! ### all versions, thing by thing -/
def allL (ds : Dims) (S : Hs) : List (Th × Ver) := (plnL ds S).flatMap fun t => (S.ts.vs t).map fun r => (t, r)
def goL (S : Hs) (m : Th × Ver) : Bool := !decide (m.2.b ∈ oldB S.ts m.1)
theorem flat_fltM {α β : Type} (f : α → List β) (p : β → Bool) : ∀ l : List α, (l.flatMap f).filter p = l.flatMap fun a => (f a).filter p
  | [] => rfl
  | a :: l => by rw [List.flatMap_cons, List.flatMap_cons, List.filter_append, flat_fltM f p l]
theorem flat_mpM {α β γ : Type} (f : α → List β) (g : β → γ) : ∀ l : List α, (l.flatMap f).map g = l.flatMap fun a => (f a).map g
  | [] => rfl
  | a :: l => by rw [List.flatMap_cons, List.flatMap_cons, List.map_append, flat_mpM f g l]
theorem flat_lenM {α β : Type} (f : α → List β) : ∀ l : List α, (l.flatMap f).length = (l.map fun a => (f a).length).sum
  | [] => rfl
  | a :: l => by rw [List.flatMap_cons, List.length_append, List.map_cons, List.sum_cons, flat_lenM f l]
theorem come_nums (ds : Dims) (A B : Hs) : ((allL ds A).filter (goL B)).map (fun m => m.2.n) = (plnL ds A).flatMap (newN B.ts A.ts) := by
  unfold allL
  rw [flat_fltM, flat_mpM]
  congr 1
  funext t
  unfold newN
  rw [List.filter_map, List.map_map]
  rfl
theorem come_len (ds : Dims) (A B : Hs) : ((allL ds A).filter (goL B)).length = ((plnL ds A).map (inB B.ts A.ts)).sum := by
  have h := congrArg List.length (come_nums ds A B)
  rw [List.length_map, flat_lenM] at h
  rw [h]
  congr 1
  apply List.map_congr_left
  intro t _
  exact newN_len B.ts A.ts t
theorem flat_drop {α β : Type} (f : α → List β) : ∀ A : List α, A.flatMap f = (A.filter fun a => !(f a).isEmpty).flatMap f
  | [] => rfl
  | a :: A => by
    cases c : (f a).isEmpty with
    | true =>
      rw [List.filter_cons_of_neg (by rw [c]; simp), List.flatMap_cons, List.isEmpty_iff.mp c, List.nil_append, flat_drop f A]
    | false =>
      rw [List.filter_cons_of_pos (by rw [c]; rfl), List.flatMap_cons, List.flatMap_cons, flat_drop f A]
theorem flat_on {α β : Type} [DecidableEq α] {f : α → List β} {A B : List α} (na : A.Nodup) (nb : B.Nodup) (h1 : ∀ a ∈ A, a ∉ B → f a = []) (h2 : ∀ a ∈ B, a ∉ A → f a = []) : (A.flatMap f).Perm (B.flatMap f) := by
  rw [flat_drop f A, flat_drop f B]
  have hp : (A.filter fun a => !(f a).isEmpty).Perm (B.filter fun a => !(f a).isEmpty) := by
    rw [List.perm_ext_iff_of_nodup (na.sublist List.filter_sublist) (nb.sublist List.filter_sublist)]
    intro a
    rw [List.mem_filter, List.mem_filter]
    constructor
    · intro ⟨m, c⟩
      refine ⟨?_, c⟩
      by_cases q : a ∈ B
      · exact q
      · rw [h1 a m q] at c
        simp at c
    · intro ⟨m, c⟩
      refine ⟨?_, c⟩
      by_cases q : a ∈ A
      · exact q
      · rw [h2 a m q] at c
        simp at c
  exact hp.flatMap_right f
variable {ds : Dims} {ms : List Str} {S S' : Hs}
theorem Turned.news {S0 : Hs} {tl : List Th} (h : Turned ds S S0 S' tl) (so' : HsOk ds ms S') : ((plnL ds S').flatMap (newN S.ts S'.ts)).Perm (iota S.ts.given (cameA ds S S')) := by
  rw [← h.nw so']
  refine flat_on (plnL_nodup so') h.nd (fun t _ m => newN_off (inB_same (h.off m))) fun t m nm => ?_
  have : S'.ts.vs t = [] := vs_none2 fun z => nm ((mem_plnL so').mpr z)
  unfold newN
  rw [this]
  rfl
theorem iota_asc (g : Int) (k : Nat) : (iota g k).Pairwise (· < ·) := by
  unfold iota
  rw [List.pairwise_map]
  exact List.pairwise_lt_range.imp fun {a b} h => by omega
/-- what the law asks of a row told -/
structure TellQ (ds : Dims) (ms : List Str) (S : Hs) (r : Rw) : Prop where
  nw : ((plnL ds (S.tell ds r)).flatMap (newN S.ts (S.tell ds r).ts)).Perm (iota S.ts.given (cameA ds S (S.tell ds r)))
  gv : (S.tell ds r).ts.given = S.ts.given + (cameA ds S (S.tell ds r) : Int)
  st : ∀ t, ∀ v ∈ (S.tell ds r).ts.vs t, ∀ n, lk (oldOf (S.ts.vs t)) v.b = some n → v.n = n
theorem TellQ.of (so : HsOk ds ms S) {r : Rw} (ok : r.ok) (tk : S.takes ds ms r = true) : TellQ ds ms S r := by
  obtain ⟨so', _⟩ := so.tell ok tk
  unfold Hs.takes at tk
  rw [Bool.and_eq_true] at tk
  obtain ⟨h1, h2⟩ := tk
  cases r with
  | kind d key day vals =>
    have T := turned_kind (ds := ds) (S := S) d key day vals
    exact ⟨T.news so', T.given so', T.st so⟩
  | fact name day keys nums =>
    have hf : (decide (keys.length = ds.length) && decide (nums.length = ms.length)) = true := h1
    rw [Bool.and_eq_true] at hf
    have hk := of_decide_eq_true hf.1
    have T := turned_fact (name := name) (day := day) (nums := nums) so hk ok.2.2.1.2
    exact ⟨T.news so', T.given so', T.st so⟩
  | forget name =>
    obtain ⟨fc, hl⟩ := isSome_ex h2
    have T := turned_forget so hl
    exact ⟨T.news so', T.given so', T.st so⟩
end Kd

/-! a dict whose keys are tuples of None, numbers, texts and such tuples: a thing of its own (HO.ext); what its keys are stands in the tuples -/
namespace KzNk
open PySem PySem.Spec PyProof.Rows L2
/-- an entry: the key, the key's own tuple, the value -/
abbrev NE := NestedKey × (Addr × V)
mutual
def nkD : NestedKey → PyData
  | .none => .none
  | .num i => .int i
  | .text x => .str x
  | .tup ks => .tuple (nkDs ks)
def nkDs : List NestedKey → List PyData
  | [] => []
  | k :: ks => nkD k :: nkDs ks
end
section
variable {X : Cx} {pins : List (Addr × Obj)} {σ : L2.St} {H : Hp} {s : Shared}
mutual
theorem nk_is (I : Inv X pins σ H s) : ∀ (k : NestedKey) (v : V) (u : Value), Dp X.K H v (nkD k) → RelV v u → NestedIs s.heap k u
  | .none, v, u, h, r => by
    have h : Dp X.K H v .none := h
    cases h
    obtain rfl : u = Value.none := r
    exact .none
  | .num i, v, u, h, r => by
    have h : Dp X.K H v (.int i) := h
    cases h
    obtain ⟨t, rfl⟩ := r
    exact .int i t
  | .text x, v, u, h, r => by
    have h : Dp X.K H v (.str x) := h
    cases h
    obtain ⟨t, rfl⟩ := r
    exact .text x t
  | .tup ks, v, u, h, r => by
    have h : Dp X.K H v (.tuple (nkDs ks)) := h
    cases h with
    | tup hx hr =>
      rename_i a xs
      obtain rfl : u = Value.ref a := r
      obtain ⟨its, rv, ht, hz⟩ := I.tuple hx
      obtain ⟨o, e1, e2, n, e3⟩ := ht
      exact .tup e1 e2 e3 (by simpa using nk_all I ks xs its hr rv)
theorem nk_all (I : Inv X pins σ H s) : ∀ (ks : List NestedKey) (vs : List V) (us : List Value), DpAll X.K H vs (nkDs ks) → Vals vs us → NestedAll s.heap ks us
  | [], vs, us, h, r => by
    have h : DpAll X.K H vs [] := h
    cases h
    cases r
    exact .nil
  | k :: ks, vs, us, h, r => by
    have h : DpAll X.K H vs (nkD k :: nkDs ks) := h
    cases h with
    | cons h1 h2 =>
      cases r with
      | cons r1 r2 => exact .cons (nk_is I k _ _ h1 r1) (nk_all I ks _ _ h2 r2)
end
end
/-- the tuple at b is the key k -/
def KeyAt (K : PySem.W.Frag) (H : Hp) (b : Addr) (k : NestedKey) : Prop := Dp K H (.ref b) (nkD k) ∧ k.depth ≤ 8
abbrev REnt : List NE → List (NestedKey × Addr × Value) → Prop := Paired fun p q => p.1 = q.1 ∧ p.2.1 = q.2.1 ∧ RelV p.2.2 q.2.2
def NkO (P : Program) (w : World) (a : Addr) (xs : List NE) : HO := .ext fun h => xs.length ≤ sizeLine ∧ (a == sysModules) = false ∧ ∃ ys, REnt xs ys ∧ ∃ o es ep, h.get? a = some o ∧ o.ExactDict ∧ o.data = .dict es ep ∧ es.toList = ys.map (entryOfKey (nestedKind P w)) ∧ (ys.map (·.1)).Nodup
/-- such a dict, and its keys -/
def NdA (P : Program) (w : World) (K : PySem.W.Frag) (H : Hp) (a : Addr) (xs : List NE) : Prop := H a = some (NkO P w a xs) ∧ ∀ e ∈ xs, KeyAt K H e.2.1 e.1
/-! entries -/
def putN (xs : List NE) (k : NestedKey) (b : Addr) (v : V) : List NE := if (Kd.lk xs k).isSome = true then xs.map (fun e => if e.1 = k then (e.1, (e.2.1, v)) else e) else xs ++ [(k, (b, v))]
theorem putN_len (xs : List NE) (k : NestedKey) (b : Addr) (v : V) : (putN xs k b v).length ≤ xs.length + 1 := by
  unfold putN
  split
  · rw [List.length_map]; omega
  · rw [List.length_append]; exact Nat.le_refl _
theorem REnt.val {xs : List NE} {ys : List (NestedKey × Addr × Value)} (r : REnt xs ys) (k : NestedKey) : RelO ((Kd.lk xs k).map (·.2)) ((atKey ys k).map (·.2)) := by
  induction r with
  | nil => exact True.intro
  | @cons p q ps qs h t ih =>
    obtain ⟨h1, _, h2⟩ := h
    by_cases e : p.1 = k
    · have e' : q.1 = k := h1.symm.trans e
      have b : atKey (q :: qs) k = some q.2 := by simp [atKey, List.find?_cons, e']
      rw [Kd.lk_pos e, b]; exact h2
    · have e' : ¬ q.1 = k := fun z => e (h1.trans z)
      have b : atKey (q :: qs) k = atKey qs k := by simp [atKey, List.find?_cons, e']
      rw [Kd.lk_neg e, b]; exact ih
theorem REnt.some_iff {xs : List NE} {ys : List (NestedKey × Addr × Value)} (r : REnt xs ys) (k : NestedKey) : (Kd.lk xs k).isSome = (atKey ys k).isSome := by
  have h := (r.val k).isSome_eq
  rw [Option.isSome_map, Option.isSome_map] at h
  exact h
theorem REnt.repl {xs : List NE} {ys : List (NestedKey × Addr × Value)} (r : REnt xs ys) (k : NestedKey) {y : V} {u : Value} (ry : RelV y u) : REnt (xs.map fun e => if e.1 = k then (e.1, (e.2.1, y)) else e) (ys.map (putAt k u)) := by
  induction r with
  | nil => exact .nil
  | @cons p q ps qs h t ih =>
    rw [List.map_cons, List.map_cons]
    refine .cons ?_ ih
    obtain ⟨h1, h2, h3⟩ := h
    unfold putAt
    by_cases e : p.1 = k
    · rw [if_pos e, if_pos (h1.symm.trans e)]; exact ⟨h1, h2, ry⟩
    · rw [if_neg e, if_neg (fun z => e (h1.trans z))]; exact ⟨h1, h2, h3⟩
theorem REnt.put {xs : List NE} {ys : List (NestedKey × Addr × Value)} (r : REnt xs ys) (k : NestedKey) (b : Addr) {y : V} {u : Value} (ry : RelV y u) : REnt (putN xs k b y) (storedH ys k b u) := by
  unfold putN storedH
  rw [r.some_iff]
  by_cases q : (atKey ys k).isSome = true
  · rw [if_pos q, if_pos q]; exact r.repl k ry
  · rw [if_neg q, if_neg q]; exact Paired.snoc r ⟨rfl, rfl, ry⟩
theorem REnt.drop {xs : List NE} {ys : List (NestedKey × Addr × Value)} (r : REnt xs ys) (k : NestedKey) : REnt (Kd.dp xs k) (withoutH ys k) := by
  induction r with
  | nil => exact .nil
  | @cons p q ps qs h t ih =>
    obtain ⟨h1, h2, h3⟩ := h
    unfold Kd.dp withoutH
    unfold Kd.dp withoutH at ih
    by_cases e : p.1 = k
    · rw [List.filter_cons_of_neg (by simp [e]), List.filter_cons_of_neg (by simp [← h1, e])]; exact ih
    · rw [List.filter_cons_of_pos (by simp [e]), List.filter_cons_of_pos (by simp [← h1, e])]; exact .cons ⟨h1, h2, h3⟩ ih
theorem REnt.len {xs : List NE} {ys : List (NestedKey × Addr × Value)} (r : REnt xs ys) : xs.length = ys.length := Paired.length r
section
variable {X : Cx} {pins : List (Addr × Obj)} {σ : L2.St} {H : Hp} {s : Shared} {a b : Addr} {xs : List NE} {k : NestedKey}
theorem key_is (I : Inv X pins σ H s) (h : KeyAt X.K H b k) : (nestedKind X.prog X.w).is s.heap k b := ⟨nk_is I k _ _ h.1 rfl, h.2⟩
theorem nd_of (I : Inv X pins σ H s) (h : NdA X.prog X.w X.K H a xs) : xs.length ≤ sizeLine ∧ (a == sysModules) = false ∧ ∃ ys, REnt xs ys ∧ s.heap.DictOfH (nestedKind X.prog X.w) a ys := by
  obtain ⟨z, hd, ys, r, o, es, ep, h1, h2, h3, h4, h5⟩ := (show ObjOk X.prog X.w H s.heap a (NkO X.prog X.w a xs) from I.hok a _ h.1).1
  refine ⟨z, hd, ys, r, o, es, ep, h1, h2, h3, h4, ?_, h5⟩
  have all : ∀ {l : List NE} {m : List (NestedKey × Addr × Value)}, REnt l m → (∀ e ∈ l, KeyAt X.K H e.2.1 e.1) → ∀ x ∈ m, (nestedKind X.prog X.w).is s.heap x.1 x.2.1 := by
    intro l m q
    induction q with
    | nil => intro _ x hx; exact nomatch hx
    | @cons p q ps qs hq t ih =>
      intro ha x hx
      rcases List.mem_cons.mp hx with e | hx
      · subst e
        have := key_is I (ha p (List.mem_cons_self ..))
        rw [hq.1, hq.2.1] at this
        exact this
      · exact ih (fun e he => ha e (List.mem_cons_of_mem _ he)) x hx
  exact all r h.2
def NdR (P : Program) (w : World) (K : PySem.W.Frag) (H : Hp) (a : Addr) (xs : List NE) : Prop := (H a = some (NkO P w a xs) ∨ ∃ o, H a = some (.frz o (NkO P w a xs))) ∧ ∀ e ∈ xs, KeyAt K H e.2.1 e.1
theorem NdA.r {P : Program} {w : World} {K : PySem.W.Frag} {H : Hp} {a : Addr} {xs : List NE} (h : NdA P w K H a xs) : NdR P w K H a xs := ⟨.inl h.1, h.2⟩
theorem all_is (I : Inv X pins σ H s) : ∀ {l : List NE} {m : List (NestedKey × Addr × Value)}, REnt l m → (∀ e ∈ l, KeyAt X.K H e.2.1 e.1) → ∀ x ∈ m, (nestedKind X.prog X.w).is s.heap x.1 x.2.1 := by
  intro l m q
  induction q with
  | nil => intro _ x hx; exact nomatch hx
  | @cons p q ps qs hq t ih =>
    intro ha x hx
    rcases List.mem_cons.mp hx with e | hx
    · subst e
      have := key_is I (ha p (List.mem_cons_self ..))
      rw [hq.1, hq.2.1] at this
      exact this
    · exact ih (fun e he => ha e (List.mem_cons_of_mem _ he)) x hx
theorem nr_of (I : Inv X pins σ H s) (h : NdR X.prog X.w X.K H a xs) : xs.length ≤ sizeLine ∧ (a == sysModules) = false ∧ ∃ ys, REnt xs ys ∧ s.heap.DictOfH (nestedKind X.prog X.w) a ys := by
  obtain ⟨h1 | ⟨o, h1⟩, h2⟩ := h
  · exact nd_of I ⟨h1, h2⟩
  · obtain ⟨_, ⟨z, hd, ys, r, o, es, ep, g1, g2, g3, g4, g5⟩, _⟩ := I.hok a _ h1
    exact ⟨z, hd, ys, r, o, es, ep, g1, g2, g3, g4, all_is I r h2, g5⟩
theorem frzNK {o : Obj} (I : Inv X pins σ H s) (h : H a = some (.frz o (NkO X.prog X.w a xs))) :
    (a == sysModules) = false ∧ s.heap.get? a = some o ∧ o.ExactDict ∧ ∃ (es : Array DictEntry) (ep : Nat) (ys : List (NestedKey × Addr × Value)), o.data = .dict es ep ∧ es.size = xs.length ∧ REnt xs ys ∧ es.toList = ys.map (entryOfKey (nestedKind X.prog X.w)) := by
  obtain ⟨hd, ⟨z, hs, ys, r, o', es, ep, ho, hx, hdt, he, _⟩, _⟩ := I.hok a _ h
  rw [hd] at ho
  cases ho
  refine ⟨hs, hd, hx, es, ep, ys, hdt, ?_, r, he⟩
  have l1 := congrArg List.length he
  rw [Array.length_toList, List.length_map, ← r.len] at l1
  exact l1
theorem nd_new {P : Program} {w : World} {H' : Hp} {h' : Heap} {a : Addr} {xs : List NE} {ys : List (NestedKey × Addr × Value)} (z : xs.length ≤ sizeLine) (hd : (a == sysModules) = false) (r : REnt xs ys) (dd : h'.DictOfH (nestedKind P w) a ys) : ObjOk P w H' h' a (NkO P w a xs) := by
  obtain ⟨o, es, ep, h1, h2, h3, h4, _, h5⟩ := dd
  exact ⟨⟨z, hd, ys, r, o, es, ep, h1, h2, h3, h4, h5⟩, ⟨o, h1⟩, fun g1 g2 ⟨z, hd, ys, r, o, es, ep, h1, q⟩ k => ⟨z, hd, ys, r, o, es, ep, k o h1, q⟩⟩
end
/-! ### the rules -/
def tNkNew (P : Program) (w : World) : TE := fun _ H Q => ∀ p, H p = none → Q (.ref p) (upd H p (NkO P w p []))
def sNkPut (P : Program) (w : World) (K : PySem.W.Frag) (td ty tv : TE) : TS := fun D σ H => tv σ H fun v H1 => td σ H1 fun x H2 => ty σ H2 fun y H3 => ∃ a b xs k, x = .ref a ∧ y = .ref b ∧ NdA P w K H3 a xs ∧ KeyAt K H3 b k ∧ xs.length < sizeLine ∧ D.nx σ (upd H3 a (NkO P w a (putN xs k b v)))
def tNkGet (P : Program) (w : World) (K : PySem.W.Frag) (td ty : TE) : TE := fun σ H Q => td σ H fun x H1 => ty σ H1 fun y H2 => ∃ a b xs k c, x = .ref a ∧ y = .ref b ∧ NdR P w K H2 a xs ∧ KeyAt K H2 b k ∧ Kd.lk xs k = some c ∧ Q c.2 H2
def tNkIn (P : Program) (w : World) (K : PySem.W.Frag) (ty td : TE) : TE := fun σ H Q => ty σ H fun y H1 => td σ H1 fun x H2 => ∃ a b xs k, x = .ref a ∧ y = .ref b ∧ NdR P w K H2 a xs ∧ KeyAt K H2 b k ∧ Q (.bl (Kd.lk xs k).isSome) H2
def tNkNotIn (P : Program) (w : World) (K : PySem.W.Frag) (ty td : TE) : TE := fun σ H Q => ty σ H fun y H1 => td σ H1 fun x H2 => ∃ a b xs k, x = .ref a ∧ y = .ref b ∧ NdR P w K H2 a xs ∧ KeyAt K H2 b k ∧ Q (.bl (!(Kd.lk xs k).isSome)) H2
section
variable {X : Cx} {o i e f value : Expr} {pos pos' tpos apos cpos : Pos} {td ty tv tx : TE}
theorem pe_nknew : PE X (.Dict [] [] pos) (tNkNew X.prog X.w) := ⟨fun pins s σ H Q I h =>
  wpAny_Dict_empty ⟨.ref s.heap.objs.size, _, I.laid (a := s.heap.objs.size) (o := NkO X.prog X.w s.heap.objs.size []) (t' := s.toks) (fun _ _ q => Heap.get?_push_of_some _ q) (Nat.le_refl _) (nd_new (by simp) (by
    have z : s.heap.objs.size ≠ sysModules := Nat.ne_of_gt I.big
    simpa using z) (ys := []) .nil (Heap.DictOfH.new s.heap)), rfl, h _ (I.hok.fresh (Nat.le_refl _))⟩⟩
theorem ps_nkput (hu : X.A.units + 9 < cLine) (ho : PE X o td) (hi : PE X i ty) (hv : PE X value tv) (hs : swapsWith value (some (.Subscript o i pos')) pos.line X.env = pure false) :
    PS X (.Assign [.Subscript o i pos'] value pos) (sNkPut X.prog X.w X.K td ty tv) := by
  refine ⟨fun pins s σ H D I h => ?_⟩
  refine wpAny_Assign_Subscript (thn (hv.run pins s σ H _ I h) fun r s1 ⟨v, H1, I1, rv, q1⟩ => thn (ho.run pins s1 σ H1 _ I1 q1) fun u s2 ⟨x, H2, I2, rx, q2⟩ => thn (hi.run pins s2 σ H2 _ I2 q2) fun iv s3 ⟨y, H3, I3, ry, a, b, xs, k, ex, ey, g, hk, l, q3⟩ => ?_) hs
  subst ex ey
  obtain rfl : u = Value.ref a := rx
  obtain rfl : iv = Value.ref b := ry
  obtain ⟨z, hd, ys, rel, dd⟩ := nd_of I3 g
  have hz : ys.length ≤ sizeLine := by rw [← rel.len]; exact z
  have hl : (putN xs k b v).length ≤ sizeLine := by have := putN_len xs k b v; omega
  refine wpAny_setItem_heap (hsz := hz) (show X.A.in1.units + 8 < cLine from hu) (key_is I3 hk) dd fun h' dd' hs' => ?_
  have he : ∃ q, h'.get? a = some q := let ⟨q, _, _, hq, _⟩ := dd'; ⟨q, hq⟩
  exact ⟨σ, _, d_write I3 (by rw [g.1]; exact True.intro) hs' he (nd_new hl hd (rel.put k b rv) dd'), q3⟩
theorem pe_nkget (hu : X.A.units + 9 < cLine) (ho : PE X o td) (hi : PE X i ty) (hs : NoSl i) : PE X (.Subscript o i pos) (tNkGet X.prog X.w X.K td ty) := by
  refine ⟨fun pins s σ H Q I h => ?_⟩
  refine subD_of PySem.F.slot_dict_getitem.lookup hs (thn (ho.run pins s σ H _ I h) fun u s1 ⟨x, H1, I1, rx, q1⟩ => thn (hi.run pins s1 σ H1 _ I1 q1) fun iv s2 ⟨y, H2, I2, ry, a, b, xs, k, c, ex, ey, g, hk, gv, q2⟩ => ?_)
  subst ex ey
  obtain rfl : u = Value.ref a := rx
  obtain rfl : iv = Value.ref b := ry
  obtain ⟨z, hd, ys, rel, dd⟩ := nr_of I2 g
  have hr := rel.val k
  rw [gv] at hr
  cases hq : atKey ys k with
  | none => rw [hq] at hr; exact hr.elim
  | some p =>
    rw [hq] at hr
    exact ⟨dd.typeIs, wpAny_getItem_heap (show X.A.in1.units + 8 < cLine from hu) (key_is I2 hk) dd hq ⟨c.2, H2, I2.tok _, hr, q2⟩⟩
theorem pc_nkin (hu : X.A.units + 9 < cLine) (hi : PE X i ty) (ho : PE X o td) : PC X .In i o (tNkIn X.prog X.w X.K ty td) := by
  refine ⟨fun pins s σ H Q I h => ?_⟩
  refine thn (hi.run pins s σ H _ I h) fun iv s1 ⟨y, H1, I1, ry, q1⟩ => thn (ho.run pins s1 σ H1 _ I1 q1) fun u s2 ⟨x, H2, I2, rx, q2⟩ => ?_
  obtain ⟨a, b, xs, k, rfl, rfl, g, hk, q2⟩ := q2
  obtain rfl : u = Value.ref a := rx
  obtain rfl : iv = Value.ref b := ry
  obtain ⟨z, hd, ys, rel, dd⟩ := nr_of I2 g
  refine wpAny_in_heap (show X.A.in1.units + 8 < cLine from hu) (key_is I2 hk) hd dd ?_
  rw [← rel.some_iff]
  exact ⟨.bl _, H2, I2.tok _, rfl, q2⟩
theorem pc_nknotin (hu : X.A.units + 9 < cLine) (hi : PE X i ty) (ho : PE X o td) : PC X .NotIn i o (tNkNotIn X.prog X.w X.K ty td) := by
  refine ⟨fun pins s σ H Q I h => ?_⟩
  refine thn (hi.run pins s σ H _ I h) fun iv s1 ⟨y, H1, I1, ry, q1⟩ => thn (ho.run pins s1 σ H1 _ I1 q1) fun u s2 ⟨x, H2, I2, rx, q2⟩ => ?_
  obtain ⟨a, b, xs, k, rfl, rfl, g, hk, q2⟩ := q2
  obtain rfl : u = Value.ref a := rx
  obtain rfl : iv = Value.ref b := ry
  obtain ⟨z, hd, ys, rel, dd⟩ := nr_of I2 g
  refine notIn_keyed (kvs := pairsH ys) (show X.A.in1.units + 8 < cLine from hu) (key_is I2 hk) hd ⟨ys, dd, rfl⟩ ?_
  rw [valueAt_pairsH, Option.isSome_map, ← rel.some_iff]
  exact ⟨.bl _, H2, I2.tok _, rfl, q2⟩
end
end KzNk

/-! dicts with nested-tuple keys: a walk of the keys, d.keys() -/
namespace KzNk
open PySem PySem.Spec PyProof.Rows L2
def Itnk (P : Program) (w : World) (d : Addr) (o : Obj) (xs : List NE) : It :=
  ⟨fun i H => H d = some (.frz o (NkO P w d xs)) ∧ i < xs.length, fun i H x H' => H' = H ∧ ∃ e, xs[i]? = some e ∧ x = .ref e.2.1, fun i H => H d = some (.frz o (NkO P w d xs)) ∧ xs.length ≤ i⟩
theorem walk_keysNK {P : Program} {w : World} {d : Addr} {o : Obj} {xs : List NE} : Walk (Itnk P w d o xs) xs.length (fun H => H d = some (.frz o (NkO P w d xs))) (fun i H x H' => H' = H ∧ ∃ e, xs[i]? = some e ∧ x = .ref e.2.1) :=
  ⟨fun _ _ hi q => ⟨q, hi⟩, fun _ q => ⟨q, Nat.le_refl _⟩, fun _ _ _ _ _ _ y => y⟩
theorem rent_at {xs : List NE} {ys : List (NestedKey × Addr × Value)} (r : REnt xs ys) : ∀ {i : Nat} {e : NE}, xs[i]? = some e → ∃ y, ys[i]? = some y ∧ e.1 = y.1 ∧ e.2.1 = y.2.1 ∧ RelV e.2.2 y.2.2 := by
  induction r with
  | nil => intro i e h; simp at h
  | @cons p q ps qs h t ih =>
    intro i e hi
    cases i with
    | zero => cases hi; exact ⟨q, rfl, h⟩
    | succ i => exact ih hi
section
variable {P : Program} {w : World} {K : PySem.W.Frag} {tg : Expr} {d : Addr} {o : Obj} {es : Array DictEntry} {ep : Nat}
theorem turn_keysNK {xs : List NE} (it : Addr) (hod : o.data = .dict es ep) : Turn P w K tg (Itnk P w d o xs) [it] it (fun i h => h.IsKeyIter it d i xs.length ep) where
  mem := by simp
  obj := fun i h st b hb => by
    have e : b = it := by simpa using hb
    subst e
    obtain ⟨oi, e, c, dd⟩ := st
    exact ⟨oi, e, fun v z => by rw [dd] at z; cases z⟩
  keep := fun i h h' st k => st.at fun oi e => k it (by simp) oi e
  item := by
    intro X hP hw hK hc i pins s σ H E I hf st hg
    subst hP hw hK
    obtain ⟨hd, hi⟩ := hg
    obtain ⟨f0, f1, f2, f3, f4, f5⟩ := hf it (by simp)
    obtain ⟨hs, hgd, hx, es', ep', ys, hdt, hsz, rel, he⟩ := frzNK I hd
    obtain ⟨rfl, rfl⟩ := dict_ep hod hdt
    obtain ⟨e, hx1⟩ : ∃ e, xs[i]? = some e := ⟨xs[i], List.getElem?_eq_getElem hi⟩
    obtain ⟨y, hy, ea, eb, er⟩ := rent_at rel hx1
    have hen : es'[i]? = some (entryOfKey (nestedKind X.prog X.w) y) := by
      rw [← Array.getElem?_toList, he, List.getElem?_map, hy]
      rfl
    refine next_key_item st hgd hdt hsz hen fun h' st' sb => ?_
    have I1 : Inv X pins σ H { s with heap := h' } := I.turned (t' := s.toks) (fun b ob hb e => (sb.2 b hb).trans e) f0 f1 f3 f4 f5
    obtain ⟨oi, e2, c, dd⟩ := id st'
    exact ⟨_, rfl, go_of (s := { s with heap := h' }) e2 c dd (by decide) ⟨.ref e.2.1, H, I1, by rw [eb]; rfl, ⟨rfl, e, hx1, rfl⟩, st', fun b hb => (hf b hb).1⟩⟩
  done := by
    intro X hP hw hK hc i pins s σ H E I hf st hg
    subst hP hw hK
    obtain ⟨hd, hi⟩ := hg
    obtain ⟨f0, f1, f2, f3, f4, f5⟩ := hf it (by simp)
    obtain ⟨hs, hgd, hx, es', ep', ys, hdt, hsz, rel, he⟩ := frzNK I hd
    obtain ⟨rfl, rfl⟩ := dict_ep hod hdt
    exact next_key_end (I.ok.hd hc) st hgd hdt hsz hi fun h' eb => ⟨rfl, I.turned (t' := s.toks) (fun b ob hb e => eb b ob hb e) f0 f1 f3 f4 f5⟩
  self := fun A i s Q E st h => by
    refine wpAny_pyIter_slot st.typeIs F.slot_dict_keyiterator_iter (wpAny_call_entry F.slot_dict_keyiterator_iter st.typeIs F.entry_dict_keyiterator_iter ?_ (F.args_dict_keyiterator_iter_1 _))
    show wpAny _ _ (ret (.ref it)) _ _ s
    exact wpAny_pure ⟨_, rfl, "dict_keyiterator", _, st.typeIs, F.slot_dict_keyiterator_next.lookup, h⟩
end
def iKeysMN (P : Program) (w : World) (td : TE) : TI := fun σ H R => td σ H fun x H1 => ∃ d o xs, x = .ref d ∧ H1 d = some (.frz o (NkO P w d xs)) ∧ R (Itnk P w d o xs) H1
section
variable {X : Cx} {tg e : Expr} {td : TE} {apos cpos : Pos}
theorem pi_keysMN (he : PE X e td) (hbase : attributeBase e "keys" X.env (eval e X.env) = eval e X.env := by rfl) (hline : (apos.endLine == cpos.line) = true := by rfl) : PI X tg (.Call (.Attribute e "keys" apos) [] [] cpos) (iKeysMN X.prog X.w td) := by
  refine ⟨fun pins s σ H R I h => ?_⟩
  refine wpAny_Call_method (T := "dict") (id := "dict.keys") hbase rfl hline F.plainAttrs_dict F.slot_dict_keys F.type_dict_keys (thn (he.run pins s σ H _ I h) fun u s1 ⟨x, H1, I1, rx, d, o, xs, ex, hd, q⟩ => ?_)
  subst ex
  obtain rfl : u = Value.ref d := rx
  obtain ⟨hs, hgd, hx, es, ep, ys, hdt, hsz, rel, hes⟩ := frzNK I1 hd
  have raw : s1.heap.DictRaw d es ep := ⟨o, hgd, hx, hdt⟩
  refine ⟨raw.typeIs, ?_, ?_⟩
  · intro b q
    cases q
    exact ⟨o, hgd, hx.2.1⟩
  have I2 : Inv X pins σ H1 { s1 with heap := s1.heap.push { cls := .type "dict_keys", data := .fields #[.ref d] } } := I1.kept (t' := s1.toks) fun b ob q => Heap.get?_push_of_some _ q
  have fin : wpAny (model X.prog X.w) X.A (pyIter (.ref s1.heap.objs.size)) (PIE X pins σ tg R) X.xe { s1 with heap := s1.heap.push { cls := .type "dict_keys", data := .fields #[.ref d] } } := by
    refine wpAny_pyIter_keys_raw (d := d) ⟨_, Heap.get?_push_size _ rfl, rfl, rfl⟩ (raw.push _) (pi_one (tk := s1.toks) I2 _ (turn_keysNK _ hdt) ⟨_, Heap.get?_push_size _ rfl, rfl, ?_⟩ q)
    rw [hsz] <;> rfl
  show wpAny _ _ (callWith cpos (.builtin "dict.keys") [.ref d] [] []) _ X.xe s1
  exact method_meetsIn F.slot_dict_keys F.entry_dict_keys rfl (PySem.evalArgs_none ⟨rfl, raw.typeIs, F.args_dict_keys_1 _, _, meets_dict_keys_raw d hs, ⟨_, _, raw⟩, fin⟩)
end
end KzNk

namespace KdXn
open PySem PySem.Spec PyProof.Rows L2 KdXc
section
variable {P : Program} {w : World} {K : PySem.W.Frag} {mg : Str → Option Value} {base : Heap} {k : Nat} {f : Addr} {fd : FuncData} {ps : List Str} {sp sp' : Sp}
/-- a def that may raise, where it does not -/
theorem fn_still (G : FnOk P w K mg base (L2.CX P w) k f fd ps sp) : FnOk P w K mg base CX0 k f fd ps (fun vs H Q _ => sp vs H Q (fun _ _ _ => False)) :=
  ⟨fun vs H Q E h => G.len vs H Q _ h, fun A outer s H args us vs Q E hr he hb hv hs => codeAny_mono (G.run A outer s H args us vs Q (fun _ _ _ => False) hr he hb hv hs) fun r s' z => by
    cases r with
    | error e =>
      obtain ⟨a, B, H', cls, d, _, _, _, _, _, _, _, z⟩ := z
      exact z
    | ok fl => cases fl <;> exact z⟩
/-- a weaker promise -/
theorem fn_weak {CX : CXT} (G : FnOk P w K mg base CX k f fd ps sp) (h : ∀ vs H Q E, sp' vs H Q E → sp vs H Q E) : FnOk P w K mg base CX k f fd ps sp' :=
  ⟨fun vs H Q E z => G.len vs H Q E (h _ _ _ _ z), fun A outer s H args us vs Q E hr he hb hv hs => G.run A outer s H args us vs Q E hr he hb hv (h _ _ _ _ hs)⟩
end
end KdXn

namespace Kd
open PySem PySem.Spec PyProof.Rows L2 LamX
section
variable {P : Program} {w : World} {K : PySem.W.Frag} {mg : Str → Option Value} {base : Heap} {f : Addr} {fd : FuncData}
/-! ### House.tell, where nothing is refused -/
def spTellK (K : PySem.W.Frag) (c : Cn) : Sp := fun vs H Q _ => ∃ (x pr : Addr) (M : Addr → Prop) (ds : Dims) (ms : List Str) (S : Hs) (r : Rw), vs = [.ref x, .ref pr] ∧ HoO K c H M x ds ms S ∧ r.at K H pr ∧ r.ok ∧ HsOk ds ms S ∧ S.rows.length < 190 ∧ Tabs (tbS c.Pt) H ∧ S.takes ds ms r = true ∧
  ∀ H' M' v, Fr (tbS c.Pt) M H H' → Nw M M' H → HoO K c H' M' x ds ms (S.tell ds r) → Dp K H' v (S.tellD ds r) → Q v H'
theorem tell_calm {c : Cn} {NR NF : Addr} (G : FnOk P w K mg base (L2.CX P w) 8 f fd ["self", "row"] (spTell K c NR NF)) : FnOk P w K mg base CX0 8 f fd ["self", "row"] (spTellK K c) := by
  refine KdXn.fn_weak (KdXn.fn_still G) ?_
  rintro vs H Q E ⟨x, pr, M, ds, ms, S, r, rfl, hx, hp, ok, so, l, tb, tk, k⟩
  refine ⟨x, pr, M, ds, ms, S, r, rfl, hx, hp, ok, so, l, tb, fun hf => ?_, fun name hr hl => ?_, fun _ => k⟩
  · unfold Hs.takes at tk
    rw [hf] at tk
    cases tk
  · unfold Hs.takes at tk
    rw [hr] at tk
    rw [Bool.and_eq_true] at tk
    have h2 : (lk S.facts name).isSome = true := tk.2
    rw [hl] at h2
    cases h2
/-! ### House.versions of a known thing -/
theorem vers_dp {H : Hp} : ∀ {xs : List V} {vs : List Ver}, Paired (VerAt K H) xs vs → DpAll K H xs (vs.map verD1)
  | _, _, .nil => .nil
  | _, _, .cons h t => .cons h.dp (vers_dp t)
def spVersH (K : PySem.W.Frag) (c : Cn) : Sp := fun vs H Q _ => ∃ (x : Addr) (M : Addr → Prop) (ds : Dims) (ms : List Str) (S : Hs) (t : Th) (vers : List Ver), vs = [.ref x, .str t.1, .str t.2] ∧ HoO K c H M x ds ms S ∧ lk S.ts.nums t = some vers ∧
  ∀ l ys H', Same H H' → H l = none → H' l = some (.lst ys) → DpAll K H' ys (vers.map verD1) → Q (.ref l) H'
abbrev N_House_versions : List Str := ["self", "dimension", "key"]
theorem sc_House_versions : FnScope N_House_versions ["self", "dimension", "key"] (defScope s_House_versions) := ⟨rfl, rfl, rfl, by decide +kernel, rfl, by decide +kernel, by decide +kernel⟩
/-! slots: 0 self 1 dimension 2 key; cells:  -/
theorem ok_versH {c : Cn} {fK : Addr} {fdK : FuncData} (F : FnP K "versions" "House.versions" s_House_versions f fd) (TX : HsTxt K c.CH) (TT : ThTxt K c.CT) (mK : MFun P w K mg base c.CT "knows" 1 ["self", "thing"] (spKnows c.CT) fK fdK) (z_list : mg "list" = none) : FnOk P w K mg base CX0 2 f fd ["self", "dimension", "key"] (spVersH K c) := by
  refine F.ok sc_House_versions (fun vs H Q E h => ?_) (fun cdv A outer s H vs Q E hr h => ?_)
  · obtain ⟨x, M, ds, ms, S, t, vers, rfl, _⟩ := h
    rfl
  · obtain ⟨x, M, ds, ms, S, t, vers, rfl, ⟨MT, MS, dx, p, th, kf, tr, wd, fa, wa, rs, rfl, X⟩, hlk, k⟩ := h
    have nd := sc_House_versions.nd
    have hu := hr.units
    have hu1 : (A.deeper (envOfC "House.versions" (defScope s_House_versions) s.heap.objs.size f cdv)).units + 1 < cLine := by omega
    refine ⟨_, PSs.nox (pss_cons (ps_if (pt_not (pt_val (pe_meth (pe_fld (pv 0) rfl) mK.cl mK.m mK.G (hr.mono (by decide)) mK.b .nil pass0 (pa_cons (pe_tup (pa_cons (pv 1) (pa_cons (pv 2) pa_nil))) pa_nil))))
        (pss_one ps_never)
        pss_nil)
      (pss_one (ps_ret (pe_callTy call_list_of (by rfl) z_list (by decide +kernel) (pa_cons (pe_dget hu1 (pe_fld (pe_fld (pv 0) rfl) rfl) (pe_tup (pa_cons (pv 1) (pa_cons (pv 2) pa_nil))) (fun _ _ => rfl)) pa_nil))))), ?_⟩
    obtain ⟨dxt, kd, nb, ka, na, XT⟩ := X.th.x
    have hv : valV (S.ts.nums.map fun e => (thK e.1, V.ref (na e.1))) (thK t) = some (.ref (na t)) := by
      rw [val_map (r := fun t => V.ref (na t)) thK_inj, hlk]
      rfl
    refine ⟨_, rfl, x, c.CH, dx, _, _, rfl, X.hx, TX.cl, TX.nT, hs_things p th kf tr wd, th, dxt, _, rfl, XT.hx, th_no (by decide +kernel) (by decide +kernel) (by decide +kernel) (by decide +kernel), _, rfl, _, rfl, by show 2 ≤ sizeLine; decide, fun r nr => ?_⟩
    generalize e1 : upd H r _ = H1
    obtain ⟨s1, er1⟩ := new_of nr e1
    have X1 := X.same s1
    have XT1x := s1 _ _ XT.hx
    have XT1n := s1 _ _ XT.hn
    refine ⟨th, dxt, p, kd, nb, r, _, t, _, rfl, XT1x, er1, XT1n, _, rfl, ?_⟩
    rw [hv]
    refine iteF0 (by simp) ?_
    refine ⟨_, rfl, x, c.CH, dx, _, _, rfl, X1.hx, TX.cl, TX.nT, hs_things p th kf tr wd, th, c.CT, dxt, _, _, rfl, XT1x, TT.cl, TT.nN, th_num p kd nb _, _, rfl, _, rfl, by show 2 ≤ sizeLine; decide, fun r2 nr2 => ?_⟩
    generalize e2 : upd H1 r2 _ = H2
    obtain ⟨s2, er2⟩ := new_of nr2 e2
    have s02 := s1.trans s2
    refine ⟨nb, _, rfl, .inr ⟨_, thK t, r2, .inl (s2 _ _ XT1n), rfl, er2, hv.symm⟩, ?_⟩
    obtain ⟨_, xs, a2, a3⟩ := XT.vi (t, vers) (lk_mem hlk)
    refine ⟨na t, xs, rfl, .inl (SqL.of (s02 _ _ a2)), fun l nl => ?_⟩
    generalize e3 : upd H2 l _ = H3
    obtain ⟨s3, el3⟩ := new_of nl e3
    have s03 := s02.trans s3
    exact k l xs H3 s03 (s02.free nl) el3 (vers_dp (PySem.Paired.mono (fun _ _ => VerAt.same s03) a3))
end
end Kd

namespace Kd
open PySem PySem.Spec PyProof.Rows L2 LamX
section
variable {P : Program} {w : World} {K : PySem.W.Frag} {mg : Str → Option Value} {base : Heap} {f : Addr} {fd : FuncData}
/-! ### House.keys_of a dimension of the plan -/
def spKeysOf (K : PySem.W.Frag) (c : Cn) : Sp := fun vs H Q _ => ∃ (x : Addr) (M : Addr → Prop) (ds : Dims) (ms : List Str) (S : Hs) (z : Str) (d : Str × List (Str × Str)), vs = [.ref x, .str z] ∧ HoO K c H M x ds ms S ∧ ds.find? (fun d => decide (d.1 = z)) = some d ∧ S.ts.dimN z < 64 ∧ S.ts.nums.length ≤ 3999 ∧
  ∀ l H', Same H H' → H l = none → H' l = some (.lst ((S.keysOf z).map V.str)) → Q (.ref l) H'
abbrev N_House_keys_of : List Str := ["self", "dimension", "name", "key"]
theorem sc_House_keys_of : FnScope N_House_keys_of ["self", "dimension"] (defScope s_House_keys_of) := ⟨rfl, rfl, rfl, by decide +kernel, rfl, by decide +kernel, by decide +kernel⟩
/-! slots: 0 self 1 dimension 2 name 3 key; cells: dimension -/
theorem ok_keysOf {c : Cn} {fA : Addr} {fdA : FuncData} (F : FnP K "keys_of" "House.keys_of" s_House_keys_of f fd) (TX : HsTxt K c.CH) (TT : ThTxt K c.CT) (c_attributes_of : Fun P w K mg base "attributes_of" 2 ["plan", "dimension"] (spAttr K c.CP) fA fdA) (z_sorted : mg "sorted" = none) : FnOk P w K mg base CX0 3 f fd ["self", "dimension"] (spKeysOf K c) := by
  refine F.ok sc_House_keys_of (fun vs H Q E h => ?_) (fun cdv A outer s H vs Q E hr h => ?_)
  · obtain ⟨x, M, ds, ms, S, z, d, rfl, _⟩ := h
    rfl
  · obtain ⟨x, M, ds, ms, S, z, d, rfl, ⟨MT, MS, dx, p, th, kf, tr, wd, fa, wa, rs, rfl, X⟩, hd, l64, lnn, k⟩ := h
    have nd := sc_House_keys_of.nd
    refine ⟨_, PSs.nox (pss_cons (ps_if (pt_cmp (pc_isN (pe_call c_attributes_of.G (hr.mono (by decide)) rfl c_attributes_of.g c_attributes_of.k c_attributes_of.b .nil pass0 (pa_cons (pe_fld (pv 0) rfl) (pa_cons (pv 1) pa_nil)))))
        (pss_one ps_never)
        pss_nil)
      (pss_one (ps_ret (pe_callB cr_sortedS (by rfl) z_sorted (by decide +kernel) (pa_cons (pe_lock (pe_lc (own := [("name", 2), ("key", 3)]) (g := gTup K 2 (gCons (gName 2) (gCons (gName 3) gNil))) (tt := tTest (tOp rEq (tVar 2) (tVar 1))) (te := tVar 3) rfl nd (pi_keys (pe_fld (pe_fld (pv 0) rfl) rfl)) (blkOk_by (own := [("name", 2), ("key", 3)]) (N := N_House_keys_of) (sc := defScope s_House_keys_of) (by decide +kernel))
        (fun _ _ _ _ _ => pg_tup rfl (pgs_cons (pg_name (i := 2) nd rfl (Or.inl rfl)) (pgs_cons (pg_name (i := 3) nd rfl (Or.inl rfl)) pgs_nil))) (fun _ _ _ _ _ => pts_one (pt_cmpR op_eq (pv 2) (pv 1) (nomark _))) (fun _ _ _ _ _ => pv 3))) pa_nil))))), ?_⟩
    refine ⟨_, rfl, x, c.CH, dx, _, _, rfl, X.hx, TX.cl, TX.nP, hs_plan p th kf tr wd, _, rfl, p, z, ds, ms, rfl, X.pl.at, fun d1 q H1 hd1 hq s1 => ?_, fun hn => by rw [hd] at hn; cases hn⟩
    refine ⟨_, rfl, iteF ?_⟩
    have X1 := X.same s1
    obtain ⟨dxt, kd, nb, ka, na, XT⟩ := X1.th.x
    refine ⟨nb, _, XT.hn, trivial, fun od => ?_⟩
    generalize e2 : upd H1 nb _ = H2
    have en2 : H2 nb = some (.frz od (.dT (S.ts.nums.map fun e => (thK e.1, V.ref (na e.1))))) := by rw [← e2]; exact upd_same
    have o2 : ∀ b, b ≠ nb → H2 b = H1 b := fun b hb => by rw [← e2]; exact upd_ne hb
    have nxn : x ≠ nb := ne_of X1.hx XT.hn (fun z => nomatch z)
    have nxt : th ≠ nb := ne_of XT.hx XT.hn (fun z => nomatch z)
    refine ⟨_, rfl, x, c.CH, dx, _, _, rfl, by rw [o2 x nxn]; exact X1.hx, TX.cl, TX.nT, hs_things p th kf tr wd, th, c.CT, dxt, _, _, rfl, by rw [o2 th nxt]; exact XT.hx, TT.cl, TT.nN, th_num p kd nb _, nb, od, rfl, .inr ⟨_, en2, fun D nD => ?_⟩⟩
    refine lc_build (walk_keysT (d := nb) (o := od) (kvs := S.ts.nums.map fun e => (thK e.1, V.ref (na e.1)))) nD (fun i ys R => Same H2 R ∧ ys = (((S.ts.nums.take i).filter fun e => decide (e.1.1 = z)).map fun e => V.str e.1.2)) ⟨Same.refl _, rfl⟩ (fun _ _ _ _ z => (z.1.trans cd_sub) _ _ en2) ?_ ?_
    · rintro i ys y R R' hi e ly ⟨sm, rfl⟩ ⟨rfl, kk, vv, qq, hkv, rfl, hqq⟩
      rw [List.length_map] at hi
      rw [List.getElem?_map] at hkv
      obtain ⟨en, hen, eq⟩ := Option.map_eq_some_iff.mp hkv
      cases eq
      have hqq : R' qq = some (.tup [.str en.1.1, .str en.1.2]) := hqq
      have efl := flt_snoc (p := fun e : Th × List Ver => decide (e.1.1 = z)) hen
      refine ⟨qq, _, rfl, SqT.of hqq, rfl, _, _, rfl, _, _, rfl, rfl, rfl, _, rfl, _, rfl, rfl, _, rfl, ?_⟩
      by_cases q : en.1.1 = z
      · rw [decide_eq_true (by rw [q])]
        refine iteT ⟨_, rfl, LcNx.add e ly (by omega) ⟨sm, ?_⟩⟩
        rw [efl, if_pos (decide_eq_true q), List.map_append]
        rfl
      · rw [decide_eq_false (fun z => q (V.str.inj z))]
        refine iteF (LcNx.skip e ly ⟨sm, ?_⟩)
        rw [efl, if_neg (by rw [decide_eq_false q]; decide), List.append_nil]
    · rintro ys H3 e3 ly ⟨sm, rfl⟩
      rw [List.length_map, List.take_length] at e3
      have s23 : Same H2 H3 := sm.trans cd_sub
      refine ⟨s23 _ _ en2, ?_⟩
      have nDn : D ≠ nb := fun z => by rw [z, en2] at nD; cases nD
      generalize e4 : upd H3 nb _ = H4
      have s14 : Same H1 H4 := fun b o eb => by
        rw [← e4]
        by_cases q : b = nb
        · rw [q] at eb ⊢
          rw [XT.hn] at eb
          rw [upd_same]
          exact eb
        · rw [upd_ne q]
          exact s23 _ _ (by rw [o2 b q]; exact eb)
      have eD4 : H4 D = some (.lst ((S.ts.keysL z).map V.str)) := by
        rw [← e4, upd_ne nDn, e3]
        unfold Ts.keysL
        rw [List.map_map]
        rfl
      refine ⟨D, S.ts.keysL z, rfl, SqL.of eD4, by unfold Ts.keysL; rw [List.length_map]; exact l64, fun ns l hperm hsort nl => ?_⟩
      have ens : ns = S.keysOf z := sorted_eq hperm hsort
      subst ens
      generalize e5 : upd H4 l _ = H5
      obtain ⟨s5, el⟩ := new_of nl e5
      have s05 := (s1.trans s14).trans s5
      exact k l H5 s05 ((s1.trans s14).free nl) el
end
end Kd

namespace Kd
open PySem PySem.Spec PyProof.Rows L2 LamX KzNk
theorem hu9 {A : Around} {k : Nat} (hr : Room k A) : A.units + 9 < cLine := by
  have := hr.un
  omega
/-! ### a dict of all versions: (dimension, key, begin) to (number, end) -/
def nkB (b : Option Int) : NestedKey := match b with
  | none => .none
  | some i => .num i
theorem nkB_inj {a b : Option Int} (h : nkB a = nkB b) : a = b := by
  cases a <;> cases b <;> simp [nkB] at h ⊢
  exact h
def mkM (m : Th × Ver) : NestedKey := .tup [.text m.1.1, .text m.1.2, nkB m.2.b]
theorem mkM_inj {m n : Th × Ver} (h : mkM m = mkM n) : m.1 = n.1 ∧ m.2.b = n.2.b := by
  unfold mkM at h
  injection h with h
  have h1 := List.cons.inj h
  have h2 := List.cons.inj h1.2
  have h3 := List.cons.inj h2.2
  refine ⟨Prod.ext ?_ ?_, nkB_inj h3.1⟩
  · injection h1.1
  · injection h2.1
theorem mkM_of {m n : Th × Ver} (h1 : m.1 = n.1) (h2 : m.2.b = n.2.b) : mkM m = mkM n := by
  unfold mkM
  rw [h1, h2]
theorem nkD_nkB (b : Option Int) : nkD (nkB b) = oD b := by cases b <;> rfl
structure AlAt (P : Program) (w : World) (K : PySem.W.Frag) (H : Hp) (a : Addr) (L : List (Th × Ver)) (xs : List NE) : Prop where
  h : H a = some (NkO P w a xs)
  p : Paired (fun (e : NE) (m : Th × Ver) => e.1 = mkM m ∧ SqT K H e.2.1 [.str m.1.1, .str m.1.2, ovI m.2.b] ∧ ∃ v, e.2.2 = .ref v ∧ SqT K H v [.int m.2.n, ovI m.2.e]) xs L
section
variable {P : Program} {w : World} {K : PySem.W.Frag} {H H' : Hp} {a : Addr} {L : List (Th × Ver)} {xs : List NE}
theorem mk_at {b : Addr} {m : Th × Ver} (h : SqT K H b [.str m.1.1, .str m.1.2, ovI m.2.b]) : KeyAt K H b (mkM m) := by
  refine ⟨.tup h (.cons (.str _) (.cons (.str _) (.cons ?_ .nil))), ?_⟩
  · rw [nkD_nkB]; exact ovI_dp _
  · unfold mkM
    cases m.2.b <;> simp [nkB, NestedKey.depth, NestedKey.depthAll]
theorem AlAt.keys (h : AlAt P w K H a L xs) : ∀ e ∈ xs, KeyAt K H e.2.1 e.1 := by
  have p := h.p
  clear h
  induction p with
  | nil => intro e he; cases he
  | @cons e m es ms q t ih =>
    intro e2 he
    rcases List.mem_cons.mp he with z | z
    · rw [z, q.1]; exact mk_at q.2.1
    · exact ih e2 z
theorem AlAt.nd (h : AlAt P w K H a L xs) : NdA P w K H a xs := ⟨h.h, h.keys⟩
theorem AlAt.len (h : AlAt P w K H a L xs) : xs.length = L.length := Paired.length h.p
theorem al_keep {M : Addr → Prop} {xs : List NE} {L : List (Th × Ver)} (k : Keep M H H') (p : Paired (fun (e : NE) (m : Th × Ver) => e.1 = mkM m ∧ SqT K H e.2.1 [.str m.1.1, .str m.1.2, ovI m.2.b] ∧ ∃ v, e.2.2 = .ref v ∧ SqT K H v [.int m.2.n, ovI m.2.e]) xs L) :
    Paired (fun (e : NE) (m : Th × Ver) => e.1 = mkM m ∧ SqT K H' e.2.1 [.str m.1.1, .str m.1.2, ovI m.2.b] ∧ ∃ v, e.2.2 = .ref v ∧ SqT K H' v [.int m.2.n, ovI m.2.e]) xs L :=
  PySem.Paired.mono (fun _ _ ⟨e1, e2, v, e3, e4⟩ => ⟨e1, k.seqT e2, v, e3, k.seqT e4⟩) p
theorem AlAt.keep {M : Addr → Prop} (h : AlAt P w K H a L xs) (k : Keep M H H') (e : H' a = H a) : AlAt P w K H' a L xs := ⟨e.trans h.h, al_keep k h.p⟩
theorem AlAt.same (h : AlAt P w K H a L xs) (s : Same H H') : AlAt P w K H' a L xs := ⟨s _ _ h.h, al_keep (M := no) (Keep.of s) h.p⟩
theorem nko_noTb {b : Addr} : NoTb (NkO P w b xs) := fun ps z => by cases z
theorem AlAt.fr {T : TB} {N : Addr → Prop} (h : AlAt P w K H a L xs) (f : Fr T N H H') (n : ¬ N a) : AlAt P w K H' a L xs := ⟨f.st _ _ h.h nko_noTb (.inr n), al_keep f.keep0 h.p⟩
theorem nko_notChg {b : Addr} : ¬ Chg (NkO P w b xs) := fun z => z
/-- such a dict changed: the tuples stay -/
theorem keep_nk {o' : HO} (h : H a = some (NkO P w a xs)) : Keep no H (upd H a o') := fun b o e t c => by
  by_cases z : b = a
  · subst z
    rw [h] at e
    cases e
    rcases c with (⟨ys, q⟩ | ⟨u, ys, q⟩) | q
    · cases q
    · cases q
    · exact q.elim
  · rw [upd_ne z]; exact e
theorem al_none (p : Paired (fun (e : NE) (m : Th × Ver) => e.1 = mkM m ∧ SqT K H e.2.1 [.str m.1.1, .str m.1.2, ovI m.2.b] ∧ ∃ v, e.2.2 = .ref v ∧ SqT K H v [.int m.2.n, ovI m.2.e]) xs L) (k : NestedKey) :
    (lk xs k = none ∧ ∀ m ∈ L, mkM m ≠ k) ∨ ∃ b v m, lk xs k = some (b, .ref v) ∧ m ∈ L ∧ mkM m = k ∧ SqT K H v [.int m.2.n, ovI m.2.e] := by
  induction p with
  | nil => exact .inl ⟨rfl, fun m h => by cases h⟩
  | @cons e m es ms q t ih =>
    obtain ⟨e1, e2, v, e3, e4⟩ := q
    by_cases c : e.1 = k
    · refine .inr ⟨e.2.1, v, m, ?_, List.mem_cons_self .., e1.symm.trans c, e4⟩
      rw [lk_pos c, ← e3]
    · rw [lk_neg c]
      rcases ih with ⟨h1, h2⟩ | ⟨b, v, m2, h1, h2, h3⟩
      · refine .inl ⟨h1, fun m2 hm => ?_⟩
        rcases List.mem_cons.mp hm with z | z
        · rw [z]; exact fun q => c (e1.trans q)
        · exact h2 m2 z
      · exact .inr ⟨b, v, m2, h1, List.mem_cons_of_mem _ h2, h3⟩
theorem AlAt.put (h : AlAt P w K H a L xs) {b v : Addr} {m : Th × Ver} (hk : SqT K H b [.str m.1.1, .str m.1.2, ovI m.2.b]) (hv : SqT K H v [.int m.2.n, ovI m.2.e]) (hn : ∀ q ∈ L, mkM q ≠ mkM m) : ∃ xs', putN xs (mkM m) b (.ref v) = xs' ∧ AlAt P w K (upd H a (NkO P w a xs')) a (L ++ [m]) xs' := by
  have e0 : lk xs (mkM m) = none := by
    rcases al_none h.p (mkM m) with ⟨q, _⟩ | ⟨_, _, m2, _, h2, h3, _⟩
    · exact q
    · exact absurd h3 (hn m2 h2)
  have e1 : putN xs (mkM m) b (.ref v) = xs ++ [(mkM m, (b, .ref v))] := by
    unfold putN
    rw [e0]
    rfl
  refine ⟨_, e1, upd_same, ?_⟩
  have k := keep_nk (o' := NkO P w a (xs ++ [(mkM m, (b, .ref v))])) h.h
  exact PySem.Paired.snoc (al_keep k h.p) ⟨rfl, k.seqT hk, v, rfl, k.seqT hv⟩
end
def verL (S : Hs) (t : Th) : List (Th × Ver) := (S.ts.vs t).map fun r => (t, r)
theorem allL_eq (ds : Dims) (S : Hs) : allL ds S = ds.flatMap fun d => (plnK S d).flatMap (verL S) := by
  unfold allL plnL
  rw [List.flatMap_assoc]
  rfl
theorem flat_nd {α β γ : Type} {f : α → List β} {k : β → γ} : ∀ {l : List α}, l.Nodup → (∀ a ∈ l, ((f a).map k).Nodup) → (∀ a ∈ l, ∀ b ∈ l, a ≠ b → ∀ x ∈ f a, ∀ y ∈ f b, k x ≠ k y) → ((l.flatMap f).map k).Nodup
  | [], _, _, _ => List.nodup_nil
  | a :: l, hn, h1, h2 => by
    rw [List.nodup_cons] at hn
    rw [List.flatMap_cons, List.map_append, List.nodup_append]
    refine ⟨h1 a (List.mem_cons_self ..), flat_nd hn.2 (fun b hb => h1 b (List.mem_cons_of_mem _ hb)) (fun x hx y hy => h2 x (List.mem_cons_of_mem _ hx) y (List.mem_cons_of_mem _ hy)), fun x hx y hy e => ?_⟩
    obtain ⟨x1, hx1, rfl⟩ := List.mem_map.mp hx
    obtain ⟨y1, hy1, rfl⟩ := List.mem_map.mp hy
    obtain ⟨b, hb, hy2⟩ := List.mem_flatMap.mp hy1
    exact h2 a (List.mem_cons_self ..) b (List.mem_cons_of_mem _ hb) (fun z => hn.1 (z ▸ hb)) x1 hx1 y1 hy2 e
theorem allL_nodup {ds : Dims} {ms : List Str} {S : Hs} (so : HsOk ds ms S) : ((allL ds S).map mkM).Nodup := by
  unfold allL
  refine flat_nd (plnL_nodup so) (fun t _ => ?_) (fun t _ u _ ne x hx y hy e => ?_)
  · rw [List.map_map]
    have h1 := so.tok.vs_nodup t
    have : (S.ts.vs t).map (mkM ∘ fun r => (t, r)) = ((S.ts.vs t).map (·.b)).map fun b => NestedKey.tup [.text t.1, .text t.2, nkB b] := by
      rw [List.map_map]
      rfl
    rw [this]
    refine List.Pairwise.map (R := fun a b => a ≠ b) _ (fun a b ne q => ne ?_) h1
    injection q with q
    exact nkB_inj (List.cons.inj (List.cons.inj (List.cons.inj q).2).2).1
  · obtain ⟨r, _, rfl⟩ := List.mem_map.mp hx
    obtain ⟨r2, _, rfl⟩ := List.mem_map.mp hy
    exact ne (mkM_inj e).1
theorem pre_not {α β : Type} {k : α → β} {L pre post : List α} {m : α} (hn : (L.map k).Nodup) (e : L = pre ++ m :: post) : ∀ q ∈ pre, k q ≠ k m := by
  rw [e, List.map_append, List.nodup_append] at hn
  exact fun q hq z => hn.2.2 _ (List.mem_map_of_mem hq) (k m) (by rw [List.map_cons]; exact List.mem_cons_self ..) z
theorem fl_split {α β : Type} {f : α → List β} {l : List α} {i : Nat} {d : α} (h : l[i]? = some d) : l.flatMap f = (l.take i).flatMap f ++ (f d ++ (l.drop (i + 1)).flatMap f) := by
  obtain ⟨h1, h2⟩ := List.getElem?_eq_some_iff.mp h
  have e : l = l.take i ++ d :: l.drop (i + 1) := by
    rw [← h2, List.getElem_cons_drop, List.take_append_drop]
  have e2 := congrArg (List.flatMap f) e
  rw [List.flatMap_append, List.flatMap_cons] at e2
  exact e2
theorem ls_split {α : Type} {l : List α} {i : Nat} {d : α} (h : l[i]? = some d) : l = l.take i ++ d :: l.drop (i + 1) := by
  obtain ⟨h1, h2⟩ := List.getElem?_eq_some_iff.mp h
  rw [← h2, List.getElem_cons_drop, List.take_append_drop]
theorem fl_take {α β : Type} {f : α → List β} {l : List α} {i : Nat} {d : α} (h : l[i]? = some d) : (l.take (i + 1)).flatMap f = (l.take i).flatMap f ++ f d := by
  obtain ⟨g1, g2⟩ := List.getElem?_eq_some_iff.mp h
  rw [List.take_succ_eq_append_getElem g1, g2, List.flatMap_append, List.flatMap_cons, List.flatMap_nil, List.append_nil]
theorem allL_len {ds : Dims} {ms : List Str} {S : Hs} (so : HsOk ds ms S) (h : S.rows.length < 64) : (allL ds S).length ≤ 64 * 64 * 4 := by
  have dn64 : ∀ z, S.ts.dimN z < 64 := fun z => by have := so.nd z; omega
  have h1 := plnL_len (ds := ds) dn64
  have h2 := so.d4
  unfold allL
  rw [flat_lenM]
  have h3 : ∀ l : List Th, (l.map fun t => ((S.ts.vs t).map fun r => (t, r)).length).sum ≤ 64 * l.length := fun l => by
    induction l with
    | nil => exact Nat.zero_le _
    | cons t l ih =>
      rw [List.map_cons, List.sum_cons, List.length_cons, List.length_map]
      have := so.tok.vs_le t
      omega
  have := h3 (plnL ds S)
  omega
section
variable {P : Program} {w : World} {K : PySem.W.Frag} {mg : Str → Option Value} {base : Heap} {f : Addr} {fd : FuncData}
/-! ### _law_all -/
theorem ver_at4 {H : Hp} {y : V} {r : Ver} (h : Dp K H y (verD1 r)) : ∃ q v, y = .ref q ∧ SqT K H q [.int r.n, ovI r.b, ovI r.e, v] := by
  unfold verD1 at h
  cases h with
  | tup h1 h2 =>
    cases h2 with
    | cons a1 h2 =>
      cases h2 with
      | cons a2 h2 =>
        cases h2 with
        | cons a3 h2 =>
          cases h2 with
          | cons a4 h2 =>
            cases h2
            cases a1
            have e2 := dp_ovI a2
            have e3 := dp_ovI a3
            rw [e2, e3] at h1
            exact ⟨_, _, rfl, h1⟩
def spWall (P : Program) (w : World) (K : PySem.W.Frag) (c : Cn) : Sp := fun vs H Q _ => ∃ (x pp lo mo : Addr) (M : Addr → Prop) (ds : Dims) (ms : List Str) (S : Hs), vs = [.ref x, .ref pp] ∧ HoO K c H M x ds ms S ∧ HsOk ds ms S ∧ S.rows.length < 64 ∧ SqT K H pp [.ref lo, .ref mo] ∧ DimsAt K H lo ds ∧
  ∀ H' a xs, Same H H' → H a = none → AlAt P w K H' a (allL ds S) xs → Q (.ref a) H'
abbrev N_l_all : List Str := ["house", "plan", "found", "dim", "some", "key", "number", "begin", "end", "values"]
theorem sc_l_all : FnScope N_l_all ["house", "plan"] (defScope s_l_all) := ⟨rfl, rfl, rfl, by decide +kernel, rfl, by decide +kernel, by decide +kernel⟩
/-! slots: 0 house 1 plan 2 found 3 dim 4 some 5 key 6 number 7 begin 8 end 9 values; cells:  -/
set_option maxHeartbeats 0 in
theorem ok_wall {c : Cn} {m1 m2 : Addr} {e1 e2 : FuncData} (F : FnP K "_law_all" "_law_all" s_l_all f fd) (mKe : MFun P w K mg base c.CH "keys_of" 3 ["self", "dimension"] (spKeysOf K c) m1 e1) (mVe : MFun P w K mg base c.CH "versions" 2 ["self", "dimension", "key"] (spVersH K c) m2 e2) : FnOk P w K mg base CX0 4 f fd ["house", "plan"] (spWall P w K c) := by
  refine F.ok sc_l_all (fun vs H Q E h => ?_) (fun cdv A outer s H vs Q E hr h => ?_)
  · obtain ⟨x, pp, lo, mo, M, ds, ms, S, rfl, _⟩ := h
    rfl
  · obtain ⟨x, pp, lo, mo, M, ds, ms, S, rfl, hx, so, n64, hpp, ⟨xs, hlo, pxs⟩, k⟩ := h
    have nd := sc_l_all.nd
    have hu := hr.units
    have hu1 : (A.deeper (envOfC "_law_all" (defScope s_l_all) s.heap.objs.size f cdv)).units + 1 < cLine := by omega
    refine ⟨_, PSs.nox (pss_cons (ps_set (i := 2) nd rfl (Or.inl rfl) KzNk.pe_nknew)
      (pss_cons (ps_for PassesOwn.never rfl (pi_list (pe_ix ix_tup (pv 1) pe_int (fun _ _ => rfl))) (pg_tup rfl (pgs_cons (pg_name (i := 3) nd rfl (Or.inl rfl)) (pgs_cons (pg_name (i := 4) nd rfl (Or.inl rfl)) pgs_nil)))
        (pss_one (ps_for PassesOwn.never rfl (pi_list (pe_meth (pv 0) mKe.cl mKe.m mKe.G (hr.mono (by decide)) mKe.b .nil pass0 (pa_cons (pv 3) pa_nil))) (pg_name (i := 5) nd rfl (Or.inl rfl))
          (pss_one (ps_for PassesOwn.never rfl (pi_list (pe_meth (pv 0) mVe.cl mVe.m mVe.G (hr.mono (by decide)) mVe.b .nil pass0 (pa_cons (pv 3) (pa_cons (pv 5) pa_nil)))) (pg_tup rfl (pgs_cons (pg_name (i := 6) nd rfl (Or.inl rfl)) (pgs_cons (pg_name (i := 7) nd rfl (Or.inl rfl)) (pgs_cons (pg_name (i := 8) nd rfl (Or.inl rfl)) (pgs_cons (pg_name (i := 9) nd rfl (Or.inl rfl)) pgs_nil)))))
            (pss_one (KzNk.ps_nkput (hu9 hr) (pv 2) (pe_tup (pa_cons (pv 3) (pa_cons (pv 5) (pa_cons (pv 7) pa_nil)))) (pe_tup (pa_cons (pv 6) (pa_cons (pv 8) pa_nil))) rfl)))))))
      (pss_one (ps_ret (pv 2))))), ?_⟩
    obtain ⟨MT, MS, dx, p, th, kf, tr, wd, fa, wa, rs, rfl, X⟩ := id hx
    have dn64 : ∀ z, S.ts.dimN z < 64 := fun z => by have := so.nd z; omega
    have hnn : S.ts.nums.length ≤ 3999 := by have := so.tok.nl; omega
    have hall0 := allL_eq ds S
    have hnod := allL_nodup so
    have hlen := allL_len so n64
    intro F nF
    refine set_sl (σ' := [some (.ref x), some (.ref pp), some (.ref F), none, none, none, none, none, none, none]) rfl ?_
    generalize e0 : upd H F _ = H0
    obtain ⟨s0, eF⟩ := new_of nF e0
    refine ⟨_, rfl, pp, _, 0, _, rfl, rfl, Same.seqT s0 hpp, atI_nat (j := 0) rfl, ?_⟩
    refine ⟨lo, rfl, ⟨_, Same.seq s0 hlo⟩, ?_⟩
    refine for_list (K := K) (a := lo) (xs := xs) (fun i σ R => ∃ (ns : List NE) (y3 y4 y5 y6 y7 y8 y9 : Option V), σ = [some (.ref x), some (.ref pp), some (.ref F), y3, y4, y5, y6, y7, y8, y9] ∧ Same H R ∧ AlAt P w K R F ((ds.take i).flatMap fun d => (plnK S d).flatMap (verL S)) ns)
      ⟨[], _, _, _, _, _, _, _, rfl, s0, ⟨eF, .nil⟩⟩ (fun _ _ _ _ ⟨_, _, _, _, _, _, _, _, _, z, _⟩ => Same.seq z hlo) ?_ ?_
    · rintro i z σ R hz ⟨ns, y3, y4, y5, y6, y7, y8, y9, rfl, sR, hF⟩
      obtain ⟨d, hd, pq, qq, rfl, a1, a2⟩ := paired_at pxs hz
      have hdm := List.mem_of_getElem? hd
      have sp1 := fl_split (f := fun d => (plnK S d).flatMap (verL S)) hd
      refine ⟨pq, _, rfl, Same.seqT sR a1, rfl, _, _, rfl, _, _, rfl, rfl, ?_⟩
      refine sl_eq (σ' := [some (.ref x), some (.ref pp), some (.ref F), some (.str d.1), some (.ref qq), y5, y6, y7, y8, y9]) rfl ?_
      refine ⟨_, rfl, x, dx, _, rfl, sR _ _ X.hx, hs_no (by decide +kernel), _, rfl, x, _, ds, ms, S, d.1, d, rfl, hx.same sR, find_dim so.dn hdm, dn64 _, hnn, fun l9 R1 s1' n9 e9 => ?_⟩
      have sR1 := sR.trans s1'
      refine ⟨l9, rfl, ⟨_, SqL.of e9⟩, ?_⟩
      have hplen : (plnK S d).length = (S.keysOf d.1).length := by unfold plnK; rw [List.length_map]
      refine for_list (K := K) (a := l9) (xs := (S.keysOf d.1).map V.str) (fun j σ R => ∃ (ns : List NE) (y5 y6 y7 y8 y9 : Option V), σ = [some (.ref x), some (.ref pp), some (.ref F), some (.str d.1), some (.ref qq), y5, y6, y7, y8, y9] ∧ Same H R ∧ R l9 = some (.lst ((S.keysOf d.1).map V.str)) ∧ AlAt P w K R F (((ds.take i).flatMap fun d => (plnK S d).flatMap (verL S)) ++ ((plnK S d).take j).flatMap (verL S)) ns)
        ⟨ns, _, _, _, _, _, rfl, sR1, e9, by rw [List.take_zero, List.flatMap_nil, List.append_nil]; exact hF.same s1'⟩ (fun _ _ _ _ ⟨_, _, _, _, _, _, _, _, z, _⟩ => SqL.of z) ?_ ?_
      · rintro j z σ R4 hj ⟨ns, y5, y6, y7, y8, y9, rfl, sR4, hl9, hF4⟩
        obtain ⟨key, rfl, hkey⟩ := strs_at hj
        have htk : (plnK S d)[j]? = some (d.1, key) := by unfold plnK; rw [List.getElem?_map, hkey]; rfl
        have hkn := (mem_plnK.mp (List.mem_of_getElem? htk)).2
        obtain ⟨vers, hlk⟩ := isSome_ex hkn
        have hvs : S.ts.vs (d.1, key) = vers := by unfold Ts.vs; rw [hlk]; rfl
        have sp2 := fl_split (f := verL S) htk
        refine set_sl (σ' := [some (.ref x), some (.ref pp), some (.ref F), some (.str d.1), some (.ref qq), some (.str key), y6, y7, y8, y9]) rfl ?_
        refine ⟨_, rfl, x, dx, _, rfl, sR4 _ _ X.hx, hs_no (by decide +kernel), _, rfl, _, rfl, x, _, ds, ms, S, (d.1, key), vers, rfl, hx.same sR4, hlk, fun l12 ys12 R5 s5 n12 e12 dp12 => ?_⟩
        have hyl : ys12.length = vers.length := by have := Kd.DpAll.len dp12; rw [List.length_map] at this; exact this
        have sR5 := sR4.trans s5
        refine ⟨l12, rfl, ⟨_, SqL.of e12⟩, ?_⟩
        refine for_list (K := K) (a := l12) (xs := ys12) (fun l σ R => ∃ (ns : List NE) (y6 y7 y8 y9 : Option V), σ = [some (.ref x), some (.ref pp), some (.ref F), some (.str d.1), some (.ref qq), some (.str key), y6, y7, y8, y9] ∧ Same H R ∧ R l9 = some (.lst ((S.keysOf d.1).map V.str)) ∧ R l12 = some (.lst ys12) ∧ Keep no R5 R ∧ AlAt P w K R F ((((ds.take i).flatMap fun d => (plnK S d).flatMap (verL S)) ++ ((plnK S d).take j).flatMap (verL S)) ++ (vers.take l).map fun r => ((d.1, key), r)) ns)
          ⟨ns, _, _, _, _, rfl, sR5, s5 _ _ hl9, e12, Keep.refl, by rw [List.take_zero, List.map_nil, List.append_nil]; exact hF4.same s5⟩ (fun _ _ _ _ ⟨_, _, _, _, _, _, _, _, z, _⟩ => SqL.of z) ?_ ?_
        · rintro l y σ R6 hy ⟨ns, y6, y7, y8, y9, rfl, sR6, hl9', hl12, k6, hF6⟩
          obtain ⟨dd, hdd, hdp⟩ := Kd.DpAll.at_ dp12 hy
          rw [List.getElem?_map] at hdd
          obtain ⟨r, hr1, rfl⟩ := Option.map_eq_some_iff.mp hdd
          obtain ⟨q, v4, rfl, hq⟩ := ver_at4 hdp
          refine ⟨q, _, rfl, k6.seqT hq, rfl, _, _, rfl, _, _, rfl, _, _, rfl, _, _, rfl, rfl, ?_⟩
          refine sl_eq (σ' := [some (.ref x), some (.ref pp), some (.ref F), some (.str d.1), some (.ref qq), some (.str key), some (.int r.n), some (ovI r.b), some (ovI r.e), some v4]) rfl ?_
          refine ⟨_, rfl, _, rfl, by show 2 ≤ sizeLine; decide, fun tv nv => ?_⟩
          generalize e7 : upd R6 tv _ = R7
          obtain ⟨s7, etv⟩ := new_of nv e7
          refine ⟨_, rfl, _, rfl, _, rfl, _, rfl, by show 3 ≤ sizeLine; decide, fun tk nk => ?_⟩
          generalize e8 : upd R7 tk _ = R8
          obtain ⟨s8, etk⟩ := new_of nk e8
          have A8 := (hF6.same s7).same s8
          have sp3 : verL S (d.1, key) = (vers.take l).map (fun r => ((d.1, key), r)) ++ (((d.1, key), r) :: (vers.drop (l + 1)).map fun r => ((d.1, key), r)) := by
            unfold verL
            rw [hvs]
            have := congrArg (List.map fun r => (((d.1, key), r) : Th × Ver)) (ls_split hr1)
            rw [List.map_append, List.map_cons] at this
            exact this
          have eL : allL ds S = (((ds.take i).flatMap fun d => (plnK S d).flatMap (verL S)) ++ ((plnK S d).take j).flatMap (verL S) ++ (vers.take l).map fun r => ((d.1, key), r)) ++ ((d.1, key), r) :: ((vers.drop (l + 1)).map (fun r => ((d.1, key), r)) ++ (((plnK S d).drop (j + 1)).flatMap (verL S) ++ (ds.drop (i + 1)).flatMap fun d => (plnK S d).flatMap (verL S))) := by
            rw [hall0, sp1, sp2, sp3]
            simp only [List.append_assoc, List.cons_append]
          have hno := pre_not hnod eL
          have hle : ns.length < sizeLine := by
            rw [hF6.len]
            have h1 := congrArg List.length eL
            rw [List.length_append, List.length_cons] at h1
            have : 64 * 64 * 4 < sizeLine := by decide
            omega
          obtain ⟨ns', e9, A9⟩ := A8.put (m := ((d.1, key), r)) (b := tk) (v := tv) (SqT.of etk) (SqT.of (s8 _ _ etv)) hno
          refine ⟨F, tk, ns, mkM ((d.1, key), r), rfl, rfl, A8.nd, mk_at (SqT.of etk), hle, ?_⟩
          rw [e9]
          have kk := keep_nk (o' := NkO P w F ns') A8.h
          refine ⟨ns', _, _, _, _, rfl, ?_, ?_, ?_, (k6.trans (Keep.of (s7.trans s8))).trans kk, ?_⟩
          · intro b o eb
            have hb : b ≠ F := fun z => by rw [z, nF] at eb; cases eb
            rw [upd_ne hb]
            exact s8 _ _ (s7 _ _ (sR6 _ _ eb))
          · rw [upd_ne (fun z => by rw [z, hF6.h] at hl9'; cases hl9')]
            exact s8 _ _ (s7 _ _ hl9')
          · rw [upd_ne (fun z => by rw [z, hF6.h] at hl12; cases hl12)]
            exact s8 _ _ (s7 _ _ hl12)
          · obtain ⟨g1, g2⟩ := List.getElem?_eq_some_iff.mp hr1
            rw [List.take_succ_eq_append_getElem g1, g2, List.map_append, ← List.append_assoc]
            exact A9
        · rintro σ R6 ⟨ns, y6, y7, y8, y9, rfl, sR6, hl9', hl12, k6, hF6⟩
          refine ⟨ns, _, _, _, _, _, rfl, sR6, hl9', ?_⟩
          rw [hyl, List.take_length] at hF6
          rw [fl_take htk, ← List.append_assoc]
          unfold verL at hF6 ⊢
          rw [hvs]
          exact hF6
      · rintro σ R4 ⟨ns, y5, y6, y7, y8, y9, rfl, sR4, hl9, hF4⟩
        rw [List.length_map, ← hplen, List.take_length] at hF4
        exact ⟨ns, _, _, _, _, _, _, _, rfl, sR4, by rw [fl_take hd]; exact hF4⟩
    · rintro σ R ⟨ns, y3, y4, y5, y6, y7, y8, y9, rfl, sR, hF⟩
      rw [pxs.length, List.take_length, ← hall0] at hF
      exact ⟨_, rfl, k R F ns sR nF hF⟩
end
end Kd

namespace Kd
open PySem PySem.Spec PyProof.Rows L2 LamX
section
variable {P : Program} {w : World} {K : PySem.W.Frag} {mg : Str → Option Value} {base : Heap} {f : Addr} {fd : FuncData}
/-! ### _law_house, no watches -/
theorem Fresh.from6 {H H' : Hp} {b : Addr} (s : Same H H') (h : Fresh H' b) : Fresh H b := fun o e => h o (s b o e)
theorem notF6 {H : Hp} {b : Addr} {L : List V} (e : H b = some (.lst L)) : ¬ Fresh H b := fun z => z _ e (fun _ q => nomatch q)
def spHouse6 (K : PySem.W.Frag) (c : Cn) : Sp := fun vs H Q _ => ∃ (pp lo mo wl : Addr) (ds : Dims) (ms : List Str), vs = [.ref pp, .ref wl] ∧ SqT K H pp [.ref lo, .ref mo] ∧ DimsAt K H lo ds ∧ SqL K H mo (ms.map V.str) ∧ Good ds ms ∧ H wl = some (.lst []) ∧ Tabs (tbS c.Pt) H ∧
  ∀ H' x M, Fr (tbS c.Pt) (Fresh H) H H' → (∀ b, M b → Fresh H b) → HoO K c H' M x ds ms Hs.none → Q (.ref x) H'
abbrev N_l_house : List Str := ["plan", "watches", "house", "name", "groups", "measure_of"]
theorem sc_l_house : FnScope N_l_house ["plan", "watches"] (defScope s_l_house) := ⟨rfl, rfl, rfl, by decide +kernel, rfl, by decide +kernel, by decide +kernel⟩
/-! slots: 0 plan 1 watches 2 house 3 name 4 groups 5 measure_of; cells:  -/
set_option maxHeartbeats 0 in
theorem ok_house6 {c : Cn} {e fI fH : Addr} {fdI fdH : FuncData} (F : FnP K "_law_house" "_law_house" s_l_house f fd) (PC : PlanC P w K mg base c.CP e fI fdI) (HC : ClsC P w K mg base "House" 7 ["self", "plan"] (spHInit K c) c.CH fH fdH) : FnOk P w K mg base CX0 9 f fd ["plan", "watches"] (spHouse6 K c) := by
  obtain ⟨i3, v3, b3⟩ := init_b3 PC.I
  refine F.ok sc_l_house (fun vs H Q E h => ?_) (fun cdv A outer s H vs Q E hr h => ?_)
  · obtain ⟨pp, lo, mo, wl, ds, ms, rfl, _⟩ := h
    rfl
  · obtain ⟨pp, lo, mo, wl, ds, ms, rfl, hpp, ⟨xs, q1, q2⟩, hm3, ok, hwl, hTb, k⟩ := h
    have nd := sc_l_house.nd
    refine ⟨_, PSs.nox (pss_cons (ps_set (i := 2) nd rfl (Or.inl rfl) (pe_make HC.M HC.G (hr.mono (by decide)) rfl HC.g HC.b .nil pass0 (pa_cons (pe_make PC.M PC.GI (hr.mono (by decide)) rfl PC.gC b3 v3 pass0 (pa_cons (pe_ix ix_tup (pv 0) pe_int (fun _ _ => rfl)) (pa_cons (pe_ix ix_tup (pv 0) pe_int (fun _ _ => rfl)) pa_nil))) pa_nil)))
      (pss_cons (ps_for PassesOwn.never rfl (pi_list (pv 1)) (pg_tup rfl (pgs_cons (pg_name (i := 3) nd rfl (Or.inl rfl)) (pgs_cons (pg_name (i := 4) nd rfl (Or.inl rfl)) (pgs_cons (pg_name (i := 5) nd rfl (Or.inl rfl)) pgs_nil))))
        (pss_one ps_never))
      (pss_one (ps_ret (pv 2))))), ?_⟩
    refine ⟨_, rfl, pp, _, 0, _, rfl, rfl, hpp, atI_nat (j := 0) rfl, _, rfl, pp, _, 1, _, rfl, rfl, hpp, atI_nat (j := 1) rfl, fun xp dxp nxp ndxp nexp => ?_⟩
    have sx : Same H (upd (upd H dxp (.own xp)) xp (.ins c.CP dxp [])) := fun b o q => by rw [upd_ne (ne_of_none q nxp), upd_ne (ne_of_none q ndxp)]; exact q
    refine ⟨xp, dxp, lo, mo, ds, ms, rfl, upd_same, ⟨xs, Same.seq sx q1, PySem.Paired.mono (fun _ _ h => DimAt.same sx h) q2⟩, .inl (Same.seq sx hm3), ok.szd, ok.ff, fun H9 pa pb px npa npb e1 e2 e3 e4 s9 => ⟨rfl, ?_⟩⟩
    have s89 : Same H H9 := fun b o e => cd_sub _ _ (s9 b o (cd_of (sx b o e) (ne_of_none e nxp)))
    have P9 : PlanAt K c.CP H9 xp ds ms := ⟨dxp, pa, pb, px, e1, e2, e3, e4⟩
    intro xh dxh nx ndx nex
    have sy : Same H9 (upd (upd H9 dxh (.own xh)) xh (.ins c.CH dxh [])) := fun b o q => by rw [upd_ne (ne_of_none q nx), upd_ne (ne_of_none q ndx)]; exact q
    refine ⟨xh, dxh, xp, ds, ms, rfl, upd_same, P9.same sy, ok.szd, ok.ff, fun G M f10 m10 O => ⟨rfl, ?_⟩⟩
    have xhF : Fresh H xh := (Fresh.of nx).from6 s89
    have g10 : Fr (tbS c.Pt) (Fresh H) H G := ((Fr.of (s89.trans sy)).trans f10).mono (fun b z => by rw [z]; exact xhF)
    have mF : ∀ b, M b → Fresh H b := fun b hb => by
      rcases m10 b hb with z | z
      · rw [z]; exact xhF
      · exact z.from6 (s89.trans sy)
    refine set_sl (σ' := [some (.ref pp), some (.ref wl), some (.ref xh), none, none, none]) rfl ?_
    have gw := g10.at hwl trivial (notF6 hwl)
    refine ⟨_, rfl, wl, rfl, ⟨_, SqL.of gw⟩, ?_⟩
    refine for_list (K := K) (a := wl) (xs := []) (fun i σ R => σ = [some (.ref pp), some (.ref wl), some (.ref xh), none, none, none] ∧ R = G) ⟨rfl, rfl⟩ (fun _ _ _ _ ⟨_, z⟩ => by rw [z]; exact SqL.of gw) ?_ ?_
    · rintro i y σ R hy _
      simp at hy
    · rintro σ R ⟨rfl, rfl⟩
      exact ⟨_, rfl, k R xh M g10 mF O⟩
/-! ### conditions read once -/
theorem and_byT {t u : TT} {σ : L2.St} {H : Hp} {Q : Bool → Hp → Prop} {b1 b2 : Bool} (h1 : ∀ Q : Bool → Hp → Prop, Q b1 H → t σ H Q) (h2 : ∀ Q : Bool → Hp → Prop, Q b2 H → u σ H Q) (k : Q (b1 && b2) H) : tAnd t u σ H Q := h1 _ (by
  cases b1 with
  | false => exact k
  | true => exact h2 _ k)
theorem beg_by {σ : L2.St} {H : Hp} {i j : Nat} {day : Int} {b : Option Int} (e : σ[i]? = some (some (ovI b))) (e2 : σ[j]? = some (some (.int day))) {Q : Bool → Hp → Prop} (k : Q (begB day b) H) : tOr (tB (tIsN (tVar i))) (tTest (tOp (rI0 fun i j => .bl (decide (i ≤ j))) (tVar i) (tVar j))) σ H Q := by
  cases b with
  | none => exact ⟨_, e, _, rfl, iteT0 (by simp [ovI]) k⟩
  | some b => exact ⟨_, e, _, rfl, iteF0 (by simp [ovI]) ⟨_, e, _, e2, _, _, rfl, rfl, _, rfl, k⟩⟩
theorem end_by {σ : L2.St} {H : Hp} {i j : Nat} {day : Int} {b : Option Int} (e : σ[i]? = some (some (ovI b))) (e2 : σ[j]? = some (some (.int day))) {Q : Bool → Hp → Prop} (k : Q (endB day b) H) : tOr (tB (tIsN (tVar i))) (tTest (tOp (rI0 fun i j => .bl (decide (i < j))) (tVar j) (tVar i))) σ H Q := by
  cases b with
  | none => exact ⟨_, e, _, rfl, iteT0 (by simp [ovI]) k⟩
  | some b => exact ⟨_, e, _, rfl, iteF0 (by simp [ovI]) ⟨_, e2, _, e, _, _, rfl, rfl, _, rfl, k⟩⟩
theorem vr_at {H : Hp} {ys : List V} {vers : List Ver} (dp : DpAll K H ys (vers.map verD1)) {j : Nat} {r : Ver} (h : vers[j]? = some r) : ∃ q v, ys[j]? = some (.ref q) ∧ SqT K H q [.int r.n, ovI r.b, ovI r.e, v] := by
  have hl : ys.length = vers.length := by have := Kd.DpAll.len dp; rw [List.length_map] at this; exact this
  have hj := (List.getElem?_eq_some_iff.mp h).1
  have hy : ys[j]? = some (ys[j]'(by omega)) := List.getElem?_eq_getElem (by omega)
  obtain ⟨dd, hdd, hdp⟩ := Kd.DpAll.at_ dp hy
  rw [List.getElem?_map, h] at hdd
  cases hdd
  obtain ⟨q, v, e, hq⟩ := ver_at4 hdp
  exact ⟨q, v, by rw [hy, e], hq⟩
theorem atI_m1 {α : Type} {xs : List α} {v : α} (h : xs[xs.length - 1]? = some v) : atI xs (-1) = some v := by
  have hl := (List.getElem?_eq_some_iff.mp h).1
  have e : xs = xs.take (xs.length - 1) ++ [v] := by
    have := ls_split h
    rw [show xs.length - 1 + 1 = xs.length by omega, List.drop_length] at this
    exact this
  rw [e]
  exact atI_last _ v
/-! ### _law_meets -/
def spWmeets (K : PySem.W.Frag) (c : Cn) : Sp := fun vs H Q _ => ∃ (x pp lo mo : Addr) (M : Addr → Prop) (ds : Dims) (ms : List Str) (S : Hs), vs = [.ref x, .ref pp] ∧ HoO K c H M x ds ms S ∧ HsOk ds ms S ∧ S.rows.length < 64 ∧ SqT K H pp [.ref lo, .ref mo] ∧ DimsAt K H lo ds ∧
  ∀ H', Same H H' → Q (.bl true) H'
abbrev N_l_meets : List Str := ["house", "plan", "dim", "some", "key", "line", "k"]
theorem sc_l_meets : FnScope N_l_meets ["house", "plan"] (defScope s_l_meets) := ⟨rfl, rfl, rfl, by decide +kernel, rfl, by decide +kernel, by decide +kernel⟩
/-! slots: 0 house 1 plan 2 dim 3 some 4 key 5 line 6 k; cells:  -/
set_option maxHeartbeats 0 in
theorem ok_wmeets {c : Cn} {m1 m2 : Addr} {e1 e2 : FuncData} (F : FnP K "_law_meets" "_law_meets" s_l_meets f fd) (mKe : MFun P w K mg base c.CH "keys_of" 3 ["self", "dimension"] (spKeysOf K c) m1 e1) (mVe : MFun P w K mg base c.CH "versions" 2 ["self", "dimension", "key"] (spVersH K c) m2 e2) (z_range : mg "range" = none) (z_len : mg "len" = none) : FnOk P w K mg base CX0 4 f fd ["house", "plan"] (spWmeets K c) := by
  refine F.ok sc_l_meets (fun vs H Q E h => ?_) (fun cdv A outer s H vs Q E hr h => ?_)
  · obtain ⟨x, pp, lo, mo, M, ds, ms, S, rfl, _⟩ := h
    rfl
  · obtain ⟨x, pp, lo, mo, M, ds, ms, S, rfl, hx, so, n64, hpp, ⟨xs, hlo, pxs⟩, k⟩ := h
    have nd := sc_l_meets.nd
    refine ⟨_, PSs.nox (pss_cons (ps_for PassesOwn.never rfl (pi_list (pe_ix ix_tup (pv 1) pe_int (fun _ _ => rfl))) (pg_tup rfl (pgs_cons (pg_name (i := 2) nd rfl (Or.inl rfl)) (pgs_cons (pg_name (i := 3) nd rfl (Or.inl rfl)) pgs_nil)))
        (pss_one (ps_for PassesOwn.never rfl (pi_list (pe_meth (pv 0) mKe.cl mKe.m mKe.G (hr.mono (by decide)) mKe.b .nil pass0 (pa_cons (pv 2) pa_nil))) (pg_name (i := 4) nd rfl (Or.inl rfl))
          (pss_cons (ps_set (i := 5) nd rfl (Or.inl rfl) (pe_meth (pv 0) mVe.cl mVe.m mVe.G (hr.mono (by decide)) mVe.b .nil pass0 (pa_cons (pv 2) (pa_cons (pv 4) pa_nil))))
          (pss_cons (ps_if (PW.pt (pw_or (pt_cmp (pc_notN (pe_ix ix_tup (pe_ix ix_list (pv 5) pe_int (fun _ _ => rfl)) pe_int (fun _ _ => rfl)))) (pw_or1 (pt_cmp (pc_notN (pe_ix ix_tup (pe_ix ix_list (pv 5) (pe_un un_neg pe_int) (fun _ _ => rfl)) pe_int (fun _ _ => rfl)))))))
            (pss_one (ps_ret pe_bl))
            pss_nil)
          (pss_one (ps_for PassesOwn.never rfl (pi_range2 rfl z_range (pa_cons pe_int (pa_cons (pe_callB call_len_seq (by rfl) z_len boot_len (pa_cons (pv 5) pa_nil)) pa_nil))) (pg_name (i := 6) nd rfl (Or.inl rfl))
            (pss_one (ps_if (PW.pt (pw_or (pt_cmpR op_ne (pe_ix ix_tup (pe_ix ix_list (pv 5) (pv 6) (fun _ _ => rfl)) pe_int (fun _ _ => rfl)) (pe_ix ix_tup (pe_ix ix_list (pv 5) (pe_op op_sub (pv 6) pe_int) (fun _ _ => rfl)) pe_int (fun _ _ => rfl)) (nomark _)) (pw_or1 (PW.pt (pw_and (pt_cmpR op_gt (pv 6) pe_int (nomark _)) (pw_and1 (pt_cmpR op_ge (pe_ix ix_tup (pe_ix ix_list (pv 5) (pe_op op_sub (pv 6) pe_int) (fun _ _ => rfl)) pe_int (fun _ _ => rfl)) (pe_ix ix_tup (pe_ix ix_list (pv 5) (pv 6) (fun _ _ => rfl)) pe_int (fun _ _ => rfl)) (nomark _))))))))
              (pss_one (ps_ret pe_bl))
              pss_nil)))))))))
      (pss_one (ps_ret pe_bl))), ?_⟩
    obtain ⟨MT, MS, dx, p, th, kf, tr, wd, fa, wa, rs, rfl, X⟩ := id hx
    have dn64 : ∀ z, S.ts.dimN z < 64 := fun z => by have := so.nd z; omega
    have hnn : S.ts.nums.length ≤ 3999 := by have := so.tok.nl; omega
    refine ⟨_, rfl, pp, _, 0, _, rfl, rfl, hpp, atI_nat (j := 0) rfl, ?_⟩
    refine ⟨lo, rfl, ⟨_, hlo⟩, ?_⟩
    refine for_list (K := K) (a := lo) (xs := xs) (fun i σ R => ∃ (y2 y3 y4 y5 y6 : Option V), σ = [some (.ref x), some (.ref pp), y2, y3, y4, y5, y6] ∧ Same H R)
      ⟨_, _, _, _, _, rfl, Same.refl _⟩ (fun _ _ _ _ ⟨_, _, _, _, _, _, z⟩ => Same.seq z hlo) ?_ ?_
    · rintro i z σ R hz ⟨y2, y3, y4, y5, y6, rfl, sR⟩
      obtain ⟨d, hd, pq, qq, rfl, a1, a2⟩ := paired_at pxs hz
      have hdm := List.mem_of_getElem? hd
      refine ⟨pq, _, rfl, Same.seqT sR a1, rfl, _, _, rfl, _, _, rfl, rfl, ?_⟩
      refine sl_eq (σ' := [some (.ref x), some (.ref pp), some (.str d.1), some (.ref qq), y4, y5, y6]) rfl ?_
      refine ⟨_, rfl, x, dx, _, rfl, sR _ _ X.hx, hs_no (by decide +kernel), _, rfl, x, _, ds, ms, S, d.1, d, rfl, hx.same sR, find_dim so.dn hdm, dn64 _, hnn, fun l9 R1 s1' n9 e9 => ?_⟩
      have sR1 := sR.trans s1'
      refine ⟨l9, rfl, ⟨_, SqL.of e9⟩, ?_⟩
      refine for_list (K := K) (a := l9) (xs := (S.keysOf d.1).map V.str) (fun j σ R => ∃ (y4 y5 y6 : Option V), σ = [some (.ref x), some (.ref pp), some (.str d.1), some (.ref qq), y4, y5, y6] ∧ Same R1 R)
        ⟨_, _, _, rfl, Same.refl _⟩ (fun _ _ _ _ ⟨_, _, _, _, z⟩ => SqL.of (z _ _ e9)) ?_ ?_
      · rintro j z σ R4 hj ⟨y4, y5, y6, rfl, s14⟩
        have sR4 := sR1.trans s14
        obtain ⟨key, rfl, hkey⟩ := strs_at hj
        have htk : (plnK S d)[j]? = some (d.1, key) := by unfold plnK; rw [List.getElem?_map, hkey]; rfl
        have hkn := (mem_plnK.mp (List.mem_of_getElem? htk)).2
        obtain ⟨vers, hlk⟩ := isSome_ex hkn
        have me := meets_of so.tok hlk
        have hv4 : vers.length ≤ 100 := by
          have := so.tok.vs_le (d.1, key)
          have e0 : S.ts.vs (d.1, key) = vers := by unfold Ts.vs; rw [hlk]; rfl
          rw [e0] at this
          omega
        refine set_sl (σ' := [some (.ref x), some (.ref pp), some (.str d.1), some (.ref qq), some (.str key), y5, y6]) rfl ?_
        refine ⟨_, rfl, x, dx, _, rfl, sR4 _ _ X.hx, hs_no (by decide +kernel), _, rfl, _, rfl, x, _, ds, ms, S, (d.1, key), vers, rfl, hx.same sR4, hlk, fun l12 ys12 R5 s5 n12 e12 dp12 => ?_⟩
        have hyl : ys12.length = vers.length := by have := Kd.DpAll.len dp12; rw [List.length_map] at this; exact this
        have s15 := s14.trans s5
        refine set_sl (σ' := [some (.ref x), some (.ref pp), some (.str d.1), some (.ref qq), some (.str key), some (.ref l12), y6]) rfl ?_
        have h0 : vers[0]? = some (vers[0]'me.ne) := List.getElem?_eq_getElem me.ne
        have hl : vers[vers.length - 1]? = some (vers[vers.length - 1]'(by have := me.ne; omega)) := List.getElem?_eq_getElem (by have := me.ne; omega)
        obtain ⟨q0, v0, g0, t0⟩ := vr_at dp12 h0
        obtain ⟨ql, vl, gl, tl⟩ := vr_at dp12 hl
        have b0 := me.hd _ h0
        have el := me.la _ hl
        refine ⟨_, rfl, l12, _, 0, _, rfl, rfl, SqL.of e12, atI_nat (j := 0) g0, q0, _, 1, _, rfl, rfl, t0, atI_nat (j := 1) rfl, _, rfl, iteF0 (by rw [b0]; simp [ovI]) ?_⟩
        refine ⟨_, rfl, 1, rfl, l12, _, -1, _, rfl, rfl, SqL.of e12, atI_m1 (by rw [hyl]; exact gl), ql, _, 2, _, rfl, rfl, tl, atI_nat (j := 2) rfl, _, rfl, ?_⟩
        rw [el]
        refine iteF0 (by simp [ovI]) (nx_of ?_)
        refine ⟨_, rfl, l12, _, rfl, .inl (SqL.of e12), _, _, rfl, ⟨by decide, by decide, by omega, by omega⟩, ?_⟩
        refine for_range (lo := 1) (fun i σ R => ∃ (y6 : Option V), σ = [some (.ref x), some (.ref pp), some (.str d.1), some (.ref qq), some (.str key), some (.ref l12), y6] ∧ Same R5 R) ⟨_, rfl, Same.refl _⟩ ?_ ?_
        · rintro i2 σ R6 hi2 ⟨y6, rfl, s6⟩
          have ei : (1 + (i2 : Int)) = ((i2 + 1 : Nat) : Int) := by omega
          have hi3 : i2 + 1 < vers.length := by omega
          have hA : vers[i2 + 1]? = some (vers[i2 + 1]) := List.getElem?_eq_getElem hi3
          have hB : vers[i2]? = some (vers[i2]'(by omega)) := List.getElem?_eq_getElem (by omega)
          obtain ⟨qa, va, ga, ta⟩ := vr_at dp12 hA
          obtain ⟨qb, vb, gb, tb⟩ := vr_at dp12 hB
          obtain ⟨dy, m1, m2, m3⟩ := me.nx i2 _ _ hB hA
          rw [m2] at ta
          rw [m1] at tb
          have ta6 := Same.seqT s6 ta
          have tb6 := Same.seqT s6 tb
          have e6 := s6 _ _ e12
          have ej : (((i2 + 1 : Nat) : Int) - 1) = (i2 : Int) := by omega
          rw [ei]
          refine set_sl (σ' := [some (.ref x), some (.ref pp), some (.str d.1), some (.ref qq), some (.str key), some (.ref l12), some (.int ((i2 + 1 : Nat) : Int))]) rfl ?_
          refine ⟨_, rfl, _, rfl, l12, _, _, _, rfl, rfl, SqL.of e6, atI_nat ga, qa, _, 1, _, rfl, rfl, ta6, atI_nat (j := 1) rfl, ?_⟩
          refine ⟨_, rfl, _, rfl, _, _, rfl, rfl, l12, _, _, _, rfl, rfl, SqL.of e6, by rw [ej]; exact atI_nat gb, qb, _, 2, _, rfl, rfl, tb6, atI_nat (j := 2) rfl, ?_⟩
          refine ⟨rfl, _, rfl, iteF0 (by simp [ovI]) ?_⟩
          refine ⟨_, rfl, _, _, rfl, rfl, _, rfl, ?_⟩
          by_cases c : 0 < i2
          · obtain ⟨cy, n1, n2⟩ := m3 c
            rw [n1] at tb6
            refine iteT0 (by simp; omega) ?_
            refine ⟨_, rfl, _, rfl, _, _, rfl, rfl, l12, _, _, _, rfl, rfl, SqL.of e6, by rw [ej]; exact atI_nat gb, qb, _, 1, _, rfl, rfl, tb6, atI_nat (j := 1) rfl, ?_⟩
            refine ⟨_, rfl, _, rfl, l12, _, _, _, rfl, rfl, SqL.of e6, atI_nat ga, qa, _, 1, _, rfl, rfl, ta6, atI_nat (j := 1) rfl, ?_⟩
            refine ⟨_, _, rfl, rfl, _, rfl, ?_⟩
            refine iteF0 (by simp; omega) ?_
            exact ⟨_, rfl, s6⟩
          · refine iteF0 (by simp; omega) ?_
            refine iteF0 (by decide) ?_
            exact ⟨_, rfl, s6⟩
        · rintro σ R6 ⟨y6, rfl, s6⟩
          exact ⟨_, _, _, rfl, s15.trans s6⟩
      · rintro σ R4 ⟨y4, y5, y6, rfl, s14⟩
        exact ⟨_, _, _, _, _, rfl, sR1.trans s14⟩
    · rintro σ R ⟨y2, y3, y4, y5, y6, rfl, sR⟩
      exact k R sR
end
end Kd

namespace Kd
open PySem PySem.Spec PyProof.Rows L2
variable {ds : Dims} {ms : List Str} {S S' : Hs}
/-! ### facts led anew, as the law sees them -/
theorem eqv_intsV : ∀ (a b : List Int), PyData.eqvAll (a.map PyData.int) (b.map PyData.int) = decide (a = b)
  | [], [] => by simp [PyData.eqvAll]
  | [], y :: b => by simp [PyData.eqvAll]
  | x :: a, [] => by simp [PyData.eqvAll]
  | x :: a, y :: b => by
    rw [List.map_cons, List.map_cons, PyData.eqvAll, eqv_intsV a b]
    simp only [PyData.eqv]
    rw [Bool.eq_iff_iff]
    simp
theorem eqv_strsV : ∀ as bs : List Str, PyData.eqvAll (as.map PyData.str) (bs.map PyData.str) = decide (as = bs)
  | [], [] => by simp [PyData.eqvAll]
  | [], y :: b => by simp [PyData.eqvAll]
  | x :: a, [] => by simp [PyData.eqvAll]
  | x :: a, y :: b => by
    rw [List.map_cons, List.map_cons, PyData.eqvAll, eqv_strsV a b]
    simp only [PyData.eqv]
    rw [Bool.eq_iff_iff]
    simp
def ledI (ds : Dims) (S : Hs) (fc : Fct) : List Int := (thOf ds fc.keys).map fun t => S.ts.numOn t fc.day
def headF (z : Str) (fc : Fct) : PyData := .tuple [.str z, .int fc.day, .tuple (fc.keys.map PyData.str), .tuple (fc.nums.map PyData.int)]
def factF (z : Str) (fc : Fct) (led : List Int) : PyData := .tuple [.str z, .int fc.day, .tuple (fc.keys.map PyData.str), .tuple (fc.nums.map PyData.int), .tuple (led.map PyData.int)]
theorem headF_eqv (z y : Str) (f g : Fct) : PyData.eqv (headF z f) (headF y g) = true ↔ z = y ∧ f = g := by
  unfold headF
  simp only [PyData.eqv, PyData.eqvAll]
  rw [eqv_strsV, eqv_intsV]
  cases f
  cases g
  simp
theorem factF_eqv (z y : Str) (f g : Fct) (l m : List Int) : PyData.eqv (factF z f l) (factF y g m) = true ↔ z = y ∧ f = g ∧ l = m := by
  unfold factF
  simp only [PyData.eqv, PyData.eqvAll]
  rw [eqv_strsV, eqv_intsV, eqv_intsV]
  cases f
  cases g
  simp [and_assoc]
def headD (S : Hs) (z : Str) : PyData := match lk S.facts z with
  | some fc => headF z fc
  | none => .none
theorem headD_some {z : Str} {fc : Fct} (h : lk S.facts z = some fc) : headD S z = headF z fc := by
  unfold headD
  rw [h]
theorem factD_some {z : Str} {fc : Fct} (h : lk S.facts z = some fc) : factD ds S z = factF z fc (ledI ds S fc) := by
  unfold factD
  rw [h]
  unfold factF ledI
  rw [List.map_map]
  rfl
theorem names_lk (z : Str) : z ∈ S.names ↔ ∃ fc, lk S.facts z = some fc := by
  unfold Hs.names
  rw [(srtS_perm _).mem_iff]
  constructor
  · intro h
    obtain ⟨e, he, q⟩ := List.mem_map.mp h
    cases c : lk S.facts z with
    | some fc => exact ⟨fc, rfl⟩
    | none => exact absurd q (lk_none.mp c e he)
  · intro ⟨fc, h⟩
    exact List.mem_map.mpr ⟨_, lk_mem h, rfl⟩
/-- led anew -/
def anB (ds : Dims) (S S' : Hs) (z : Str) : Bool := ((S.names.map (headD S)).any fun w => PyData.eqv w (headD S' z)) && !((S.factsD ds).any fun w => PyData.eqv w (factD ds S' z))
theorem any_head {z : Str} {fc : Fct} (h : lk S'.facts z = some fc) : ((S.names.map (headD S)).any fun w => PyData.eqv w (headD S' z)) = decide (lk S.facts z = some fc) := by
  rw [headD_some h, Bool.eq_iff_iff, List.any_eq_true, decide_eq_true_iff]
  constructor
  · rintro ⟨w, hw, e⟩
    obtain ⟨y, hy, rfl⟩ := List.mem_map.mp hw
    obtain ⟨g, hg⟩ := (names_lk y).mp hy
    rw [headD_some hg] at e
    obtain ⟨e1, e2⟩ := (headF_eqv ..).mp e
    rw [← e1, ← e2]
    exact hg
  · intro e
    exact ⟨headF z fc, List.mem_map.mpr ⟨z, (names_lk z).mpr ⟨fc, e⟩, headD_some e⟩, (headF_eqv ..).mpr ⟨rfl, rfl⟩⟩
theorem any_fact {z : Str} {fc : Fct} (h : lk S'.facts z = some fc) : ((S.factsD ds).any fun w => PyData.eqv w (factD ds S' z)) = decide (lk S.facts z = some fc ∧ ledI ds S fc = ledI ds S' fc) := by
  rw [factD_some h, Bool.eq_iff_iff, List.any_eq_true, decide_eq_true_iff]
  unfold Hs.factsD
  constructor
  · rintro ⟨w, hw, e⟩
    obtain ⟨y, hy, rfl⟩ := List.mem_map.mp hw
    obtain ⟨g, hg⟩ := (names_lk y).mp hy
    rw [factD_some hg] at e
    obtain ⟨e1, e2, e3⟩ := (factF_eqv ..).mp e
    subst e1 e2
    exact ⟨hg, e3⟩
  · rintro ⟨e, e2⟩
    exact ⟨factF z fc (ledI ds S fc), List.mem_map.mpr ⟨z, (names_lk z).mpr ⟨fc, e⟩, factD_some e⟩, (factF_eqv ..).mpr ⟨rfl, rfl, e2⟩⟩
theorem anB_same {z : Str} {fc : Fct} (h' : lk S'.facts z = some fc) (h : lk S.facts z = some fc) : anB ds S S' z = !decide (ledI ds S fc = ledI ds S' fc) := by
  unfold anB
  rw [any_head h', any_fact h', decide_eq_true h, Bool.true_and]
  congr 1
  rw [Bool.eq_iff_iff, decide_eq_true_iff, decide_eq_true_iff]
  exact ⟨fun e => e.2, fun e => ⟨h, e⟩⟩
def anewL (ds : Dims) (S S' : Hs) : List Str := S'.names.filter (anB ds S S')
theorem led_same {fc : Fct} (h : ∀ t ∈ thOf ds fc.keys, S'.ts.vs t = S.ts.vs t) : ledI ds S' fc = ledI ds S fc := by
  unfold ledI
  apply List.map_congr_left
  intro t ht
  unfold Ts.numOn
  rw [h t ht]
theorem numOn_same {t : Th} {day : Int} (h : S'.ts.vs t = S.ts.vs t) : S'.ts.numOn t day = S.ts.numOn t day := by
  unfold Ts.numOn
  rw [h]
/-- of a kind told -/
theorem anew_kind {t0 : Th} (hn : (S.facts.map (·.1)).Nodup) (ef : S'.facts = S.facts) (hoff : ∀ t, t ≠ t0 → S'.ts.vs t = S.ts.vs t) : (anewL ds S S').length = ledN ds S S'.ts t0 := by
  have en : S'.names = S.names := by unfold Hs.names; rw [ef]
  unfold anewL
  rw [en]
  have hp : (S.names.filter (anB ds S S')).Perm ((S.facts.map (·.1)).filter (anB ds S S')) := (srtS_perm _).filter _
  rw [hp.length_eq, List.filter_map, List.length_map]
  have hz : ∀ l : List Int, ∀ f g : Int → Int, (((l.map f).zip (l.map g)).filter fun p => !decide (p.1 = p.2)).length = (l.filter fun y => !decide (f y = g y)).length := fun l f g => by
    rw [List.zip_map', List.filter_map, List.length_map]
    rfl
  unfold ledN
  rw [hz]
  unfold fdays
  rw [List.filter_map, List.length_map, List.filter_filter]
  congr 1
  apply List.filter_congr
  intro e he
  have hl : lk S.facts e.1 = some e.2 := lk_of_mem hn he
  show anB ds S S' e.1 = ((!decide (S'.ts.numOn t0 e.2.day = S.ts.numOn t0 e.2.day)) && decide (t0 ∈ thOf ds e.2.keys))
  rw [anB_same (by rw [ef]; exact hl) hl]
  by_cases m : t0 ∈ thOf ds e.2.keys
  · rw [decide_eq_true m, Bool.and_true]
    congr 1
    rw [Bool.eq_iff_iff, decide_eq_true_iff, decide_eq_true_iff]
    constructor
    · intro q
      have := List.map_inj_left.mp q t0 m
      exact this.symm
    · intro q
      unfold ledI
      apply List.map_congr_left
      intro t ht
      by_cases c : t = t0
      · rw [c]; exact q.symm
      · exact (numOn_same (hoff t c)).symm
  · rw [decide_eq_false m, Bool.and_false]
    have : ledI ds S' e.2 = ledI ds S e.2 := led_same fun t ht => hoff t fun c => m (c ▸ ht)
    rw [this, decide_eq_true rfl]
    rfl
end Kd

namespace Kd
open PySem PySem.Spec PyProof.Rows L2 LamX
theorem dp_intsS {K : PySem.W.Frag} {H : Hp} : ∀ {us : List Int} {vs : List V}, DpAll K H vs (us.map PyData.int) → vs = us.map V.int
  | [], _, h => by cases h; rfl
  | u :: us, _, h => by
    cases h with
    | cons a b =>
      cases a
      rw [dp_intsS b]
      rfl
theorem dp_strsS {K : PySem.W.Frag} {H : Hp} : ∀ {us : List Str} {vs : List V}, DpAll K H vs (us.map PyData.str) → vs = us.map V.str
  | [], _, h => by cases h; rfl
  | u :: us, _, h => by
    cases h with
    | cons a b =>
      cases a
      rw [dp_strsS b]
      rfl
theorem intsS_dp {K : PySem.W.Frag} {H : Hp} : ∀ (xs : List Int), DpAll K H (xs.map V.int) (xs.map PyData.int)
  | [] => .nil
  | x :: xs => .cons (.int x) (intsS_dp xs)
theorem dp_intT {K : PySem.W.Frag} {H : Hp} {v : V} {l : List Int} (h : Dp K H v (.tuple (l.map PyData.int))) : ∃ q, v = .ref q ∧ SqT K H q (l.map V.int) := by
  cases h with
  | tup h1 h2 =>
    rw [dp_intsS h2] at h1
    exact ⟨_, rfl, h1⟩
theorem dp_factS {K : PySem.W.Frag} {H : Hp} {y : V} {z : Str} {fc : Fct} {led : List Int} (h : Dp K H y (factF z fc led)) : ∃ q qk x4 ql, y = .ref q ∧ SqT K H q [.str z, .int fc.day, .ref qk, x4, .ref ql] ∧ SqT K H qk (fc.keys.map V.str) ∧ SqT K H ql (led.map V.int) := by
  unfold factF at h
  cases h with
  | tup h1 h2 =>
    cases h2 with
    | cons a1 h2 =>
      cases h2 with
      | cons a2 h2 =>
        cases h2 with
        | cons a3 h2 =>
          cases h2 with
          | cons a4 h2 =>
            cases h2 with
            | cons a5 h2 =>
              cases h2
              cases a1
              cases a2
              obtain ⟨ql, rfl, hl⟩ := dp_intT a5
              cases a3 with
              | tup b1 b2 =>
                rw [dp_strsS b2] at b1
                exact ⟨_, _, _, _, rfl, h1, b1, hl⟩
theorem shT_ints (xs : List Int) : SeqAt.shaped (.tuple (xs.map PyData.int)) = true := by
  obtain ⟨h1, h2⟩ := lay_intsA xs
  unfold SeqAt.shaped
  rw [Bool.and_eq_true]
  refine ⟨by rw [PyData.canLay0]; exact h1, decide_eq_true ?_⟩
  rw [PyData.depth, h2]
  omega
/-- a dict of what each fact is led to -/
structure LdD (K : PySem.W.Frag) (H : Hp) (a : Addr) (ds : Dims) (S : Hs) (la : Str → Addr) : Prop where
  h : H a = some (.dK (S.names.map fun z => (Sum.inr z, V.ref (la z))))
  i : ∀ z fc, lk S.facts z = some fc → SqT K H (la z) ((ledI ds S fc).map V.int)
theorem LdD.keep {K : PySem.W.Frag} {H H' : Hp} {M : Addr → Prop} {a : Addr} {ds : Dims} {S : Hs} {la : Str → Addr} (h : LdD K H a ds S la) (k : Keep M H H') (e : H' a = H a) : LdD K H' a ds S la := ⟨e.trans h.h, fun z fc e => k.seqT (h.i z fc e)⟩
theorem LdD.same {K : PySem.W.Frag} {H H' : Hp} {a : Addr} {ds : Dims} {S : Hs} {la : Str → Addr} (h : LdD K H a ds S la) (s : Same H H') : LdD K H' a ds S la := ⟨s _ _ h.h, fun z fc e => Same.seqT s (h.i z fc e)⟩
theorem val_names {A : List Str} {la : Str → Addr} {z : Str} : valV (A.map fun z => ((Sum.inr z : L2.Key), V.ref (la z))) (Sum.inr z) = if z ∈ A then some (.ref (la z)) else none := by
  have e : (A.map fun z => ((Sum.inr z : L2.Key), V.ref (la z))) = (A.map fun z => (z, ())).map fun m => ((Sum.inr m.1 : L2.Key), V.ref (la m.1)) := by
    rw [List.map_map]
    rfl
  rw [e, val_map (r := fun z => V.ref (la z)) inr_inj]
  by_cases c : z ∈ A
  · rw [if_pos c]
    cases q : lk (A.map fun z => (z, ())) z with
    | some _ => rfl
    | none => exact absurd rfl (lk_none.mp q (z, ()) (List.mem_map_of_mem c))
  · rw [if_neg c, lk_none.mpr fun e he q => ?_]
    · rfl
    · obtain ⟨u, hu, rfl⟩ := List.mem_map.mp he
      have q : u = z := q
      exact c (q ▸ hu)
theorem namesS_nodup {S : Hs} (h : (S.facts.map (·.1)).Nodup) : S.names.Nodup := (srtS_perm _).nodup_iff.mpr h
section
variable {P : Program} {w : World} {K : PySem.W.Frag} {mg : Str → Option Value} {base : Heap} {f : Addr} {fd : FuncData}
/-! ### _law_led, where all are led as they must be -/
def spWledd (K : PySem.W.Frag) (c : Cn) : Sp := fun vs H Q _ => ∃ (x pp lo mo : Addr) (M : Addr → Prop) (ds : Dims) (ms : List Str) (S : Hs), vs = [.ref x, .ref pp] ∧ HoO K c H M x ds ms S ∧ HsOk ds ms S ∧ S.rows.length < 64 ∧ SqT K H pp [.ref lo, .ref mo] ∧ DimsAt K H lo ds ∧
  ∀ H' a la, Same H H' → H a = none → LdD K H' a ds S la → Q (.ref a) H'
abbrev N_l_led : List Str := ["house", "plan", "found", "name", "day", "keys", "numbers", "led", "due", "k", "dim", "some", "number", "begin", "end", "values"]
theorem sc_l_led : FnScope N_l_led ["house", "plan"] (defScope s_l_led) := ⟨rfl, rfl, rfl, by decide +kernel, rfl, by decide +kernel, by decide +kernel⟩
/-! slots: 0 house 1 plan 2 found 3 name 4 day 5 keys 6 numbers 7 led 8 due 9 k 10 dim 11 some 12 number 13 begin 14 end 15 values; cells:  -/
set_option maxHeartbeats 0 in
theorem ok_wledd {c : Cn} {m1 m2 : Addr} {e1 e2 : FuncData} (F : FnP K "_law_led" "_law_led" s_l_led f fd) (mFa : MFun P w K mg base c.CH "facts" 4 ["self"] (spFactsH K c) m1 e1) (mVe : MFun P w K mg base c.CH "versions" 2 ["self", "dimension", "key"] (spVersH K c) m2 e2) (z_enumerate : mg "enumerate" = none) (z_tuple : mg "tuple" = none) : FnOk P w K mg base CX0 5 f fd ["house", "plan"] (spWledd K c) := by
  refine F.ok sc_l_led (fun vs H Q E h => ?_) (fun cdv A outer s H vs Q E hr h => ?_)
  · obtain ⟨x, pp, lo, mo, M, ds, ms, S, rfl, _⟩ := h
    rfl
  · obtain ⟨x, pp, lo, mo, M, ds, ms, S, rfl, hx, so, n64, hpp, ⟨xs, hlo, pxs⟩, k⟩ := h
    have nd := sc_l_led.nd
    have hu := hr.units
    have hu1 : (A.deeper (envOfC "_law_led" (defScope s_l_led) s.heap.objs.size f cdv)).units + 1 < cLine := by omega
    refine ⟨_, PSs.nox (pss_cons (ps_set (i := 2) nd rfl (Or.inl rfl) pe_dnewK)
      (pss_cons (ps_for PassesOwn.never rfl (pi_list (pe_meth0 (pv 0) mFa.cl mFa.m mFa.G (hr.mono (by decide)) mFa.b .nil pass0)) (pg_tup rfl (pgs_cons (pg_name (i := 3) nd rfl (Or.inl rfl)) (pgs_cons (pg_name (i := 4) nd rfl (Or.inl rfl)) (pgs_cons (pg_name (i := 5) nd rfl (Or.inl rfl)) (pgs_cons (pg_name (i := 6) nd rfl (Or.inl rfl)) (pgs_cons (pg_name (i := 7) nd rfl (Or.inl rfl)) pgs_nil))))))
        (pss_cons (ps_set (i := 8) nd rfl (Or.inl rfl) (pe_lst pa_nil))
        (pss_cons (ps_for PassesOwn.never rfl (pi_enum rfl z_enumerate (pa_cons (pe_ix ix_tup (pv 1) pe_int (fun _ _ => rfl)) pa_nil)) (pg_tup rfl (pgs_cons (pg_name (i := 9) nd rfl (Or.inl rfl)) (pgs_cons (pg_tup rfl (pgs_cons (pg_name (i := 10) nd rfl (Or.inl rfl)) (pgs_cons (pg_name (i := 11) nd rfl (Or.inl rfl)) pgs_nil))) pgs_nil)))
          (pss_one (ps_for PassesOwn.never rfl (pi_list (pe_meth (pv 0) mVe.cl mVe.m mVe.G (hr.mono (by decide)) mVe.b .nil pass0 (pa_cons (pv 10) (pa_cons (pe_ix ix_tup (pv 5) (pv 9) (fun _ _ => rfl)) pa_nil)))) (pg_tup rfl (pgs_cons (pg_name (i := 12) nd rfl (Or.inl rfl)) (pgs_cons (pg_name (i := 13) nd rfl (Or.inl rfl)) (pgs_cons (pg_name (i := 14) nd rfl (Or.inl rfl)) (pgs_cons (pg_name (i := 15) nd rfl (Or.inl rfl)) pgs_nil)))))
            (pss_one (ps_if (PW.pt (pw_and (PW.pt (pw_or (pt_cmp (pc_isN (pv 13))) (pw_or1 (pt_cmpR op_le (pv 13) (pv 4) (nomark _))))) (pw_and1 (PW.pt (pw_or (pt_cmp (pc_isN (pv 14))) (pw_or1 (pt_cmpR op_lt (pv 4) (pv 14) (nomark _))))))))
              (pss_one (ps_expr (pe_bm PySem.F.plainAttrs_list PySem.F.slot_list_append PySem.F.type_list_append mt_append (pv 8) (pa_cons (pv 12) pa_nil))))
              pss_nil)))))
        (pss_cons (ps_if (pt_cmpR (op_neD hr.units) (pe_callTy call_tuple_of (by rfl) z_tuple (by decide +kernel) (pa_cons (pv 8) pa_nil)) (pv 7) (nomark _))
          (pss_one (ps_ret pe_non))
          pss_nil)
        (pss_one (ps_dput (hu_of hr) (pv 2) (pv 3) (pv 7) rfl))))))
      (pss_one (ps_ret (pv 2))))), ?_⟩
    obtain ⟨MT, MS, dx, p, th, kf, tr, wd, fa, wa, rs, rfl, X⟩ := id hx
    have fl : S.facts.length < 64 := by have := so.fl; omega
    have d4 := so.d4
    have lpx := pxs.length
    have hnod := namesS_nodup so.fn
    have hkn : ∀ e ∈ S.facts, ∀ t ∈ thOf ds e.2.keys, Known S.ts e.2.day t := fun e he t ht => by
      obtain ⟨vers, hv⟩ := so.fkn e he t ht
      obtain ⟨v, hv2⟩ := so.tok.on hv e.2.day
      have h1 := so.tok.vs_le t
      have e0 : S.ts.vs t = vers := by unfold Ts.vs; rw [hv]; rfl
      rw [e0] at h1
      exact ⟨vers, v, hv, by omega, hv2⟩
    intro F nF
    refine set_sl (σ' := [some (.ref x), some (.ref pp), some (.ref F), none, none, none, none, none, none, none, none, none, none, none, none, none]) rfl ?_
    generalize e0 : upd H F _ = H0
    obtain ⟨s0, eF⟩ := new_of nF e0
    refine ⟨_, rfl, x, dx, _, rfl, s0 _ _ X.hx, hs_no (by decide +kernel), x, _, ds, ms, S, rfl, hx.same s0, fl, d4, so.fn, hkn, fun l5 ys5 R1 s1 n5 e5 dp5 => ?_⟩
    have h5l : ys5.length = S.names.length := by have := Kd.DpAll.len dp5; unfold Hs.factsD at this; rw [List.length_map] at this; exact this
    have nml : S.names.length < 64 := by unfold Hs.names; rw [srtS_len, List.length_map]; exact fl
    have s01 := s0.trans s1
    refine ⟨l5, rfl, ⟨_, SqL.of e5⟩, ?_⟩
    refine for_list (K := K) (a := l5) (xs := ys5) (fun i σ R => ∃ (la : Str → Addr) (y3 y4 y5 y6 y7 y8 y9 y10 y11 y12 y13 y14 y15 : Option V), σ = [some (.ref x), some (.ref pp), some (.ref F), y3, y4, y5, y6, y7, y8, y9, y10, y11, y12, y13, y14, y15] ∧ Same H R ∧ Keep no R1 R ∧ R l5 = some (.lst ys5) ∧ R F = some (.dK ((S.names.take i).map fun z => (Sum.inr z, V.ref (la z)))) ∧ ∀ z ∈ S.names.take i, ∀ fc, lk S.facts z = some fc → SqT K R (la z) ((ledI ds S fc).map V.int))
      ⟨fun _ => F, _, _, _, _, _, _, _, _, _, _, _, _, _, rfl, s01, Keep.refl, e5, s1 _ _ eF, fun z hz => by rw [List.take_zero] at hz; cases hz⟩ (fun _ _ _ _ ⟨_, _, _, _, _, _, _, _, _, _, _, _, _, _, _, _, _, z, _⟩ => SqL.of z) ?_ ?_
    · rintro i y σ R hy ⟨la, y3, y4, y5, y6, y7, y8, y9, y10, y11, y12, y13, y14, y15, rfl, sR, k1R, hl5, hF, hL⟩
      obtain ⟨dd, hdd, hdp⟩ := Kd.DpAll.at_ dp5 hy
      unfold Hs.factsD at hdd
      rw [List.getElem?_map] at hdd
      obtain ⟨z, hz, rfl⟩ := Option.map_eq_some_iff.mp hdd
      have hzm := List.mem_of_getElem? hz
      obtain ⟨fc, hfc⟩ := (names_lk z).mp hzm
      have hfm := lk_mem hfc
      rw [factD_some hfc] at hdp
      obtain ⟨q, qk, x4, ql, rfl, hq, hqk, hql⟩ := dp_factS hdp
      have hkl : fc.keys.length = ds.length := (so.ff _ hfm).1
      refine ⟨q, _, rfl, k1R.seqT hq, rfl, _, _, rfl, _, _, rfl, _, _, rfl, _, _, rfl, _, _, rfl, rfl, ?_⟩
      refine sl_eq (σ' := [some (.ref x), some (.ref pp), some (.ref F), some (.str z), some (.int fc.day), some (.ref qk), some x4, some (.ref ql), y8, y9, y10, y11, y12, y13, y14, y15]) rfl ?_
      refine ⟨by show 0 ≤ sizeLine; decide, fun D nD => ?_⟩
      refine set_sl (σ' := [some (.ref x), some (.ref pp), some (.ref F), some (.str z), some (.int fc.day), some (.ref qk), some x4, some (.ref ql), some (.ref D), y9, y10, y11, y12, y13, y14, y15]) rfl ?_
      generalize e7 : upd R D _ = R7
      obtain ⟨s7, eD⟩ := new_of nD e7
      have DF : D ≠ F := fun z => by rw [z, hF] at nD; cases nD
      have Dl5 : D ≠ l5 := fun z => by rw [z, hl5] at nD; cases nD
      have nDH : H D = none := by
        cases c : H D with
        | none => rfl
        | some o => rw [sR _ _ c] at nD; cases nD
      refine ⟨_, rfl, pp, _, 0, _, rfl, rfl, Same.seqT (sR.trans s7) hpp, atI_nat (j := 0) rfl, lo, _, rfl, Same.seq (sR.trans s7) hlo, ?_⟩
      have lth : (thOf ds fc.keys).length = ds.length := by unfold thOf; rw [List.length_zip, List.length_map, hkl, Nat.min_self]
      refine for_it (walk_enum (K := K) (a := lo) (xs := xs)) (fun j σ R' => ∃ (y9 y10 y11 y12 y13 y14 y15 : Option V), σ = [some (.ref x), some (.ref pp), some (.ref F), some (.str z), some (.int fc.day), some (.ref qk), some x4, some (.ref ql), some (.ref D), y9, y10, y11, y12, y13, y14, y15] ∧ Same H R' ∧ Keep no R7 R' ∧ R' l5 = some (.lst ys5) ∧ R' F = R F ∧ R' D = some (.lst ((((thOf ds fc.keys).take j).map fun t => S.ts.numOn t fc.day).map V.int)))
        ⟨_, _, _, _, _, _, _, rfl, sR.trans s7, Keep.refl, s7 _ _ hl5, by rw [hF]; exact s7 _ _ hF, eD⟩ (fun _ _ _ _ ⟨_, _, _, _, _, _, _, _, z, _⟩ => Same.seq z hlo) ?_ ?_
      · rintro j z2 σ R8 R8' hj ⟨y9, y10, y11, y12, y13, y14, y15, rfl, s8, k8, hl8, hF8, hD8⟩ ⟨T0, v1, v2, rfl, nT, rfl, ga, gb⟩
        cases ga
        have gb : xs[j]? = some v2 := gb
        obtain ⟨d, hd, pq, qq, rfl, a1, a2⟩ := paired_at pxs gb
        generalize e9 : upd R8 T0 _ = R9
        obtain ⟨s9, eT⟩ := new_of nT e9
        have s09 := s8.trans s9
        refine ⟨T0, _, rfl, SqT.of eT, rfl, _, _, rfl, _, _, rfl, pq, _, rfl, Same.seqT s09 a1, rfl, _, _, rfl, _, _, rfl, rfl, rfl, ?_⟩
        refine sl_eq (σ' := [some (.ref x), some (.ref pp), some (.ref F), some (.str z), some (.int fc.day), some (.ref qk), some x4, some (.ref ql), some (.ref D), some (.int (j : Int)), some (.str d.1), some (.ref qq), y12, y13, y14, y15]) rfl ?_
        have hjd : j < ds.length := (List.getElem?_eq_some_iff.mp hd).1
        have hjk : j < fc.keys.length := by omega
        have hkey : fc.keys[j]? = some (fc.keys[j]) := List.getElem?_eq_getElem hjk
        have hkeyV : (fc.keys.map V.str)[j]? = some (.str fc.keys[j]) := by rw [List.getElem?_map, hkey]; rfl
        have htj : (thOf ds fc.keys)[j]? = some (d.1, fc.keys[j]) := by
          unfold thOf
          rw [List.getElem?_zip_eq_some]
          exact ⟨by rw [List.getElem?_map, hd]; rfl, hkey⟩
        obtain ⟨vers, hlk⟩ := so.fkn _ hfm _ (List.mem_of_getElem? htj)
        have hin := in_one so.tok hlk fc.day
        have hv4 : vers.length ≤ 100 := by
          have := so.tok.vs_le (d.1, fc.keys[j])
          have e0 : S.ts.vs (d.1, fc.keys[j]) = vers := by unfold Ts.vs; rw [hlk]; rfl
          rw [e0] at this
          omega
        have hqk9 := (((k1R.trans (Keep.of s7)).trans k8).trans (Keep.of (M := no) s9)).seqT hqk
        refine ⟨_, rfl, x, dx, _, rfl, s09 _ _ X.hx, hs_no (by decide +kernel), _, rfl, _, rfl, _, rfl, qk, _, _, _, rfl, rfl, hqk9, atI_nat hkeyV, x, _, ds, ms, S, (d.1, fc.keys[j]), vers, rfl, hx.same s09, hlk, fun l12 ys12 R5 s5 n12 e12 dp12 => ?_⟩
        have hyl : ys12.length = vers.length := by have := Kd.DpAll.len dp12; rw [List.length_map] at this; exact this
        have s05 := s09.trans s5
        have hD5 := s5 _ _ (s9 _ _ hD8)
        have hF5 : R5 F = R F := by rw [hF]; exact s5 _ _ (s9 _ _ (hF8.trans hF))
        have hl55 := s5 _ _ (s9 _ _ hl8)
        have D12 : D ≠ l12 := fun z => by
          have h9 := s9 _ _ hD8
          rw [z, n12] at h9
          cases h9
        refine ⟨l12, rfl, ⟨_, SqL.of e12⟩, ?_⟩
        refine for_list (K := K) (a := l12) (xs := ys12) (fun l σ R => ∃ (y12 y13 y14 y15 : Option V), σ = [some (.ref x), some (.ref pp), some (.ref F), some (.str z), some (.int fc.day), some (.ref qk), some x4, some (.ref ql), some (.ref D), some (.int (j : Int)), some (.str d.1), some (.ref qq), y12, y13, y14, y15] ∧ Same (upd R5 D (.lst [])) (upd R D (.lst [])) ∧ R D = some (.lst ((((thOf ds fc.keys).take j).map (fun t => S.ts.numOn t fc.day) ++ ((vers.take l).filter (inV fc.day)).map (·.n)).map V.int)))
          ⟨_, _, _, _, rfl, Same.refl _, by rw [List.take_zero, List.filter_nil, List.map_nil, List.append_nil]; exact hD5⟩ (fun _ _ R _ ⟨_, _, _, _, _, z, _⟩ => SqL.of (by have := z l12 _ (by rw [upd_ne D12.symm]; exact e12); rw [upd_ne D12.symm] at this; exact this)) ?_ ?_
        · rintro l y σ R6 hy ⟨y12, y13, y14, y15, rfl, s56, hD6⟩
          have hl : l < ys12.length := (List.getElem?_eq_some_iff.mp hy).1
          have hr1 : vers[l]? = some (vers[l]'(by omega)) := List.getElem?_eq_getElem (by omega)
          obtain ⟨q2, v4, g4, t4⟩ := vr_at dp12 hr1
          rw [hy] at g4
          cases g4
          have k56 : Keep no R5 R6 := fun b o e t c => by
            have hb : b ≠ D := fun z => by
              rw [z, hD5] at e
              cases e
              rcases c with (⟨_, q⟩ | ⟨_, _, q⟩) | q
              · cases q
              · cases q
              · exact q
            have := s56 b o (by rw [upd_ne hb]; exact e)
            rw [upd_ne hb] at this
            exact this
          generalize vers[l] = r at hr1 t4
          refine ⟨q2, _, rfl, k56.seqT t4, rfl, _, _, rfl, _, _, rfl, _, _, rfl, _, _, rfl, rfl, ?_⟩
          refine sl_eq (σ' := [some (.ref x), some (.ref pp), some (.ref F), some (.str z), some (.int fc.day), some (.ref qk), some x4, some (.ref ql), some (.ref D), some (.int (j : Int)), some (.str d.1), some (.ref qq), some (.int r.n), some (ovI r.b), some (ovI r.e), some v4]) rfl ?_
          obtain ⟨g1, g2⟩ := List.getElem?_eq_some_iff.mp hr1
          have etk : (vers.take (l + 1)).filter (inV fc.day) = (vers.take l).filter (inV fc.day) ++ if inV fc.day r = true then [r] else [] := by
            rw [List.take_succ_eq_append_getElem g1, g2, List.filter_append]
            by_cases c : inV fc.day r = true <;> simp [c]
          refine and_byT (b1 := begB fc.day r.b) (b2 := endB fc.day r.e) (fun Q k => beg_by rfl rfl k) (fun Q k => end_by rfl rfl k) ?_
          have ec : (begB fc.day r.b && endB fc.day r.e) = inV fc.day r := rfl
          rw [ec]
          cases c : inV fc.day r with
          | true =>
            refine iteT ?_
            refine ⟨_, rfl, .inl ⟨rfl, _, SqL.of hD6⟩, _, rfl, D, _, _, rfl, rfl, hD6, ?_, ?_⟩
            · rw [List.length_map, List.length_append, List.length_map, List.length_map]
              have h1 := List.length_filter_le (inV fc.day) (vers.take l)
              have h2 := List.length_take_le l vers
              have h3 := List.length_take_le j (thOf ds fc.keys)
              have h4 : 104 < sizeLine := by decide
              omega
            refine ⟨_, _, _, _, rfl, ?_, ?_⟩
            · rw [upd_upd]
              exact s56
            · rw [upd_same, etk, if_pos c, List.map_append (l₁ := (vers.take l).filter _), ← List.append_assoc, List.map_append (l₂ := [r].map _)]
              rfl
          | false =>
            refine iteF ?_
            refine ⟨_, _, _, _, rfl, s56, ?_⟩
            rw [etk, if_neg (by rw [c]; decide), List.append_nil]
            exact hD6
        · rintro σ R6 ⟨y12, y13, y14, y15, rfl, s56, hD6⟩
          rw [hyl, List.take_length, hin] at hD6
          have o6 : ∀ b o, b ≠ D → R5 b = some o → R6 b = some o := fun b o hb e => by
            have := s56 b o (by rw [upd_ne hb]; exact e)
            rw [upd_ne hb] at this
            exact this
          refine ⟨_, _, _, _, _, _, _, rfl, fun b o e => ?_, ?_, o6 _ _ Dl5.symm hl55, ?_, ?_⟩
          · exact o6 b o (fun z => by rw [z, nDH] at e; cases e) (s05 _ _ e)
          · refine k8.trans ((Keep.of (s9.trans s5)).trans fun b o e t c => o6 b o (fun z => ?_) e)
            rw [z, hD5] at e
            cases e
            rcases c with (⟨_, q⟩ | ⟨_, _, q⟩) | q
            · cases q
            · cases q
            · exact q
          · rw [hF]
            exact o6 _ _ DF.symm (hF5.trans hF)
          · rw [hD6]
            obtain ⟨g1, g2⟩ := List.getElem?_eq_some_iff.mp htj
            rw [List.take_succ_eq_append_getElem g1, g2, List.map_append (l₂ := [(d.1, fc.keys[j])])]
            rfl
      · rintro σ R8 ⟨y9, y10, y11, y12, y13, y14, y15, rfl, s8, k8, hl8, hF8, hD8⟩
        rw [lpx, ← lth, List.take_length] at hD8
        have e8 : (thOf ds fc.keys).map (fun t => S.ts.numOn t fc.day) = ledI ds S fc := rfl
        rw [e8] at hD8
        refine ⟨_, rfl, D, _, rfl, .inl ⟨SqL.of hD8, fun tp ntp => ?_⟩⟩
        generalize e9 : upd R8 tp _ = R9
        obtain ⟨s9, etp⟩ := new_of ntp e9
        have k19 := ((k1R.trans (Keep.of s7)).trans k8).trans (Keep.of (M := no) s9)
        have hql9 := k19.seqT hql
        refine ⟨_, rfl, _, _, .tup (SqT.of etp) (intsS_dp _), .tup hql9 (intsS_dp _), shT_ints _, shT_ints _, _, rfl, ?_⟩
        have eq1 : PyData.eqv (.tuple ((ledI ds S fc).map PyData.int)) (.tuple ((ledI ds S fc).map PyData.int)) = true := by
          simp only [PyData.eqv]
          rw [eqv_intsV]
          exact decide_eq_true rfl
        rw [eq1]
        refine iteF (nx_of ?_)
        have hF9 := s9 _ _ (hF8.trans hF)
        have hnot : z ∉ S.names.take i := by
          have h1 := hnod
          rw [ls_split hz, List.nodup_append] at h1
          exact fun q => h1.2.2 z q z (List.mem_cons_self ..) rfl
        have hsz : ((S.names.take i).map fun z => ((Sum.inr z : L2.Key), V.ref (la z))).length < sizeLine := by
          rw [List.length_map, List.length_take]
          have : 64 < sizeLine := by decide
          omega
        refine ⟨_, rfl, _, rfl, _, rfl, F, _, rfl, DPut.k (k := Sum.inr z) hF9 hsz, ?_⟩
        rw [putK_new _ (by rw [val_names, if_neg hnot])]
        obtain ⟨la', hq', hnt⟩ : ∃ la' : Str → Addr, la' z = ql ∧ ∀ y ∈ S.names.take i, la' y = la y := ⟨fun y => if y = z then ql else la y, if_pos rfl, fun y hy => by
          show (if y = z then ql else la y) = la y
          rw [if_neg]
          intro q
          rw [q] at hy
          exact hnot hy⟩
        have kF : Keep no R9 (upd R9 F (.dK ((S.names.take i).map (fun z => ((Sum.inr z : L2.Key), V.ref (la z))) ++ [(Sum.inr z, .ref ql)]))) := (Fr.put (T := []) (N := fun b => b = F) hF9 trivial rfl).keep0
        have tk1 : S.names.take (i + 1) = S.names.take i ++ [z] := by
          obtain ⟨g1, g2⟩ := List.getElem?_eq_some_iff.mp hz
          rw [List.take_succ_eq_append_getElem g1, g2]
        refine ⟨la', _, _, _, _, _, _, _, _, _, _, _, _, _, rfl, fun b o e => ?_, k1R.trans (((Keep.of s7).trans k8).trans ((Keep.of s9).trans kF)), ?_, ?_, ?_⟩
        · rw [upd_ne (fun z => by rw [z, nF] at e; cases e)]
          exact s9 _ _ (s8 _ _ e)
        · rw [upd_ne (fun z => by rw [z, hF] at hl5; cases hl5)]
          exact s9 _ _ hl8
        · rw [upd_same, tk1, List.map_append (l₂ := [z]), List.map_cons, List.map_nil, hq']
          congr 3
          apply List.map_congr_left
          intro y hy
          rw [hnt y hy]
        · intro y hy fc2 hfc2
          rw [tk1] at hy
          rcases List.mem_append.mp hy with h1 | h1
          · rw [hnt y h1]
            exact ((((Keep.of s7).trans k8).trans ((Keep.of s9).trans kF))).seqT (hL y h1 fc2 hfc2)
          · cases List.mem_singleton.mp h1
            rw [hq']
            rw [hfc] at hfc2
            cases hfc2
            exact kF.seqT hql9
    · rintro σ R ⟨la, y3, y4, y5, y6, y7, y8, y9, y10, y11, y12, y13, y14, y15, rfl, sR, k1R, hl5, hF, hL⟩
      rw [h5l, List.take_length] at hF hL
      exact ⟨_, rfl, k R F la sR nF ⟨hF, fun z fc hz => hL z ((names_lk z).mpr ⟨fc, hz⟩) fc hz⟩⟩
/-! ### _law_counts, where they are as told -/
def CntD (d : PyData) (c w n : Int) : Prop := d = .tuple [.str "kind", .int c, .int w, .int n] ∨ (∃ l : List Int, d = .tuple [.str "fact", .int c, .int w, .tuple (l.map PyData.int)]) ∨ d = .tuple [.str "forget", .int w]
def spWcnt (K : PySem.W.Frag) : Sp := fun vs H Q _ => ∃ (v : V) (c w n : Int) (d : PyData), vs = [v, .int c, .int w, .int n] ∧ Dp K H v d ∧ CntD d c w n ∧ ∀ H', Same H H' → Q (.bl true) H'
theorem three6 : ∀ z ∈ (["kind", "fact", "forget"] : List Str), SeqAt.shaped (.str z) = true := by
  intro z hz
  simp only [List.mem_cons, List.not_mem_nil, or_false] at hz
  rcases hz with rfl | rfl | rfl <;> decide +kernel
theorem shT_kind (x y z : Int) : SeqAt.shaped (.tuple [.str "kind", .int x, .int y, .int z]) = true := by
  have h : PyData.canLay0 (.str "kind") = true := by decide +kernel
  unfold SeqAt.shaped
  rw [Bool.and_eq_true]
  refine ⟨?_, decide_eq_true ?_⟩
  · simp only [PyData.canLay0, PyData.canLayAll0, Bool.and_self] at h ⊢
    simp [h]
  · simp only [PyData.depth, PyData.depthAll]
    decide
theorem shT_forget (x : Int) : SeqAt.shaped (.tuple [.str "forget", .int x]) = true := by
  have h : PyData.canLay0 (.str "forget") = true := by decide +kernel
  unfold SeqAt.shaped
  rw [Bool.and_eq_true]
  refine ⟨?_, decide_eq_true ?_⟩
  · simp only [PyData.canLay0, PyData.canLayAll0, Bool.and_self] at h ⊢
    simp [h]
  · simp only [PyData.depth, PyData.depthAll]
    decide
theorem shT_two (x y : Int) : SeqAt.shaped (.tuple [.int x, .int y]) = true := shT_ints [x, y]
theorem eqv_strS (a b : Str) : PyData.eqv (.str a) (.str b) = decide (a = b) := by
  simp only [PyData.eqv]
  rw [Bool.eq_iff_iff]
  simp
abbrev N_l_counts : List Str := ["told", "came", "went", "anew"]
theorem sc_l_counts : FnScope N_l_counts ["told", "came", "went", "anew"] (defScope s_l_counts) := ⟨rfl, rfl, rfl, by decide +kernel, rfl, by decide +kernel, by decide +kernel⟩
/-! slots: 0 told 1 came 2 went 3 anew; cells:  -/
theorem ok_wcnt (F : FnP K "_law_counts" "_law_counts" s_l_counts f fd) : FnOk P w K mg base CX0 1 f fd ["told", "came", "went", "anew"] (spWcnt K) := by
  refine F.ok sc_l_counts (fun vs H Q E h => ?_) (fun cdv A outer s H vs Q E hr h => ?_)
  · obtain ⟨v, c, w, n, d, rfl, _⟩ := h
    rfl
  · obtain ⟨v, c, w, n, d, rfl, hd, hc, k⟩ := h
    have nd := sc_l_counts.nd
    have hu := hr.units
    refine ⟨_, PSs.nox (pss_cons (ps_if (pt_cmpR (op_eqD hr.units) (pe_ix ix_tup (pv 0) pe_int (fun _ _ => rfl)) pe_str (nomark _))
        (pss_one (ps_ret (pe_cmpR (op_eqD hr.units) (pv 0) (pe_tup (pa_cons pe_str (pa_cons (pv 1) (pa_cons (pv 2) (pa_cons (pv 3) pa_nil))))) (nomark _))))
        pss_nil)
      (pss_cons (ps_if (pt_cmpR (op_eqD hr.units) (pe_ix ix_tup (pv 0) pe_int (fun _ _ => rfl)) pe_str (nomark _))
        (pss_one (ps_ret (pe_cmpR (op_eqD hr.units) (pe_slice sl_tupA (pv 0) (po_some pe_int) (po_some pe_int)) (pe_tup (pa_cons (pv 1) (pa_cons (pv 2) pa_nil))) (nomark _))))
        pss_nil)
      (pss_one (ps_ret (pe_cmpR (op_eqD hr.units) (pv 0) (pe_tup (pa_cons pe_str (pa_cons (pv 2) pa_nil))) (nomark _)))))), ?_⟩
    have k1 := three6 "kind" (by simp)
    have k2 := three6 "fact" (by simp)
    have k3 := three6 "forget" (by simp)
    rcases hc with rfl | ⟨l, rfl⟩ | rfl
    · cases id hd with
      | tup h1 h2 =>
        rename_i q xs
        cases h2 with
        | cons a1 h2 =>
          cases a1
          refine ⟨_, rfl, q, _, 0, _, rfl, rfl, h1, atI_nat (j := 0) rfl, .str _, .str _, .str _, .str _, k1, k1, _, rfl, ?_⟩
          rw [eqv_strS]
          refine iteT0 (by simp) ?_
          refine ⟨_, rfl, _, rfl, _, rfl, _, rfl, by show 4 ≤ sizeLine; decide, fun t nt => ?_⟩
          generalize e4 : upd H t _ = H4
          obtain ⟨s4, et⟩ := new_of nt e4
          refine ⟨_, .tuple [.str "kind", .int c, .int w, .int n], Dp.same s4 _ _ hd, .tup (SqT.of et) (.cons (.str _) (.cons (.int _) (.cons (.int _) (.cons (.int _) .nil)))), shT_kind _ _ _, shT_kind _ _ _, ?_⟩
          have : PyData.eqv (.tuple [.str "kind", .int c, .int w, .int n]) (.tuple [.str "kind", .int c, .int w, .int n]) = true := by
            simp [PyData.eqv, PyData.eqvAll]
          rw [this]
          exact k _ s4
    · cases id hd with
      | tup h1 h2 =>
        rename_i q xs
        cases h2 with
        | cons a1 h2 =>
          cases h2 with
          | cons a2 h2 =>
            cases h2 with
            | cons a3 h2 =>
              cases h2 with
              | cons a4 h2 =>
                cases h2
                cases a1
                cases a2
                cases a3
                refine ⟨_, rfl, q, _, 0, _, rfl, rfl, h1, atI_nat (j := 0) rfl, .str _, .str _, .str _, .str _, k2, k1, _, rfl, ?_⟩
                rw [eqv_strS]
                refine iteF0 (by decide +kernel) (nx_of ?_)
                refine ⟨_, rfl, q, _, 0, _, rfl, rfl, h1, atI_nat (j := 0) rfl, .str _, .str _, .str _, .str _, k2, k2, _, rfl, ?_⟩
                rw [eqv_strS]
                refine iteT0 (by simp) ?_
                refine ⟨_, rfl, 1, rfl, 3, rfl, q, _, rfl, h1, fun z => absurd z (show ¬ (HT.sIx 4 0 (some 1) = 0 ∧ HT.sIx 4 4 (some 3) = 4) by decide), fun _ p np => ?_⟩
                generalize e4 : upd H p _ = H4
                obtain ⟨s4, ep⟩ := new_of np e4
                refine ⟨_, rfl, _, rfl, by show 2 ≤ sizeLine; decide, fun t nt => ?_⟩
                generalize e5 : upd H4 t _ = H5
                obtain ⟨s5, et⟩ := new_of nt e5
                refine ⟨.tuple [.int c, .int w], .tuple [.int c, .int w], .tup (SqT.of (s5 _ _ ep)) (.cons (.int _) (.cons (.int _) .nil)), .tup (SqT.of et) (.cons (.int _) (.cons (.int _) .nil)), shT_two _ _, shT_two _ _, ?_⟩
                have : PyData.eqv (.tuple [.int c, .int w]) (.tuple [.int c, .int w]) = true := by simp [PyData.eqv, PyData.eqvAll]
                rw [this]
                exact k _ (s4.trans s5)
    · cases id hd with
      | tup h1 h2 =>
        rename_i q xs
        cases h2 with
        | cons a1 h2 =>
          cases a1
          refine ⟨_, rfl, q, _, 0, _, rfl, rfl, h1, atI_nat (j := 0) rfl, .str _, .str _, .str _, .str _, k3, k1, _, rfl, ?_⟩
          rw [eqv_strS]
          refine iteF0 (by decide +kernel) (nx_of ?_)
          refine ⟨_, rfl, q, _, 0, _, rfl, rfl, h1, atI_nat (j := 0) rfl, .str _, .str _, .str _, .str _, k3, k2, _, rfl, ?_⟩
          rw [eqv_strS]
          refine iteF0 (by decide +kernel) (nx_of ?_)
          refine ⟨_, rfl, _, rfl, by show 2 ≤ sizeLine; decide, fun t nt => ?_⟩
          generalize e4 : upd H t _ = H4
          obtain ⟨s4, et⟩ := new_of nt e4
          refine ⟨_, .tuple [.str "forget", .int w], Dp.same s4 _ _ hd, .tup (SqT.of et) (.cons (.str _) (.cons (.int _) .nil)), shT_forget _, shT_forget _, ?_⟩
          have : PyData.eqv (.tuple [.str "forget", .int w]) (.tuple [.str "forget", .int w]) = true := by simp [PyData.eqv, PyData.eqvAll]
          rw [this]
          exact k _ s4
end
end Kd

namespace Kd
open PySem PySem.Spec PyProof.Rows L2 LamX KzNk
/-! ### what the bag draws is good -/
theorem tx6 {l : List Str} (h : (l.all fun z => decide (z.length ≤ 14) && z.cps.toList.all fun c => decide (c < 128)) = true) : ∀ z ∈ l, Tx z := fun z hz => by
  have h1 := List.all_eq_true.mp h z hz
  rw [Bool.and_eq_true] at h1
  exact ⟨of_decide_eq_true h1.1, fun c hc => of_decide_eq_true (List.all_eq_true.mp h1.2 c hc)⟩
theorem nm6 {l : List Str} (h : (l.all nmB) = true) : ∀ z ∈ l, IsNm z := fun z hz => nm_iff.mp (List.all_eq_true.mp h z hz)
theorem good6 {ds : Dims} {ms : List Str} (h1 : ∃ k, 1 ≤ k ∧ k ≤ 3 ∧ Dims6 ds k) (h2 : ∃ k, ms = (["m", "mm"] : List Str).take k) : Good ds ms := by
  obtain ⟨k, k1, k3, e, ha⟩ := h1
  obtain ⟨j, rfl⟩ := h2
  have el : ds.length = k := by
    have := congrArg List.length e
    rw [List.length_map, List.length_take] at this
    show ds.length = k
    have h3 : dimL6.length = 3 := rfl
    omega
  have sub1 : (dimL6.take k).Sublist dimL6 := List.take_sublist _ _
  have sub2 : ((["m", "mm"] : List Str).take j).Sublist ["m", "mm"] := List.take_sublist _ _
  refine ⟨by omega, by omega, fun d hd => ?_, ?_, fun d hd => ?_, fun d hd a ha2 => ?_, fun d hd => ?_, ?_, fun m hm => ?_, ?_⟩
  · have : d.1 ∈ ds.map (·.1) := List.mem_map_of_mem hd
    rw [e] at this
    exact nm6 (l := dimL6) (by decide +kernel) _ (sub1.subset this)
  · rw [e]
    exact (show dimL6.Nodup by decide +kernel).sublist sub1
  · obtain ⟨j, e2, _⟩ := ha d hd
    have := congrArg List.length e2
    rw [List.length_map, List.length_take] at this
    have h4 : attL6.length = 4 := rfl
    omega
  · obtain ⟨j, e2, e3⟩ := ha d hd
    have : a.1 ∈ d.2.map (·.1) := List.mem_map_of_mem ha2
    rw [e2] at this
    exact ⟨nm6 (l := attL6) (by decide +kernel) _ ((List.take_sublist _ _).subset this), e3 a ha2⟩
  · obtain ⟨j, e2, _⟩ := ha d hd
    rw [e2]
    exact (show attL6.Nodup by decide +kernel).sublist (List.take_sublist _ _)
  · have := sub2.length_le
    have h3 : (["m", "mm"] : List Str).length = 2 := rfl
    omega
  · exact nm6 (l := ["m", "mm"]) (by decide +kernel) _ (sub2.subset hm)
  · exact (show (["m", "mm"] : List Str).Nodup by decide +kernel).sublist sub2
theorem nu6 {i : Int} (h : i.natAbs ≤ 10 ^ 40) : Nu i := Nat.lt_of_le_of_lt h (by decide)
theorem day6_nu {i : Int} (h : Day6 i) : Nu i := by
  rcases h with ⟨h1, h2⟩ | rfl | rfl
  · exact nu6 (Nat.le_trans (show i.natAbs ≤ 8 by omega) (by decide))
  · exact nu6 (by decide)
  · exact nu6 (by decide)
theorem num6_nu {i : Int} (h : Num6 i) : Nu i := by
  rcases h with ⟨h1, h2⟩ | rfl
  · exact nu6 (Nat.le_trans (show i.natAbs ≤ 4 by omega) (by decide))
  · exact nu6 (by decide)
theorem row6_ok {ds : Dims} {ms : List Str} (g : Good ds ms) : ∀ {r : Rw}, Row6 ds ms r → r.ok
  | .kind d key day vals, ⟨e, he, e1, h2, h3, h4, h5⟩ => by
    refine ⟨by rw [e1]; exact (g.dn e he).tx, tx6 (l := keyL6) (by decide +kernel) _ h2, day6_nu h3, by have := g.al e he; omega, fun v hv => ?_⟩
    have := h5 v hv
    simp only [valL6, List.mem_cons, List.not_mem_nil, or_false] at this
    rcases this with rfl | rfl | rfl | rfl | rfl | rfl
    · exact nu6 (by decide)
    · exact nu6 (by decide)
    · exact tx6 (l := ["u", "v", "longvalue1", "longvalue2"]) (by decide +kernel) _ (by simp)
    · exact tx6 (l := ["u", "v", "longvalue1", "longvalue2"]) (by decide +kernel) _ (by simp)
    · exact tx6 (l := ["u", "v", "longvalue1", "longvalue2"]) (by decide +kernel) _ (by simp)
    · exact tx6 (l := ["u", "v", "longvalue1", "longvalue2"]) (by decide +kernel) _ (by simp)
  | .fact name day keys nums, ⟨h1, h2, h3, h4, h5, h6⟩ => ⟨tx6 (l := nameL6) (by decide +kernel) _ h1, day6_nu h2, ⟨by have := g.d4; omega, fun z hz => tx6 (l := keyL6) (by decide +kernel) _ (h4 z hz)⟩, by have := g.m4; omega, fun i hi => num6_nu (h6 i hi)⟩
  | .forget name, h => tx6 (l := nameL6) (by decide +kernel) _ h
/-! ### what is led, by name -/
def ledZ (ds : Dims) (S : Hs) (z : Str) : List Int := match lk S.facts z with
  | some fc => ledI ds S fc
  | none => []
theorem ledZ_some {ds : Dims} {S : Hs} {z : Str} {fc : Fct} (h : lk S.facts z = some fc) : ledZ ds S z = ledI ds S fc := by
  unfold ledZ
  rw [h]
def anQ (ds : Dims) (S S' : Hs) (z : Str) : Bool := decide (z ∈ S.names) && !decide (ledZ ds S z = ledZ ds S' z)
theorem anQ_kind {ds : Dims} {S S' : Hs} (ef : S'.facts = S.facts) : (S'.names.filter (anQ ds S S')).length = (anewL ds S S').length := by
  unfold anewL
  congr 1
  apply List.filter_congr
  intro z hz
  obtain ⟨fc, hf⟩ := (names_lk z).mp hz
  have hf2 : lk S.facts z = some fc := by rw [← ef]; exact hf
  rw [anB_same hf hf2]
  unfold anQ
  rw [ledZ_some hf, ledZ_some hf2, decide_eq_true ((names_lk z).mpr ⟨fc, hf2⟩), Bool.true_and]
/-- what a row told, against what changed -/
theorem cnt_row {ds : Dims} {ms : List Str} {S : Hs} (so : HsOk ds ms S) {r : Rw} (ok : r.ok) (tk : S.takes ds ms r = true) :
    CntD (S.tellD ds r) (cameA ds S (S.tell ds r)) (wentA ds S (S.tell ds r)) ((S.tell ds r).names.filter (anQ ds S (S.tell ds r))).length := by
  obtain ⟨so', _⟩ := so.tell ok tk
  unfold Hs.takes at tk
  rw [Bool.and_eq_true] at tk
  obtain ⟨h1, h2⟩ := tk
  cases r with
  | kind d key day vals =>
    obtain ⟨a1, a2⟩ := told_kind so (r := .kind d key day vals) rfl so'
    have T := turned_kind (ds := ds) (S := S) d key day vals
    left
    show PyData.tuple [.str "kind", .int _, .int _, .int (ledN ds S (S.ts.taken (wsOf ds d) (d, key) day vals) (d, key))] = _
    rw [a1, a2, anQ_kind (S := S) (S' := S.tell ds (.kind d key day vals)) rfl, anew_kind so.fn (t0 := (d, key)) (S' := S.tell ds (.kind d key day vals)) rfl fun t ne => T.off fun m => ne (List.mem_singleton.mp m)]
    rfl
  | fact name day keys nums =>
    have hf : (decide (keys.length = ds.length) && decide (nums.length = ms.length)) = true := h1
    rw [Bool.and_eq_true] at hf
    obtain ⟨a1, a2⟩ := told_fact so (r := .fact name day keys nums) rfl (of_decide_eq_true hf.1) ok.2.2.1.2 so'
    right; left
    refine ⟨(thOf ds keys).map fun t => (S.factS ds name ⟨day, keys, nums⟩).ts.numOn t day, ?_⟩
    show PyData.tuple [.str "fact", .int _, .int _, .tuple _] = _
    rw [a1, a2, List.map_map]
    rfl
  | forget name =>
    obtain ⟨fc, hl⟩ := isSome_ex h2
    right; right
    have e : S.tellD ds (.forget name) = .tuple [.str "forget", .int (S.ts.partsN (S.dgone ds name fc))] := by
      unfold Hs.tellD
      simp only [hl]
    rw [e, told_forget so hl so']
end Kd

namespace Kd
open PySem PySem.Spec PyProof.Rows L2 LamX KzNk
theorem seqL_ct6 {K : PySem.W.Frag} {H : Hp} {a g l : Addr} {xs : List V} (h : SqL K H l xs) (ha : l ≠ a) (hg : l ≠ g) : SqL K (ct a g H) l xs := by
  rcases h with (h | ⟨u, h⟩) | h
  · exact .inl (.inl (ct_of h ha hg))
  · exact .inl (.inr ⟨u, ct_of h ha hg⟩)
  · exact .inr h
theorem dims_ct6 {K : PySem.W.Frag} {H : Hp} {a g l : Addr} {ds : Dims} (t : Two H a g) (h : DimsAt K H l ds) (ha : l ≠ a) (hg : l ≠ g) : DimsAt K (ct a g H) l ds := by
  obtain ⟨xs, h1, h2⟩ := h
  exact ⟨xs, seqL_ct6 h1 ha hg, PySem.Paired.mono (fun _ _ => dim_ctB t) h2⟩
theorem shL_ints (xs : List Int) : SeqAt.shaped (.list (xs.map PyData.int)) = true := by
  obtain ⟨h1, h2⟩ := lay_intsA xs
  unfold SeqAt.shaped
  rw [Bool.and_eq_true]
  refine ⟨by rw [PyData.canLay0]; exact h1, decide_eq_true ?_⟩
  rw [PyData.depth, h2]
  omega
theorem any_false6 : ∀ {l : List Bool}, (∀ b ∈ l, b = false) → l.any id = false
  | [], _ => rfl
  | b :: l, h => by
    rw [List.any_cons, h b (List.mem_cons_self ..), any_false6 fun c hc => h c (List.mem_cons_of_mem _ hc)]
    rfl
/-- looked up in the dict of a state: whether a version begins there -/
theorem look_go {P : Program} {w : World} {K : PySem.W.Frag} {H : Hp} {a : Addr} {xs : List NE} {ds : Dims} {ms : List Str} {S : Hs} (so : HsOk ds ms S) (h : AlAt P w K H a (allL ds S) xs) (m : Th × Ver) : (!(lk xs (mkM m)).isSome) = goL S m := by
  unfold goL
  congr 1
  rcases al_none h.p (mkM m) with ⟨e, h2⟩ | ⟨b, v, m2, e, h2, h3, _⟩
  · rw [e]
    symm
    refine decide_eq_false fun q => ?_
    obtain ⟨r, hr, er⟩ := List.mem_map.mp q
    have hk : (lk S.ts.nums m.1).isSome = true := by
      cases c : (lk S.ts.nums m.1).isSome with
      | true => rfl
      | false =>
        have := vs_none2 (ts := S.ts) (t := m.1) (by rw [c]; decide)
        rw [this] at hr
        cases hr
    exact h2 (m.1, r) (List.mem_flatMap.mpr ⟨m.1, (mem_plnL so).mpr hk, List.mem_map_of_mem hr⟩) (mkM_of rfl er)
  · rw [e]
    symm
    refine decide_eq_true ?_
    obtain ⟨e1, e2⟩ := mkM_inj h3
    obtain ⟨t, _, ht⟩ := List.mem_flatMap.mp h2
    obtain ⟨r, hr, rfl⟩ := List.mem_map.mp ht
    rw [← e1, ← e2]
    exact List.mem_map_of_mem hr
/-- what is found has the number of the version that begins there -/
theorem look_num {P : Program} {w : World} {K : PySem.W.Frag} {H : Hp} {a : Addr} {xs : List NE} {ds : Dims} {ms : List Str} {S : Hs} (so : HsOk ds ms S) (h : AlAt P w K H a (allL ds S) xs) {m : Th × Ver} (hs : (lk xs (mkM m)).isSome = true) : ∃ b v n e, lk xs (mkM m) = some (b, .ref v) ∧ lk (oldOf (S.ts.vs m.1)) m.2.b = some n ∧ SqT K H v [.int n, e] := by
  rcases al_none h.p (mkM m) with ⟨e, _⟩ | ⟨b, v, m2, e, h2, h3, h4⟩
  · rw [e] at hs; cases hs
  · obtain ⟨e1, e2⟩ := mkM_inj h3
    obtain ⟨t, _, ht⟩ := List.mem_flatMap.mp h2
    obtain ⟨r, hr, rfl⟩ := List.mem_map.mp ht
    have e1 : t = m.1 := e1
    have e2 : r.b = m.2.b := e2
    subst e1
    refine ⟨b, v, r.n, _, e, ?_, h4⟩
    rw [← e2]
    exact old_lk (so.tok.vs_nodup m.1) hr
theorem look_own {P : Program} {w : World} {K : PySem.W.Frag} {H : Hp} {a : Addr} {xs : List NE} {ds : Dims} {ms : List Str} {S : Hs} (so : HsOk ds ms S) (h : AlAt P w K H a (allL ds S) xs) {m : Th × Ver} (hm : m ∈ allL ds S) : ∃ b v e, lk xs (mkM m) = some (b, .ref v) ∧ SqT K H v [.int m.2.n, e] := by
  obtain ⟨t, ht1, ht⟩ := List.mem_flatMap.mp hm
  obtain ⟨r, hr, rfl⟩ := List.mem_map.mp ht
  have hs : (lk xs (mkM (t, r))).isSome = true := by
    have h5 : r.b ∈ oldB S.ts t := List.mem_map_of_mem (f := fun r : Ver => r.b) hr
    have this : (!(lk xs (mkM (t, r))).isSome) = !decide (r.b ∈ oldB S.ts t) := look_go so h (t, r)
    rw [decide_eq_true h5] at this
    simpa using this
  obtain ⟨b, v, n, e, h1, h2, h3⟩ := look_num so h hs
  rw [show ((t, r) : Th × Ver).2.b = r.b from rfl, old_lk (so.tok.vs_nodup t) hr] at h2
  cases h2
  exact ⟨b, v, e, h1, h3⟩
theorem addW6 {D : Addr} {Pv : Nat → List V → Hp → Prop} {i : Nat} {ys : List V} {y : V} {H : Hp} (e : H D = some (.lst ys)) (l : ys.length ≤ i) (hi : i < 100000) (p : Pv (i + 1) (ys ++ [y]) (cd D H)) :
    ∃ acc, H D = some (.lst acc) ∧ acc.length < sizeLine ∧ LcNx D Pv (i + 1) (upd H D (.lst (acc ++ [y]))) :=
  ⟨ys, e, Nat.lt_of_le_of_lt (by omega : ys.length ≤ 100000) (by decide), ys ++ [y], upd_same, by rw [List.length_append]; show ys.length + 1 ≤ i + 1; omega, by rw [cd_upd]; exact p⟩
def keyR (H : Hp) (K : PySem.W.Frag) (v : V) (m : Th × Ver) : Prop := ∃ b, v = .ref b ∧ KeyAt K H b (mkM m)
/-- a frozen dict of versions -/
theorem AlAt.frz {P : Program} {w : World} {K : PySem.W.Frag} {H : Hp} {a b : Addr} {xs ys : List NE} {L L' : List (Th × Ver)} {od : Obj} (h : AlAt P w K H a L xs) (h2 : AlAt P w K H b L' ys) (n : a ≠ b) : AlAt P w K (upd H b (.frz od (NkO P w b ys))) a L xs := h.keep (keep_nk h2.h) (upd_ne n)
structure Fz (P : Program) (w : World) (K : PySem.W.Frag) (H : Hp) (a : Addr) (od : Obj) (L : List (Th × Ver)) (xs : List NE) : Prop where
  h : H a = some (.frz od (NkO P w a xs))
  p : Paired (fun (e : NE) (m : Th × Ver) => e.1 = mkM m ∧ SqT K H e.2.1 [.str m.1.1, .str m.1.2, ovI m.2.b] ∧ ∃ v, e.2.2 = .ref v ∧ SqT K H v [.int m.2.n, ovI m.2.e]) xs L
theorem Fz.of {P : Program} {w : World} {K : PySem.W.Frag} {H : Hp} {a : Addr} {xs : List NE} {L : List (Th × Ver)} (od : Obj) (h : AlAt P w K H a L xs) : Fz P w K (upd H a (.frz od (NkO P w a xs))) a od L xs := ⟨upd_same, al_keep (keep_nk h.h) h.p⟩
theorem Fz.same {P : Program} {w : World} {K : PySem.W.Frag} {H H' : Hp} {a : Addr} {xs : List NE} {L : List (Th × Ver)} {od : Obj} (h : Fz P w K H a od L xs) (s : Same H H') : Fz P w K H' a od L xs := ⟨s _ _ h.h, al_keep (M := no) (Keep.of s) h.p⟩
theorem keys_all {K : PySem.W.Frag} {H : Hp} {xs : List NE} {L : List (Th × Ver)} (p : Paired (fun (e : NE) (m : Th × Ver) => e.1 = mkM m ∧ SqT K H e.2.1 [.str m.1.1, .str m.1.2, ovI m.2.b] ∧ ∃ v, e.2.2 = .ref v ∧ SqT K H v [.int m.2.n, ovI m.2.e]) xs L) : ∀ e ∈ xs, KeyAt K H e.2.1 e.1 := by
  induction p with
  | nil => intro e he; cases he
  | @cons e m es ms q t ih =>
    intro e2 he
    rcases List.mem_cons.mp he with z | z
    · rw [z, q.1]; exact mk_at q.2.1
    · exact ih e2 z
theorem Fz.r {P : Program} {w : World} {K : PySem.W.Frag} {H : Hp} {a : Addr} {xs : List NE} {L : List (Th × Ver)} {od : Obj} (h : Fz P w K H a od L xs) : NdR P w K H a xs := ⟨.inr ⟨od, h.h⟩, keys_all h.p⟩
/-- as if it stood there -/
theorem Fz.al {P : Program} {w : World} {K : PySem.W.Frag} {H : Hp} {a : Addr} {xs : List NE} {L : List (Th × Ver)} {od : Obj} (h : Fz P w K H a od L xs) : AlAt P w K (upd H a (NkO P w a xs)) a L xs := ⟨upd_same, al_keep (M := no) (fun b o e t c => by
  by_cases z : b = a
  · subst z
    rw [h.h] at e
    cases e
    rcases c with (⟨ys, q⟩ | ⟨u, ys, q⟩) | q
    · cases q
    · cases q
    · exact q.elim
  · rw [upd_ne z]; exact e) h.p⟩
theorem frz_back {H R : Hp} {a : Addr} {u : HO} {od : Obj} (h : H a = some u) (s : Same (upd H a (.frz od u)) R) : Same H (upd R a u) := fun b o e => by
  by_cases z : b = a
  · subst z
    rw [h] at e
    cases e
    exact upd_same
  · rw [upd_ne z]
    exact s b o (by rw [upd_ne z]; exact e)
theorem al_pt {P : Program} {w : World} {K : PySem.W.Frag} {H : Hp} {a : Addr} {xs : List NE} {L : List (Th × Ver)} {od : Obj} (h : Fz P w K H a od L xs) {i : Nat} {e : NE} (hi : xs[i]? = some e) : ∃ m, L[i]? = some m ∧ e.1 = mkM m ∧ KeyAt K H e.2.1 (mkM m) := by
  obtain ⟨m, hm, e1, e2, _⟩ := paired_at h.p hi
  exact ⟨m, hm, e1, mk_at e2⟩
theorem ifF_by6 {c : TT} {A B : TS} {D : Ends} {σ : L2.St} {H : Hp} (h : ∀ Q : Bool → Hp → Prop, Q false H → c σ H Q) (k : B D σ H) : tIfS c A B D σ H := h _ (iteF k)
theorem told0 {K : PySem.W.Frag} {H : Hp} {v : V} {z : Str} {rest : List PyData} (h : Dp K H v (.tuple (.str z :: rest))) : ∃ q vs, v = .ref q ∧ SqT K H q (.str z :: vs) := by
  cases h with
  | tup h1 h2 =>
    cases h2 with
    | cons a1 h2 =>
      cases a1
      exact ⟨_, _, rfl, h1⟩
theorem told3 {K : PySem.W.Frag} {H : Hp} {v : V} {x y : Int} {l : List Int} (h : Dp K H v (.tuple [.str "fact", .int x, .int y, .tuple (l.map PyData.int)])) : ∃ q q4, v = .ref q ∧ SqT K H q [.str "fact", .int x, .int y, .ref q4] ∧ SqT K H q4 (l.map V.int) := by
  cases h with
  | tup h1 h2 =>
    cases h2 with
    | cons a1 h2 =>
      cases h2 with
      | cons a2 h2 =>
        cases h2 with
        | cons a3 h2 =>
          cases h2 with
          | cons a4 h2 =>
            cases h2
            cases a1
            cases a2
            cases a3
            obtain ⟨q4, rfl, h4⟩ := dp_intT a4
            exact ⟨_, _, rfl, h1, h4⟩
/-- the state behind a row -/
structure St6 (P : Program) (w : World) (K : PySem.W.Frag) (c : Cn) (R : Hp) (xh lo pp mo lr B Ld : Addr) (M : Addr → Prop) (ds : Dims) (ms : List Str) (S : Hs) (xsB : List NE) (la : Str → Addr) (xs rs : List V) (rws : List Rw) : Prop where
  ho : HoO K c R M xh ds ms S
  so : HsOk ds ms S
  tb : Tabs (tbS c.Pt) R
  pl : SqT K R pp [.ref lo, .ref mo]
  dl : R lo = some (.lst xs)
  dp : Paired (DimAt K R) xs ds
  hr : R lr = some (.lst rs)
  rw : Paired (RwRef K R) rs rws
  nl : ¬ M lo
  nr : ¬ M lr
  al : AlAt P w K R B (allL ds S) xsB
  ld : LdD K R Ld ds S la
  nd : ¬ M Ld
theorem St6.same {P : Program} {w : World} {K : PySem.W.Frag} {c : Cn} {R R' : Hp} {xh lo pp mo lr B Ld : Addr} {M : Addr → Prop} {ds : Dims} {ms : List Str} {S : Hs} {xsB : List NE} {la : Str → Addr} {xs rs : List V} {rws : List Rw} (z : St6 P w K c R xh lo pp mo lr B Ld M ds ms S xsB la xs rs rws) (s : Same R R') : St6 P w K c R' xh lo pp mo lr B Ld M ds ms S xsB la xs rs rws where
  ho := z.ho.same s
  so := z.so
  tb := z.tb.ext s
  pl := Same.seqT s z.pl
  dl := s _ _ z.dl
  dp := PySem.Paired.mono (fun _ _ => DimAt.same s) z.dp
  hr := s _ _ z.hr
  rw := rws_same s z.rw
  nl := z.nl
  nr := z.nr
  al := z.al.same s
  ld := z.ld.same s
  nd := z.nd
section
variable {P : Program} {w : World} {K : PySem.W.Frag} {mg : Str → Option Value} {base : Heap} {f : Addr} {fd : FuncData}
def spLaw (K : PySem.W.Frag) (Pt : Addr) : Sp := fun vs H Q _ => ∃ (l : Addr) (ns : List Int), vs = [.ref l] ∧ SqL K H l (ns.map V.int) ∧ ns.length ≤ 63 ∧ Tabs (tbS Pt) H ∧ ∀ H', Q (.bl true) H'
abbrev N_law : List Str := ["script", "bag", "plan", "rows_all", "house", "before", "led", "most", "row", "told", "after", "led_now", "mark", "came", "went", "name", "anew"]
theorem sc_law : FnScope N_law ["script"] (defScope s_law) := ⟨rfl, rfl, rfl, by decide +kernel, rfl, by decide +kernel, by decide +kernel⟩
/-! slots: 0 script 1 bag 2 plan 3 rows_all 4 house 5 before 6 led 7 most 8 row 9 told 10 after 11 led_now 12 mark 13 came 14 went 15 name 16 anew; cells: after before led led_now -/
set_option maxHeartbeats 0 in
theorem ok_law {c : Cn} {f1 f2 f3 f4 f5 f6 f7 f8 m1 : Addr} {d1 d2 d3 d4 d5 d6 d7 d8 e1 : FuncData} (F : FnP K "law" "law" s_law f fd)
    (c_bag : Fun P w K mg base "_law_bag" 1 ["script"] (spBag6 K) f1 d1) (c_plan : Fun P w K mg base "_law_plan" 2 ["bag"] (spPlan6 K) f2 d2) (c_rows : Fun P w K mg base "_law_rows" 4 ["bag", "plan", "most"] (spRows6 K) f3 d3) (c_house : Fun P w K mg base "_law_house" 9 ["plan", "watches"] (spHouse6 K c) f4 d4)
    (c_all : Fun P w K mg base "_law_all" 4 ["house", "plan"] (spWall P w K c) f5 d5) (c_led : Fun P w K mg base "_law_led" 5 ["house", "plan"] (spWledd K c) f6 d6) (c_meets : Fun P w K mg base "_law_meets" 4 ["house", "plan"] (spWmeets K c) f7 d7) (c_counts : Fun P w K mg base "_law_counts" 1 ["told", "came", "went", "anew"] (spWcnt K) f8 d8)
    (mTe : MFun P w K mg base c.CH "tell" 8 ["self", "row"] (spTellK K c) m1 e1) (z_any : mg "any" = none) (z_sorted : mg "sorted" = none) (z_list : mg "list" = none) (z_range : mg "range" = none) (z_len : mg "len" = none) : FnOk P w K mg base CX0 10 f fd ["script"] (spLaw K c.Pt) := by
  refine F.ok sc_law (fun vs H Q E h => ?_) (fun cdv A outer s H vs Q E hr h => ?_)
  · obtain ⟨l, ns, rfl, _⟩ := h
    rfl
  · obtain ⟨l, ns, rfl, hS, hn, hTb, k⟩ := h
    have nd := sc_law.nd
    have hu := hr.units
    have hu1 : (A.deeper (envOfC "law" (defScope s_law) s.heap.objs.size f cdv)).units + 1 < cLine := by omega
    refine ⟨_, PSs.nox (pss_cons (ps_set (i := 1) nd rfl (Or.inl rfl) (pe_call c_bag.G (hr.mono (by decide)) rfl c_bag.g c_bag.k c_bag.b .nil pass0 (pa_cons (pv 0) pa_nil)))
      (pss_cons (ps_set (i := 2) nd rfl (Or.inl rfl) (pe_call c_plan.G (hr.mono (by decide)) rfl c_plan.g c_plan.k c_plan.b .nil pass0 (pa_cons (pv 1) pa_nil)))
      (pss_cons (ps_set (i := 3) nd rfl (Or.inl rfl) (pe_call c_rows.G (hr.mono (by decide)) rfl c_rows.g c_rows.k c_rows.b .nil pass0 (pa_cons (pv 1) (pa_cons (pv 2) (pa_cons pe_int pa_nil)))))
      (pss_cons (ps_set (i := 4) nd rfl (Or.inl rfl) (pe_call c_house.G (hr.mono (by decide)) rfl c_house.g c_house.k c_house.b .nil pass0 (pa_cons (pv 2) (pa_cons (pe_lst pa_nil) pa_nil))))
      (pss_cons (ps_asg (pe_tup (pa_cons KzNk.pe_nknew (pa_cons pe_dnewK (pa_cons pe_int pa_nil)))) (pg_tup rfl (pgs_cons (pg_name (i := 5) nd rfl (Or.inr rfl)) (pgs_cons (pg_name (i := 6) nd rfl (Or.inr rfl)) (pgs_cons (pg_name (i := 7) nd rfl (Or.inl rfl)) pgs_nil)))))
      (pss_cons (ps_for PassesOwn.never rfl (pi_list (pv 3)) (pg_name (i := 8) nd rfl (Or.inl rfl))
        (pss_cons (ps_set (i := 9) nd rfl (Or.inl rfl) (pe_meth (pv 4) mTe.cl mTe.m mTe.G (hr.mono (by decide)) mTe.b .nil pass0 (pa_cons (pv 8) pa_nil)))
        (pss_cons (ps_asg (pe_tup (pa_cons (pe_call c_all.G (hr.mono (by decide)) rfl c_all.g c_all.k c_all.b .nil pass0 (pa_cons (pv 4) (pa_cons (pv 2) pa_nil))) (pa_cons (pe_call c_led.G (hr.mono (by decide)) rfl c_led.g c_led.k c_led.b .nil pass0 (pa_cons (pv 4) (pa_cons (pv 2) pa_nil))) pa_nil))) (pg_tup rfl (pgs_cons (pg_name (i := 10) nd rfl (Or.inr rfl)) (pgs_cons (pg_name (i := 11) nd rfl (Or.inr rfl)) pgs_nil))))
        (pss_cons (ps_if (PW.pt (pw_or (pt_cmp (pc_isN (pv 11))) (pw_or1 (pt_not (pt_val (pe_call c_meets.G (hr.mono (by decide)) rfl c_meets.g c_meets.k c_meets.b .nil pass0 (pa_cons (pv 4) (pa_cons (pv 2) pa_nil))))))))
          (pss_one (ps_ret pe_bl))
          pss_nil)
        (pss_cons (ps_lock (ps_setLc (i := 13) (own := [("mark", 12)]) (g := gName 12) (tt := tB (KzNk.tNkNotIn P w K (tVar 12) (tVar 5))) (te := tVar 12) rfl nd rfl rfl (sw_true rfl rfl rfl (by decide +kernel)) (KzNk.pi_keysMN (pv 10)) (blkOk_by (own := [("mark", 12)]) (N := N_law) (sc := defScope s_law) (by decide +kernel))
        (fun _ _ _ _ _ => pg_name (i := 12) nd rfl (Or.inl rfl)) (fun _ _ _ _ _ => pts_one (pt_cmp (KzNk.pc_nknotin (hu9 hr) (pv 12) (pv 5)))) (fun _ _ _ _ _ => pv 12)))
        (pss_cons (ps_lock (ps_setLc (i := 14) (own := [("mark", 12)]) (g := gName 12) (tt := tB (KzNk.tNkNotIn P w K (tVar 12) (tVar 10))) (te := tVar 12) rfl nd rfl rfl (sw_true rfl rfl rfl (by decide +kernel)) (KzNk.pi_keysMN (pv 5)) (blkOk_by (own := [("mark", 12)]) (N := N_law) (sc := defScope s_law) (by decide +kernel))
        (fun _ _ _ _ _ => pg_name (i := 12) nd rfl (Or.inl rfl)) (fun _ _ _ _ _ => pts_one (pt_cmp (KzNk.pc_nknotin (hu9 hr) (pv 12) (pv 10)))) (fun _ _ _ _ _ => pv 12)))
        (pss_cons (ps_if (pt_val (pe_callB (cr_any rfl) (by rfl) z_any (by decide +kernel) (pa_cons (pe_lock (pe_lc (own := [("mark", 12)]) (g := gName 12) (tt := tB (KzNk.tNkIn P w K (tVar 12) (tVar 5))) (te := tOp rNe (tOp (rIxT K) (KzNk.tNkGet P w K (tVar 10) (tVar 12)) (tC (.int 0))) (tOp (rIxT K) (KzNk.tNkGet P w K (tVar 5) (tVar 12)) (tC (.int 0)))) rfl nd (KzNk.pi_keysMN (pv 10)) (blkOk_by (own := [("mark", 12)]) (N := N_law) (sc := defScope s_law) (by decide +kernel))
        (fun _ _ _ _ _ => pg_name (i := 12) nd rfl (Or.inl rfl)) (fun _ _ _ _ _ => pts_one (pt_cmp (KzNk.pc_nkin (hu9 hr) (pv 12) (pv 5)))) (fun _ _ _ _ _ => pe_cmpR op_ne (pe_ix ix_tup (KzNk.pe_nkget (hu9 hr) (pv 10) (pv 12) (fun _ _ => rfl)) pe_int (fun _ _ => rfl)) (pe_ix ix_tup (KzNk.pe_nkget (hu9 hr) (pv 5) (pv 12) (fun _ _ => rfl)) pe_int (fun _ _ => rfl)) (nomark _)))) pa_nil)))
          (pss_one (ps_ret pe_bl))
          pss_nil)
        (pss_cons (ps_if (pt_cmpR (op_neD hr.units) (pe_callB cr_sortedI (by rfl) z_sorted (by decide +kernel) (pa_cons (pe_lc (own := [("mark", 12)]) (g := gName 12) (tt := tYes) (te := tOp (rIxT K) (KzNk.tNkGet P w K (tVar 10) (tVar 12)) (tC (.int 0))) rfl nd (pi_list (pv 13)) (blkOk_by (own := [("mark", 12)]) (N := N_law) (sc := defScope s_law) (by decide +kernel))
        (fun _ _ _ _ _ => pg_name (i := 12) nd rfl (Or.inl rfl)) (fun _ _ _ _ _ => pts_nil) (fun _ _ _ _ _ => pe_ix ix_tup (KzNk.pe_nkget (hu9 hr) (pv 10) (pv 12) (fun _ _ => rfl)) pe_int (fun _ _ => rfl))) pa_nil)) (pe_listRg rfl (by rfl) z_list (prg_2 (by rfl) z_range (pe_op op_add (pv 7) pe_int) (pe_op op_add (pe_op op_add (pv 7) pe_int) (pe_callB call_len_seq (by rfl) z_len boot_len (pa_cons (pv 13) pa_nil))))) (nomark _))
          (pss_one (ps_ret pe_bl))
          pss_nil)
        (pss_cons (ps_lock (ps_setLc (i := 16) (own := [("name", 15)]) (g := gName 15) (tt := tAnd (tB (tDIn (tVar 15) (tVar 6))) (tTest (tOp (rNeD K) (tDGet (tVar 6) (tVar 15)) (tDGet (tVar 11) (tVar 15))))) (te := tVar 15) rfl nd rfl rfl (sw_true rfl rfl rfl (by decide +kernel)) (pi_keysM (pv 11)) (blkOk_by (own := [("name", 15)]) (N := N_law) (sc := defScope s_law) (by decide +kernel))
        (fun _ _ _ _ _ => pg_name (i := 15) nd rfl (Or.inl rfl)) (fun _ _ _ _ _ => pts_one (PW.pt (pw_and (pt_cmp (pc_din (hu_of hr) (pv 15) (pv 6))) (pw_and1 (pt_cmpR (op_neD hr.units) (pe_dget (hu_of hr) (pv 6) (pv 15) (fun _ _ => rfl)) (pe_dget (hu_of hr) (pv 11) (pv 15) (fun _ _ => rfl)) (nomark _)))))) (fun _ _ _ _ _ => pv 15)))
        (pss_cons (ps_if (pt_not (pt_val (pe_call c_counts.G (hr.mono (by decide)) rfl c_counts.g c_counts.k c_counts.b .nil pass0 (pa_cons (pv 9) (pa_cons (pe_callB call_len_seq (by rfl) z_len boot_len (pa_cons (pv 13) pa_nil)) (pa_cons (pe_callB call_len_seq (by rfl) z_len boot_len (pa_cons (pv 14) pa_nil)) (pa_cons (pe_callB call_len_seq (by rfl) z_len boot_len (pa_cons (pv 16) pa_nil)) pa_nil)))))))
          (pss_one (ps_ret pe_bl))
          pss_nil)
        (pss_cons (ps_if (PW.pt (pw_and (pt_cmpR (op_eqD hr.units) (pe_ix ix_tup (pv 9) pe_int (fun _ _ => rfl)) pe_str (nomark _)) (pw_and1 (pt_cmpR (op_neD hr.units) (pe_ix ix_tup (pv 9) pe_int (fun _ _ => rfl)) (pe_dget (hu_of hr) (pv 11) (pe_ix ix_tup (pv 8) pe_int (fun _ _ => rfl)) (fun _ _ => rfl)) (nomark _)))))
          (pss_one (ps_ret pe_bl))
          pss_nil)
        (pss_cons (ps_set (i := 7) nd rfl (Or.inl rfl) (pe_op op_add (pv 7) (pe_callB call_len_seq (by rfl) z_len boot_len (pa_cons (pv 13) pa_nil))))
        (pss_one (ps_asg (pe_tup (pa_cons (pv 10) (pa_cons (pv 11) pa_nil))) (pg_tup rfl (pgs_cons (pg_name (i := 5) nd rfl (Or.inr rfl)) (pgs_cons (pg_name (i := 6) nd rfl (Or.inr rfl)) pgs_nil)))))))))))))))))
      (pss_one (ps_ret pe_bl)))))))), ?_⟩
    refine ⟨_, rfl, l, ns, rfl, hS, hn, fun a g H1 na ng B1 s1 => ?_⟩
    have Tb1 := hTb.ext s1
    refine set_sl (σ' := [some (.ref l), some (.ref a), none, none, none, none, none, none, none, none, none, none, none, none, none, none, none]) rfl ?_
    refine ⟨_, rfl, a, g, 0, rfl, B1, by omega, fun pp lo mo ds ms H2 nlo nmo hpp ⟨xs, hlo, hds⟩ hmo hd hm nx B2 s2 => ?_⟩
    have Tb2 := tabs_drawG B1.two s2 Tb1
    have ok := good6 hd hm
    have T2 := B2.two
    have P2 : Pl6 K H2 a g pp lo mo ds ms := ⟨SqT.of hpp, dims_ct6 T2 ⟨xs, SqL.of hlo, hds⟩ nx.1 nx.2.1, seqL_ct6 (SqL.of hmo) nx.2.2.1 nx.2.2.2⟩
    refine set_sl (σ' := [some (.ref l), some (.ref a), some (.ref pp), none, none, none, none, none, none, none, none, none, none, none, none, none, none]) rfl ?_
    refine ⟨_, rfl, _, rfl, a, g, pp, lo, mo, _, ds, ms, 40, rfl, B2, by omega, P2, ok, by omega, fun lr rs rws th H3 nlr hlr prs tR lR B3 s3 => ?_⟩
    have P3 := P2.draw T2 s3
    have Tb3 := tabs_drawG T2 s3 Tb2
    have hlo3 := ctkeepG s3 hlo nx.1 nx.2.1
    have k23 := T2.keep0 s3
    have hds3 : Paired (DimAt K H3) xs ds := PySem.Paired.mono (fun _ _ z => dim_keep k23 z) hds
    refine set_sl (σ' := [some (.ref l), some (.ref a), some (.ref pp), some (.ref lr), none, none, none, none, none, none, none, none, none, none, none, none, none]) rfl ?_
    refine ⟨_, rfl, by show 0 ≤ sizeLine; decide, fun wl nwl => ?_⟩
    generalize e4 : upd H3 wl _ = H4
    obtain ⟨s4, ewl⟩ := new_of nwl e4
    have Tb4 := Tb3.ext s4
    have hds4 : Paired (DimAt K H4) xs ds := PySem.Paired.mono (fun _ _ => DimAt.same s4) hds3
    refine ⟨pp, lo, mo, wl, ds, ms, rfl, Same.seqT s4 P3.p, ⟨xs, SqL.of (s4 _ _ hlo3), hds4⟩, Same.seq (ct_sub.trans s4) P3.m, ok, ewl, Tb4, fun G xh M0 f10 mF O => ?_⟩
    refine set_sl (σ' := [some (.ref l), some (.ref a), some (.ref pp), some (.ref lr), some (.ref xh), none, none, none, none, none, none, none, none, none, none, none, none]) rfl ?_
    have so0 : HsOk ds ms Hs.none := HsOk.start ok.d4 ok.al (fun d hd => (ok.dn d hd).tx) ok.du
    have k0 := f10.keep0
    -- before, led, most
    intro B0 nB0
    generalize e5 : upd G B0 _ = G5
    obtain ⟨s5, eB0⟩ := new_of nB0 e5
    intro L0 nL0
    generalize e6 : upd G5 L0 _ = G6
    obtain ⟨s6, eL0⟩ := new_of nL0 e6
    refine ⟨by show 3 ≤ sizeLine; decide, fun tq ntq => ?_⟩
    generalize e7 : upd G6 tq _ = G7
    obtain ⟨s7, etq⟩ := new_of ntq e7
    refine ⟨tq, _, rfl, SqT.of etq, rfl, _, _, rfl, _, _, rfl, _, _, rfl, rfl, ?_⟩
    refine sl_eq (σ' := [some (.ref l), some (.ref a), some (.ref pp), some (.ref lr), some (.ref xh), some (.ref B0), some (.ref L0), some (.int 0), none, none, none, none, none, none, none, none, none]) rfl ?_
    have sG := (s5.trans s6).trans s7
    have all0 : allL ds Hs.none = [] := by
      have e : plnL ds Hs.none = [] := flat_none fun d _ => by
        unfold plnK Hs.keysOf Ts.keysL
        simp [Hs.none, srtS]
      unfold allL
      rw [e]
      rfl
    have nam0 : Hs.none.names = [] := by
      unfold Hs.names
      simp [Hs.none, srtS]
    have z0 : St6 P w K c G7 xh lo pp mo lr B0 L0 M0 ds ms Hs.none [] (fun _ => L0) xs rs rws :=
      { ho := O.same sG, so := so0, tb := (f10.tb Tb4).ext sG, pl := Same.seqT sG (k0.seqT (Same.seqT s4 P3.p)),
        dl := sG _ _ (f10.at (s4 _ _ hlo3) trivial (notF6 (s4 _ _ hlo3))), dp := PySem.Paired.mono (fun _ _ => DimAt.same sG) (PySem.Paired.mono (fun _ _ z => dim_keep k0 z) hds4),
        hr := sG _ _ (f10.at (s4 _ _ hlr) trivial (notF6 (s4 _ _ hlr))), rw := rws_same sG (PySem.Paired.mono (fun _ _ => RwRef.keep k0) (rws_same s4 prs)),
        nl := fun z => notF6 (s4 _ _ hlo3) (mF _ z), nr := fun z => notF6 (s4 _ _ hlr) (mF _ z),
        al := ⟨s7 _ _ (s6 _ _ eB0), by rw [all0]; exact .nil⟩, ld := ⟨by rw [nam0]; exact s7 _ _ eL0, fun z fc hz => by cases hz⟩,
        nd := (O.same s5).live.notN nL0 }
    have lrs := prs.length
    refine ⟨_, rfl, lr, rfl, ⟨_, SqL.of z0.hr⟩, ?_⟩
    refine for_list (K := K) (a := lr) (xs := rs) (fun i σ R => ∃ (B Ld : Addr) (M : Addr → Prop) (xsB : List NE) (la : Str → Addr) (y8 y9 y10 y11 y12 y13 y14 y15 y16 : Option V), σ = [some (.ref l), some (.ref a), some (.ref pp), some (.ref lr), some (.ref xh), some (.ref B), some (.ref Ld), some (.int (runR ds (rws.take i)).ts.given), y8, y9, y10, y11, y12, y13, y14, y15, y16] ∧ St6 P w K c R xh lo pp mo lr B Ld M ds ms (runR ds (rws.take i)) xsB la xs rs rws ∧ (runR ds (rws.take i)).rows.length = min i rws.length ∧ 0 ≤ (runR ds (rws.take i)).ts.given ∧ (runR ds (rws.take i)).ts.given ≤ 20000 * i)
      ⟨B0, L0, M0, [], _, _, _, _, _, _, _, _, _, _, rfl, z0, by rw [Nat.zero_min]; rfl, Int.le_refl _, by show (0 : Int) ≤ 20000 * (0 : Nat); omega⟩ (fun _ _ _ _ ⟨_, _, _, _, _, _, _, _, _, _, _, _, _, _, _, z, _⟩ => SqL.of z.hr) ?_ ?_
    · rintro i y σ R hy ⟨B, Ld, M, xsB, la, y8, y9, y10, y11, y12, y13, y14, y15, y16, rfl, z1, lr1, gv0, gv1⟩
      have hi := (List.getElem?_eq_some_iff.mp hy).1
      obtain ⟨r, hr1, p, rfl, ra⟩ := paired_at z1.rw hy
      have tk := tR.vd i r hr1
      have okr := row6_ok ok (tR.rw r (List.mem_of_getElem? hr1))
      obtain ⟨g1, g2⟩ := List.getElem?_eq_some_iff.mp hr1
      have er : runR ds (rws.take (i + 1)) = (runR ds (rws.take i)).tell ds r := by
        rw [List.take_succ_eq_append_getElem g1, g2, runR_snoc]
      rw [er]
      generalize runR ds (rws.take i) = S at z1 lr1 tk gv0 gv1 ⊢
      obtain ⟨so2, rw2⟩ := z1.so.tell okr tk
      have tq := TellQ.of z1.so okr tk
      have cr := cnt_row z1.so okr tk
      have l2 : (S.tell ds r).rows.length = i + 1 := by rw [rw2, List.length_append, lr1]; show min i rws.length + 1 = _; omega
      refine set_sl (σ' := [some (.ref l), some (.ref a), some (.ref pp), some (.ref lr), some (.ref xh), some (.ref B), some (.ref Ld), some (.int S.ts.given), some (.ref p), y9, y10, y11, y12, y13, y14, y15, y16]) rfl ?_
      obtain ⟨MT1, MS1, dx1, p_1, th1, kf1, tr1, wd1, fa1, wa1, rs1, eM1, X1⟩ := id z1.ho
      refine ⟨_, rfl, xh, dx1, _, rfl, X1.hx, hs_no (by decide +kernel), _, rfl, xh, p, M, ds, ms, S, r, rfl, z1.ho, ra, okr, z1.so, by omega, z1.tb, tk, fun R2 M2 v2 fr2 nw2 O2 dv2 => ?_⟩
      have nB : ¬ M B := z1.ho.live.notT z1.al.h nko_notChg
      have k2 := fr2.keep0
      have nl2 : ¬ M2 lo := fun z => (nw2 _ z).elim z1.nl fun q => notF6 z1.dl q
      have nr2 : ¬ M2 lr := fun z => (nw2 _ z).elim z1.nr fun q => notF6 z1.hr q
      have al2 := z1.al.fr fr2 nB
      have ld2 := z1.ld.keep k2 ((fr2.at z1.ld.h trivial z1.nd).trans z1.ld.h.symm)
      have pl2 := k2.seqT z1.pl
      have dl2 := fr2.at z1.dl trivial z1.nl
      have dp2 : Paired (DimAt K R2) xs ds := PySem.Paired.mono (fun _ _ z => dim_keep k2 z) z1.dp
      have hr2 := fr2.at z1.hr trivial z1.nr
      have rw3 : Paired (RwRef K R2) rs rws := PySem.Paired.mono (fun _ _ => RwRef.keep k2) z1.rw
      have tb2 := fr2.tb z1.tb
      have ra2 := k2.rw_at ra
      refine set_sl (σ' := [some (.ref l), some (.ref a), some (.ref pp), some (.ref lr), some (.ref xh), some (.ref B), some (.ref Ld), some (.int S.ts.given), some (.ref p), some v2, y10, y11, y12, y13, y14, y15, y16]) rfl ?_
      -- after, led_now
      refine ⟨_, rfl, _, rfl, xh, pp, lo, mo, M2, ds, ms, _, rfl, O2, so2, by omega, pl2, ⟨xs, SqL.of dl2, dp2⟩, fun R3 A xsA s3' nA alA => ?_⟩
      refine ⟨_, rfl, _, rfl, xh, pp, lo, mo, M2, ds, ms, _, rfl, O2.same s3', so2, by omega, Same.seqT s3' pl2, ⟨xs, SqL.of (s3' _ _ dl2), PySem.Paired.mono (fun _ _ => DimAt.same s3') dp2⟩, fun R4 Lw lw s4' nLw ldw => ?_⟩
      refine ⟨by show 2 ≤ sizeLine; decide, fun tp ntp => ?_⟩
      generalize e8 : upd R4 tp _ = R5
      obtain ⟨s5', etp⟩ := new_of ntp e8
      refine ⟨tp, _, rfl, SqT.of etp, rfl, _, _, rfl, _, _, rfl, rfl, ?_⟩
      refine sl_eq (σ' := [some (.ref l), some (.ref a), some (.ref pp), some (.ref lr), some (.ref xh), some (.ref B), some (.ref Ld), some (.int S.ts.given), some (.ref p), some v2, some (.ref A), some (.ref Lw), y12, y13, y14, y15, y16]) rfl ?_
      have s25 := (s3'.trans s4').trans s5'
      have z5 : St6 P w K c R5 xh lo pp mo lr A Lw M2 ds ms (S.tell ds r) xsA lw xs rs rws :=
        { ho := O2.same s25, so := so2, tb := tb2.ext s25, pl := Same.seqT s25 pl2, dl := s25 _ _ dl2, dp := PySem.Paired.mono (fun _ _ => DimAt.same s25) dp2,
          hr := s25 _ _ hr2, rw := rws_same s25 rw3, nl := nl2, nr := nr2, al := (alA.same s4').same s5', ld := ldw.same s5', nd := (O2.same s3').live.notN nLw }
      have al5 := al2.same s25
      have ld5 := ld2.same s25
      have dv5 := Dp.same s25 _ _ dv2
      have ra5 := (Keep.of (M := no) s25).rw_at ra2
      have hAB : A ≠ B := fun z => by
        rw [z] at nA
        have := al2.h
        rw [nA] at this
        cases this
      -- neither
      refine ⟨_, rfl, _, rfl, iteF0 (by simp) ⟨_, rfl, _, rfl, xh, pp, lo, mo, M2, ds, ms, _, rfl, z5.ho, so2, by omega, z5.pl, ⟨xs, SqL.of z5.dl, z5.dp⟩, fun R6 s6' => ⟨_, rfl, iteF (nx_of ?_)⟩⟩⟩
      have z6 := z5.same s6'
      have al6 := al5.same s6'
      have ld6 := ld5.same s6'
      have dv6 := Dp.same s6' _ _ dv5
      have ra6 := (Keep.of (M := no) s6').rw_at ra5
      have la5 := allL_len so2 (by omega)
      have la1 := allL_len z1.so (by omega)
      refine ⟨A, _, z6.al.h, trivial, fun od1 => ?_⟩
      have FA1 := Fz.of od1 z6.al
      have BA1 := al6.frz (od := od1) z6.al hAB.symm
      have back1 : ∀ {H3 : Hp}, Same (upd R6 A (.frz od1 (NkO P w A xsA))) H3 → Same R6 (upd H3 A (NkO P w A xsA)) := fun s => frz_back z6.al.h s
      generalize upd R6 A (.frz od1 (NkO P w A xsA)) = HF1 at FA1 BA1 back1 ⊢
      refine ⟨_, rfl, A, od1, xsA, rfl, FA1.h, fun D1 nD1 => ?_⟩
      have DA1 : D1 ≠ A := fun z => by rw [z, FA1.h] at nD1; cases nD1
      refine lc_build (walk_keysNK (P := P) (w := w) (d := A) (o := od1) (xs := xsA)) nD1 (fun j ys R => Same HF1 R ∧ Paired (keyR R6 K) ys (((allL ds (S.tell ds r)).take j).filter (goL S))) ⟨Same.refl _, .nil⟩ (fun _ _ _ _ z => (z.1.trans cd_sub) _ _ FA1.h) ?_ ?_
      · rintro j ys y R' R'' hj e ly ⟨sm, pz⟩ ⟨rfl, en, hen, rfl⟩
        obtain ⟨m, hm, em, hkk, _⟩ := paired_at z6.al.p hen
        obtain ⟨m', hm', em', hk'⟩ := al_pt FA1 hen
        have sR : Same HF1 R'' := sm.trans cd_sub
        have hk2 : KeyAt K R'' en.2.1 en.1 := by rw [em']; exact ⟨Dp.same sR _ _ hk'.1, hk'.2⟩
        refine ⟨rfl, _, rfl, _, rfl, B, en.2.1, xsB, en.1, rfl, rfl, (BA1.same sR).nd.r, hk2, _, rfl, ?_⟩
        rw [em, look_go z1.so al6 m]
        have efl := flt_snoc (p := goL S) hm
        have hjl : j < 100000 := by rw [z6.al.len] at hj; omega
        cases c : goL S m with
        | true =>
          refine iteT ⟨_, rfl, addW6 e ly hjl ⟨sm, ?_⟩⟩
          rw [efl, if_pos c]
          exact PySem.Paired.snoc pz ⟨en.2.1, rfl, mk_at hkk⟩
        | false =>
          refine iteF (LcNx.skip e ly ⟨sm, ?_⟩)
          rw [efl, if_neg (by rw [c]; decide), List.append_nil]
          exact pz
      rintro ys1 R71 e71 ly1 ⟨sm1, pz1⟩
      rw [z6.al.len, List.take_length] at pz1
      have s71 : Same HF1 R71 := sm1.trans cd_sub
      refine set_sl (σ' := [some (.ref l), some (.ref a), some (.ref pp), some (.ref lr), some (.ref xh), some (.ref B), some (.ref Ld), some (.int S.ts.given), some (.ref p), some v2, some (.ref A), some (.ref Lw), y12, some (.ref D1), y14, y15, y16]) rfl ⟨s71 _ _ FA1.h, ?_⟩
      have sb1 := back1 s71
      have eD1 : upd R71 A (NkO P w A xsA) D1 = some (.lst ys1) := by rw [upd_ne DA1, e71]
      generalize upd R71 A (NkO P w A xsA) = R81 at sb1 eD1 ⊢
      have pz1' : Paired (keyR R81 K) ys1 ((allL ds (S.tell ds r)).filter (goL S)) := PySem.Paired.mono (fun _ _ ⟨b, e, h⟩ => ⟨b, e, Dp.same sb1 _ _ h.1, h.2⟩) pz1
      have z8 := z6.same sb1
      have al8 := al6.same sb1
      refine ⟨B, _, al8.h, trivial, fun od2 => ?_⟩
      have FA2 := Fz.of od2 al8
      have BA2 := z8.al.frz (od := od2) al8 hAB
      have back2 : ∀ {H3 : Hp}, Same (upd R81 B (.frz od2 (NkO P w B xsB))) H3 → Same R81 (upd H3 B (NkO P w B xsB)) := fun s => frz_back al8.h s
      generalize upd R81 B (.frz od2 (NkO P w B xsB)) = HF2 at FA2 BA2 back2 ⊢
      refine ⟨_, rfl, B, od2, xsB, rfl, FA2.h, fun D2 nD2 => ?_⟩
      have DA2 : D2 ≠ B := fun z => by rw [z, FA2.h] at nD2; cases nD2
      refine lc_build (walk_keysNK (P := P) (w := w) (d := B) (o := od2) (xs := xsB)) nD2 (fun j ys R => Same HF2 R ∧ Paired (keyR R81 K) ys (((allL ds S).take j).filter (goL (S.tell ds r)))) ⟨Same.refl _, .nil⟩ (fun _ _ _ _ z => (z.1.trans cd_sub) _ _ FA2.h) ?_ ?_
      · rintro j ys y R' R'' hj e ly ⟨sm, pz⟩ ⟨rfl, en, hen, rfl⟩
        obtain ⟨m, hm, em, hkk, _⟩ := paired_at al8.p hen
        obtain ⟨m', hm', em', hk'⟩ := al_pt FA2 hen
        have sR : Same HF2 R'' := sm.trans cd_sub
        have hk2 : KeyAt K R'' en.2.1 en.1 := by rw [em']; exact ⟨Dp.same sR _ _ hk'.1, hk'.2⟩
        refine ⟨rfl, _, rfl, _, rfl, A, en.2.1, xsA, en.1, rfl, rfl, (BA2.same sR).nd.r, hk2, _, rfl, ?_⟩
        rw [em, look_go so2 z8.al m]
        have efl := flt_snoc (p := goL (S.tell ds r)) hm
        have hjl : j < 100000 := by rw [al8.len] at hj; omega
        cases c : goL (S.tell ds r) m with
        | true =>
          refine iteT ⟨_, rfl, addW6 e ly hjl ⟨sm, ?_⟩⟩
          rw [efl, if_pos c]
          exact PySem.Paired.snoc pz ⟨en.2.1, rfl, mk_at hkk⟩
        | false =>
          refine iteF (LcNx.skip e ly ⟨sm, ?_⟩)
          rw [efl, if_neg (by rw [c]; decide), List.append_nil]
          exact pz
      rintro ys2 R72 e72 ly2 ⟨sm2, pz2⟩
      rw [al8.len, List.take_length] at pz2
      have s72 : Same HF2 R72 := sm2.trans cd_sub
      refine set_sl (σ' := [some (.ref l), some (.ref a), some (.ref pp), some (.ref lr), some (.ref xh), some (.ref B), some (.ref Ld), some (.int S.ts.given), some (.ref p), some v2, some (.ref A), some (.ref Lw), y12, some (.ref D1), some (.ref D2), y15, y16]) rfl ⟨s72 _ _ FA2.h, ?_⟩
      have sb2 := back2 s72
      have eD2 : upd R72 B (NkO P w B xsB) D2 = some (.lst ys2) := by rw [upd_ne DA2, e72]
      generalize upd R72 B (NkO P w B xsB) = R82 at sb2 eD2 ⊢
      have z9 := z8.same sb2
      have al9 := al8.same sb2
      have ld9 := (ld6.same sb1).same sb2
      have dv9 := Dp.same sb2 _ _ (Dp.same sb1 _ _ dv6)
      have ra9 := (Keep.of (M := no) (sb1.trans sb2)).rw_at ra6
      have eD19 := sb2 _ _ eD1
      have pz9 : Paired (keyR R82 K) ys1 ((allL ds (S.tell ds r)).filter (goL S)) := PySem.Paired.mono (fun _ _ ⟨b, e, h⟩ => ⟨b, e, Dp.same sb2 _ _ h.1, h.2⟩) pz1'
      have l13 : ys1.length = cameA ds S (S.tell ds r) := by rw [pz1.length, come_len]; rfl
      have l14 : ys2.length = wentA ds S (S.tell ds r) := by rw [pz2.length, come_len]; rfl
      have l13b : ys1.length ≤ 16384 := by
        rw [pz1.length]
        exact Nat.le_trans (List.length_filter_le ..) la5
      -- those that stay
      refine ⟨A, _, z9.al.h, trivial, fun od3 => ?_⟩
      have FA3 := Fz.of od3 z9.al
      have BA3 := al9.frz (od := od3) z9.al hAB.symm
      have back3 : ∀ {H3 : Hp}, Same (upd R82 A (.frz od3 (NkO P w A xsA))) H3 → Same R82 (upd H3 A (NkO P w A xsA)) := fun s => frz_back z9.al.h s
      generalize upd R82 A (.frz od3 (NkO P w A xsA)) = HF3 at FA3 BA3 back3 ⊢
      refine ⟨_, rfl, A, od3, xsA, rfl, FA3.h, fun D3 nD3 => ?_⟩
      have DA3 : D3 ≠ A := fun z => by rw [z, FA3.h] at nD3; cases nD3
      refine lc_build (walk_keysNK (P := P) (w := w) (d := A) (o := od3) (xs := xsA)) nD3 (fun j ys R => Same HF3 R ∧ ∃ bs : List Bool, ys = bs.map V.bl ∧ ∀ b ∈ bs, b = false) ⟨Same.refl _, [], rfl, fun _ h => by cases h⟩ (fun _ _ _ _ z => (z.1.trans cd_sub) _ _ FA3.h) ?_ ?_
      · rintro j ys y R' R'' hj e ly ⟨sm, bs, rfl, hb⟩ ⟨rfl, en, hen, rfl⟩
        obtain ⟨m, hm, em, hk'⟩ := al_pt FA3 hen
        have sR : Same HF3 R'' := sm.trans cd_sub
        have hk2 : KeyAt K R'' en.2.1 en.1 := by rw [em]; exact ⟨Dp.same sR _ _ hk'.1, hk'.2⟩
        have hjl : j < 100000 := by rw [z9.al.len] at hj; omega
        refine ⟨rfl, _, rfl, _, rfl, B, en.2.1, xsB, en.1, rfl, rfl, (BA3.same sR).nd.r, hk2, _, rfl, ?_⟩
        cases c : (lk xsB en.1).isSome with
        | false => exact iteF (LcNx.skip e ly ⟨sm, bs, rfl, hb⟩)
        | true =>
          have hmm := List.mem_of_getElem? hm
          obtain ⟨bA, vA, eA, hA1, hA2⟩ := look_own so2 FA3.al hmm
          rw [em] at c
          obtain ⟨bB, vB, nB, eB, hB1, hB2, hB3⟩ := look_num z1.so BA3 c
          have hmt : m.2 ∈ (S.tell ds r).ts.vs m.1 := by
            obtain ⟨t, _, ht⟩ := List.mem_flatMap.mp hmm
            obtain ⟨q, hq, rfl⟩ := List.mem_map.mp ht
            exact hq
          have en2 := tq.st m.1 m.2 hmt nB hB2
          have kA : Keep no (upd HF3 A (NkO P w A xsA)) R'' := fun b o e t c => by
            by_cases z : b = A
            · subst z
              rw [upd_same] at e
              cases e
              rcases c with (⟨ys, q⟩ | ⟨u, ys, q⟩) | q
              · cases q
              · cases q
              · exact q.elim
            · rw [upd_ne z] at e
              exact sR _ _ e
          refine iteT ⟨_, rfl, _, rfl, A, en.2.1, xsA, en.1, (bA, .ref vA), rfl, rfl, (FA3.same sR).r, hk2, by rw [em]; exact hA1, vA, _, 0, _, rfl, rfl, kA.seqT hA2, atI_nat (j := 0) rfl, ?_⟩
          refine ⟨_, rfl, _, rfl, B, en.2.1, xsB, en.1, (bB, .ref vB), rfl, rfl, (BA3.same sR).nd.r, hk2, by rw [em]; exact hB1, vB, _, 0, _, rfl, rfl, Same.seqT sR hB3, atI_nat (j := 0) rfl, rfl, ?_⟩
          refine addW6 e ly hjl ⟨sm, bs ++ [false], ?_, fun b hb2 => ?_⟩
          · rw [List.map_append, ← en2]
            simp
          · rcases List.mem_append.mp hb2 with q | q
            · exact hb b q
            · exact List.mem_singleton.mp q
      rintro ys3 R73 e73 ly3 ⟨sm3, bs, rfl, hbs⟩
      have s73 : Same HF3 R73 := sm3.trans cd_sub
      refine ⟨s73 _ _ FA3.h, ?_⟩
      have sb3 := back3 s73
      have eD3 : upd R73 A (NkO P w A xsA) D3 = some (.lst (bs.map V.bl)) := by rw [upd_ne DA3, e73]
      generalize upd R73 A (NkO P w A xsA) = R83 at sb3 eD3 ⊢
      refine ⟨D3, bs, rfl, SqL.of eD3, ?_⟩
      rw [any_false6 hbs]
      refine ⟨_, rfl, iteF (nx_of ?_)⟩
      have z10 := z9.same sb3
      have al10 := al9.same sb3
      have ld10 := ld9.same sb3
      have dv10 := Dp.same sb3 _ _ dv9
      have ra10 := (Keep.of (M := no) sb3).rw_at ra9
      have eD110 := sb3 _ _ eD19
      have eD210 := sb3 _ _ eD2
      have pz10 : Paired (keyR R83 K) ys1 ((allL ds (S.tell ds r)).filter (goL S)) := PySem.Paired.mono (fun _ _ ⟨b, e, h⟩ => ⟨b, e, Dp.same sb3 _ _ h.1, h.2⟩) pz9
      -- the new numbers
      refine ⟨_, rfl, D1, rfl, ⟨_, SqL.of eD110⟩, fun D4 nD4 => ?_⟩
      refine lc_build (walk_list (K := K) (a := D1) (xs := ys1)) nD4 (fun j ys R => Same R83 R ∧ ys = (((allL ds (S.tell ds r)).filter (goL S)).take j).map fun m => V.int m.2.n) ⟨Same.refl _, rfl⟩ (fun _ _ _ _ z => SqL.of ((z.1.trans cd_sub) _ _ eD110)) ?_ ?_
      · rintro j ys y R' R'' hj e ly ⟨sm, rfl⟩ ⟨rfl, hy⟩
        obtain ⟨m, hm, b, rfl, hk'⟩ := paired_at pz10 hy
        have sR : Same R83 R'' := sm.trans cd_sub
        have hk2 : KeyAt K R'' b (mkM m) := ⟨Dp.same sR _ _ hk'.1, hk'.2⟩
        have hmm := (List.mem_filter.mp (List.mem_of_getElem? hm)).1
        obtain ⟨bA, vA, eA, hA1, hA2⟩ := look_own so2 (z10.al.same sR) hmm
        refine ⟨rfl, yes ?_⟩
        refine ⟨_, rfl, _, rfl, A, b, xsA, mkM m, (bA, .ref vA), rfl, rfl, (z10.al.same sR).nd.r, hk2, hA1, vA, _, 0, _, rfl, rfl, hA2, atI_nat (j := 0) rfl, ?_⟩
        refine addW6 e ly (by omega) ⟨sm, ?_⟩
        obtain ⟨q1, q2⟩ := List.getElem?_eq_some_iff.mp hm
        rw [List.take_succ_eq_append_getElem q1, List.map_append, q2]
        rfl
      rintro ys4 R74 e74 ly4 ⟨sm4, rfl⟩
      have s74 : Same R83 R74 := sm4.trans cd_sub
      rw [pz10.length, List.take_length] at e74
      have e75 : ((allL ds (S.tell ds r)).filter (goL S)).map (fun m => V.int m.2.n) = ((plnL ds (S.tell ds r)).flatMap (newN S.ts (S.tell ds r).ts)).map V.int := by
        rw [← come_nums, List.map_map]
        rfl
      rw [e75] at e74
      refine ⟨D4, _, rfl, SqL.of e74, fun ns' q4 hperm hpw nq4 => ?_⟩
      have ens : ns' = iota S.ts.given (cameA ds S (S.tell ds r)) :=
        List.Perm.eq_of_pairwise (le := fun x y : Int => x ≤ y) (fun x y _ _ h1 h2 => by omega) hpw ((iota_asc _ _).imp fun {x y} h => by omega) (hperm.trans tq.nw)
      subst ens
      generalize e76 : upd R74 q4 _ = R76
      obtain ⟨s76, eq4⟩ := new_of nq4 e76
      have s86 := s74.trans s76
      refine ⟨_, rfl, _, _, rfl, rfl, _, rfl, _, _, rfl, rfl, _, rfl, D1, _, rfl, .inl (SqL.of (s86 _ _ eD110)), _, _, rfl, rfl, _, _, rfl, rfl, RgOk.of_le (by omega) (by omega) (by omega) (by omega), fun q5 nq5 => ?_⟩
      generalize e77 : upd R76 q5 _ = R77
      obtain ⟨s77, eq5⟩ := new_of nq5 e77
      have erg : rgV (S.ts.given + 1) (S.ts.given + 1 + (ys1.length : Int)) = (iota S.ts.given (cameA ds S (S.tell ds r))).map V.int := by
        unfold rgV iota
        rw [List.map_map, show (S.ts.given + 1 + (ys1.length : Int) - (S.ts.given + 1)).toNat = cameA ds S (S.tell ds r) by omega]
        rfl
      rw [erg] at eq5
      refine ⟨_, _, .lst (SqL.of (s77 _ _ eq4)) (intsS_dp _), .lst (SqL.of eq5) (intsS_dp _), shL_ints _, shL_ints _, _, rfl, ?_⟩
      have eqI : PyData.eqv (.list ((iota S.ts.given (cameA ds S (S.tell ds r))).map PyData.int)) (.list ((iota S.ts.given (cameA ds S (S.tell ds r))).map PyData.int)) = true := by
        simp only [PyData.eqv]
        rw [eqv_intsV]
        exact decide_eq_true rfl
      rw [eqI]
      refine iteF (nx_of ?_)
      have s87 := s86.trans s77
      have z11 := z10.same s87
      have ld11 := ld10.same s87
      have dv11 := Dp.same s87 _ _ dv10
      have ra11 := (Keep.of (M := no) s87).rw_at ra10
      have eD111 := s87 _ _ eD110
      have eD211 := s87 _ _ eD210
      have nmt := namesS_nodup so2.fn
      have nml : (S.tell ds r).names.length ≤ 64 := by unfold Hs.names; rw [srtS_len, List.length_map]; have := so2.fl; omega
      -- led anew
      refine ⟨Lw, _, z11.ld.h, trivial, fun od5 => ?_⟩
      have hLL : Ld ≠ Lw := fun z => by
        have h1 := (ld2.same s3').h
        rw [z, nLw] at h1
        cases h1
      have hfz : upd R77 Lw (.frz od5 (.dK ((S.tell ds r).names.map fun z => ((Sum.inr z : L2.Key), V.ref (lw z))))) Lw = some (.frz od5 (.dK ((S.tell ds r).names.map fun z => ((Sum.inr z : L2.Key), V.ref (lw z))))) := upd_same
      have kfz : Keep no R77 (upd R77 Lw (.frz od5 (.dK ((S.tell ds r).names.map fun z => ((Sum.inr z : L2.Key), V.ref (lw z)))))) := (Fr.put (T := []) (N := fun b => b = Lw) z11.ld.h trivial rfl).keep0
      have ldf := ld11.keep kfz (upd_ne hLL)
      have back5 : ∀ {H3 : Hp}, Same (upd R77 Lw (.frz od5 (.dK ((S.tell ds r).names.map fun z => ((Sum.inr z : L2.Key), V.ref (lw z)))))) H3 → Same R77 (upd H3 Lw (.dK ((S.tell ds r).names.map fun z => ((Sum.inr z : L2.Key), V.ref (lw z))))) := fun s => frz_back z11.ld.h s
      have lwf : ∀ z fc, lk (S.tell ds r).facts z = some fc → SqT K (upd R77 Lw (.frz od5 (.dK ((S.tell ds r).names.map fun z => ((Sum.inr z : L2.Key), V.ref (lw z)))))) (lw z) ((ledI ds (S.tell ds r) fc).map V.int) := fun z fc e => kfz.seqT (z11.ld.i z fc e)
      generalize upd R77 Lw (.frz od5 (.dK ((S.tell ds r).names.map fun z => ((Sum.inr z : L2.Key), V.ref (lw z))))) = HF5 at hfz ldf back5 lwf ⊢
      refine ⟨_, rfl, Lw, od5, _, rfl, hfz, fun D5 nD5 => ?_⟩
      have DL5 : D5 ≠ Lw := fun z => by rw [z, hfz] at nD5; cases nD5
      refine lc_build (walk_keys (d := Lw) (o := od5) (kvs := (S.tell ds r).names.map fun z => ((Sum.inr z : L2.Key), V.ref (lw z)))) nD5 (fun j ys R => Same HF5 R ∧ ys = (((S.tell ds r).names.take j).filter (anQ ds S (S.tell ds r))).map V.str) ⟨Same.refl _, rfl⟩ (fun _ _ _ _ z => (z.1.trans cd_sub) _ _ hfz) ?_ ?_
      · rintro j ys y R' R'' hj e ly ⟨sm, rfl⟩ ⟨rfl, kk, vv, hkv, rfl⟩
        rw [List.length_map] at hj
        rw [List.getElem?_map] at hkv
        obtain ⟨z, hz, eq⟩ := Option.map_eq_some_iff.mp hkv
        cases eq
        have sR : Same HF5 R'' := sm.trans cd_sub
        have efl := flt_snoc (p := anQ ds S (S.tell ds r)) hz
        refine ⟨rfl, _, rfl, _, rfl, Ld, _, rfl, DGet.k (k := Sum.inr z) (sR _ _ ldf.h), _, rfl, ?_⟩
        rw [val_names]
        by_cases c : z ∈ S.names
        · obtain ⟨fc, hfc⟩ := (names_lk z).mp c
          obtain ⟨fc2, hfc2⟩ := (names_lk z).mp (List.mem_of_getElem? hz)
          rw [if_pos c]
          refine iteT0 rfl ?_
          have v1 : DGet R'' Ld (.str z) (some (.ref (la z))) := by
            have h1 := DGet.k (k := Sum.inr z) (sR _ _ ldf.h)
            rw [val_names, if_pos c] at h1
            exact h1
          have v2 : DGet R'' Lw (.str z) (some (.ref (lw z))) := .inl ⟨_, Sum.inr z, .inr ⟨od5, sR _ _ hfz⟩, rfl, by rw [val_names, if_pos (List.mem_of_getElem? hz)]⟩
          refine ⟨_, rfl, _, rfl, Ld, _, rfl, v1, _, rfl, _, rfl, Lw, _, rfl, v2, .tuple ((ledI ds S fc).map PyData.int), .tuple ((ledI ds (S.tell ds r) fc2).map PyData.int), .tup (Same.seqT sR (ldf.i z fc hfc)) (intsS_dp _), .tup (Same.seqT sR (lwf z fc2 hfc2)) (intsS_dp _), shT_ints _, shT_ints _, _, rfl, ?_⟩
          have eqc : (!PyData.eqv (.tuple ((ledI ds S fc).map PyData.int)) (.tuple ((ledI ds (S.tell ds r) fc2).map PyData.int))) = anQ ds S (S.tell ds r) z := by
            simp only [PyData.eqv]
            rw [eqv_intsV]
            unfold anQ
            rw [decide_eq_true c, ledZ_some hfc, ledZ_some hfc2, Bool.true_and]
          rw [eqc]
          cases c2 : anQ ds S (S.tell ds r) z with
          | true =>
            refine iteT ⟨_, rfl, addW6 e ly (by omega) ⟨sm, ?_⟩⟩
            rw [efl, if_pos c2, List.map_append]
            rfl
          | false =>
            refine iteF (LcNx.skip e ly ⟨sm, ?_⟩)
            rw [efl, if_neg (by rw [c2]; decide), List.append_nil]
        · rw [if_neg c]
          refine iteF0 (by simp) (iteF (LcNx.skip e ly ⟨sm, ?_⟩))
          rw [efl, if_neg (by unfold anQ; rw [decide_eq_false c]; simp), List.append_nil]
      rintro ys5 R75 e75 ly5 ⟨sm5, rfl⟩
      rw [List.length_map, List.take_length] at e75
      have s75 : Same HF5 R75 := sm5.trans cd_sub
      refine set_sl (σ' := [some (.ref l), some (.ref a), some (.ref pp), some (.ref lr), some (.ref xh), some (.ref B), some (.ref Ld), some (.int S.ts.given), some (.ref p), some v2, some (.ref A), some (.ref Lw), y12, some (.ref D1), some (.ref D2), y15, some (.ref D5)]) rfl ⟨s75 _ _ hfz, ?_⟩
      have sb5 := back5 s75
      have eD5 : upd R75 Lw (.dK ((S.tell ds r).names.map fun z => ((Sum.inr z : L2.Key), V.ref (lw z)))) D5 = some (.lst (((S.tell ds r).names.filter (anQ ds S (S.tell ds r))).map V.str)) := by rw [upd_ne DL5, e75]
      generalize upd R75 Lw (.dK ((S.tell ds r).names.map fun z => ((Sum.inr z : L2.Key), V.ref (lw z)))) = R12 at sb5 eD5 ⊢
      have z12 := z11.same sb5
      have dv12 := Dp.same sb5 _ _ dv11
      have ra12 := (Keep.of (M := no) sb5).rw_at ra11
      have eD112 := sb5 _ _ eD111
      have eD212 := sb5 _ _ eD211
      -- as told
      refine ⟨_, rfl, _, rfl, D1, _, rfl, .inl (SqL.of eD112), _, rfl, D2, _, rfl, .inl (SqL.of eD212), _, rfl, D5, _, rfl, .inl (SqL.of eD5), v2, _, _, _, _, rfl, dv12, ?_, fun R13 s13 => ⟨_, rfl, iteF (nx_of ?_)⟩⟩
      · rw [l13, l14, List.length_map]
        exact cr
      have z13 := z12.same s13
      have dv13 := Dp.same s13 _ _ dv12
      have ra13 := (Keep.of (M := no) s13).rw_at ra12
      have eD113 := s13 _ _ eD112
      dsimp only
      refine ifF_by6 (fun Q6 kq => ?_) (nx_of ?_)
      · cases r with
        | kind d key day vals =>
          obtain ⟨q, vs, rfl, h1⟩ := told0 (z := "kind") dv13
          refine ⟨_, rfl, q, _, 0, _, rfl, rfl, h1, atI_nat (j := 0) rfl, .str _, .str _, .str _, .str _, three6 "kind" (by simp), three6 "fact" (by simp), _, rfl, ?_⟩
          rw [eqv_strS]
          exact iteF0 (by decide +kernel) kq
        | forget name =>
          have e : ∃ fc, lk S.facts name = some fc := by
            unfold Hs.takes at tk
            rw [Bool.and_eq_true] at tk
            exact isSome_ex tk.2
          obtain ⟨fc, hl⟩ := e
          have e : S.tellD ds (.forget name) = .tuple [.str "forget", .int (S.ts.partsN (S.dgone ds name fc))] := by
            unfold Hs.tellD
            simp only [hl]
          rw [e] at dv13
          obtain ⟨q, vs, rfl, h1⟩ := told0 (z := "forget") dv13
          refine ⟨_, rfl, q, _, 0, _, rfl, rfl, h1, atI_nat (j := 0) rfl, .str _, .str _, .str _, .str _, three6 "forget" (by simp), three6 "fact" (by simp), _, rfl, ?_⟩
          rw [eqv_strS]
          exact iteF0 (by decide +kernel) kq
        | fact name day keys nums =>
          have e : S.tellD ds (.fact name day keys nums) = .tuple [.str "fact", .int (S.ts.meetF ds (thOf ds keys)).2.sum, .int ((S.fact1 ds name ⟨day, keys, nums⟩).ts.partsN (S.fgone ds name ⟨day, keys, nums⟩)), .tuple ((ledI ds (S.tell ds (.fact name day keys nums)) ⟨day, keys, nums⟩).map PyData.int)] := by
            unfold ledI
            rw [List.map_map]
            rfl
          rw [e] at dv13
          obtain ⟨q, q4, rfl, h1, h4⟩ := told3 dv13
          obtain ⟨k1, k2, hp1, hp2, hp3⟩ := id ra13
          have hfc : lk (S.tell ds (.fact name day keys nums)).facts name = some ⟨day, keys, nums⟩ := by
            show lk (pt S.facts name _) name = _
            rw [lk_pt, if_pos rfl]
          have hnm := (names_lk name).mpr ⟨_, hfc⟩
          have dg : DGet R13 Lw (.str name) (some (.ref (lw name))) := by
            have h1 := DGet.k (k := Sum.inr name) z13.ld.h
            rw [val_names, if_pos hnm] at h1
            exact h1
          refine ⟨_, rfl, q, _, 0, _, rfl, rfl, h1, atI_nat (j := 0) rfl, .str _, .str _, .str _, .str _, three6 "fact" (by simp), three6 "fact" (by simp), _, rfl, ?_⟩
          rw [eqv_strS]
          refine iteT0 (by simp) ?_
          refine ⟨_, rfl, q, _, 3, _, rfl, rfl, h1, atI_nat (j := 3) rfl, _, rfl, _, rfl, p, _, 1, _, rfl, rfl, hp1, atI_nat (j := 1) rfl, Lw, _, rfl, dg, _, _, .tup h4 (intsS_dp _), .tup (z13.ld.i name _ hfc) (intsS_dp _), shT_ints _, shT_ints _, _, rfl, ?_⟩
          have eqI : PyData.eqv (.tuple ((ledI ds (S.tell ds (.fact name day keys nums)) ⟨day, keys, nums⟩).map PyData.int)) (.tuple ((ledI ds (S.tell ds (.fact name day keys nums)) ⟨day, keys, nums⟩).map PyData.int)) = true := by
            simp only [PyData.eqv]
            rw [eqv_intsV]
            exact decide_eq_true rfl
          rw [eqI]
          exact kq
      have eg : S.ts.given + (ys1.length : Int) = (S.tell ds r).ts.given := by rw [tq.gv, l13]
      refine ⟨_, rfl, _, rfl, D1, _, rfl, .inl (SqL.of eD113), _, _, rfl, rfl, ?_⟩
      refine set_sl (σ' := [some (.ref l), some (.ref a), some (.ref pp), some (.ref lr), some (.ref xh), some (.ref B), some (.ref Ld), some (.int (S.tell ds r).ts.given), some (.ref p), some v2, some (.ref A), some (.ref Lw), y12, some (.ref D1), some (.ref D2), y15, some (.ref D5)]) (by rw [← eg]; rfl) ?_
      refine ⟨_, rfl, _, rfl, by show 2 ≤ sizeLine; decide, fun tp2 ntp2 => ?_⟩
      generalize e14 : upd R13 tp2 _ = R14
      obtain ⟨s14, etp2⟩ := new_of ntp2 e14
      refine ⟨tp2, _, rfl, SqT.of etp2, rfl, _, _, rfl, _, _, rfl, rfl, ?_⟩
      refine sl_eq (σ' := [some (.ref l), some (.ref a), some (.ref pp), some (.ref lr), some (.ref xh), some (.ref A), some (.ref Lw), some (.int (S.tell ds r).ts.given), some (.ref p), some v2, some (.ref A), some (.ref Lw), y12, some (.ref D1), some (.ref D2), y15, some (.ref D5)]) rfl ?_
      have hir : i < rws.length := by omega
      exact ⟨A, Lw, M2, xsA, lw, _, _, _, _, _, _, _, _, _, rfl, z13.same s14, by rw [l2]; omega, by omega, by omega⟩
    · rintro σ R ⟨B, Ld, M, xsB, la, y8, y9, y10, y11, y12, y13, y14, y15, y16, rfl, z1, lr1, _, _⟩
      exact k R
end
end Kd

namespace Kd
open PySem PySem.Spec PyProof.Rows L2
/-! ### what the head says of a tuple of texts and of a class -/
end Kd

namespace Kd
open PySem PySem.Spec PyProof.Rows L2 LamX
def d_DayError_init : He.DefD := ⟨("DayError", some "__init__"), "__init__", "DayError.__init__", defArgs s_DayError_init, defBody s_DayError_init, defScope s_DayError_init, [], []⟩
def d_NoRow_init : He.DefD := ⟨("NoRow", some "__init__"), "__init__", "NoRow.__init__", defArgs s_NoRow_init, defBody s_NoRow_init, defScope s_NoRow_init, [], []⟩
def d_NoFact_init : He.DefD := ⟨("NoFact", some "__init__"), "__init__", "NoFact.__init__", defArgs s_NoFact_init, defBody s_NoFact_init, defScope s_NoFact_init, [], []⟩
def d_is_name : He.DefD := ⟨("is_name", none), "is_name", "is_name", defArgs s_is_name, defBody s_is_name, defScope s_is_name, [], []⟩
def d_is_made_of : He.DefD := ⟨("is_made_of", none), "is_made_of", "is_made_of", defArgs s_is_made_of, defBody s_is_made_of, defScope s_is_made_of, [], []⟩
def d_Plan_init : He.DefD := ⟨("Plan", some "__init__"), "__init__", "Plan.__init__", defArgs s_Plan_init, defBody s_Plan_init, defScope s_Plan_init, [.adr (He.dflAt ("Plan", some "__init__") 0)], []⟩
def d_Plan_dimensions : He.DefD := ⟨("Plan", some "dimensions"), "dimensions", "Plan.dimensions", defArgs s_Plan_dimensions, defBody s_Plan_dimensions, defScope s_Plan_dimensions, [], []⟩
def d_Plan_measures : He.DefD := ⟨("Plan", some "measures"), "measures", "Plan.measures", defArgs s_Plan_measures, defBody s_Plan_measures, defScope s_Plan_measures, [], []⟩
def d_first_fault : He.DefD := ⟨("first_fault", none), "first_fault", "first_fault", defArgs s_first_fault, defBody s_first_fault, defScope s_first_fault, [], []⟩
def d_are_faulty : He.DefD := ⟨("are_faulty", none), "are_faulty", "are_faulty", defArgs s_are_faulty, defBody s_are_faulty, defScope s_are_faulty, [], []⟩
def d_attributes_of : He.DefD := ⟨("attributes_of", none), "attributes_of", "attributes_of", defArgs s_attributes_of, defBody s_attributes_of, defScope s_attributes_of, [], []⟩
def d_things_named : He.DefD := ⟨("things_named", none), "things_named", "things_named", defArgs s_things_named, defBody s_things_named, defScope s_things_named, [], []⟩
def d_look : He.DefD := ⟨("look", none), "look", "look", defArgs s_look, defBody s_look, defScope s_look, [], []⟩
def d_has_form : He.DefD := ⟨("has_form", none), "has_form", "has_form", defArgs s_has_form, defBody s_has_form, defScope s_has_form, [], []⟩
def d_kind_fits : He.DefD := ⟨("kind_fits", none), "kind_fits", "kind_fits", defArgs s_kind_fits, defBody s_kind_fits, defScope s_kind_fits, [], []⟩
def d_fact_fits : He.DefD := ⟨("fact_fits", none), "fact_fits", "fact_fits", defArgs s_fact_fits, defBody s_fact_fits, defScope s_fact_fits, [], []⟩
def d_stretches : He.DefD := ⟨("stretches", none), "stretches", "stretches", defArgs s_stretches, defBody s_stretches, defScope s_stretches, [], []⟩
def d_opening_kinds : He.DefD := ⟨("opening_kinds", none), "opening_kinds", "opening_kinds", defArgs s_opening_kinds, defBody s_opening_kinds, defScope s_opening_kinds, [], []⟩
def d_changes_day : He.DefD := ⟨("changes_day", none), "changes_day", "changes_day", defArgs s_changes_day, defBody s_changes_day, defScope s_changes_day, [], []⟩
def d_version_values : He.DefD := ⟨("version_values", none), "version_values", "version_values", defArgs s_version_values, defBody s_version_values, defScope s_version_values, [], []⟩
def d_day_value : He.DefD := ⟨("day_value", none), "day_value", "day_value", defArgs s_day_value, defBody s_day_value, defScope s_day_value, [], []⟩
def d_steady_value : He.DefD := ⟨("steady_value", none), "steady_value", "steady_value", defArgs s_steady_value, defBody s_steady_value, defScope s_steady_value, [], []⟩
def d_last_and_unlike : He.DefD := ⟨("last_and_unlike", none), "last_and_unlike", "last_and_unlike", defArgs s_last_and_unlike, defBody s_last_and_unlike, defScope s_last_and_unlike, [], []⟩
def d_Things_init : He.DefD := ⟨("Things", some "__init__"), "__init__", "Things.__init__", defArgs s_Things_init, defBody s_Things_init, defScope s_Things_init, [], []⟩
def d_Things_knows : He.DefD := ⟨("Things", some "knows"), "knows", "Things.knows", defArgs s_Things_knows, defBody s_Things_knows, defScope s_Things_knows, [], []⟩
def d_Things_take_kind : He.DefD := ⟨("Things", some "take_kind"), "take_kind", "Things.take_kind", defArgs s_Things_take_kind, defBody s_Things_take_kind, defScope s_Things_take_kind, [], []⟩
def d_Things_meet : He.DefD := ⟨("Things", some "meet"), "meet", "Things.meet", defArgs s_Things_meet, defBody s_Things_meet, defScope s_Things_meet, [], []⟩
def d_Things_part : He.DefD := ⟨("Things", some "part"), "part", "Things.part", defArgs s_Things_part, defBody s_Things_part, defScope s_Things_part, [], []⟩
def d_Things_number_anew : He.DefD := ⟨("Things", some "number_anew"), "number_anew", "Things.number_anew", defArgs s_Things_number_anew, defBody s_Things_number_anew, defScope s_Things_number_anew, [], []⟩
def d_Things_with_numbers : He.DefD := ⟨("Things", some "with_numbers"), "with_numbers", "Things.with_numbers", defArgs s_Things_with_numbers, defBody s_Things_with_numbers, defScope s_Things_with_numbers, [], []⟩
def d_Things_version_on : He.DefD := ⟨("Things", some "version_on"), "version_on", "Things.version_on", defArgs s_Things_version_on, defBody s_Things_version_on, defScope s_Things_version_on, [], []⟩
def d_House_init : He.DefD := ⟨("House", some "__init__"), "__init__", "House.__init__", defArgs s_House_init, defBody s_House_init, defScope s_House_init, [], []⟩
def d_House_tell : He.DefD := ⟨("House", some "tell"), "tell", "House.tell", defArgs s_House_tell, defBody s_House_tell, defScope s_House_tell, [], []⟩
def d_House_take_kind : He.DefD := ⟨("House", some "take_kind"), "take_kind", "House.take_kind", defArgs s_House_take_kind, defBody s_House_take_kind, defScope s_House_take_kind, [], []⟩
def d_House_take_fact : He.DefD := ⟨("House", some "take_fact"), "take_fact", "House.take_fact", defArgs s_House_take_fact, defBody s_House_take_fact, defScope s_House_take_fact, [], []⟩
def d_House_take_forget : He.DefD := ⟨("House", some "take_forget"), "take_forget", "House.take_forget", defArgs s_House_take_forget, defBody s_House_take_forget, defScope s_House_take_forget, [], []⟩
def d_House_part_from : He.DefD := ⟨("House", some "part_from"), "part_from", "House.part_from", defArgs s_House_part_from, defBody s_House_part_from, defScope s_House_part_from, [], []⟩
def d_House_fact_days : He.DefD := ⟨("House", some "fact_days"), "fact_days", "House.fact_days", defArgs s_House_fact_days, defBody s_House_fact_days, defScope s_House_fact_days, [], []⟩
def d_House_led : He.DefD := ⟨("House", some "led"), "led", "House.led", defArgs s_House_led, defBody s_House_led, defScope s_House_led, [], []⟩
def d_House_versions : He.DefD := ⟨("House", some "versions"), "versions", "House.versions", defArgs s_House_versions, defBody s_House_versions, defScope s_House_versions, [], []⟩
def d_House_keys_of : He.DefD := ⟨("House", some "keys_of"), "keys_of", "House.keys_of", defArgs s_House_keys_of, defBody s_House_keys_of, defScope s_House_keys_of, [], []⟩
def d_House_facts : He.DefD := ⟨("House", some "facts"), "facts", "House.facts", defArgs s_House_facts, defBody s_House_facts, defScope s_House_facts, [], []⟩
def d_l_bag : He.DefD := ⟨("_law_bag", none), "_law_bag", "_law_bag", defArgs s_l_bag, defBody s_l_bag, defScope s_l_bag, [], []⟩
def d_l_draw : He.DefD := ⟨("_law_draw", none), "_law_draw", "_law_draw", defArgs s_l_draw, defBody s_l_draw, defScope s_l_draw, [], []⟩
def d_l_plan : He.DefD := ⟨("_law_plan", none), "_law_plan", "_law_plan", defArgs s_l_plan, defBody s_l_plan, defScope s_l_plan, [], []⟩
def d_l_day : He.DefD := ⟨("_law_day", none), "_law_day", "_law_day", defArgs s_l_day, defBody s_l_day, defScope s_l_day, [], []⟩
def d_l_value : He.DefD := ⟨("_law_value", none), "_law_value", "_law_value", defArgs s_l_value, defBody s_l_value, defScope s_l_value, [], []⟩
def d_l_kind : He.DefD := ⟨("_law_kind", none), "_law_kind", "_law_kind", defArgs s_l_kind, defBody s_l_kind, defScope s_l_kind, [], []⟩
def d_l_fact : He.DefD := ⟨("_law_fact", none), "_law_fact", "_law_fact", defArgs s_l_fact, defBody s_l_fact, defScope s_l_fact, [], []⟩
def d_l_rows : He.DefD := ⟨("_law_rows", none), "_law_rows", "_law_rows", defArgs s_l_rows, defBody s_l_rows, defScope s_l_rows, [], []⟩
def d_l_house : He.DefD := ⟨("_law_house", none), "_law_house", "_law_house", defArgs s_l_house, defBody s_l_house, defScope s_l_house, [], []⟩
def d_l_all : He.DefD := ⟨("_law_all", none), "_law_all", "_law_all", defArgs s_l_all, defBody s_l_all, defScope s_l_all, [], []⟩
def d_l_meets : He.DefD := ⟨("_law_meets", none), "_law_meets", "_law_meets", defArgs s_l_meets, defBody s_l_meets, defScope s_l_meets, [], []⟩
def d_l_led : He.DefD := ⟨("_law_led", none), "_law_led", "_law_led", defArgs s_l_led, defBody s_l_led, defScope s_l_led, [], []⟩
def d_l_counts : He.DefD := ⟨("_law_counts", none), "_law_counts", "_law_counts", defArgs s_l_counts, defBody s_l_counts, defScope s_l_counts, [], []⟩
def d_law : He.DefD := ⟨("law", none), "law", "law", defArgs s_law, defBody s_law, defScope s_law, [], []⟩
def fn : List He.DefD := [d_DayError_init, d_NoRow_init, d_NoFact_init, d_is_name, d_is_made_of, d_Plan_init, d_Plan_dimensions, d_Plan_measures, d_first_fault, d_are_faulty, d_attributes_of, d_things_named, d_look, d_has_form, d_kind_fits, d_fact_fits, d_stretches, d_opening_kinds, d_changes_day, d_version_values, d_day_value, d_steady_value, d_last_and_unlike, d_Things_init, d_Things_knows, d_Things_take_kind, d_Things_meet, d_Things_part, d_Things_number_anew, d_Things_with_numbers, d_Things_version_on, d_House_init, d_House_tell, d_House_take_kind, d_House_take_fact, d_House_take_forget, d_House_part_from, d_House_fact_days, d_House_led, d_House_versions, d_House_keys_of, d_House_facts, d_l_bag, d_l_draw, d_l_plan, d_l_day, d_l_value, d_l_kind, d_l_fact, d_l_rows, d_l_house, d_l_all, d_l_meets, d_l_led, d_l_counts, d_law]
def fa : List He.Fa := [(.glo "DayError" : He.Fa), (.glo "NoRow" : He.Fa), (.glo "NoFact" : He.Fa), (.glo "Plan" : He.Fa), (.glo "Things" : He.Fa), (.glo "House" : He.Fa), (.glo "is_name" : He.Fa), (.glo "is_made_of" : He.Fa), (.glo "first_fault" : He.Fa), (.glo "are_faulty" : He.Fa), (.glo "attributes_of" : He.Fa), (.glo "things_named" : He.Fa), (.glo "look" : He.Fa), (.glo "has_form" : He.Fa), (.glo "kind_fits" : He.Fa), (.glo "fact_fits" : He.Fa), (.glo "stretches" : He.Fa), (.glo "opening_kinds" : He.Fa), (.glo "changes_day" : He.Fa), (.glo "version_values" : He.Fa), (.glo "day_value" : He.Fa), (.glo "steady_value" : He.Fa), (.glo "last_and_unlike" : He.Fa), (.glo "_law_bag" : He.Fa), (.glo "_law_draw" : He.Fa), (.glo "_law_plan" : He.Fa), (.glo "_law_day" : He.Fa), (.glo "_law_value" : He.Fa), (.glo "_law_kind" : He.Fa), (.glo "_law_fact" : He.Fa), (.glo "_law_rows" : He.Fa), (.glo "_law_house" : He.Fa), (.glo "_law_all" : He.Fa), (.glo "_law_meets" : He.Fa), (.glo "_law_led" : He.Fa), (.glo "_law_counts" : He.Fa), (.glo "law" : He.Fa), (.str "SMALL_LETTERS" "abcdefghijklmnopqrstuvwxyz" : He.Fa), (.int "LONGEST_NAME" 8 : He.Fa), (.int "MOST_DIMENSIONS" 4 : He.Fa), (.int "MOST_ATTRIBUTES" 5 : He.Fa), (.int "MOST_MEASURES" 4 : He.Fa), (.free "ValueError" : He.Fa), (.free "abs" : He.Fa), (.free "all" : He.Fa), (.free "any" : He.Fa), (.free "enumerate" : He.Fa), (.free "len" : He.Fa), (.free "list" : He.Fa), (.free "range" : He.Fa), (.free "repr" : He.Fa), (.free "set" : He.Fa), (.free "sorted" : He.Fa), (.free "sum" : He.Fa), (.free "tuple" : He.Fa), (.free "zip" : He.Fa), (.cls "Plan" : He.Fa), (.mkr "Plan" : He.Fa), (.noat "Plan" "dimension_list" : He.Fa), (.noat "Plan" "measure_list" : He.Fa), (.meth "Plan" "dimensions" : He.Fa), (.meth "Plan" "measures" : He.Fa), (.cls "Things" : He.Fa), (.mkr "Things" : He.Fa), (.noat "Things" "given" : He.Fa), (.noat "Things" "kinds" : He.Fa), (.noat "Things" "numbered" : He.Fa), (.noat "Things" "plan" : He.Fa), (.meth "Things" "knows" : He.Fa), (.meth "Things" "take_kind" : He.Fa), (.meth "Things" "meet" : He.Fa), (.meth "Things" "part" : He.Fa), (.meth "Things" "number_anew" : He.Fa), (.meth "Things" "with_numbers" : He.Fa), (.meth "Things" "version_on" : He.Fa), (.cls "House" : He.Fa), (.mkr "House" : He.Fa), (.noat "House" "kept_facts" : He.Fa), (.noat "House" "plan" : He.Fa), (.noat "House" "things" : He.Fa), (.noat "House" "told_rows" : He.Fa), (.noat "House" "watchers" : He.Fa), (.meth "House" "tell" : He.Fa), (.meth "House" "take_kind" : He.Fa), (.meth "House" "take_fact" : He.Fa), (.meth "House" "take_forget" : He.Fa), (.meth "House" "part_from" : He.Fa), (.meth "House" "fact_days" : He.Fa), (.meth "House" "led" : He.Fa), (.meth "House" "versions" : He.Fa), (.meth "House" "keys_of" : He.Fa), (.meth "House" "facts" : He.Fa)]
def loose : List PySem.Str := [("_wall" : PySem.Str), ("DayError" : PySem.Str), ("NoPlan" : PySem.Str), ("NoRow" : PySem.Str), ("NoFact" : PySem.Str), ("NoThing" : PySem.Str), ("Twice" : PySem.Str), ("NoGroup" : PySem.Str), ("NoMeasure" : PySem.Str), ("NoWatch" : PySem.Str), ("NoTime" : PySem.Str), ("SMALL_LETTERS" : PySem.Str), ("LONGEST_NAME" : PySem.Str), ("is_name" : PySem.Str), ("is_made_of" : PySem.Str), ("MOST_DIMENSIONS" : PySem.Str), ("MOST_ATTRIBUTES" : PySem.Str), ("MOST_MEASURES" : PySem.Str), ("Plan" : PySem.Str), ("first_fault" : PySem.Str), ("are_faulty" : PySem.Str), ("attributes_of" : PySem.Str), ("attribute_place" : PySem.Str), ("things_named" : PySem.Str), ("look" : PySem.Str), ("has_form" : PySem.Str), ("kind_fits" : PySem.Str), ("fact_fits" : PySem.Str), ("stretches" : PySem.Str), ("opening_kinds" : PySem.Str), ("changes_day" : PySem.Str), ("version_values" : PySem.Str), ("day_value" : PySem.Str), ("steady_value" : PySem.Str), ("last_and_unlike" : PySem.Str), ("Things" : PySem.Str), ("Watch" : PySem.Str), ("look_at_watch" : PySem.Str), ("group_places" : PySem.Str), ("tally" : PySem.Str), ("measured" : PySem.Str), ("sorted_groups" : PySem.Str), ("reprs_of" : PySem.Str), ("sum_lines" : PySem.Str), ("House" : PySem.Str), ("_law_bag" : PySem.Str), ("_law_draw" : PySem.Str), ("_law_plan" : PySem.Str), ("_law_day" : PySem.Str), ("_law_value" : PySem.Str), ("_law_kind" : PySem.Str), ("_law_fact" : PySem.Str), ("_law_rows" : PySem.Str), ("_law_watches" : PySem.Str), ("_law_house" : PySem.Str), ("_law_all" : PySem.Str), ("_law_meets" : PySem.Str), ("_law_led" : PySem.Str), ("_law_counts" : PySem.Str)]
/-! ### the head: the facts, and that a def's default is the empty tuple -/
def exB0 (K : PySem.W.Frag) : Bool := match K.lookup (He.dflAt ("Plan", some "__init__") 0 K) with
  | some ⟨.type c, _, .seq its _, _⟩ => decide (c = "tuple") && decide (its.toList = [])
  | _ => false
theorem exB0_ok {K : PySem.W.Frag} (h : exB0 K = true) (H : Hp) : SqT K H (He.dflAt ("Plan", some "__init__") 0 K) [] := by
  unfold exB0 at h
  cases q : K.lookup (He.dflAt ("Plan", some "__init__") 0 K) with
  | none => rw [q] at h; cases h
  | some o =>
    obtain ⟨oc, od, dt, sl⟩ := o
    rw [q] at h
    cases oc with
    | type c =>
      cases dt with
      | seq its n =>
        obtain ⟨h1, h2⟩ := He.ba (show (decide (c = "tuple") && decide (its.toList = [])) = true from h)
        have h3 : its.toList = [] := of_decide_eq_true h2
        refine .inr ⟨_, its, n, q, congrArg Value.type (of_decide_eq_true h1), rfl, ?_, by rw [h3]; exact .nil⟩
        have h4 : its.size = 0 := by rw [← Array.length_toList, h3]; rfl
        rw [h4]
        exact Nat.zero_le _
      | _ => cases h
    | _ => cases dt <;> cases h
abbrev cc (K : PySem.W.Frag) : Cn := ⟨He.ga K "Things", He.ga K "Plan", He.ga K "House", He.ga K "Watch", (He.cT K ("stretches", none)).2⟩
def exX (K : PySem.W.Frag) : Bool := KdXc.cfnB K (He.ga K "DayError") (He.fAd K ("DayError", some "__init__")) "__init__" && (KdXc.veB K && (KdXc.errB K (He.ga K "NoRow") (He.fAd K ("NoRow", some "__init__")) && (KdXc.errB K (He.ga K "NoFact") (He.fAd K ("NoFact", some "__init__")))))
def exB (K : PySem.W.Frag) : Bool := exB0 K && exX K
theorem exB_ok {K : PySem.W.Frag} (h : exB K = true) (H : Hp) : SqT K H (He.dflAt ("Plan", some "__init__") 0 K) [] := exB0_ok (He.ba h).1 H
def tf : List He.Defn := [("stretches", none)]
/-! the addresses that are looked at, by their distance, each once: what was met is kept as the bits of a number -/
def addsF {α : Type} : List Addr → Nat → List Addr → (List Addr → Nat → α) → α
  | [], m, acc, k => k acc m
  | a :: r, m, acc, k => HandSHeadRun.frNat a fun a => match Nat.beq (Nat.land (Nat.shiftRight m a) 1) 1 with
    | true => addsF r m acc k
    | false => HandSHeadRun.frNat (Nat.lor m (Nat.shiftLeft 1 a)) fun m => addsF r m (a :: acc) k
def refsL (g : Addr → Option Obj) (fr : List Addr) : List Addr := fr.flatMap fun a => match g a with
  | some o => He.refsD o
  | none => []
def growF (g : Addr → Option Obj) : Nat → List Addr → Nat → List Addr → List Addr
  | 0, _, _, all => all
  | n + 1, fr, m, all => addsF (refsL g fr) m [] fun new m => growF g n new m (new ++ all)
def asC (g : Addr → Option Obj) : List Addr := addsF [mainGlobals, cStatics] 0 [] fun new m => growF g 6 new m new
def obY (g : Addr → Option Obj) (as : List Addr) : He.AlX := (He.obsT fa fn [] (He.frT g as), exB (He.frT g as) && He.tabsB g tf (He.frT g as))
theorem saysY {w : World} {h : Heap} {as : List Addr} (e : obY h.get? as = He.valX fn [] w) : He.SaysX fa fn [] tf exB w h (He.frT h.get? as) := by
  have e2 : (exB (He.frT h.get? as) && He.tabsB h.get? tf (He.frT h.get? as)) = true := congrArg Prod.snd e
  obtain ⟨u1, u2⟩ := He.ba e2
  have u3 : ∀ p ∈ tf, PySem.W.codeHdIn (He.frT h.get? as) (He.cT (He.frT h.get? as) p).1 (He.cT (He.frT h.get? as) p).2 = true ∧ ∃ o, h.get? (He.cT (He.frT h.get? as) p).2 = some o ∧ He.emptyTab o = true := fun p hp => by
    obtain ⟨u4, u5⟩ := He.ba (List.all_eq_true.mp u2 p hp)
    cases q : h.get? (He.cT (He.frT h.get? as) p).2 with
    | none => rw [q] at u5; cases u5
    | some o => rw [q] at u5; exact ⟨u4, o, rfl, u5⟩
  refine ⟨congrArg Prod.fst e, u1, fun p hp => (u3 p hp).1, fun p hp => ?_, fun p hp => ?_⟩
  · obtain ⟨_, o, q, z⟩ := u3 p hp
    exact He.frT_none q z
  · obtain ⟨_, o, q, z⟩ := u3 p hp
    rw [q, He.emptyTab_eq z]
def hkE : PySem.W.Hook where
  α := He.AlX
  obs := fun s => obY s.heap.get? (asC s.heap.get?)
  val := fun u => He.valX fn [] u
  says := fun u h => ∃ K : PySem.W.Frag, K.In h ∧ He.SaysX fa fn [] tf exB u h K
  of := fun _ _ q => ⟨_, He.frT_in, saysY q⟩
  keeps := fun _ _ _ ⟨K, u1, u2⟩ u3 => ⟨K, PySem.W.Frag.In.keeps u1 u3, ⟨u2.t, u2.more, u2.hd, u2.out, fun p hp => u3 _ _ (u2.empty p hp)⟩⟩
abbrev R : PySem.W.OpenRow := PySem.W.OpenLaw.row PySem.Challenge.rw_kindsofday_k61_whole_numbers_never_twice
def ob (s : PySem.W.SharedT) : He.AlX := obY (HandSHeadRun.getT s) (asC (HandSHeadRun.getT s))
theorem ob_eq (s : PySem.W.SharedT) : ob s = hkE.obs s.abs := by
  have e : HandSHeadRun.getT s = s.abs.heap.get? := funext (HandSHeadRun.getT_eq s)
  unfold ob
  rw [e]
  rfl
/-! the run, in parts: each looks at one part of what is seen -/
noncomputable abbrev endS (w : World) (os : OsState) : Option PySem.W.SharedT := HandSHeadRun.endF (HandSHeadRun.stepQ (HandSHeadRun.denQ HandSHeadRun.tabQ) R.prog w) 9000 R.prog w os
def KS (s : PySem.W.SharedT) : PySem.W.Frag := He.frT (HandSHeadRun.getT s) (asC (HandSHeadRun.getT s))
open PySem.W PySem.Calls HandSHeadRun in
theorem runA (w : World) (os : OsState) : (endS w os).map (fun s => (looksF R.prog (boot_heap w.params) s.abs, seenQ (PySem.W.view R.prog [67]) loose (importedModules R.prog.main.body) (fun s => xlAt (PySem.W.view R.prog [67]) [] s && recOk R.toRowW.records s) s.abs)) = some (true, openGood (PySem.W.view R.prog [67]) loose) := by
  kernel_rfl
theorem runB (w : World) (os : OsState) : (endS w os).map (fun s => fa.all fun f => f.ok (KS s)) = some true := by
  kernel_rfl
theorem runC (w : World) (os : OsState) : (endS w os).map (fun s => fn.all fun d => d.ok (KS s)) = some true := by
  kernel_rfl
theorem runD (w : World) (os : OsState) : (endS w os).map (fun s => fn.map fun d => He.fnW (KS s) d.at_) = some (fn.map He.DefD.val) := by
  kernel_rfl
theorem runF (w : World) (os : OsState) : (endS w os).map (fun s => exB (KS s) && He.tabsB (HandSHeadRun.getT s) tf (KS s)) = some true := by
  kernel_rfl
theorem map_at1 {α β : Type} {o : Option α} {s : α} {p : α → β} {v : β} (h : o.map p = some v) (e : o = some s) : p s = v := by
  rw [e] at h
  exact Option.some.inj h
theorem run (w : World) : HandSHeadRun.RunEq R (PySem.W.view R.prog [67]) hkE ob 9000 loose w := by
  intro os
  obtain ⟨s, hs, hA⟩ := Option.map_eq_some_iff.mp (runA w os)
  have hB := map_at1 (runB w os) hs
  have hC := map_at1 (runC w os) hs
  have hD := map_at1 (runD w os) hs
  have hF := map_at1 (runF w os) hs
  have e : ob s = hkE.val w := by
    show ((((fa.all fun f => f.ok (KS s)) && (fn.all fun d => d.ok (KS s)), fn.map fun d => He.fnW (KS s) d.at_), []), exB (KS s) && He.tabsB (HandSHeadRun.getT s) tf (KS s)) = (((true, fn.map He.DefD.val), []), true)
    rw [hB, hC, hD, hF]
    rfl
  show (endS w os).map _ = _
  rw [hs]
  show some (_, _, ob s) = some (_, _, hkE.val w)
  rw [e, ← (Prod.mk.inj hA).1, ← (Prod.mk.inj hA).2]
  exact rfl
theorem code_at {K : PySem.W.Frag} {x qual : Str} {ps : Arguments} {bd : List Stmt} {sc : Scope} {dv : List V} {kw : List (Str × V)} {p : Str × Option Str} {fd : FuncData} (F : FunD K x qual ps bd sc dv kw (He.fAd K p) fd) : fd.code = .ref (He.cT K p).1 := by
  obtain ⟨oc, od, dV, kV, doc, pm, an, cdv, ct, osl, rfl, lk, hcd, _, _⟩ := F.ex
  obtain ⟨c, e⟩ := He.codeIn_ref hcd
  subst e
  have q := He.codeOf_eq (c := c) lk rfl
  show Value.ref c = Value.ref (He.codeOf K p)
  rw [q]
theorem facts {P : Program} {w : World} {K : PySem.W.Frag} {h : Heap} {mg : Str → Option Value} {f : Addr} (X : K.In h) (G : h.Ns mainGlobals mg) (hfa : mg ("law" : Str) = some (.ref f)) (c : He.SaysD fa fn K) (ce : exB K = true) :
    ∃ fd : FuncData, (∀ (s : Shared) (v : Value), BindsTo s fd ⟨[v], []⟩ [("script", v)]) ∧ ∀ base : Heap, K.In base → base.Ns mainGlobals mg → (∀ p ∈ tf, TabB base mg (He.cT K p).1 (He.cT K p).2) → FnOk P w K mg base CX0 10 f fd ["script"] (spLaw K (He.cT K ("stretches", none)).2) := by
  obtain ⟨fd_DayError_init, F_DayError_init⟩ := c.def_ 0 (d := d_DayError_init) rfl
  obtain ⟨fd_NoRow_init, F_NoRow_init⟩ := c.def_ 1 (d := d_NoRow_init) rfl
  obtain ⟨fd_NoFact_init, F_NoFact_init⟩ := c.def_ 2 (d := d_NoFact_init) rfl
  obtain ⟨fd_is_name, F_is_name⟩ := c.def_ 3 (d := d_is_name) rfl
  obtain ⟨fd_is_made_of, F_is_made_of⟩ := c.def_ 4 (d := d_is_made_of) rfl
  obtain ⟨fd_Plan_init, F_Plan_init⟩ := c.def_ 5 (d := d_Plan_init) rfl
  obtain ⟨fd_Plan_dimensions, F_Plan_dimensions⟩ := c.def_ 6 (d := d_Plan_dimensions) rfl
  obtain ⟨fd_Plan_measures, F_Plan_measures⟩ := c.def_ 7 (d := d_Plan_measures) rfl
  obtain ⟨fd_first_fault, F_first_fault⟩ := c.def_ 8 (d := d_first_fault) rfl
  obtain ⟨fd_are_faulty, F_are_faulty⟩ := c.def_ 9 (d := d_are_faulty) rfl
  obtain ⟨fd_attributes_of, F_attributes_of⟩ := c.def_ 10 (d := d_attributes_of) rfl
  obtain ⟨fd_things_named, F_things_named⟩ := c.def_ 11 (d := d_things_named) rfl
  obtain ⟨fd_look, F_look⟩ := c.def_ 12 (d := d_look) rfl
  obtain ⟨fd_has_form, F_has_form⟩ := c.def_ 13 (d := d_has_form) rfl
  obtain ⟨fd_kind_fits, F_kind_fits⟩ := c.def_ 14 (d := d_kind_fits) rfl
  obtain ⟨fd_fact_fits, F_fact_fits⟩ := c.def_ 15 (d := d_fact_fits) rfl
  obtain ⟨fd_stretches, F_stretches⟩ := c.def_ 16 (d := d_stretches) rfl
  obtain ⟨fd_opening_kinds, F_opening_kinds⟩ := c.def_ 17 (d := d_opening_kinds) rfl
  obtain ⟨fd_changes_day, F_changes_day⟩ := c.def_ 18 (d := d_changes_day) rfl
  obtain ⟨fd_version_values, F_version_values⟩ := c.def_ 19 (d := d_version_values) rfl
  obtain ⟨fd_day_value, F_day_value⟩ := c.def_ 20 (d := d_day_value) rfl
  obtain ⟨fd_steady_value, F_steady_value⟩ := c.def_ 21 (d := d_steady_value) rfl
  obtain ⟨fd_last_and_unlike, F_last_and_unlike⟩ := c.def_ 22 (d := d_last_and_unlike) rfl
  obtain ⟨fd_Things_init, F_Things_init⟩ := c.def_ 23 (d := d_Things_init) rfl
  obtain ⟨fd_Things_knows, F_Things_knows⟩ := c.def_ 24 (d := d_Things_knows) rfl
  obtain ⟨fd_Things_take_kind, F_Things_take_kind⟩ := c.def_ 25 (d := d_Things_take_kind) rfl
  obtain ⟨fd_Things_meet, F_Things_meet⟩ := c.def_ 26 (d := d_Things_meet) rfl
  obtain ⟨fd_Things_part, F_Things_part⟩ := c.def_ 27 (d := d_Things_part) rfl
  obtain ⟨fd_Things_number_anew, F_Things_number_anew⟩ := c.def_ 28 (d := d_Things_number_anew) rfl
  obtain ⟨fd_Things_with_numbers, F_Things_with_numbers⟩ := c.def_ 29 (d := d_Things_with_numbers) rfl
  obtain ⟨fd_Things_version_on, F_Things_version_on⟩ := c.def_ 30 (d := d_Things_version_on) rfl
  obtain ⟨fd_House_init, F_House_init⟩ := c.def_ 31 (d := d_House_init) rfl
  obtain ⟨fd_House_tell, F_House_tell⟩ := c.def_ 32 (d := d_House_tell) rfl
  obtain ⟨fd_House_take_kind, F_House_take_kind⟩ := c.def_ 33 (d := d_House_take_kind) rfl
  obtain ⟨fd_House_take_fact, F_House_take_fact⟩ := c.def_ 34 (d := d_House_take_fact) rfl
  obtain ⟨fd_House_take_forget, F_House_take_forget⟩ := c.def_ 35 (d := d_House_take_forget) rfl
  obtain ⟨fd_House_part_from, F_House_part_from⟩ := c.def_ 36 (d := d_House_part_from) rfl
  obtain ⟨fd_House_fact_days, F_House_fact_days⟩ := c.def_ 37 (d := d_House_fact_days) rfl
  obtain ⟨fd_House_led, F_House_led⟩ := c.def_ 38 (d := d_House_led) rfl
  obtain ⟨fd_House_versions, F_House_versions⟩ := c.def_ 39 (d := d_House_versions) rfl
  obtain ⟨fd_House_keys_of, F_House_keys_of⟩ := c.def_ 40 (d := d_House_keys_of) rfl
  obtain ⟨fd_House_facts, F_House_facts⟩ := c.def_ 41 (d := d_House_facts) rfl
  obtain ⟨fd_l_bag, F_l_bag⟩ := c.def_ 42 (d := d_l_bag) rfl
  obtain ⟨fd_l_draw, F_l_draw⟩ := c.def_ 43 (d := d_l_draw) rfl
  obtain ⟨fd_l_plan, F_l_plan⟩ := c.def_ 44 (d := d_l_plan) rfl
  obtain ⟨fd_l_day, F_l_day⟩ := c.def_ 45 (d := d_l_day) rfl
  obtain ⟨fd_l_value, F_l_value⟩ := c.def_ 46 (d := d_l_value) rfl
  obtain ⟨fd_l_kind, F_l_kind⟩ := c.def_ 47 (d := d_l_kind) rfl
  obtain ⟨fd_l_fact, F_l_fact⟩ := c.def_ 48 (d := d_l_fact) rfl
  obtain ⟨fd_l_rows, F_l_rows⟩ := c.def_ 49 (d := d_l_rows) rfl
  obtain ⟨fd_l_house, F_l_house⟩ := c.def_ 50 (d := d_l_house) rfl
  obtain ⟨fd_l_all, F_l_all⟩ := c.def_ 51 (d := d_l_all) rfl
  obtain ⟨fd_l_meets, F_l_meets⟩ := c.def_ 52 (d := d_l_meets) rfl
  obtain ⟨fd_l_led, F_l_led⟩ := c.def_ 53 (d := d_l_led) rfl
  obtain ⟨fd_l_counts, F_l_counts⟩ := c.def_ 54 (d := d_l_counts) rfl
  obtain ⟨fd_law, F_law⟩ := c.def_ 55 (d := d_law) rfl
  have e := hfa.symm.trans (He.glo_ok X G (c.fact 36 (f := .glo "law") rfl))
  cases e
  have b := FunD.bindsA (ps := ["script"]) F_law fun _ _ _ _ _ _ us hl => match us, hl with | [_], _ => rfl
  have b_DayError_init : Binds K fd_DayError_init ["self", "what"] [] := FunD.bindsN F_DayError_init fun _ _ _ _ _ _ us hl => match us, hl with | [_, _], _ => rfl
  have b_NoRow_init : Binds K fd_NoRow_init ["self", "what"] [] := FunD.bindsN F_NoRow_init fun _ _ _ _ _ _ us hl => match us, hl with | [_, _], _ => rfl
  have b_NoFact_init : Binds K fd_NoFact_init ["self", "what"] [] := FunD.bindsN F_NoFact_init fun _ _ _ _ _ _ us hl => match us, hl with | [_, _], _ => rfl
  have b_is_name : Binds K fd_is_name ["text"] [] := FunD.bindsN F_is_name fun _ _ _ _ _ _ us hl => match us, hl with | [_], _ => rfl
  have b_is_made_of : Binds K fd_is_made_of ["text", "signs"] [] := FunD.bindsN F_is_made_of fun _ _ _ _ _ _ us hl => match us, hl with | [_, _], _ => rfl
  have b_Plan_dimensions : Binds K fd_Plan_dimensions ["self"] [] := FunD.bindsN F_Plan_dimensions fun _ _ _ _ _ _ us hl => match us, hl with | [_], _ => rfl
  have b_Plan_measures : Binds K fd_Plan_measures ["self"] [] := FunD.bindsN F_Plan_measures fun _ _ _ _ _ _ us hl => match us, hl with | [_], _ => rfl
  have b_first_fault : Binds K fd_first_fault ["dimensions", "measures"] [] := FunD.bindsN F_first_fault fun _ _ _ _ _ _ us hl => match us, hl with | [_, _], _ => rfl
  have b_are_faulty : Binds K fd_are_faulty ["names", "most"] [] := FunD.bindsN F_are_faulty fun _ _ _ _ _ _ us hl => match us, hl with | [_, _], _ => rfl
  have b_attributes_of : Binds K fd_attributes_of ["plan", "dimension"] [] := FunD.bindsN F_attributes_of fun _ _ _ _ _ _ us hl => match us, hl with | [_, _], _ => rfl
  have b_things_named : Binds K fd_things_named ["plan", "keys"] [] := FunD.bindsN F_things_named fun _ _ _ _ _ _ us hl => match us, hl with | [_, _], _ => rfl
  have b_look : Binds K fd_look ["plan", "row"] [] := FunD.bindsN F_look fun _ _ _ _ _ _ us hl => match us, hl with | [_, _], _ => rfl
  have b_has_form : Binds K fd_has_form ["plan", "row"] [] := FunD.bindsN F_has_form fun _ _ _ _ _ _ us hl => match us, hl with | [_, _], _ => rfl
  have b_kind_fits : Binds K fd_kind_fits ["plan", "dimension", "values"] [] := FunD.bindsN F_kind_fits fun _ _ _ _ _ _ us hl => match us, hl with | [_, _, _], _ => rfl
  have b_fact_fits : Binds K fd_fact_fits ["plan", "keys", "numbers"] [] := FunD.bindsN F_fact_fits fun _ _ _ _ _ _ us hl => match us, hl with | [_, _, _], _ => rfl
  have b_stretches : Binds K fd_stretches ["plan", "dimension", "kinds"] [] := FunD.bindsN F_stretches fun _ _ _ _ _ _ us hl => match us, hl with | [_, _, _], _ => rfl
  have b_opening_kinds : Binds K fd_opening_kinds ["ways", "ordered"] [] := FunD.bindsN F_opening_kinds fun _ _ _ _ _ _ us hl => match us, hl with | [_, _], _ => rfl
  have b_changes_day : Binds K fd_changes_day ["ways", "old", "new"] [] := FunD.bindsN F_changes_day fun _ _ _ _ _ _ us hl => match us, hl with | [_, _, _], _ => rfl
  have b_version_values : Binds K fd_version_values ["ways", "steady", "opening"] [] := FunD.bindsN F_version_values fun _ _ _ _ _ _ us hl => match us, hl with | [_, _, _], _ => rfl
  have b_day_value : Binds K fd_day_value ["at", "opening"] [] := FunD.bindsN F_day_value fun _ _ _ _ _ _ us hl => match us, hl with | [_, _], _ => rfl
  have b_steady_value : Binds K fd_steady_value ["way", "column"] [] := FunD.bindsN F_steady_value fun _ _ _ _ _ _ us hl => match us, hl with | [_, _], _ => rfl
  have b_last_and_unlike : Binds K fd_last_and_unlike ["column"] [] := FunD.bindsN F_last_and_unlike fun _ _ _ _ _ _ us hl => match us, hl with | [_], _ => rfl
  have b_Things_init : Binds K fd_Things_init ["self", "plan"] [] := FunD.bindsN F_Things_init fun _ _ _ _ _ _ us hl => match us, hl with | [_, _], _ => rfl
  have b_Things_knows : Binds K fd_Things_knows ["self", "thing"] [] := FunD.bindsN F_Things_knows fun _ _ _ _ _ _ us hl => match us, hl with | [_, _], _ => rfl
  have b_Things_take_kind : Binds K fd_Things_take_kind ["self", "thing", "day", "values"] [] := FunD.bindsN F_Things_take_kind fun _ _ _ _ _ _ us hl => match us, hl with | [_, _, _, _], _ => rfl
  have b_Things_meet : Binds K fd_Things_meet ["self", "thing"] [] := FunD.bindsN F_Things_meet fun _ _ _ _ _ _ us hl => match us, hl with | [_, _], _ => rfl
  have b_Things_part : Binds K fd_Things_part ["self", "thing"] [] := FunD.bindsN F_Things_part fun _ _ _ _ _ _ us hl => match us, hl with | [_, _], _ => rfl
  have b_Things_number_anew : Binds K fd_Things_number_anew ["self", "thing"] [] := FunD.bindsN F_Things_number_anew fun _ _ _ _ _ _ us hl => match us, hl with | [_, _], _ => rfl
  have b_Things_with_numbers : Binds K fd_Things_with_numbers ["self", "versions", "old"] [] := FunD.bindsN F_Things_with_numbers fun _ _ _ _ _ _ us hl => match us, hl with | [_, _, _], _ => rfl
  have b_Things_version_on : Binds K fd_Things_version_on ["self", "thing", "day"] [] := FunD.bindsN F_Things_version_on fun _ _ _ _ _ _ us hl => match us, hl with | [_, _, _], _ => rfl
  have b_House_init : Binds K fd_House_init ["self", "plan"] [] := FunD.bindsN F_House_init fun _ _ _ _ _ _ us hl => match us, hl with | [_, _], _ => rfl
  have b_House_tell : Binds K fd_House_tell ["self", "row"] [] := FunD.bindsN F_House_tell fun _ _ _ _ _ _ us hl => match us, hl with | [_, _], _ => rfl
  have b_House_take_kind : Binds K fd_House_take_kind ["self", "thing", "day", "values"] [] := FunD.bindsN F_House_take_kind fun _ _ _ _ _ _ us hl => match us, hl with | [_, _, _, _], _ => rfl
  have b_House_take_fact : Binds K fd_House_take_fact ["self", "name", "day", "keys", "numbers"] [] := FunD.bindsN F_House_take_fact fun _ _ _ _ _ _ us hl => match us, hl with | [_, _, _, _, _], _ => rfl
  have b_House_take_forget : Binds K fd_House_take_forget ["self", "name"] [] := FunD.bindsN F_House_take_forget fun _ _ _ _ _ _ us hl => match us, hl with | [_, _], _ => rfl
  have b_House_part_from : Binds K fd_House_part_from ["self", "things"] [] := FunD.bindsN F_House_part_from fun _ _ _ _ _ _ us hl => match us, hl with | [_, _], _ => rfl
  have b_House_fact_days : Binds K fd_House_fact_days ["self", "thing"] [] := FunD.bindsN F_House_fact_days fun _ _ _ _ _ _ us hl => match us, hl with | [_, _], _ => rfl
  have b_House_led : Binds K fd_House_led ["self", "day", "keys"] [] := FunD.bindsN F_House_led fun _ _ _ _ _ _ us hl => match us, hl with | [_, _, _], _ => rfl
  have b_House_versions : Binds K fd_House_versions ["self", "dimension", "key"] [] := FunD.bindsN F_House_versions fun _ _ _ _ _ _ us hl => match us, hl with | [_, _, _], _ => rfl
  have b_House_keys_of : Binds K fd_House_keys_of ["self", "dimension"] [] := FunD.bindsN F_House_keys_of fun _ _ _ _ _ _ us hl => match us, hl with | [_, _], _ => rfl
  have b_House_facts : Binds K fd_House_facts ["self"] [] := FunD.bindsN F_House_facts fun _ _ _ _ _ _ us hl => match us, hl with | [_], _ => rfl
  have b_l_bag : Binds K fd_l_bag ["script"] [] := FunD.bindsN F_l_bag fun _ _ _ _ _ _ us hl => match us, hl with | [_], _ => rfl
  have b_l_draw : Binds K fd_l_draw ["bag", "many"] [] := FunD.bindsN F_l_draw fun _ _ _ _ _ _ us hl => match us, hl with | [_, _], _ => rfl
  have b_l_plan : Binds K fd_l_plan ["bag"] [] := FunD.bindsN F_l_plan fun _ _ _ _ _ _ us hl => match us, hl with | [_], _ => rfl
  have b_l_day : Binds K fd_l_day ["bag"] [] := FunD.bindsN F_l_day fun _ _ _ _ _ _ us hl => match us, hl with | [_], _ => rfl
  have b_l_value : Binds K fd_l_value ["bag"] [] := FunD.bindsN F_l_value fun _ _ _ _ _ _ us hl => match us, hl with | [_], _ => rfl
  have b_l_kind : Binds K fd_l_kind ["bag", "plan"] [] := FunD.bindsN F_l_kind fun _ _ _ _ _ _ us hl => match us, hl with | [_, _], _ => rfl
  have b_l_fact : Binds K fd_l_fact ["bag", "plan", "name"] [] := FunD.bindsN F_l_fact fun _ _ _ _ _ _ us hl => match us, hl with | [_, _, _], _ => rfl
  have b_l_rows : Binds K fd_l_rows ["bag", "plan", "most"] [] := FunD.bindsN F_l_rows fun _ _ _ _ _ _ us hl => match us, hl with | [_, _, _], _ => rfl
  have b_l_house : Binds K fd_l_house ["plan", "watches"] [] := FunD.bindsN F_l_house fun _ _ _ _ _ _ us hl => match us, hl with | [_, _], _ => rfl
  have b_l_all : Binds K fd_l_all ["house", "plan"] [] := FunD.bindsN F_l_all fun _ _ _ _ _ _ us hl => match us, hl with | [_, _], _ => rfl
  have b_l_meets : Binds K fd_l_meets ["house", "plan"] [] := FunD.bindsN F_l_meets fun _ _ _ _ _ _ us hl => match us, hl with | [_, _], _ => rfl
  have b_l_led : Binds K fd_l_led ["house", "plan"] [] := FunD.bindsN F_l_led fun _ _ _ _ _ _ us hl => match us, hl with | [_, _], _ => rfl
  have b_l_counts : Binds K fd_l_counts ["told", "came", "went", "anew"] [] := FunD.bindsN F_l_counts fun _ _ _ _ _ _ us hl => match us, hl with | [_, _, _, _], _ => rfl
  have g_DayError := He.glo_ok X G (c.fact 0 (f := .glo "DayError") rfl)
  have g_NoRow := He.glo_ok X G (c.fact 1 (f := .glo "NoRow") rfl)
  have g_NoFact := He.glo_ok X G (c.fact 2 (f := .glo "NoFact") rfl)
  have g_Plan := He.glo_ok X G (c.fact 3 (f := .glo "Plan") rfl)
  have g_Things := He.glo_ok X G (c.fact 4 (f := .glo "Things") rfl)
  have g_House := He.glo_ok X G (c.fact 5 (f := .glo "House") rfl)
  have g_is_name := He.glo_ok X G (c.fact 6 (f := .glo "is_name") rfl)
  have g_is_made_of := He.glo_ok X G (c.fact 7 (f := .glo "is_made_of") rfl)
  have g_first_fault := He.glo_ok X G (c.fact 8 (f := .glo "first_fault") rfl)
  have g_are_faulty := He.glo_ok X G (c.fact 9 (f := .glo "are_faulty") rfl)
  have g_attributes_of := He.glo_ok X G (c.fact 10 (f := .glo "attributes_of") rfl)
  have g_things_named := He.glo_ok X G (c.fact 11 (f := .glo "things_named") rfl)
  have g_look := He.glo_ok X G (c.fact 12 (f := .glo "look") rfl)
  have g_has_form := He.glo_ok X G (c.fact 13 (f := .glo "has_form") rfl)
  have g_kind_fits := He.glo_ok X G (c.fact 14 (f := .glo "kind_fits") rfl)
  have g_fact_fits := He.glo_ok X G (c.fact 15 (f := .glo "fact_fits") rfl)
  have g_stretches := He.glo_ok X G (c.fact 16 (f := .glo "stretches") rfl)
  have g_opening_kinds := He.glo_ok X G (c.fact 17 (f := .glo "opening_kinds") rfl)
  have g_changes_day := He.glo_ok X G (c.fact 18 (f := .glo "changes_day") rfl)
  have g_version_values := He.glo_ok X G (c.fact 19 (f := .glo "version_values") rfl)
  have g_day_value := He.glo_ok X G (c.fact 20 (f := .glo "day_value") rfl)
  have g_steady_value := He.glo_ok X G (c.fact 21 (f := .glo "steady_value") rfl)
  have g_last_and_unlike := He.glo_ok X G (c.fact 22 (f := .glo "last_and_unlike") rfl)
  have g_l_bag := He.glo_ok X G (c.fact 23 (f := .glo "_law_bag") rfl)
  have g_l_draw := He.glo_ok X G (c.fact 24 (f := .glo "_law_draw") rfl)
  have g_l_plan := He.glo_ok X G (c.fact 25 (f := .glo "_law_plan") rfl)
  have g_l_day := He.glo_ok X G (c.fact 26 (f := .glo "_law_day") rfl)
  have g_l_value := He.glo_ok X G (c.fact 27 (f := .glo "_law_value") rfl)
  have g_l_kind := He.glo_ok X G (c.fact 28 (f := .glo "_law_kind") rfl)
  have g_l_fact := He.glo_ok X G (c.fact 29 (f := .glo "_law_fact") rfl)
  have g_l_rows := He.glo_ok X G (c.fact 30 (f := .glo "_law_rows") rfl)
  have g_l_house := He.glo_ok X G (c.fact 31 (f := .glo "_law_house") rfl)
  have g_l_all := He.glo_ok X G (c.fact 32 (f := .glo "_law_all") rfl)
  have g_l_meets := He.glo_ok X G (c.fact 33 (f := .glo "_law_meets") rfl)
  have g_l_led := He.glo_ok X G (c.fact 34 (f := .glo "_law_led") rfl)
  have g_l_counts := He.glo_ok X G (c.fact 35 (f := .glo "_law_counts") rfl)
  obtain ⟨t_SMALL_LETTERS, g_SMALL_LETTERS⟩ := He.str_ok X G (c.fact 37 (f := .str "SMALL_LETTERS" "abcdefghijklmnopqrstuvwxyz") rfl)
  obtain ⟨t_LONGEST_NAME, g_LONGEST_NAME⟩ := He.int_ok X G (c.fact 38 (f := .int "LONGEST_NAME" 8) rfl)
  obtain ⟨t_MOST_DIMENSIONS, g_MOST_DIMENSIONS⟩ := He.int_ok X G (c.fact 39 (f := .int "MOST_DIMENSIONS" 4) rfl)
  obtain ⟨t_MOST_ATTRIBUTES, g_MOST_ATTRIBUTES⟩ := He.int_ok X G (c.fact 40 (f := .int "MOST_ATTRIBUTES" 5) rfl)
  obtain ⟨t_MOST_MEASURES, g_MOST_MEASURES⟩ := He.int_ok X G (c.fact 41 (f := .int "MOST_MEASURES" 4) rfl)
  have z_ValueError := He.free_ok X G (c.fact 42 (f := .free "ValueError") rfl)
  have z_abs := He.free_ok X G (c.fact 43 (f := .free "abs") rfl)
  have z_all := He.free_ok X G (c.fact 44 (f := .free "all") rfl)
  have z_any := He.free_ok X G (c.fact 45 (f := .free "any") rfl)
  have z_enumerate := He.free_ok X G (c.fact 46 (f := .free "enumerate") rfl)
  have z_len := He.free_ok X G (c.fact 47 (f := .free "len") rfl)
  have z_list := He.free_ok X G (c.fact 48 (f := .free "list") rfl)
  have z_range := He.free_ok X G (c.fact 49 (f := .free "range") rfl)
  have z_repr := He.free_ok X G (c.fact 50 (f := .free "repr") rfl)
  have z_set := He.free_ok X G (c.fact 51 (f := .free "set") rfl)
  have z_sorted := He.free_ok X G (c.fact 52 (f := .free "sorted") rfl)
  have z_sum := He.free_ok X G (c.fact 53 (f := .free "sum") rfl)
  have z_tuple := He.free_ok X G (c.fact 54 (f := .free "tuple") rfl)
  have z_zip := He.free_ok X G (c.fact 55 (f := .free "zip") rfl)
  have cls_Plan := He.cls_ok (c.fact 56 (f := .cls "Plan") rfl)
  have mk_Plan := He.mkr_ok (c.fact 57 (f := .mkr "Plan") rfl)
  have no_Plan_dimension_list := He.noat_ok (c.fact 58 (f := .noat "Plan" "dimension_list") rfl)
  have no_Plan_measure_list := He.noat_ok (c.fact 59 (f := .noat "Plan" "measure_list") rfl)
  have me_Plan_dimensions := He.meth_ok (c.fact 60 (f := .meth "Plan" "dimensions") rfl)
  have me_Plan_measures := He.meth_ok (c.fact 61 (f := .meth "Plan" "measures") rfl)
  have cls_Things := He.cls_ok (c.fact 62 (f := .cls "Things") rfl)
  have mk_Things := He.mkr_ok (c.fact 63 (f := .mkr "Things") rfl)
  have no_Things_given := He.noat_ok (c.fact 64 (f := .noat "Things" "given") rfl)
  have no_Things_kinds := He.noat_ok (c.fact 65 (f := .noat "Things" "kinds") rfl)
  have no_Things_numbered := He.noat_ok (c.fact 66 (f := .noat "Things" "numbered") rfl)
  have no_Things_plan := He.noat_ok (c.fact 67 (f := .noat "Things" "plan") rfl)
  have me_Things_knows := He.meth_ok (c.fact 68 (f := .meth "Things" "knows") rfl)
  have me_Things_take_kind := He.meth_ok (c.fact 69 (f := .meth "Things" "take_kind") rfl)
  have me_Things_meet := He.meth_ok (c.fact 70 (f := .meth "Things" "meet") rfl)
  have me_Things_part := He.meth_ok (c.fact 71 (f := .meth "Things" "part") rfl)
  have me_Things_number_anew := He.meth_ok (c.fact 72 (f := .meth "Things" "number_anew") rfl)
  have me_Things_with_numbers := He.meth_ok (c.fact 73 (f := .meth "Things" "with_numbers") rfl)
  have me_Things_version_on := He.meth_ok (c.fact 74 (f := .meth "Things" "version_on") rfl)
  have cls_House := He.cls_ok (c.fact 75 (f := .cls "House") rfl)
  have mk_House := He.mkr_ok (c.fact 76 (f := .mkr "House") rfl)
  have no_House_kept_facts := He.noat_ok (c.fact 77 (f := .noat "House" "kept_facts") rfl)
  have no_House_plan := He.noat_ok (c.fact 78 (f := .noat "House" "plan") rfl)
  have no_House_things := He.noat_ok (c.fact 79 (f := .noat "House" "things") rfl)
  have no_House_told_rows := He.noat_ok (c.fact 80 (f := .noat "House" "told_rows") rfl)
  have no_House_watchers := He.noat_ok (c.fact 81 (f := .noat "House" "watchers") rfl)
  have me_House_tell := He.meth_ok (c.fact 82 (f := .meth "House" "tell") rfl)
  have me_House_take_kind := He.meth_ok (c.fact 83 (f := .meth "House" "take_kind") rfl)
  have me_House_take_fact := He.meth_ok (c.fact 84 (f := .meth "House" "take_fact") rfl)
  have me_House_take_forget := He.meth_ok (c.fact 85 (f := .meth "House" "take_forget") rfl)
  have me_House_part_from := He.meth_ok (c.fact 86 (f := .meth "House" "part_from") rfl)
  have me_House_fact_days := He.meth_ok (c.fact 87 (f := .meth "House" "fact_days") rfl)
  have me_House_led := He.meth_ok (c.fact 88 (f := .meth "House" "led") rfl)
  have me_House_versions := He.meth_ok (c.fact 89 (f := .meth "House" "versions") rfl)
  have me_House_keys_of := He.meth_ok (c.fact 90 (f := .meth "House" "keys_of") rfl)
  have me_House_facts := He.meth_ok (c.fact 91 (f := .meth "House" "facts") rfl)
  refine ⟨fd_law, fun s v => b s [v] rfl, fun base _ _ TB => ?_⟩
  have T : PlTxt K (He.ga K "Plan") := ⟨cls_Plan, no_Plan_dimension_list, no_Plan_measure_list⟩
  have TX : HsTxt K (cc K).CH := ⟨cls_House, no_House_plan, no_House_things, no_House_kept_facts, no_House_told_rows, no_House_watchers⟩
  have TT : ThTxt K (cc K).CT := ⟨cls_Things, no_Things_plan, no_Things_kinds, no_Things_numbered, no_Things_given⟩
  have hx := (He.ba ce).2
  obtain ⟨hD_, hx⟩ := He.ba hx
  obtain ⟨hV_, hx⟩ := He.ba hx
  obtain ⟨h_NoRow, hx⟩ := He.ba hx
  have h_NoFact := hx
  have T_NoRow := KdXc.errB_ok h_NoRow
  have D_NoRow := ok_DayError (P := P) (w := w) (mg := mg) (base := base) F_DayError_init T_NoRow z_ValueError (KdXc.valB_ok hV_) z_repr
  have E_NoRow : ErrM P w K mg base "NoRow" _ _ fd_NoRow_init := ⟨T_NoRow, ok_NoRow F_NoRow_init T_NoRow D_NoRow (KdXc.cfnB_ok hD_) b_DayError_init g_DayError, b_NoRow_init, g_NoRow⟩
  have T_NoFact := KdXc.errB_ok h_NoFact
  have D_NoFact := ok_DayError (P := P) (w := w) (mg := mg) (base := base) F_DayError_init T_NoFact z_ValueError (KdXc.valB_ok hV_) z_repr
  have E_NoFact : ErrM P w K mg base "NoFact" _ _ fd_NoFact_init := ⟨T_NoFact, ok_NoFact F_NoFact_init T_NoFact D_NoFact (KdXc.cfnB_ok hD_) b_DayError_init g_DayError, b_NoFact_init, g_NoFact⟩
  have G_is_made_of := ok_made (P := P) (w := w) (mg := mg) (base := base) F_is_made_of z_all
  have G_is_name := ok_is_name (P := P) (w := w) (mg := mg) (base := base) F_is_name G_is_made_of F_is_made_of.kp b_is_made_of g_is_made_of z_len g_SMALL_LETTERS g_LONGEST_NAME
  have G_are_faulty := ok_are_faulty (P := P) (w := w) (mg := mg) (base := base) F_are_faulty G_is_name F_is_name.kp b_is_name g_is_name z_len z_set z_all
  have G_first_fault := ok_first (P := P) (w := w) (mg := mg) (base := base) F_first_fault G_are_faulty F_are_faulty.kp b_are_faulty g_are_faulty g_MOST_DIMENSIONS g_MOST_ATTRIBUTES g_MOST_MEASURES
  have G_Plan_init := ok_init (P := P) (w := w) (mg := mg) (base := base) F_Plan_init T G_first_fault F_first_fault.kp b_first_fault g_first_fault z_tuple z_list
  have PC : PlanC P w K mg base _ _ _ _ := ⟨T, mk_Plan, G_Plan_init, g_Plan, F_Plan_init, exB_ok ce⟩
  have G_Plan_dimensions := ok_dims (P := P) (w := w) (mg := mg) (base := base) F_Plan_dimensions T z_list
  have G_Plan_measures := ok_meas (P := P) (w := w) (mg := mg) (base := base) F_Plan_measures T z_list
  have G_attributes_of := ok_attr (P := P) (w := w) (mg := mg) (base := base) F_attributes_of T G_Plan_dimensions b_Plan_dimensions me_Plan_dimensions
  have c_attributes_of : Fun P w K mg base _ _ _ _ _ _ := ⟨G_attributes_of, F_attributes_of.kp, b_attributes_of, g_attributes_of⟩
  have G_changes_day := ok_chg (P := P) (w := w) (mg := mg) (base := base) F_changes_day z_any z_enumerate
  have G_opening_kinds := ok_open (P := P) (w := w) (mg := mg) (base := base) F_opening_kinds G_changes_day F_changes_day.kp b_changes_day g_changes_day z_zip
  have G_last_and_unlike := ok_last (P := P) (w := w) (mg := mg) (base := base) F_last_and_unlike
  have G_day_value := ok_dayv (P := P) (w := w) (mg := mg) (base := base) F_day_value
  have G_steady_value := ok_stv (P := P) (w := w) (mg := mg) (base := base) F_steady_value G_last_and_unlike F_last_and_unlike.kp b_last_and_unlike g_last_and_unlike
  have G_version_values := ok_vv (P := P) (w := w) (mg := mg) (base := base) F_version_values G_day_value F_day_value.kp b_day_value g_day_value z_enumerate z_tuple
  have G_stretches := ok_str (P := P) (w := w) (mg := mg) (base := base) F_stretches (code_at F_stretches) (TB _ (List.mem_cons_self ..)) G_attributes_of F_attributes_of.kp b_attributes_of g_attributes_of G_opening_kinds F_opening_kinds.kp b_opening_kinds g_opening_kinds G_version_values F_version_values.kp b_version_values g_version_values G_steady_value F_steady_value.kp b_steady_value g_steady_value z_enumerate z_sorted z_zip
  have c_stretches : Fun P w K mg base _ _ _ _ _ _ := ⟨G_stretches, F_stretches.kp, b_stretches, g_stretches⟩
  have G_things_named := ok_named (P := P) (w := w) (mg := mg) (base := base) F_things_named T G_Plan_dimensions b_Plan_dimensions me_Plan_dimensions z_zip
  have c_things_named : Fun P w K mg base _ _ _ _ _ _ := ⟨G_things_named, F_things_named.kp, b_things_named, g_things_named⟩
  have G_Things_init := ok_things (P := P) (w := w) (mg := mg) (base := base) F_Things_init TT
  have C_Things : ClsC P w K mg base "Things" _ _ _ _ _ _ := ⟨mk_Things, G_Things_init, b_Things_init, g_Things⟩
  have G_Things_knows := ok_knows (P := P) (w := w) (mg := mg) (base := base) F_Things_knows TT
  have m_Things_knows : MFun P w K mg base _ "knows" _ _ _ _ _ := ⟨G_Things_knows, b_Things_knows, cls_Things, me_Things_knows⟩
  have G_Things_version_on := ok_verOn (P := P) (w := w) (mg := mg) (base := base) F_Things_version_on TT
  have m_Things_version_on : MFun P w K mg base _ "version_on" _ _ _ _ _ := ⟨G_Things_version_on, b_Things_version_on, cls_Things, me_Things_version_on⟩
  have G_Things_with_numbers := ok_withN (P := P) (w := w) (mg := mg) (base := base) (T := tbS (cc K).Pt) F_Things_with_numbers TT
  have m_Things_with_numbers : MFun P w K mg base _ "with_numbers" _ _ _ _ _ := ⟨G_Things_with_numbers, b_Things_with_numbers, cls_Things, me_Things_with_numbers⟩
  have G_Things_number_anew := ok_anew (P := P) (w := w) (mg := mg) (base := base) F_Things_number_anew TT m_Things_with_numbers c_stretches z_list z_len
  have m_Things_number_anew : MFun P w K mg base _ "number_anew" _ _ _ _ _ := ⟨G_Things_number_anew, b_Things_number_anew, cls_Things, me_Things_number_anew⟩
  have G_Things_take_kind := ok_takeK (P := P) (w := w) (mg := mg) (base := base) F_Things_take_kind TT m_Things_number_anew
  have m_Things_take_kind : MFun P w K mg base _ "take_kind" _ _ _ _ _ := ⟨G_Things_take_kind, b_Things_take_kind, cls_Things, me_Things_take_kind⟩
  have G_Things_meet := ok_meet (P := P) (w := w) (mg := mg) (base := base) F_Things_meet m_Things_number_anew m_Things_knows
  have m_Things_meet : MFun P w K mg base _ "meet" _ _ _ _ _ := ⟨G_Things_meet, b_Things_meet, cls_Things, me_Things_meet⟩
  have G_Things_part := ok_part (P := P) (w := w) (mg := mg) (base := base) (T := tbS (cc K).Pt) F_Things_part TT z_len
  have m_Things_part : MFun P w K mg base _ "part" _ _ _ _ _ := ⟨G_Things_part, b_Things_part, cls_Things, me_Things_part⟩
  have G_House_fact_days := ok_fdays (P := P) (w := w) (mg := mg) (base := base) (c := cc K) F_House_fact_days TX c_things_named z_list
  have m_House_fact_days : MFun P w K mg base _ "fact_days" _ _ _ _ _ := ⟨G_House_fact_days, b_House_fact_days, cls_House, me_House_fact_days⟩
  have G_House_led := ok_led (P := P) (w := w) (mg := mg) (base := base) (c := cc K) F_House_led TX c_things_named m_Things_version_on z_tuple
  have m_House_led : MFun P w K mg base _ "led" _ _ _ _ _ := ⟨G_House_led, b_House_led, cls_House, me_House_led⟩
  have G_House_part_from := ok_partF (P := P) (w := w) (mg := mg) (base := base) (c := cc K) F_House_part_from TX TT m_House_fact_days m_Things_part z_sum
  have m_House_part_from : MFun P w K mg base _ "part_from" _ _ _ _ _ := ⟨G_House_part_from, b_House_part_from, cls_House, me_House_part_from⟩
  have G_House_take_kind := ok_hkind (P := P) (w := w) (mg := mg) (base := base) (c := cc K) F_House_take_kind TX m_House_fact_days m_Things_version_on m_Things_take_kind z_len z_zip
  have m_House_take_kind : MFun P w K mg base _ "take_kind" _ _ _ _ _ := ⟨G_House_take_kind, b_House_take_kind, cls_House, me_House_take_kind⟩
  have G_House_take_fact := ok_hfact (P := P) (w := w) (mg := mg) (base := base) (c := cc K) F_House_take_fact TX c_things_named m_Things_meet m_House_part_from m_House_led z_sum
  have m_House_take_fact : MFun P w K mg base _ "take_fact" _ _ _ _ _ := ⟨G_House_take_fact, b_House_take_fact, cls_House, me_House_take_fact⟩
  have G_House_take_forget := ok_hforget (P := P) (w := w) (mg := mg) (base := base) (c := cc K) F_House_take_forget TX c_things_named m_House_part_from
  have m_House_take_forget : MFun P w K mg base _ "take_forget" _ _ _ _ _ := ⟨G_House_take_forget, b_House_take_forget, cls_House, me_House_take_forget⟩
  have G_kind_fits := ok_kf (P := P) (w := w) (mg := mg) (base := base) F_kind_fits c_attributes_of z_len
  have c_kind_fits : Fun P w K mg base _ _ _ _ _ _ := ⟨G_kind_fits, F_kind_fits.kp, b_kind_fits, g_kind_fits⟩
  have G_fact_fits := ok_ff (P := P) (w := w) (mg := mg) (base := base) F_fact_fits T G_Plan_dimensions b_Plan_dimensions me_Plan_dimensions G_Plan_measures b_Plan_measures me_Plan_measures z_len
  have c_fact_fits : Fun P w K mg base _ _ _ _ _ _ := ⟨G_fact_fits, F_fact_fits.kp, b_fact_fits, g_fact_fits⟩
  have G_has_form := ok_form (P := P) (w := w) (mg := mg) (base := base) F_has_form c_kind_fits c_fact_fits
  have c_has_form : Fun P w K mg base _ _ _ _ _ _ := ⟨G_has_form, F_has_form.kp, b_has_form, g_has_form⟩
  have G_look := ok_look (P := P) (w := w) (mg := mg) (base := base) F_look c_has_form E_NoRow
  have c_look : FunX P w K mg base _ _ _ _ _ _ := ⟨G_look, F_look.kp, b_look, g_look⟩
  have G_House_tell := ok_tell (P := P) (w := w) (mg := mg) (base := base) (c := cc K) F_House_tell TX c_look E_NoFact m_House_take_kind m_House_take_fact m_House_take_forget
  have G_House_facts := ok_factsH (P := P) (w := w) (mg := mg) (base := base) (c := cc K) F_House_facts TX m_House_led z_list z_sorted
  have m_House_facts : MFun P w K mg base _ "facts" _ _ _ _ _ := ⟨G_House_facts, b_House_facts, cls_House, me_House_facts⟩
  have G_House_init := ok_hinit (P := P) (w := w) (mg := mg) (base := base) (c := cc K) F_House_init TX PC C_Things G_Plan_dimensions b_Plan_dimensions me_Plan_dimensions G_Plan_measures b_Plan_measures me_Plan_measures
  have C_House : ClsC P w K mg base "House" _ _ _ _ _ _ := ⟨mk_House, G_House_init, b_House_init, g_House⟩
  have G_l_bag := ok_bag6 (P := P) (w := w) (mg := mg) (base := base) F_l_bag z_abs
  have c_l_bag : Fun P w K mg base _ _ _ _ _ _ := ⟨G_l_bag, F_l_bag.kp, b_l_bag, g_l_bag⟩
  have G_l_draw := ok_draw6 (P := P) (w := w) (mg := mg) (base := base) F_l_draw z_len
  have c_l_draw : Fun P w K mg base _ _ _ _ _ _ := ⟨G_l_draw, F_l_draw.kp, b_l_draw, g_l_draw⟩
  have G_l_plan := ok_plan6 (P := P) (w := w) (mg := mg) (base := base) F_l_plan c_l_draw z_tuple
  have c_l_plan : Fun P w K mg base _ _ _ _ _ _ := ⟨G_l_plan, F_l_plan.kp, b_l_plan, g_l_plan⟩
  have G_l_day := ok_day6 (P := P) (w := w) (mg := mg) (base := base) F_l_day c_l_draw
  have c_l_day : Fun P w K mg base _ _ _ _ _ _ := ⟨G_l_day, F_l_day.kp, b_l_day, g_l_day⟩
  have G_l_value := ok_value6 (P := P) (w := w) (mg := mg) (base := base) F_l_value c_l_draw
  have c_l_value : Fun P w K mg base _ _ _ _ _ _ := ⟨G_l_value, F_l_value.kp, b_l_value, g_l_value⟩
  have G_l_kind := ok_kind6 (P := P) (w := w) (mg := mg) (base := base) F_l_kind c_l_draw c_l_value c_l_day z_len z_tuple
  have c_l_kind : Fun P w K mg base _ _ _ _ _ _ := ⟨G_l_kind, F_l_kind.kp, b_l_kind, g_l_kind⟩
  have G_l_fact := ok_fact6 (P := P) (w := w) (mg := mg) (base := base) F_l_fact c_l_draw c_l_day z_tuple
  have c_l_fact : Fun P w K mg base _ _ _ _ _ _ := ⟨G_l_fact, F_l_fact.kp, b_l_fact, g_l_fact⟩
  have G_l_rows := ok_rows6 (P := P) (w := w) (mg := mg) (base := base) F_l_rows c_l_draw c_l_kind c_l_fact z_len z_range
  have c_l_rows : Fun P w K mg base _ _ _ _ _ _ := ⟨G_l_rows, F_l_rows.kp, b_l_rows, g_l_rows⟩
  have G_House_versions := ok_versH (P := P) (w := w) (mg := mg) (base := base) (c := cc K) F_House_versions TX TT m_Things_knows z_list
  have m_House_versions : MFun P w K mg base _ "versions" _ _ _ _ _ := ⟨G_House_versions, b_House_versions, cls_House, me_House_versions⟩
  have G_House_keys_of := ok_keysOf (P := P) (w := w) (mg := mg) (base := base) (c := cc K) F_House_keys_of TX TT c_attributes_of z_sorted
  have m_House_keys_of : MFun P w K mg base _ "keys_of" _ _ _ _ _ := ⟨G_House_keys_of, b_House_keys_of, cls_House, me_House_keys_of⟩
  have G_l_all := ok_wall (P := P) (w := w) (mg := mg) (base := base) (c := cc K) F_l_all m_House_keys_of m_House_versions
  have c_l_all : Fun P w K mg base _ _ _ _ _ _ := ⟨G_l_all, F_l_all.kp, b_l_all, g_l_all⟩
  have G_l_house := ok_house6 (P := P) (w := w) (mg := mg) (base := base) (c := cc K) F_l_house PC C_House
  have c_l_house : Fun P w K mg base _ _ _ _ _ _ := ⟨G_l_house, F_l_house.kp, b_l_house, g_l_house⟩
  have G_l_meets := ok_wmeets (P := P) (w := w) (mg := mg) (base := base) (c := cc K) F_l_meets m_House_keys_of m_House_versions z_range z_len
  have c_l_meets : Fun P w K mg base _ _ _ _ _ _ := ⟨G_l_meets, F_l_meets.kp, b_l_meets, g_l_meets⟩
  have G_l_led := ok_wledd (P := P) (w := w) (mg := mg) (base := base) (c := cc K) F_l_led m_House_facts m_House_versions z_enumerate z_tuple
  have c_l_led : Fun P w K mg base _ _ _ _ _ _ := ⟨G_l_led, F_l_led.kp, b_l_led, g_l_led⟩
  have G_l_counts := ok_wcnt (P := P) (w := w) (mg := mg) (base := base) F_l_counts
  have c_l_counts : Fun P w K mg base _ _ _ _ _ _ := ⟨G_l_counts, F_l_counts.kp, b_l_counts, g_l_counts⟩
  exact ok_law (c := cc K) F_law c_l_bag c_l_plan c_l_rows c_l_house c_l_all c_l_led c_l_meets c_l_counts (⟨tell_calm (c := cc K) G_House_tell, b_House_tell, cls_House, me_House_tell⟩) z_any z_sorted z_list z_range z_len
end Kd
open PySem PySem.W PySem.Calls PyProof.Rows
theorem PySem.Challenge.cw_kindsofday_k61_whole_numbers_never_twice_holds : PySem.Challenge.rw_kindsofday_k61_whole_numbers_never_twice.Holds := by
  w_on; o_law
  refine HandSHeadRun.head_any (r := OpenLaw.row PySem.Challenge.rw_kindsofday_k61_whole_numbers_never_twice) (q := view (OpenLaw.row PySem.Challenge.rw_kindsofday_k61_whole_numbers_never_twice).prog [67]) (H := Kd.hkE) (ob := Kd.ob) (M := 9000) (loose := Kd.loose) (d := HandSHeadRun.topDef (OpenLaw.row PySem.Challenge.rw_kindsofday_k61_whole_numbers_never_twice).prog 67) (kwd := []) Kd.ob_eq
    (by kernel_rfl) (fun s => by kernel_rfl) Kd.run (by kernel_rfl) (by kernel_rfl) (by kernel_rfl) (by rfl) (by first | assumption | decide +kernel) (by decide +kernel) ⟨rfl, rfl, rfl, rfl, rfl, by decide +kernel⟩ ?hw ?hc
  case hw => w_witness2
  case hc =>
    refine LamX.walk_ofTsE (l := PySem.Challenge.rw_kindsofday_k61_whole_numbers_never_twice) (n := 63) (k := 10) (x := "script") (CX := fun _ => L2.CX0) rfl (by decide) (by kernel_rfl) ⟨rfl, by decide, by decide⟩ ?F (fun _ _ _ _ _ z => z)
    intro w mg fa h Y G hmg0
    obtain ⟨K, KX, c⟩ := Y
    have hmg : mg ("law" : PySem.Str) = some (.ref fa) := by
      have e : (HandSHeadRun.topDef (OpenLaw.row PySem.Challenge.rw_kindsofday_k61_whole_numbers_never_twice).prog 67).name = ("law" : PySem.Str) := by kernel_rfl
      rw [← e]
      exact hmg0
    obtain ⟨fd, hb, hF⟩ := Kd.facts (P := (PySem.Challenge.rw_kindsofday_k61_whole_numbers_never_twice).prog) (w := w) KX G hmg c.t.d c.more
    refine ⟨K, KX, fd, Kd.tf.map (He.cT K), Kd.spLaw K (He.cT K ("stretches", none)).2, ?_, ?_, ?_, hb, fun H a ns hl _ hT hS => ⟨a, ns, rfl, hS, hl, fun p hp => ?_, fun _ => rfl⟩, fun base hK hN hTB => hF base hK hN fun p hp => hTB _ (List.mem_map_of_mem hp)⟩
    · intro p hp
      obtain ⟨q, hq, rfl⟩ := List.mem_map.mp hp
      exact c.empty q hq
    · intro p hp
      obtain ⟨q, hq, rfl⟩ := List.mem_map.mp hp
      exact c.out q hq
    · intro p hp
      obtain ⟨q, hq, rfl⟩ := List.mem_map.mp hp
      exact PySem.W.codeHd_of_K KX (c.hd q hq)
    · rw [List.mem_singleton.mp hp]
      exact LamX.TabS.nil (hT _ (List.mem_map_of_mem (List.mem_cons_self ..)))
