import PyProof.Rows.All
import Wide.All
import OpenK.AllK
import Wide.FinOn
import HandS.ForMost
import HandS.Strs
import HandS.Zip
import HandS.IsInst
import HandS.Walk
import HandS.Defaults
import HandS.MakeKw
import HandS.Wide
import HandS.WideBits
import HandS.More
import HandS.HeadHook2
import HandS.Text
import HandS.FStr
import HandS.StrMore
import KE.IntTextLaws
import HandS.FStrTup
import HandS.ExcInit
import HandS.RaiseMore
import HandS.OwnEq
import PyProof.ReprNest
import HandS.Dict
import HandS.Lambda
import KE.KLam
import KE.SortKeyHeap
import HandS.ExcSuper
import KE.GoesNew
import KE.GoesMore
import HandS.NoneIn
import HandS.DictTup
import HandS.ListItems
import HandS.DictComp
import KE.KDictList
import PyProof.DictMoreH
import HandS.Deep
import HandS.ForExc
import HandS.ExcField
import HandS.HeadHook1
import KE.KExcIs
import HandS.MakeKwOnly
import HandS.Exc
import HandS.ExcOwn
import HandS.DeepEq
import KE.DataCmp
import HandS.TupAny
import HandS.ExcInitHot
import HandS.SuiteRaise
import HandS.RaiseFrom
import HandS.SortInts
import HandS.Head0
import KE.KStateDown
import HandS.Head1
import HandS.Head2
import HandS.HeadEnd
import HandS.HeadHook3
import HandS.HeadHook4
import HandS.HeadWalk
import PySem.Challenge.RW_kindsofday_k29_known_since
set_option Elab.async false
set_option linter.all false
set_option maxRecDepth 100000
set_option maxHeartbeats 0
/-! len(set(xs)) where xs is a list or a tuple of texts of any number -/
namespace KdS
open PySem PySem.Spec PyProof.Rows
/-- how many unlike ones the first i have -/
def dcn (xs : List Str) : Nat → Nat
  | 0 => 0
  | i + 1 => if (xs.take i).any (· == xs.getD i Str.empty) = true then dcn xs i else dcn xs i + 1
theorem dcn_le (xs : List Str) : ∀ i, dcn xs i ≤ i
  | 0 => Nat.le_refl _
  | i + 1 => by
    have h := dcn_le xs i
    unfold dcn
    split <;> omega
theorem take_any (xs : List Str) {i : Nat} (h : i < xs.length) (k : Str) : (xs.take (i + 1)).any (· == k) = ((xs.take i).any (· == k) || decide (k = xs.getD i Str.empty)) := by
  have e : xs.getD i Str.empty = xs[i] := by simp [h]
  rw [List.take_succ_eq_append_getElem h, List.any_append, e]
  have e2 : ([xs[i]].any fun x => x == k) = decide (k = xs[i]) := by
    by_cases q : k = xs[i]
    · simp [q]
    · have q2 : ¬ xs[i] = k := fun z => q z.symm
      simp [q, q2]
  rw [e2]
theorem dcn_nodup {xs : List Str} (hn : xs.Nodup) : ∀ i, i ≤ xs.length → dcn xs i = i
  | 0, _ => rfl
  | i + 1, h => by
    have ih := dcn_nodup hn i (by omega)
    unfold dcn
    rw [if_neg, ih]
    intro hc
    obtain ⟨y, hy, e⟩ := List.any_eq_true.mp hc
    have hi : i < xs.length := h
    have eg : xs.getD i Str.empty = xs[i] := by simp [hi]
    rw [eg] at e
    have e1 : y = xs[i] := by simpa using e
    obtain ⟨j, hj, ej⟩ := List.getElem_of_mem hy
    rw [List.length_take] at hj
    rw [List.getElem_take] at ej
    have e3 : xs[j]'(by omega) = xs[i] := ej.trans e1
    have := (List.getElem_inj hn).mp e3
    omega
section
variable {prog : Program} {w : World} {A : Around} {R : Result → Shared → Prop} {I : Addr} {fp wr : List Addr} {G : Array GenState → Array GenState → Prop} {n : Nat} {P : Nat → Value → Prop} {St : Nat → Shared → Prop}
/-- what the set at S holds behind i items -/
abbrev Held (prog : Program) (w : World) (S : Addr) (xs : List Str) (i : Nat) (h : Heap) : Prop := h.SetOf (PySem.strKind prog w) S (fun k => (xs.take i).any (· == k)) (dcn xs i)
theorem Held.kept {S : Addr} {xs : List Str} {i : Nat} {h h' : Heap} (q : Held prog w S xs i h) (k : ∀ o, h.get? S = some o → h'.get? S = some o) : Held prog w S xs i h' := by
  obtain ⟨o, es, ep, t, ho, rest⟩ := q
  exact ⟨o, es, ep, t, k o ho, rest⟩
theorem grow (W : WalksS prog w A.in1 I fp wr G n P St) (S : Addr) (nS : S ∉ fp) (xs : List Str) (hx : xs.length = n) (hb : n + 1 < scanBound) (hv : ∀ i v, P i v → ∃ t, v = .str (xs.getD i Str.empty) t) :
    ∀ (k i : Nat) (s : Shared), n - i = k → i ≤ n → St i s → Held prog w S xs i s.heap → (∀ s', Moved (S :: wr) G s s' → Held prog w S xs n s'.heap → R (.ok (.ret .none)) s') →
      codeAny (model prog w) A (.builtin "set.update.loop" ⟨[.ref S, .ref I], []⟩) R s := by
  have nW : S ∉ wr := fun z => nS (W.sub _ z)
  have up : ∀ b ∈ wr, b ∈ S :: wr := fun b z => List.mem_cons_of_mem _ z
  intro k
  induction k with
  | zero =>
    intro i s hk hi st hS out
    obtain rfl : i = n := by omega
    refine codeAny_builtin PyProof.Rows.F.entry_set_update_loop (by
      rw [Around.under_plainId PyProof.Rows.F.plain_set_update_loop _]
      show wpAny _ A.in1 (pyNext (.ref I) >>= _) _ _ s
      exact wpAny_bind (W.done s _ _ st fun s1 mv => wpAny_pure (out s1 (mv.mono up) (hS.kept fun o q => mv.heap S _ nW q))))
  | succ k ih =>
    intro i s hk hi st hS out
    have hlt : i < n := by omega
    refine codeAny_builtin PyProof.Rows.F.entry_set_update_loop (by
      rw [Around.under_plainId PyProof.Rows.F.plain_set_update_loop _]
      show wpAny _ A.in1 (pyNext (.ref I) >>= _) _ _ s
      refine wpAny_bind (W.item i s _ _ hlt st fun v s1 hP st1 mv => ?_)
      obtain ⟨t, rfl⟩ := hv i v hP
      have hS1 : Held prog w S xs i s1.heap := hS.kept fun o q => mv.heap S _ nW q
      show wpAny _ A.in1 (holding [Value.str (xs.getD i Str.empty) t] (setAdd S (.str (xs.getD i Str.empty) t)) >>= _) _ _ s1
      refine wpAny_bind (wpAny_holding ?_)
      unfold setAdd
      refine wpAny_holding (wpAny_bind ((PySem.strKind prog w).pyHash (k := xs.getD i Str.empty) (strKind_is _ _ _ _) ?_))
      refine wpAny_setAddHashed_of (knd := PySem.strKind prog w) (s := { s1 with toks := s1.toks + 1 }) (strKind_is _ _ _ _) rfl hS1 (by have := dcn_le xs i; omega) fun h2 sb hS2 => ?_
      have hS3 : Held prog w S xs (i + 1) h2 := SetOf_congr hS2 (fun k => (take_any xs (by omega) k).symm) rfl
      refine wpAny_pure ⟨plainId_quiet PyProof.Rows.F.plain_set_update_loop _, ih (i + 1) _ (by omega) hlt (W.frame _ s1 _ _ st1 (Nat.le_succ _) fun b z o q => ?_) hS3 fun s4 mv4 hS4 => ?_⟩
      · rw [sb.2 b (fun z2 : b = S => nS (z2 ▸ z))]
        exact q
      · refine out s4 (Moved.trans W.gtrans ((mv.mono up).then_heap (Nat.le_succ _) fun b o z q => ?_) mv4) hS4
        rw [sb.2 b (fun z2 : b = S => z (by rw [z2]; exact List.mem_cons_self))]
        exact q)
end
section
variable {prog : Program} {w : World} {A : Around} {E : Value → Shared → Prop} {s : Shared}
abbrev setObj (led : Bool) : Obj := { cls := .type "set", dict := none, data := .set #[] 0 (.fresh 0 0 led) }
set_option maxHeartbeats 3200000 in
/-- set(v), by what __init__ does with the new empty set -/
theorem set_by {v : Value} {Q : Value → Shared → Prop} {P : Shared → Prop} (hi : ∀ led : Bool, wpAny (model prog w) A.in1.in1 (Builtin.«set.__init__» ⟨[.ref s.heap.objs.size, v], []⟩) (fun r s2 => r = .done (.ret .none) ∧ P s2) E { s with heap := s.heap.push (setObj led) })
    (h : ∀ s2, P s2 → Q (.ref s.heap.objs.size) s2) : wpAny (model prog w) A (call (.type "set") [v]) Q E s := by
  obtain ⟨c, tl, hmro⟩ := PySem.F.called_set.mro
  have f1 := PySem.F.called_set.made
  have f2 := PySem.F.called_set.sub
  have f3 := PySem.F.called_set.notType
  have f4 := PySem.F.called_set.canCreate
  have f5 := PySem.F.typeCall_set_1 v
  refine wpAny_call (codeAny_of_tree (show wpAny _ _ (callAny (.type "set") _) _ _ _ from wpAny_pure ⟨Code.quiet_builtin _ (by decide +kernel), codeAny_builtin PySem.F.entry_type_call (by
    rw [Around.under_plain (weight_type_call_type "set" [v] []) rfl]
    repeat (any_goals (first | assumption | wp_step))
    refine codeAny_mono (code_set_new_1 v (E := E) (Q₁ := fun ob s1 => ∃ led : Bool, ob = .ref s.heap.objs.size ∧ s1 = { s with heap := s.heap.push (setObj led) }) fun led => ⟨led, rfl, rfl⟩) fun r s1 hr => ?_
    cases r with
    | error e => exact hr
    | ok fl =>
      cases fl with
      | ret ob =>
        obtain ⟨led, rfl, rfl⟩ := hr
        have g0 : (s.heap.push (setObj led)).get? s.heap.objs.size = some (setObj led) := Heap.get?_push_size _ rfl
        have gT : Shared.TypeIs { s with heap := s.heap.push (setObj led) } (.ref s.heap.objs.size) "set" := ⟨_, g0, rfl⟩
        have f6 := PySem.F.called_set.init.lookup
        have f7 := PySem.F.called_set.init.bind (.ref s.heap.objs.size)
        repeat (any_goals (first | assumption | wp_step))
        refine codeAny_mono (codeAny_call_builtin (R := wants (fun r s2 => r = .none ∧ P s2) E) PySem.F.called_set.init.plain PySem.F.entry_set_init (check_set_init_1 gT (wpAny_mono (hi led) (fun r s2 q => ?_) fun _ _ q => q))) fun r2 s2 q2 => ?_
        · obtain ⟨rfl, q⟩ := q
          exact ⟨rfl, q⟩
        · cases r2 with
          | error e => exact q2
          | ok fl2 =>
            cases fl2 with
            | ret r3 =>
              obtain ⟨rfl, q⟩ := q2
              repeat (any_goals (first | assumption | wp_step))
              exact h _ q
            | _ => exact q2.elim
      | _ => exact hr.elim)⟩))
/-- the list's way and the tuple's way of __init__: what is held behind it -/
def After (prog : Program) (w : World) (s : Shared) (xs : List Str) (s2 : Shared) : Prop := ∃ h2 tk, s2 = { s with heap := h2, toks := tk } ∧ Held prog w s.heap.objs.size xs xs.length h2 ∧ ∀ b o, b < s.heap.objs.size → s.heap.get? b = some o → h2.get? b = some o
theorem fresh_held {led : Bool} {it : Obj} {xs : List Str} : Held prog w s.heap.objs.size xs 0 ((s.heap.push (setObj led)).push it) :=
  SetOf_congr ((PyProof.Rows.setObjOf_fresh (knd := PySem.strKind prog w) led).setOf (Heap.get?_push_of_some _ (Heap.get?_push_size _ rfl)) (by unfold scanBound; omega)) (fun _ => rfl) rfl
theorem after_moved {G : Array GenState → Array GenState → Prop} {led : Bool} {it : Obj} {xs : List Str} {s2 : Shared} (hG : ∀ a b, G a b → b = a)
    (mv : Moved (s.heap.objs.size :: [(s.heap.push (setObj led)).objs.size]) G { s with heap := (s.heap.push (setObj led)).push it } s2) (q : Held prog w s.heap.objs.size xs xs.length s2.heap) : After prog w s xs s2 := by
  obtain ⟨h2, g2, d2, t2, o2⟩ := s2
  obtain rfl : g2 = s.gens := hG _ _ mv.gens
  obtain rfl : d2 = s.drawn := mv.drawn
  obtain rfl : o2 = s.os := mv.os
  refine ⟨h2, t2, rfl, q, fun b o hb e => mv.heap b o (fun z => ?_) (Heap.get?_push_of_some _ (Heap.get?_push_of_some _ e))⟩
  rw [Heap.size_push] at z
  rcases List.mem_cons.mp z with z | z
  · exact absurd z (Nat.ne_of_lt hb)
  · exact absurd (List.mem_singleton.mp z) (Nat.ne_of_lt (Nat.lt_succ_of_lt hb))
theorem strAt {items : Array Value} {xs : List Str} (hi : StrsAre items.toList xs) (i : Nat) (v : Value) (hv : items[i]? = some v) : ∃ t, v = .str (xs.getD i Str.empty) t := SS.strs_at hi i v (by rw [Array.getElem?_toList]; exact hv)
set_option maxHeartbeats 3200000 in
theorem init_list {l : Addr} {items : Array Value} {xs : List Str} {led : Bool} (hh : A.in1.in1.in1.handled = none) (hl : s.heap.IsList l items) (hi : StrsAre items.toList xs) (hb : xs.length + 1 < scanBound) :
    wpAny (model prog w) A.in1.in1 (Builtin.«set.__init__» ⟨[.ref s.heap.objs.size, .ref l], []⟩) (fun r s2 => r = .done (.ret .none) ∧ After prog w s xs s2) E { s with heap := s.heap.push (setObj led) } := by
  have hsz : xs.length = items.size := by rw [← StrsAre.len_eq hi, Array.length_toList]
  obtain ⟨⟨oc, od, dt, sl⟩, ho, hc, m, hd⟩ := hl
  simp only at hc hd
  subst hc hd
  have ho1 := Heap.get?_push_of_some (setObj led) ho
  have hl1 : (s.heap.push (setObj led)).IsList l items := ⟨_, ho1, rfl, m, rfl⟩
  have f1 := PySem.F.sub_list_set
  have f2 := PySem.F.sub_list_frozenset
  have f3 : (Value.type "list" == Value.type "dict") = false := by decide
  unfold Builtin.«set.__init__» noKeywords Builtin.Frozenset.updateFrom
  generalize hPI : pyIter = PI
  wp_walk
  subst hPI
  refine wpAny_pyIter_list hl1 (wpAny_bind (wpAny_runValue ?_))
  have hS : l < s.heap.objs.size := Heap.lt_size ho
  have n1 : l ≠ (s.heap.push (setObj led)).objs.size := by rw [Heap.size_push]; exact Nat.ne_of_lt (Nat.lt_succ_of_lt hS)
  have n2 : s.heap.objs.size ∉ [(s.heap.push (setObj led)).objs.size, l] := by
    rw [Heap.size_push]
    intro z
    rcases List.mem_cons.mp z with z | z
    · exact absurd z (Nat.ne_of_lt (Nat.lt_succ_self _))
    · exact absurd (List.mem_singleton.mp z) (Nat.ne_of_gt hS)
  refine grow ((Walks.list hh _ l n1 items).toS) s.heap.objs.size n2 xs hsz (by omega) (strAt hi) (items.size - 0) 0 _ (by omega) (Nat.zero_le _) ⟨⟨_, Heap.get?_push_size _ rfl, rfl, rfl⟩, hl1.push _⟩ fresh_held fun s2 mv q => ?_
  rw [← hsz] at q
  exact wpAny_pure (wpAny_pure ⟨rfl, after_moved (fun _ _ z => z) mv q⟩)
set_option maxHeartbeats 3200000 in
theorem init_tup {l : Addr} {items : Array Value} {xs : List Str} {led : Bool} (hh : A.in1.in1.in1.handled = none) (hl : s.heap.IsTuple l items) (hi : StrsAre items.toList xs) (hb : xs.length + 1 < scanBound) :
    wpAny (model prog w) A.in1.in1 (Builtin.«set.__init__» ⟨[.ref s.heap.objs.size, .ref l], []⟩) (fun r s2 => r = .done (.ret .none) ∧ After prog w s xs s2) E { s with heap := s.heap.push (setObj led) } := by
  have hsz : xs.length = items.size := by rw [← StrsAre.len_eq hi, Array.length_toList]
  obtain ⟨⟨oc, od, dt, sl⟩, ho, hc, m, hd⟩ := hl
  simp only at hc hd
  subst hc hd
  have ho1 := Heap.get?_push_of_some (setObj led) ho
  have hl1 : (s.heap.push (setObj led)).IsTuple l items := ⟨_, ho1, rfl, m, rfl⟩
  have f1 := PySem.F.sub_tuple_set
  have f2 := PySem.F.sub_tuple_frozenset
  have f3 : (Value.type "tuple" == Value.type "dict") = false := by decide
  unfold Builtin.«set.__init__» noKeywords Builtin.Frozenset.updateFrom
  generalize hPI : pyIter = PI
  wp_walk
  subst hPI
  refine wpAny_pyIter_tuple hl1 (wpAny_bind (wpAny_runValue ?_))
  have hS : l < s.heap.objs.size := Heap.lt_size ho
  have n1 : l ≠ (s.heap.push (setObj led)).objs.size := by rw [Heap.size_push]; exact Nat.ne_of_lt (Nat.lt_succ_of_lt hS)
  have n2 : s.heap.objs.size ∉ [(s.heap.push (setObj led)).objs.size, l] := by
    rw [Heap.size_push]
    intro z
    rcases List.mem_cons.mp z with z | z
    · exact absurd z (Nat.ne_of_lt (Nat.lt_succ_self _))
    · exact absurd (List.mem_singleton.mp z) (Nat.ne_of_gt hS)
  refine grow ((Walks.tuple hh _ l n1 items).toS) s.heap.objs.size n2 xs hsz (by omega) (strAt hi) (items.size - 0) 0 _ (by omega) (Nat.zero_le _) ⟨⟨_, Heap.get?_push_size _ rfl, rfl, rfl⟩, hl1.push _⟩ fresh_held fun s2 mv q => ?_
  rw [← hsz] at q
  exact wpAny_pure (wpAny_pure ⟨rfl, after_moved (fun _ _ z => z) mv q⟩)
end
end KdS
namespace Kd
open PySem PySem.Spec PyProof.Rows L2
theorem strs_vals : ∀ {xs : List Str} {us : List Value}, Vals (xs.map V.str) us → StrsAre us xs
  | [], _, .nil => .nil
  | x :: xs, _, .cons r t => by
    obtain ⟨k, rfl⟩ := r
    exact .cons x k (strs_vals t)
/-- a list or a tuple of texts -/
def Txs (K : PySem.W.Frag) (H : Hp) (l : Addr) (xs : List Str) : Prop := SqL K H l (xs.map V.str) ∨ SqT K H l (xs.map V.str)
def tLenSetS (K : PySem.W.Frag) (ta : TE) : TE := fun σ H Q => ta σ H fun x H1 => ∃ (l : Addr) (xs : List Str), x = .ref l ∧ Txs K H1 l xs ∧ xs.length ≤ 4000 ∧ Q (.int (KdS.dcn xs xs.length : Nat)) H1
theorem pe_lenSetS {X : Cx} {a : Expr} {ta : TE} {p p2 q pos : Pos} (hg : Gl X "len") (hm : X.mg "len" = none) (hg2 : Gl X "set") (hm2 : X.mg "set" = none) (ha : PE X a ta) (hc : X.calm = true := by rfl)
    (na : starEach [a] X.env = (false, eval a X.env) :: starEach [] X.env := by rfl) : PE X (.Call (.Name "len" p) [.Call (.Name "set" p2) [a] [] q] [] pos) (tLenSetS X.K ta) := by
  refine ⟨fun pins s σ H Q I h => Call_ (ld_blt I hg hm boot_len (PyProof.Rows.callWith_builtin1 (PyProof.Rows.args_cons ?_ rfl) rfl rfl))⟩
  refine Call_ (ld_blt I hg2 hm2 boot_set (PyProof.Rows.callWith_type1 (PyProof.Rows.args_cons (thn (ha.run pins s σ H _ I h) fun v s1 ⟨x, H1, I1, r1, q1⟩ => PyProof.Rows.args_nil ?_) na) na rfl))
  obtain ⟨l, xs, rfl, hq, hl, q1⟩ := q1
  cases r1
  have hh := I1.ok.hd hc
  have hb : xs.length + 1 < scanBound := by unfold scanBound; omega
  refine KdS.set_by (P := KdS.After X.prog X.w s1 xs) (fun led => ?_) fun s2 af => ?_
  · rcases hq with hq | hq
    · obtain ⟨its, r, pl, hz⟩ := I1.list hq
      exact KdS.init_list (by simp [hh]) pl.isList (by simpa using strs_vals r) hb
    · obtain ⟨its, r, pl, hz⟩ := I1.tuple hq
      exact KdS.init_tup (by simp [hh]) pl (by simpa using strs_vals r) hb
  · obtain ⟨h2, tk, rfl, hS, hk⟩ := af
    obtain ⟨o, es, ep, t, ho, hex, hd, _, _, _, hf, hn⟩ := hS
    have I2 : Inv X pins σ H1 { s1 with heap := h2, toks := tk } := I1.kept fun b o e => hk b o (Heap.lt_size e) e
    have hle := KdS.dcn_le xs xs.length
    exact PyProof.Rows.args_nil (call_len_set ho hex hd hf (by rw [hn] <;> omega) ⟨.int (KdS.dcn xs xs.length : Nat), H1, I2.tok _, ⟨_, by rw [hn]⟩, q1⟩)
end Kd

namespace Kd
open PySem PySem.Spec PyProof.Rows L2
/-! ### heaps -/
section
variable {K : PySem.W.Frag} {H H' : Hp} {a g b p l : Addr} {o : HO}
theorem same_new (h : H p = Option.none) : Same H (upd H p o) := fun b u e => by rw [upd_ne (ne_of_none e h)]; exact e
theorem Same.to_new {H1 : Hp} (s : Same H H1) (h : H1 p = Option.none) : Same H (upd H1 p o) := s.trans (same_new h)
theorem Same.seqT {xs : List V} (e : Same H H') (h : SqT K H a xs) : SqT K H' a xs := by
  rcases h with (h | ⟨o, h⟩) | h
  · exact .inl (.inl (e _ _ h))
  · exact .inl (.inr ⟨o, e _ _ h⟩)
  · exact .inr h
theorem Same.txs {xs : List Str} (e : Same H H') (h : Txs K H l xs) : Txs K H' l xs := h.elim (fun q => .inl (e.seq q)) fun q => .inr (Same.seqT e q)
/-- the two objects of a tray cut out -/
def ct (a g : Addr) (H : Hp) : Hp := fun b => if b = a ∨ b = g then Option.none else H b
theorem ct_sub : Same (ct a g H) H := fun b o e => by
  unfold ct at e
  split at e
  · cases e
  · exact e
theorem ct_ne (e : ct a g H b = some o) : b ≠ a ∧ b ≠ g := by
  unfold ct at e
  split at e
  · cases e
  · rename_i h
    exact ⟨fun z => h (.inl z), fun z => h (.inr z)⟩
theorem ct_of (e : H b = some o) (ha : b ≠ a) (hg : b ≠ g) : ct a g H b = some o := by
  unfold ct
  rw [if_neg (fun z => z.elim ha hg)]
  exact e
theorem ct_upda : ct a g (upd H a o) = ct a g H := by
  funext b
  unfold ct upd
  by_cases e : b = a
  · rw [if_pos (.inl e), if_pos (.inl e)]
  · rw [if_neg e]
theorem ct_updg : ct a g (upd H g o) = ct a g H := by
  funext b
  unfold ct upd
  by_cases e : b = g
  · rw [if_pos (.inr e), if_pos (.inr e)]
  · rw [if_neg e]
theorem ct_same (s : Same H H') : Same (ct a g H) (ct a g H') := fun b o e => ct_of (s b o (ct_sub b o e)) (ct_ne e).1 (ct_ne e).2
end
/-! ### data -/
section
variable {K : PySem.W.Frag} {H H' : Hp}
mutual
theorem Dp.same (e : Same H H') : ∀ (d : PyData) (v : V), Dp K H v d → Dp K H' v d
  | .none, _, h => by cases h; exact .non
  | .bool b, _, h => by cases h; exact .bl b
  | .int i, _, h => by cases h; exact .int i
  | .str x, _, h => by cases h; exact .str x
  | .list ds, _, h => by
    cases h with
    | lst q r => exact .lst (e.seq q) (DpAll.same e ds _ r)
  | .tuple ds, _, h => by
    cases h with
    | tup q r => exact .tup (Same.seqT e q) (DpAll.same e ds _ r)
  | .dict _, _, h => by cases h
theorem DpAll.same (e : Same H H') : ∀ (ds : List PyData) (vs : List V), DpAll K H vs ds → DpAll K H' vs ds
  | [], _, h => by cases h; exact .nil
  | d :: ds, _, h => by
    cases h with
    | cons q r => exact .cons (Dp.same e d _ q) (DpAll.same e ds _ r)
end
theorem DpAll.len : ∀ {vs : List V} {ds : List PyData}, DpAll K H vs ds → vs.length = ds.length
  | _, _, .nil => rfl
  | _, _, .cons _ r => congrArg Nat.succ (DpAll.len r)
theorem DpAll.at_ : ∀ {vs : List V} {ds : List PyData} {i : Nat} {v : V}, DpAll K H vs ds → vs[i]? = some v → ∃ d, ds[i]? = some d ∧ Dp K H v d
  | _, _, i, v, .nil, e => by simp at e
  | _, _, 0, v, .cons q _, e => ⟨_, rfl, by have e2 : _ = v := Option.some.inj e; rw [← e2]; exact q⟩
  | _, _, i + 1, v, .cons _ r, e => DpAll.at_ (i := i) r e
theorem DpAll.strs : ∀ (xs : List Str), DpAll K H (xs.map V.str) (xs.map PyData.str)
  | [] => .nil
  | x :: xs => .cons (.str x) (DpAll.strs xs)
end
/-! ### texts of small letters -/
def Low (z : Str) : Prop := ∀ c ∈ z.cps.toList, 97 ≤ c ∧ c ≤ 122
structure IsNm (z : Str) : Prop where
  low : Low z
  pos : 1 ≤ z.length
  le8 : z.length ≤ 8
theorem Low.append {x y : Str} (h1 : Low x) (h2 : Low y) : Low (x ++ y) := fun c hc => by
  have e : (x ++ y).cps.toList = x.cps.toList ++ y.cps.toList := TL.tl_append x y
  rw [e] at hc
  exact (List.mem_append.mp hc).elim (h1 c) (h2 c)
theorem Low.cut {z : Str} (h : Low z) (lo hi : Option Int) : Low (cutS z lo hi) := fun c hc => by
  unfold cutS at hc
  exact h c (List.mem_of_mem_drop (List.mem_of_mem_take hc))
theorem Low.one {c : Nat} (h : 97 ≤ c ∧ c ≤ 122) : Low ⟨#[c]⟩ := fun d hd => by
  have e : d = c := by simpa using hd
  rw [e]
  exact h
theorem Low.empty : Low Str.empty := fun c hc => by
  have : c ∈ ([] : List Nat) := hc
  cases this
/-- the written letters -/
abbrev abc : Str := "abcdefghijklmnopqrstuvwxyz"
theorem abc_list : abc.cps.toList = List.range' 97 26 := by decide +kernel
theorem abc_len : abc.length = 26 := by decide +kernel
theorem mem_abc {c : Nat} : c ∈ abc.cps.toList ↔ 97 ≤ c ∧ c ≤ 122 := by
  rw [abc_list, List.mem_range'_1]
  omega
theorem abc_at {i : Nat} (h : i < 26) : abc.cps.toList[i]? = some (97 + i) := by
  rw [abc_list, List.getElem?_range' h]
  congr 1
  omega
theorem Low.abc : Low abc := fun c hc => mem_abc.mp hc
theorem IsNm.one {c : Nat} (h : 97 ≤ c ∧ c ≤ 122) : IsNm ⟨#[c]⟩ := ⟨.one h, by show 1 ≤ 1; decide, by show 1 ≤ 8; decide⟩
theorem join_list_eq (y : Str) (h : y.cps.toList = []) (parts : List Str) : (Txt.join y parts).cps.toList = (parts.map fun z => z.cps.toList).flatten := by
  rw [TL.join_eq]
  have e := TL.tl_join y parts
  have e2 : ∀ l : List (List Nat), TL.joinL [] l = l.flatten := fun l => by
    induction l with
    | nil => rfl
    | cons p r ih =>
      cases r with
      | nil => simp [TL.joinL]
      | cons q r2 =>
        show p ++ ([] ++ TL.joinL [] (q :: r2)) = _
        rw [ih]
        simp
  have e3 : TL.tl y = [] := h
  rw [e3, e2] at e
  exact e
/-! ### a comprehension, by what it has made and the heap without it -/
/-- the heap without the object at D -/
def cd (D : Addr) (H : Hp) : Hp := ct D D H
theorem cd_sub {D : Addr} {H : Hp} : Same (cd D H) H := ct_sub
theorem cd_upd {D : Addr} {H : Hp} {o : HO} : cd D (upd H D o) = cd D H := ct_upda
theorem cd_free {D : Addr} {H : Hp} (h : H D = Option.none) : cd D H = H := by
  funext b
  unfold cd ct
  by_cases e : b = D
  · subst e
    rw [if_pos (.inl rfl), h]
  · rw [if_neg (fun z => z.elim e e)]
theorem cd_of {D b : Addr} {H : Hp} {o : HO} (e : H b = some o) (n : b ≠ D) : cd D H b = some o := ct_of e n n
theorem cd_same {D : Addr} {H H' : Hp} (s : Same H H') : Same (cd D H) (cd D H') := ct_same s
/-- what was there ahead of D is in the rest -/
theorem Same.cd {H0 H : Hp} {D : Addr} (s : Same H0 H) (h : H0 D = Option.none) : Same H0 (cd D H) := fun b o e => cd_of (s b o e) (ne_of_none e h)
theorem Same.upd {H0 H : Hp} {D : Addr} {o : HO} (s : Same H0 H) (h : H0 D = Option.none) : Same H0 (upd H D o) := fun b u e => by rw [upd_ne (ne_of_none e h)]; exact s b u e
/-- between two turns: the list at D is ys, no longer than the turns, and Pv of the heap without it -/
def LcNx (D : Addr) (Pv : Nat → List V → Hp → Prop) (i : Nat) (H : Hp) : Prop := ∃ ys, H D = some (.lst ys) ∧ ys.length ≤ i ∧ Pv i ys (cd D H)
theorem LcNx.add {D : Addr} {Pv : Nat → List V → Hp → Prop} {i : Nat} {ys : List V} {y : V} {H : Hp} (e : H D = some (.lst ys)) (l : ys.length ≤ i) (hi : i < 4000) (p : Pv (i + 1) (ys ++ [y]) (cd D H)) :
    ∃ acc, H D = some (.lst acc) ∧ acc.length < sizeLine ∧ LcNx D Pv (i + 1) (upd H D (.lst (acc ++ [y]))) :=
  ⟨ys, e, Nat.lt_of_le_of_lt (by omega : ys.length ≤ 4000) (by decide), ys ++ [y], upd_same, by rw [List.length_append]; show ys.length + 1 ≤ i + 1; omega, by rw [cd_upd]; exact p⟩
theorem LcNx.skip {D : Addr} {Pv : Nat → List V → Hp → Prop} {i : Nat} {ys : List V} {H : Hp} (e : H D = some (.lst ys)) (l : ys.length ≤ i) (p : Pv (i + 1) ys (cd D H)) : LcNx D Pv (i + 1) H := ⟨ys, e, by omega, p⟩
theorem lc_build {J : It} {n : Nat} {G : Hp → Prop} {Y : Nat → Hp → V → Hp → Prop} (w : Walk J n G Y) {g : TG} {tt : TT} {te : TE} {vs : List Nat} {σ : L2.St} {H1 : Hp} {D : Addr} {Qd : Hp → Prop} (hD : H1 D = Option.none)
    (Pv : Nat → List V → Hp → Prop) (h0 : Pv 0 [] H1) (hG : ∀ i ys H, i ≤ n → Pv i ys (cd D H) → G H)
    (hs : ∀ i ys x H H', i < n → H D = some (.lst ys) → ys.length ≤ i → Pv i ys (cd D H) → Y i H x H' → g x (wipe σ vs) H' fun σ2 H2 => wipe σ2 vs = wipe σ vs ∧ tt σ2 H2 fun b H3 =>
      if b = true then te σ2 H3 fun y H4 => ∃ acc, H4 D = some (.lst acc) ∧ acc.length < sizeLine ∧ LcNx D Pv (i + 1) (L2.upd H4 D (.lst (acc ++ [y]))) else LcNx D Pv (i + 1) H3) (hd : ∀ ys H, H D = some (.lst ys) → ys.length ≤ n → Pv n ys (cd D H) → Qd H) :
    ∃ W : Nat → Nat → Hp → Prop, (∃ m, W 0 m (L2.upd H1 D (.lst []))) ∧ ∀ i m H, W i m H →
      (J.stop i H ∧ Qd H) ∨ (J.go i H ∧ ∃ Nx : Hp → Prop, (∀ H', Nx H' → ∃ m', m' < m ∧ W (i + 1) m' H') ∧ ∀ x H', J.yld i H x H' → g x (wipe σ vs) H' fun σ2 H2 => wipe σ2 vs = wipe σ vs ∧ tt σ2 H2 fun b H3 =>
        if b = true then te σ2 H3 fun y H4 => ∃ acc, H4 D = some (.lst acc) ∧ acc.length < sizeLine ∧ Nx (L2.upd H4 D (.lst (acc ++ [y]))) else Nx H3) :=
  lc_it w (LcNx D Pv) ⟨[], upd_same, Nat.le_refl _, by rw [cd_upd, cd_free hD]; exact h0⟩ (fun i H hi ⟨ys, _, _, p⟩ => hG i ys H hi p) (fun i x H H' hi ⟨ys, e, l, p⟩ hY => hs i ys x H H' hi e l p hY) (fun H ⟨ys, e, l, p⟩ => hd ys H e l p)
theorem yes {σ : L2.St} {H : Hp} {A B : Hp → Prop} (h : A H) : tYes σ H fun b H3 => if b = true then A H3 else B H3 := by
  show if true = true then A H else B H
  rw [if_pos rfl]
  exact h
theorem le_line {n : Nat} (h : n ≤ 4000) : n ≤ sizeLine := Nat.le_trans h (by decide)
theorem cd_is0 {D : Addr} {H H0 : Hp} (e : cd D H = H0) : Same H0 H := by rw [← e]; exact cd_sub
theorem seqT_list0 {K : PySem.W.Frag} {H : Hp} {l r : Addr} {L xs : List V} (hl : H l = some (.lst L)) (h : SqT K H r xs) : SqT K (cd l H) r xs := by
  rcases h with (q | ⟨o, q⟩) | q
  · exact .inl (.inl (cd_of q (ne_of q hl (fun z => nomatch z))))
  · exact .inl (.inr ⟨o, cd_of q (ne_of q hl (fun z => nomatch z))⟩)
  · exact .inr q
end Kd

namespace Kd
open PySem PySem.Spec PyProof.Rows L2
def top (i : Nat) : Stmt := PySem.Challenge.pw_kindsofday_k29_known_since.main.body.getD i (.Pass ⟨0, 0, 0, 0⟩)
abbrev s_DayError_init : Stmt := inClass (top 2) 0
abbrev s_NoRow_init : Stmt := inClass (top 4) 0
abbrev s_NoFact_init : Stmt := inClass (top 5) 0
abbrev s_NoThing_init : Stmt := inClass (top 6) 0
abbrev s_NoGroup_init : Stmt := inClass (top 8) 0
abbrev s_is_name : Stmt := top 15
abbrev s_is_made_of : Stmt := top 16
abbrev s_Plan_init : Stmt := inClass (top 21) 0
abbrev s_Plan_dimensions : Stmt := inClass (top 21) 1
abbrev s_Plan_measures : Stmt := inClass (top 21) 2
abbrev s_first_fault : Stmt := top 22
abbrev s_are_faulty : Stmt := top 23
abbrev s_attributes_of : Stmt := top 24
abbrev s_attribute_place : Stmt := top 25
abbrev s_things_named : Stmt := top 26
abbrev s_look : Stmt := top 27
abbrev s_has_form : Stmt := top 28
abbrev s_kind_fits : Stmt := top 29
abbrev s_fact_fits : Stmt := top 30
abbrev s_stretches : Stmt := top 32
abbrev s_opening_kinds : Stmt := top 33
abbrev s_changes_day : Stmt := top 34
abbrev s_version_values : Stmt := top 35
abbrev s_day_value : Stmt := top 36
abbrev s_steady_value : Stmt := top 37
abbrev s_last_and_unlike : Stmt := top 38
abbrev s_values_behind_rows : Stmt := top 40
abbrev s_value_on : Stmt := top 41
abbrev s_last_change : Stmt := top 42
abbrev s_Things_init : Stmt := inClass (top 44) 0
abbrev s_Things_knows : Stmt := inClass (top 44) 1
abbrev s_Things_take_kind : Stmt := inClass (top 44) 2
abbrev s_Things_meet : Stmt := inClass (top 44) 3
abbrev s_Things_part : Stmt := inClass (top 44) 4
abbrev s_Things_number_anew : Stmt := inClass (top 44) 5
abbrev s_Things_with_numbers : Stmt := inClass (top 44) 6
abbrev s_Things_version_on : Stmt := inClass (top 44) 7
abbrev s_House_init : Stmt := inClass (top 55) 0
abbrev s_House_tell : Stmt := inClass (top 55) 1
abbrev s_House_take_kind : Stmt := inClass (top 55) 2
abbrev s_House_take_fact : Stmt := inClass (top 55) 3
abbrev s_House_take_forget : Stmt := inClass (top 55) 4
abbrev s_House_part_from : Stmt := inClass (top 55) 5
abbrev s_House_fact_days : Stmt := inClass (top 55) 6
abbrev s_House_led : Stmt := inClass (top 55) 7
abbrev s_House_keys_of : Stmt := inClass (top 55) 10
abbrev s_House_rows : Stmt := inClass (top 55) 12
abbrev s_House_since : Stmt := inClass (top 55) 23
abbrev s_l_bag : Stmt := top 57
abbrev s_l_draw : Stmt := top 58
abbrev s_l_names : Stmt := top 59
abbrev s_l_text : Stmt := top 60
abbrev s_l_world : Stmt := top 61
abbrev s_l_row : Stmt := top 62
abbrev s_l_kept : Stmt := top 63
abbrev s_l_value : Stmt := top 64
abbrev s_l_house : Stmt := top 67
abbrev s_l_due : Stmt := top 68
abbrev s_l_worths : Stmt := top 69
abbrev s_law : Stmt := top 70
abbrev FnP (K : PySem.W.Frag) (x qual : Str) (st : Stmt) (f : Addr) (fd : FuncData) : Prop := FunD K x qual (defArgs st) (defBody st) (defScope st) [] [] f fd
section
variable {P : Program} {w : World} {K : PySem.W.Frag} {mg : Str → Option Value} {base : Heap} {f : Addr} {fd : FuncData}
/-! ### is_name -/
def nmB (z : Str) : Bool := decide (1 ≤ z.length) && (decide (z.length ≤ 8) && z.cps.toList.all fun c => decide (97 ≤ c ∧ c ≤ 122))
def spIsName : Sp := fun vs H Q _ => ∃ z : Str, vs = [.str z] ∧ z.length ≤ 4000 ∧ ∀ H', Same H H' → Q (.bl (nmB z)) H'
/-! ### is_made_of -/
def madeB (z s : Str) : Bool := z.cps.toList.all fun c => decide (c ∈ s.cps.toList)
theorem made_abc (z : Str) : madeB z abc = z.cps.toList.all fun c => decide (97 ≤ c ∧ c ≤ 122) := by
  unfold madeB
  congr 1
  funext c
  simp only [mem_abc]
def spMade : Sp := fun vs H Q _ => ∃ z s : Str, vs = [.str z, .str s] ∧ z.length ≤ 4000 ∧ ∀ H', Same H H' → Q (.bl (madeB z s)) H'
theorem sc_made : FnScope ["text", "signs", "sign"] ["text", "signs"] (defScope s_is_made_of) := ⟨rfl, rfl, rfl, by decide +kernel, rfl, by decide +kernel, by decide +kernel⟩
theorem ok_made (F : FnP K "is_made_of" "is_made_of" s_is_made_of f fd) (ga : mg "all" = none) : FnOk P w K mg base CX0 1 f fd ["text", "signs"] spMade := by
  refine F.ok sc_made (fun vs H Q E h => ?_) (fun cdv A outer s H vs Q E hr h => ?_)
  · obtain ⟨z, s, rfl, _⟩ := h
    rfl
  · obtain ⟨z, s2, rfl, hz, k⟩ := h
    refine ⟨_, PSs.nox (pss_one (ps_ret (pe_callB (cr_all rfl) (by rfl) ga (by decide +kernel) (pa_cons (pe_lc (own := [("sign", 2)]) (g := gName 2) (tt := tYes) rfl sc_made.nd (pi_str (pv 0)) (blkOk_by (own := [("sign", 2)]) (N := ["text", "signs", "sign"]) (sc := defScope s_is_made_of) (by decide +kernel))
        (fun _ _ _ _ _ => pg_name (i := 2) sc_made.nd rfl (Or.inl rfl)) (fun _ _ _ _ _ => pts_nil) (fun _ _ _ _ _ => pe_cmpR op_in_sign (pv 2) (pv 1) (by rfl))) pa_nil)))), ?_⟩
    have ez : z.length = z.cps.toList.length := by rw [Array.length_toList]; rfl
    refine ⟨_, rfl, z, rfl, fun D hD => lc_build walk_str hD (fun i ys R => Same H R ∧ ys = (z.cps.toList.take i).map fun c => V.bl (decide (c ∈ s2.cps.toList))) ⟨Same.refl H, rfl⟩ (fun _ _ _ _ _ => trivial) ?_ ?_⟩
    · rintro i ys x H2 H2' hi e l ⟨sm, rfl⟩ ⟨rfl, c, hc, rfl⟩
      refine ⟨rfl, yes ?_⟩
      refine ⟨_, rfl, _, rfl, c, s2, rfl, rfl, LcNx.add e l (by have : z.length = z.cps.size := rfl; omega) ⟨sm, ?_⟩⟩
      have hc2 : z.cps.toList[i]? = some c := by rw [Array.getElem?_toList]; exact hc
      obtain ⟨h1, h2⟩ := List.getElem?_eq_some_iff.mp hc2
      rw [List.take_succ_eq_append_getElem h1, List.map_append, h2]
      rfl
    · rintro ys H2 e l ⟨sm, rfl⟩
      refine ⟨D, (z.cps.toList.take z.cps.size).map fun c => decide (c ∈ s2.cps.toList), rfl, SqL.of (by rw [List.map_map]; exact e), ?_⟩
      have e1 : madeB z s2 = (((z.cps.toList.take z.cps.size).map fun c => decide (c ∈ s2.cps.toList)).all id) := by
        have et : z.cps.toList.take z.cps.size = z.cps.toList := List.take_of_length_le (by rw [Array.length_toList]; exact Nat.le_refl _)
        unfold madeB
        rw [et, List.all_map]
        rfl
      rw [← e1]
      exact k H2 (sm.trans cd_sub)
theorem sc_is_name : FnScope ["text"] ["text"] (defScope s_is_name) := ⟨rfl, rfl, rfl, by decide +kernel, rfl, by decide +kernel, by decide +kernel⟩
theorem ok_is_name {fM : Addr} {fdM : FuncData} (F : FnP K "is_name" "is_name" s_is_name f fd) (GM : FnOk P w K mg base CX0 1 fM fdM ["text", "signs"] spMade) (kM : PySem.W.keepIn K (.ref fM) = true) (bM : Binds K fdM ["text", "signs"] []) (gM : mg "is_made_of" = some (.ref fM)) (gl : mg "len" = none) {t1 t2 : Nat} (gS : mg "SMALL_LETTERS" = some (.str abc t1)) (gL : mg "LONGEST_NAME" = some (.int 8 t2)) : FnOk P w K mg base CX0 2 f fd ["text"] spIsName := by
  refine F.ok sc_is_name (fun vs H Q E h => ?_) (fun cdv A outer s H vs Q E hr h => ?_)
  · obtain ⟨z, rfl, _⟩ := h
    rfl
  · obtain ⟨z, rfl, hz, k⟩ := h
    refine ⟨_, PSs.nox (pss_one (ps_ret (pe_and (pe_chain op_le op_le pe_int (pe_callB call_len_str (by rfl) gl boot_len (pa_cons (pv 0) pa_nil)) (pe_glob (v := .int 8) rfl gL ⟨_, rfl⟩))
      (pe_one (pe_call GM hr rfl gM kM bM .nil pass0 (pa_cons (pv 0) (pa_cons (pe_glob (v := .str abc) rfl gS ⟨_, rfl⟩) pa_nil))))))), ?_⟩
    refine ⟨_, rfl, z, rfl, le_line hz, _, _, rfl, rfl, _, rfl, ?_⟩
    refine ite2 (fun c1 => ?_) (fun c1 => ?_)
    · have c1 : (1 : Int) ≤ (z.length : Int) := of_decide_eq_true c1
      refine ⟨_, _, rfl, rfl, _, rfl, ?_⟩
      refine ite2 (fun c2 => ?_) (fun c2 => ?_)
      · have c2 : (z.length : Int) ≤ 8 := of_decide_eq_true c2
        refine ⟨_, rfl, z, abc, rfl, hz, fun H2 s2 => ?_⟩
        have e1 : nmB z = madeB z abc := by
          unfold nmB
          rw [made_abc, decide_eq_true (by omega : 1 ≤ z.length), decide_eq_true (by omega : z.length ≤ 8)]
          simp only [Bool.true_and]
        rw [← e1]
        exact k H2 s2
      · have c2 : ¬ (z.length : Int) ≤ 8 := fun q => c2 (decide_eq_true q)
        have e1 : nmB z = false := by
          unfold nmB
          rw [decide_eq_false (by omega : ¬ z.length ≤ 8), Bool.false_and, Bool.and_false]
        rw [e1] at k
        exact k H (Same.refl H)
    · have c1 : ¬ (1 : Int) ≤ (z.length : Int) := fun q => c1 (decide_eq_true q)
      have e1 : nmB z = false := by
        unfold nmB
        rw [decide_eq_false (by omega : ¬ 1 ≤ z.length), Bool.false_and]
      rw [e1] at k
      exact ⟨_, rfl, iteF (k H (Same.refl H))⟩
/-! ### are_faulty -/
def fltB (xs : List Str) (m : Int) : Bool := decide (m < (xs.length : Int)) || (decide (((KdS.dcn xs xs.length : Nat) : Int) < (xs.length : Int)) || !(xs.all nmB))
def spFaulty (K : PySem.W.Frag) : Sp := fun vs H Q _ => ∃ (l : Addr) (xs : List Str) (m : Int), vs = [.ref l, .int m] ∧ Txs K H l xs ∧ xs.length ≤ 4000 ∧ (∀ z ∈ xs, z.length ≤ 4000) ∧ ∀ H', Same H H' → Q (.bl (fltB xs m)) H'
theorem sc_are_faulty : FnScope ["names", "most", "name"] ["names", "most"] (defScope s_are_faulty) := ⟨rfl, rfl, rfl, by decide +kernel, rfl, by decide +kernel, by decide +kernel⟩
theorem flt_end {xs : List Str} {m : Int} (h1 : ¬ m < (xs.length : Int)) (h2 : ¬ ((KdS.dcn xs xs.length : Nat) : Int) < (xs.length : Int)) : fltB xs m = !((xs.take xs.length).map nmB).all id := by
  unfold fltB
  rw [decide_eq_false h1, decide_eq_false h2, List.take_length, List.all_map, Bool.false_or, Bool.false_or]
  rfl
theorem strs_at {xs : List Str} {i : Nat} {x : V} (h : (xs.map V.str)[i]? = some x) : ∃ z, x = .str z ∧ xs[i]? = some z := by
  rw [List.getElem?_map] at h
  cases e : xs[i]? with
  | none => rw [e] at h; cases h
  | some z => rw [e] at h; exact ⟨z, (Option.some.inj h).symm, rfl⟩
theorem take_nm {xs : List Str} {i : Nat} {z : Str} (h : xs[i]? = some z) : ((xs.take i).map fun z => V.bl (nmB z)) ++ [V.bl (nmB z)] = (xs.take (i + 1)).map fun z => V.bl (nmB z) := by
  obtain ⟨h1, h2⟩ := List.getElem?_eq_some_iff.mp h
  rw [List.take_succ_eq_append_getElem h1, List.map_append, h2]
  rfl
theorem ok_are_faulty {fI : Addr} {fdI : FuncData} (F : FnP K "are_faulty" "are_faulty" s_are_faulty f fd) (GI : FnOk P w K mg base CX0 2 fI fdI ["text"] spIsName) (kI : PySem.W.keepIn K (.ref fI) = true) (bI : Binds K fdI ["text"] []) (gI : mg "is_name" = some (.ref fI))
    (gl : mg "len" = none) (gs : mg "set" = none) (ga : mg "all" = none) : FnOk P w K mg base CX0 3 f fd ["names", "most"] (spFaulty K) := by
  refine F.ok sc_are_faulty (fun vs H Q E h => ?_) (fun cdv A outer s H vs Q E hr h => ?_)
  · obtain ⟨l, xs, m, rfl, _⟩ := h
    rfl
  · obtain ⟨l, xs, m, rfl, hx, hn, hz, k⟩ := h
    rcases hx with hx | hx
    · refine ⟨_, PSs.nox (pss_cons (ps_if (PW.pt (pw_or (pt_cmpR op_gt (pe_callB call_len_seq (by rfl) gl boot_len (pa_cons (pv 0) pa_nil)) (pv 1) (nomark _)) (pw_or1 (pt_cmpR op_lt (pe_lenSetS rfl gl rfl gs (pv 0)) (pe_callB call_len_seq (by rfl) gl boot_len (pa_cons (pv 0) pa_nil)) (nomark _))))) (pss_one (ps_ret pe_bl)) pss_nil)
        (pss_one (ps_ret (pe_not (pe_callB (cr_all rfl) (by rfl) ga (by decide +kernel) (pa_cons (pe_lc (own := [("name", 2)]) (g := gName 2) (tt := tYes) rfl sc_are_faulty.nd (pi_list (pv 0)) (blkOk_by (own := [("name", 2)]) (N := ["names", "most", "name"]) (sc := defScope s_are_faulty) (by decide +kernel))
          (fun _ _ _ _ _ => pg_name (i := 2) sc_are_faulty.nd rfl (Or.inl rfl)) (fun _ _ _ _ _ => pts_nil) (fun _ _ _ _ _ => pe_call GI hr rfl gI kI bI .nil pass0 (pa_cons (pv 2) pa_nil))) pa_nil)))))), ?_⟩
      refine ⟨_, rfl, l, _, rfl, .inl hx, _, rfl, _, _, rfl, rfl, _, rfl, ?_⟩
      refine ite2 (fun c1 => ?_) (fun c1 => ?_)
      · have c1 : m < ((xs.map V.str).length : Int) := of_decide_eq_true c1
        rw [List.length_map] at c1
        have e1 : fltB xs m = true := by unfold fltB; rw [decide_eq_true c1, Bool.true_or]
        rw [e1] at k
        exact iteT (k H (Same.refl H))
      · have c1 : ¬ m < ((xs.map V.str).length : Int) := fun q => c1 (decide_eq_true q)
        rw [List.length_map] at c1
        refine ⟨_, rfl, l, xs, rfl, .inl hx, hn, _, rfl, l, _, rfl, .inl hx, _, _, rfl, rfl, _, rfl, ?_⟩
        refine ite2 (fun c2 => ?_) (fun c2 => ?_)
        · have c2 : ((KdS.dcn xs xs.length : Nat) : Int) < ((xs.map V.str).length : Int) := of_decide_eq_true c2
          rw [List.length_map] at c2
          have e1 : fltB xs m = true := by unfold fltB; rw [decide_eq_true c2, Bool.true_or, Bool.or_true]
          rw [e1] at k
          exact k H (Same.refl H)
        · have c2 : ¬ ((KdS.dcn xs xs.length : Nat) : Int) < ((xs.map V.str).length : Int) := fun q => c2 (decide_eq_true q)
          rw [List.length_map] at c2
          refine ⟨_, rfl, l, rfl, ⟨_, hx⟩, fun D hD => lc_build (walk_list (K := K) (a := l)) hD (fun i ys R => Same H R ∧ ys = (xs.take i).map fun z => V.bl (nmB z)) ⟨Same.refl H, rfl⟩ (fun _ _ _ _ p => Same.seq (p.1.trans cd_sub) hx) ?_ ?_⟩
          · rintro i ys x H2 H2' hi e ly ⟨sm, rfl⟩ ⟨rfl, hy⟩
            obtain ⟨z, rfl, hy2⟩ := strs_at hy
            refine ⟨rfl, yes ?_⟩
            refine ⟨_, rfl, z, rfl, hz z (List.mem_of_getElem? hy2), fun H3 s3 => LcNx.add (s3 _ _ e) ly (by rw [List.length_map] at hi; omega) ⟨sm.trans (cd_same s3), ?_⟩⟩
            exact take_nm hy2
          · rintro ys H2 e ly ⟨sm, rfl⟩
            rw [List.length_map] at e
            refine ⟨D, (xs.take xs.length).map nmB, rfl, SqL.of (by rw [List.map_map]; exact e), _, rfl, ?_⟩
            have e2 := flt_end c1 c2
            rw [e2] at k
            exact k H2 (sm.trans cd_sub)
    · refine ⟨_, PSs.nox (pss_cons (ps_if (PW.pt (pw_or (pt_cmpR op_gt (pe_callB call_len_seq (by rfl) gl boot_len (pa_cons (pv 0) pa_nil)) (pv 1) (nomark _)) (pw_or1 (pt_cmpR op_lt (pe_lenSetS rfl gl rfl gs (pv 0)) (pe_callB call_len_seq (by rfl) gl boot_len (pa_cons (pv 0) pa_nil)) (nomark _))))) (pss_one (ps_ret pe_bl)) pss_nil)
        (pss_one (ps_ret (pe_not (pe_callB (cr_all rfl) (by rfl) ga (by decide +kernel) (pa_cons (pe_lc (own := [("name", 2)]) (g := gName 2) (tt := tYes) rfl sc_are_faulty.nd (pi_tup (pv 0)) (blkOk_by (own := [("name", 2)]) (N := ["names", "most", "name"]) (sc := defScope s_are_faulty) (by decide +kernel))
          (fun _ _ _ _ _ => pg_name (i := 2) sc_are_faulty.nd rfl (Or.inl rfl)) (fun _ _ _ _ _ => pts_nil) (fun _ _ _ _ _ => pe_call GI hr rfl gI kI bI .nil pass0 (pa_cons (pv 2) pa_nil))) pa_nil)))))), ?_⟩
      refine ⟨_, rfl, l, _, rfl, .inr hx, _, rfl, _, _, rfl, rfl, _, rfl, ?_⟩
      refine ite2 (fun c1 => ?_) (fun c1 => ?_)
      · have c1 : m < ((xs.map V.str).length : Int) := of_decide_eq_true c1
        rw [List.length_map] at c1
        have e1 : fltB xs m = true := by unfold fltB; rw [decide_eq_true c1, Bool.true_or]
        rw [e1] at k
        exact iteT (k H (Same.refl H))
      · have c1 : ¬ m < ((xs.map V.str).length : Int) := fun q => c1 (decide_eq_true q)
        rw [List.length_map] at c1
        refine ⟨_, rfl, l, xs, rfl, .inr hx, hn, _, rfl, l, _, rfl, .inr hx, _, _, rfl, rfl, _, rfl, ?_⟩
        refine ite2 (fun c2 => ?_) (fun c2 => ?_)
        · have c2 : ((KdS.dcn xs xs.length : Nat) : Int) < ((xs.map V.str).length : Int) := of_decide_eq_true c2
          rw [List.length_map] at c2
          have e1 : fltB xs m = true := by unfold fltB; rw [decide_eq_true c2, Bool.true_or, Bool.or_true]
          rw [e1] at k
          exact k H (Same.refl H)
        · have c2 : ¬ ((KdS.dcn xs xs.length : Nat) : Int) < ((xs.map V.str).length : Int) := fun q => c2 (decide_eq_true q)
          rw [List.length_map] at c2
          refine ⟨_, rfl, l, rfl, ⟨_, hx⟩, fun D hD => lc_build (walk_tup (K := K) (a := l)) hD (fun i ys R => Same H R ∧ ys = (xs.take i).map fun z => V.bl (nmB z)) ⟨Same.refl H, rfl⟩ (fun _ _ _ _ p => Same.seqT (p.1.trans cd_sub) hx) ?_ ?_⟩
          · rintro i ys x H2 H2' hi e ly ⟨sm, rfl⟩ ⟨rfl, hy⟩
            obtain ⟨z, rfl, hy2⟩ := strs_at hy
            refine ⟨rfl, yes ?_⟩
            refine ⟨_, rfl, z, rfl, hz z (List.mem_of_getElem? hy2), fun H3 s3 => LcNx.add (s3 _ _ e) ly (by rw [List.length_map] at hi; omega) ⟨sm.trans (cd_same s3), ?_⟩⟩
            exact take_nm hy2
          · rintro ys H2 e ly ⟨sm, rfl⟩
            rw [List.length_map] at e
            refine ⟨D, (xs.take xs.length).map nmB, rfl, SqL.of (by rw [List.map_map]; exact e), _, rfl, ?_⟩
            have e2 := flt_end c1 c2
            rw [e2] at k
            exact k H2 (sm.trans cd_sub)
/-! ### a plan's lists in the heap -/
def AttAt (K : PySem.W.Frag) (H : Hp) (y : V) (a : Str × Str) : Prop := ∃ r, y = .ref r ∧ SqT K H r [.str a.1, .str a.2]
def AttsAt (K : PySem.W.Frag) (H : Hp) (q : Addr) (as : List (Str × Str)) : Prop := ∃ ys, SqT K H q ys ∧ Paired (AttAt K H) ys as
def DimAt (K : PySem.W.Frag) (H : Hp) (x : V) (d : Str × List (Str × Str)) : Prop := ∃ p q, x = .ref p ∧ SqT K H p [.str d.1, .ref q] ∧ AttsAt K H q d.2
def DimsAt (K : PySem.W.Frag) (H : Hp) (l : Addr) (ds : List (Str × List (Str × Str))) : Prop := ∃ xs, SqL K H l xs ∧ Paired (DimAt K H) xs ds
theorem AttAt.same {H H' : Hp} {y : V} {a : Str × Str} (e : Same H H') : AttAt K H y a → AttAt K H' y a := fun ⟨r, h1, h2⟩ => ⟨r, h1, Same.seqT e h2⟩
theorem AttsAt.same {H H' : Hp} {q : Addr} {as : List (Str × Str)} (e : Same H H') : AttsAt K H q as → AttsAt K H' q as := fun ⟨ys, h1, h2⟩ => ⟨ys, Same.seqT e h1, PySem.Paired.mono (fun _ _ => AttAt.same e) h2⟩
theorem DimAt.same {H H' : Hp} {x : V} {d : Str × List (Str × Str)} (e : Same H H') : DimAt K H x d → DimAt K H' x d := fun ⟨p, q, h1, h2, h3⟩ => ⟨p, q, h1, Same.seqT e h2, h3.same e⟩
theorem DimsAt.same {H H' : Hp} {l : Addr} {ds : List (Str × List (Str × Str))} (e : Same H H') : DimsAt K H l ds → DimsAt K H' l ds := fun ⟨xs, h1, h2⟩ => ⟨xs, e.seq h1, PySem.Paired.mono (fun _ _ => DimAt.same e) h2⟩
theorem paired_at {α β : Type} {R : α → β → Prop} : ∀ {l : List α} {m : List β} {i : Nat} {a : α}, Paired R l m → l[i]? = some a → ∃ b, m[i]? = some b ∧ R a b
  | _, _, i, a, .nil, e => by simp at e
  | _, _, 0, a, .cons h _, e => ⟨_, rfl, by have e2 : _ = a := Option.some.inj e; rw [← e2]; exact h⟩
  | _, _, i + 1, a, .cons _ r, e => paired_at (i := i) r e
theorem take_snoc {α β : Type} {g : α → β} {l : List α} {i : Nat} {a : α} (h : l[i]? = some a) : (l.take i).map g ++ [g a] = (l.take (i + 1)).map g := by
  obtain ⟨h1, h2⟩ := List.getElem?_eq_some_iff.mp h
  rw [List.take_succ_eq_append_getElem h1, List.map_append, h2]
  rfl
structure Szd (ds : List (Str × List (Str × Str))) (ms : List Str) : Prop where
  dl : ds.length ≤ 4000
  dn : ∀ d ∈ ds, d.1.length ≤ 4000 ∧ d.2.length ≤ 4000 ∧ ∀ a ∈ d.2, a.1.length ≤ 4000
  ml : ms.length ≤ 4000
  mn : ∀ m ∈ ms, m.length ≤ 4000
/-! ### first_fault -/
def ffV (ds : List (Str × List (Str × Str))) (ms : List Str) : V := if (ds.isEmpty || fltB (ds.map (·.1)) 4) = true then .str "dimensions" else if ds.any (fun d => fltB (d.2.map (·.1)) 5) = true then .str "attributes" else if fltB ms 4 = true then .str "measures" else .non
def spFirst (K : PySem.W.Frag) : Sp := fun vs H Q _ => ∃ (l m : Addr) (ds : List (Str × List (Str × Str))) (ms : List Str), vs = [.ref l, .ref m] ∧ DimsAt K H l ds ∧ Txs K H m ms ∧ Szd ds ms ∧ ∀ H', Same H H' → Q (ffV ds ms) H'
theorem sc_first : FnScope ["dimensions", "measures", "name", "attributes", "names", "attribute", "way"] ["dimensions", "measures"] (defScope s_first_fault) := ⟨rfl, rfl, rfl, by decide +kernel, rfl, by decide +kernel, by decide +kernel⟩
theorem ok_first {fF : Addr} {fdF : FuncData} (F : FnP K "first_fault" "first_fault" s_first_fault f fd) (GF : FnOk P w K mg base CX0 3 fF fdF ["names", "most"] (spFaulty K)) (kF : PySem.W.keepIn K (.ref fF) = true) (bF : Binds K fdF ["names", "most"] []) (gF : mg "are_faulty" = some (.ref fF))
    {t1 t2 t3 : Nat} (g1 : mg "MOST_DIMENSIONS" = some (.int 4 t1)) (g2 : mg "MOST_ATTRIBUTES" = some (.int 5 t2)) (g3 : mg "MOST_MEASURES" = some (.int 4 t3)) : FnOk P w K mg base CX0 4 f fd ["dimensions", "measures"] (spFirst K) := by
  refine F.ok sc_first (fun vs H Q E h => ?_) (fun cdv A outer s H vs Q E hr h => ?_)
  · obtain ⟨l, m, ds, ms, rfl, _⟩ := h
    rfl
  · obtain ⟨l, m, ds, ms, rfl, ⟨xs, hl, hp⟩, hm, sz, k⟩ := h
    have nd := sc_first.nd
    refine ⟨_, PSs.nox (pss_cons (ps_setLc (i := 4) (own := [("name", 2), ("attributes", 3)]) (g := gTup K 2 (gCons (gName 2) (gCons (gName 3) gNil))) (tt := tYes) rfl nd rfl rfl (sw_true rfl rfl rfl (by decide +kernel)) (pi_list (pv 0)) (blkOk_by (own := [("name", 2), ("attributes", 3)]) (N := ["dimensions", "measures", "name", "attributes", "names", "attribute", "way"]) (sc := defScope s_first_fault) (by decide +kernel))
        (fun _ _ _ _ _ => pg_tup rfl (pgs_cons (pg_name (i := 2) nd rfl (Or.inl rfl)) (pgs_cons (pg_name (i := 3) nd rfl (Or.inl rfl)) pgs_nil))) (fun _ _ _ _ _ => pts_nil) (fun _ _ _ _ _ => pv 2))
      (pss_cons (ps_if (PW.pt (pw_or (pt_not (pt_truth (pv 4) (by intro _; rfl))) (pw_or1 (pt_val (pe_call GF hr rfl gF kF bF .nil pass0 (pa_cons (pv 4) (pa_cons (pe_glob (v := .int 4) rfl g1 ⟨_, rfl⟩) pa_nil))))))) (pss_one (ps_ret pe_str)) pss_nil)
      (pss_cons (ps_for PassesOwn.never rfl (pi_list (pv 0)) (pg_tup rfl (pgs_cons (pg_name (i := 2) nd rfl (Or.inl rfl)) (pgs_cons (pg_name (i := 3) nd rfl (Or.inl rfl)) pgs_nil)))
        (pss_one (ps_if (pt_val (pe_call GF hr rfl gF kF bF .nil pass0 (pa_cons (pe_lc (own := [("attribute", 5), ("way", 6)]) (g := gTup K 2 (gCons (gName 5) (gCons (gName 6) gNil))) (tt := tYes) rfl nd (pi_tup (pv 3)) (blkOk_by (own := [("attribute", 5), ("way", 6)]) (N := ["dimensions", "measures", "name", "attributes", "names", "attribute", "way"]) (sc := defScope s_first_fault) (by decide +kernel))
          (fun _ _ _ _ _ => pg_tup rfl (pgs_cons (pg_name (i := 5) nd rfl (Or.inl rfl)) (pgs_cons (pg_name (i := 6) nd rfl (Or.inl rfl)) pgs_nil))) (fun _ _ _ _ _ => pts_nil) (fun _ _ _ _ _ => pv 5)) (pa_cons (pe_glob (v := .int 5) rfl g2 ⟨_, rfl⟩) pa_nil)))) (pss_one (ps_ret pe_str)) pss_nil)))
      (pss_cons (ps_if (pt_val (pe_call GF hr rfl gF kF bF .nil pass0 (pa_cons (pv 1) (pa_cons (pe_glob (v := .int 4) rfl g3 ⟨_, rfl⟩) pa_nil)))) (pss_one (ps_ret pe_str)) pss_nil)
      (pss_one (ps_ret pe_non)))))), ?_⟩
    refine ⟨_, rfl, l, rfl, ⟨_, hl⟩, fun D hD => lc_build (walk_list (K := K) (a := l)) hD (fun i ys R => Same H R ∧ ys = (ds.take i).map fun d => V.str d.1) ⟨Same.refl H, rfl⟩ (fun _ _ _ _ p => Same.seq (p.1.trans cd_sub) hl) ?_ ?_⟩
    · rintro i ys x H2 H2' hi e ly ⟨sm, rfl⟩ ⟨rfl, hy⟩
      obtain ⟨d, hd, p, q, rfl, h1, h2⟩ := paired_at hp hy
      have sz1 := sz.dl
      have hlen := hp.length
      refine ⟨p, _, rfl, Same.seqT (sm.trans cd_sub) h1, rfl, _, _, rfl, _, _, rfl, rfl, rfl, yes ?_⟩
      refine ⟨_, rfl, LcNx.add e ly (by omega) ⟨sm, take_snoc hd⟩⟩
    · rintro ys H2 e ly ⟨sm, rfl⟩
      have hlen := hp.length
      have eN : (ds.take xs.length).map (fun d => V.str d.1) = (ds.map (·.1)).map V.str := by
        rw [hlen, List.take_length, List.map_map]
        rfl
      rw [eN] at e
      have s2 : Same H H2 := sm.trans cd_sub
      have l1 := sz.dl
      have hnm : ∀ z ∈ ds.map (·.1), z.length ≤ 4000 := fun z hz => by
        obtain ⟨d, hd, rfl⟩ := List.mem_map.mp hz
        exact (sz.dn d hd).1
      refine ⟨_, rfl, _, .inl ⟨_, SqL.of e, rfl⟩, ?_⟩
      by_cases e0 : ds = []
      · subst e0
        exact iteT (iteT (k H2 s2))
      · have ne : (!((ds.map (·.1)).map V.str).isEmpty) = true := by
          cases ds with
          | nil => exact absurd rfl e0
          | cons d r => rfl
        rw [ne]
        refine iteF ⟨_, rfl, D, ds.map (·.1), 4, rfl, .inl (SqL.of e), by rw [List.length_map]; exact l1, hnm, fun H3 s3 => ⟨_, rfl, ?_⟩⟩
        have ie : ds.isEmpty = false := by
          cases ds with
          | nil => exact absurd rfl e0
          | cons d r => rfl
        have s03 : Same H H3 := s2.trans s3
        by_cases c1 : fltB (ds.map (·.1)) 4 = true
        · rw [c1]
          have ev : ffV ds ms = .str "dimensions" := by unfold ffV; rw [ie, c1]; rfl
          rw [ev] at k
          exact iteT (k H3 s03)
        · have c1 : fltB (ds.map (·.1)) 4 = false := by simpa using c1
          rw [c1]
          refine iteF ?_
          refine ⟨_, rfl, l, rfl, ⟨_, s03.seq hl⟩, for_list (K := K) (a := l) (xs := xs) (fun i σ H4 => ∃ u v, σ = [some (.ref l), some (.ref m), u, v, some (.ref D), none, none] ∧ Same H H4 ∧ (ds.take i).any (fun d => fltB (d.2.map (·.1)) 5) = false) ⟨_, _, rfl, s03, rfl⟩ (fun i σ H4 _ ⟨_, _, _, s4, _⟩ => s4.seq hl) ?_ ?_⟩
          · rintro i x σ H4 hi ⟨u, v, rfl, s4, na⟩
            obtain ⟨d, hd, p, q, rfl, h1, ys, h2, h3⟩ := paired_at hp hi
            have hdm := List.mem_of_getElem? hd
            obtain ⟨_, la, lz⟩ := sz.dn d hdm
            have hyl := h3.length
            refine ⟨p, _, rfl, Same.seqT s4 h1, rfl, _, _, rfl, _, _, rfl, rfl, ?_⟩
            refine ⟨_, rfl, q, rfl, ⟨_, Same.seqT s4 h2⟩, fun B hB => lc_build (walk_tup (K := K) (a := q)) hB (fun i ys R => Same H4 R ∧ ys = (d.2.take i).map fun d => V.str d.1) ⟨Same.refl H4, rfl⟩ (fun _ _ _ _ p => Same.seqT (s4.trans (p.1.trans cd_sub)) h2) ?_ ?_⟩
            · rintro j zs x H5 H5' hj e5 lz5 ⟨s5, rfl⟩ ⟨rfl, hy⟩
              obtain ⟨a, ha, r, rfl, h4⟩ := paired_at h3 hy
              refine ⟨r, _, rfl, Same.seqT (s4.trans (s5.trans cd_sub)) h4, rfl, _, _, rfl, _, _, rfl, rfl, rfl, yes ?_⟩
              refine ⟨_, rfl, LcNx.add e5 lz5 (by omega) ⟨s5, take_snoc ha⟩⟩
            · rintro zs H5 e5 lz5 ⟨s5, rfl⟩
              have eA : (d.2.take ys.length).map (fun d => V.str d.1) = (d.2.map (·.1)).map V.str := by
                rw [hyl, List.take_length, List.map_map]
                rfl
              rw [eA] at e5
              refine ⟨B, d.2.map (·.1), 5, rfl, .inl (SqL.of e5), by rw [List.length_map]; exact la, fun z hz => ?_, fun H6 s6 => ⟨_, rfl, ?_⟩⟩
              · obtain ⟨a, ha, rfl⟩ := List.mem_map.mp hz
                exact lz a ha
              · have s06 : Same H H6 := (s4.trans (s5.trans cd_sub)).trans s6
                by_cases c2 : fltB (d.2.map (·.1)) 5 = true
                · rw [c2]
                  have ea : ds.any (fun d => fltB (d.2.map (·.1)) 5) = true := List.any_eq_true.mpr ⟨d, hdm, c2⟩
                  have ev : ffV ds ms = .str "attributes" := by unfold ffV; rw [ie, c1, ea]; rfl
                  rw [ev] at k
                  exact iteT (k H6 s06)
                · have c2 : fltB (d.2.map (·.1)) 5 = false := by simpa using c2
                  rw [c2]
                  refine iteF ⟨_, _, rfl, s06, ?_⟩
                  obtain ⟨g1, g2⟩ := List.getElem?_eq_some_iff.mp hd
                  rw [List.take_succ_eq_append_getElem g1, List.any_append, na, g2]
                  simp [c2]
          · rintro σ H4 ⟨u, v, rfl, s4, na⟩
            rw [hlen, List.take_length] at na
            refine ⟨_, rfl, m, ms, 4, rfl, Same.txs s4 hm, sz.ml, sz.mn, fun H5 s5 => ⟨_, rfl, ?_⟩⟩
            have s05 : Same H H5 := s4.trans s5
            by_cases c3 : fltB ms 4 = true
            · rw [c3]
              have ev : ffV ds ms = .str "measures" := by unfold ffV; rw [ie, c1, na, c3]; rfl
              rw [ev] at k
              exact iteT (k H5 s05)
            · have c3 : fltB ms 4 = false := by simpa using c3
              rw [c3]
              have ev : ffV ds ms = .non := by unfold ffV; rw [ie, c1, na, c3]; rfl
              rw [ev] at k
              exact iteF (k H5 s05)
end
end Kd

namespace Kd
open PySem PySem.Spec PyProof.Rows L2
section
variable {P : Program} {w : World} {K : PySem.W.Frag} {mg : Str → Option Value} {base : Heap} {f : Addr} {fd : FuncData}
/-! ### the plan as an object -/
def plF (a b : Addr) : List (Str × V) := [("dimension_list", .ref a), ("measure_list", .ref b)]
theorem pl_ne : ¬ (("dimension_list" : Str) = "measure_list") := by decide +kernel
theorem pl_put (a b : Addr) : putF "measure_list" (.ref b) (putF "dimension_list" (.ref a) []) = plF a b := by
  show (if ("dimension_list" : Str) = "measure_list" then [(("dimension_list" : Str), V.ref b)] else (("dimension_list" : Str), V.ref a) :: putF "measure_list" (.ref b) []) = plF a b
  rw [if_neg pl_ne]
  rfl
theorem pl_dim (a b : Addr) : (plF a b).lookup ("dimension_list" : Str) = some (.ref a) := by
  unfold plF
  rw [List.lookup_cons]
  rw [show (("dimension_list" : Str) == "dimension_list") = true by decide +kernel]
theorem pl_mea (a b : Addr) : (plF a b).lookup ("measure_list" : Str) = some (.ref b) := by
  unfold plF
  rw [List.lookup_cons, show (("measure_list" : Str) == "dimension_list") = false by decide +kernel, List.lookup_cons, show (("measure_list" : Str) == "measure_list") = true by decide +kernel]
theorem pl_no0 {a b : Addr} {m : Str} (h1 : (m == ("dimension_list" : Str)) = false) (h2 : (m == ("measure_list" : Str)) = false) : (plF a b).lookup m = none := by
  unfold plF
  rw [List.lookup_cons, h1, List.lookup_cons, h2]
  rfl
/-- a Plan of ds and ms stands at x -/
structure PlanAt (K : PySem.W.Frag) (C : Addr) (H : Hp) (x : Addr) (ds : List (Str × List (Str × Str))) (ms : List Str) : Prop where
  ex : ∃ dx a b xs, H x = some (.ins C dx (plF a b)) ∧ H a = some (.lst xs) ∧ Paired (DimAt K H) xs ds ∧ H b = some (.lst (ms.map V.str))
theorem PlanAt.same {C x : Addr} {H H' : Hp} {ds : List (Str × List (Str × Str))} {ms : List Str} (e : Same H H') (h : PlanAt K C H x ds ms) : PlanAt K C H' x ds ms := by
  obtain ⟨dx, a, b, xs, h1, h2, h3, h4⟩ := h.ex
  exact ⟨dx, a, b, xs, e _ _ h1, e _ _ h2, PySem.Paired.mono (fun _ _ => DimAt.same e) h3, e _ _ h4⟩
/-! data do not lean on an instance -/
theorem seqL_cd {x C dx a : Addr} {H : Hp} {fs : List (Str × V)} {xs : List V} (hx : H x = some (.ins C dx fs)) (h : SqL K H a xs) : SqL K (cd x H) a xs := by
  rcases h with (q | ⟨o, q⟩) | q
  · exact .inl (.inl (cd_of q (ne_of q hx (fun z => nomatch z))))
  · exact .inl (.inr ⟨o, cd_of q (ne_of q hx (fun z => nomatch z))⟩)
  · exact .inr q
theorem seqT_cd {x C dx a : Addr} {H : Hp} {fs : List (Str × V)} {xs : List V} (hx : H x = some (.ins C dx fs)) (h : SqT K H a xs) : SqT K (cd x H) a xs := by
  rcases h with (q | ⟨o, q⟩) | q
  · exact .inl (.inl (cd_of q (ne_of q hx (fun z => nomatch z))))
  · exact .inl (.inr ⟨o, cd_of q (ne_of q hx (fun z => nomatch z))⟩)
  · exact .inr q
theorem txs_cd {x C dx a : Addr} {H : Hp} {fs : List (Str × V)} {xs : List Str} (hx : H x = some (.ins C dx fs)) (h : Txs K H a xs) : Txs K (cd x H) a xs := h.elim (fun q => .inl (seqL_cd hx q)) fun q => .inr (seqT_cd hx q)
theorem dim_cd {x C dx : Addr} {H : Hp} {fs : List (Str × V)} {y : V} {d : Str × List (Str × Str)} (hx : H x = some (.ins C dx fs)) : DimAt K H y d → DimAt K (cd x H) y d :=
  fun ⟨p, q, h1, h2, zs, h3, h4⟩ => ⟨p, q, h1, seqT_cd hx h2, zs, seqT_cd hx h3, PySem.Paired.mono (fun _ _ ⟨r, e1, e2⟩ => ⟨r, e1, seqT_cd hx e2⟩) h4⟩
structure PlTxt (K : PySem.W.Frag) (C : Addr) : Prop where
  cl : Cls K C
  nD : NoAttr K C "dimension_list"
  nM : NoAttr K C "measure_list"
def rTupOf (K : PySem.W.Frag) : List V → Hp → VK → Prop := fun xs H Q => ∃ p ys, xs = [.ref p] ∧ ((SqL K H p ys ∧ ∀ l, H l = none → Q (.ref l) (upd H l (.tup ys))) ∨ (SqT K H p ys ∧ Q (.ref p) H))
def spInit (K : PySem.W.Frag) (C : Addr) : Sp := fun vs H Q _ => ∃ (x dx l m : Addr) (ds : List (Str × List (Str × Str))) (ms : List Str), vs = [.ref x, .ref l, .ref m] ∧ H x = some (.ins C dx []) ∧ DimsAt K H l ds ∧ Txs K H m ms ∧ Szd ds ms ∧ ffV ds ms = .non ∧
  ∀ (H' : Hp) (a b : Addr) (xs : List V), H a = none → H b = none → H' x = some (.ins C dx (plF a b)) → H' a = some (.lst xs) → Paired (DimAt K H') xs ds → H' b = some (.lst (ms.map V.str)) → Same (cd x H) (cd x H') → Q .non H'
theorem sc_init : FnScope ["self", "dimensions", "measures", "fault", "name", "attributes"] ["self", "dimensions", "measures"] (defScope s_Plan_init) := ⟨rfl, rfl, rfl, by decide +kernel, rfl, by decide +kernel, by decide +kernel⟩
theorem ok_init {fF C : Addr} {fdF : FuncData} {dvs : List V} (F : FunD K "__init__" "Plan.__init__" (defArgs s_Plan_init) (defBody s_Plan_init) (defScope s_Plan_init) dvs [] f fd) (T : PlTxt K C) (GF : FnOk P w K mg base CX0 4 fF fdF ["dimensions", "measures"] (spFirst K)) (kF : PySem.W.keepIn K (.ref fF) = true) (bF : Binds K fdF ["dimensions", "measures"] []) (gF : mg "first_fault" = some (.ref fF))
    (gt : mg "tuple" = none) (gl : mg "list" = none) : FnOk P w K mg base CX0 5 f fd ["self", "dimensions", "measures"] (spInit K C) := by
  refine F.ok sc_init (fun vs H Q E h => ?_) (fun cdv A outer s H vs Q E hr h => ?_)
  · obtain ⟨x, dx, l, m, ds, ms, rfl, _⟩ := h
    rfl
  · obtain ⟨x, dx, l, m, ds, ms, rfl, hx, hl, hm, sz, ev, k⟩ := h
    have nd := sc_init.nd
    refine ⟨_, PSs.nox (pss_cons (ps_set (i := 3) nd rfl (Or.inl rfl) (pe_call GF hr rfl gF kF bF .nil pass0 (pa_cons (pv 1) (pa_cons (pv 2) pa_nil))))
      (pss_cons (ps_if (pt_cmp (pc_notN (pv 3))) (pss_one ps_never) pss_nil)
      (pss_cons (ps_fld (pv 0) (pe_lc (own := [("name", 4), ("attributes", 5)]) (g := gTup K 2 (gCons (gName 4) (gCons (gName 5) gNil))) (tt := tYes) (te := tTup (tCons (tVar 4) (tCons (tCB (rTupOf K) (tCons (tVar 5) tNil)) tNil))) rfl nd (pi_list (pv 1)) (blkOk_by (own := [("name", 4), ("attributes", 5)]) (N := ["self", "dimensions", "measures", "fault", "name", "attributes"]) (sc := defScope s_Plan_init) (by decide +kernel))
        (fun _ _ _ _ _ => pg_tup rfl (pgs_cons (pg_name (i := 4) nd rfl (Or.inl rfl)) (pgs_cons (pg_name (i := 5) nd rfl (Or.inl rfl)) pgs_nil))) (fun _ _ _ _ _ => pts_nil) (fun _ _ _ _ _ => pe_tup (pa_cons (pv 4) (pa_cons (pe_callTy call_tuple_of (by rfl) gt (by decide +kernel) (pa_cons (pv 5) pa_nil)) pa_nil)))) rfl)
      (pss_one (ps_fld (pv 0) (pe_callTy call_list_of (by rfl) gl (by decide +kernel) (pa_cons (pv 2) pa_nil)) rfl))))), ?_⟩
    refine ⟨_, rfl, _, rfl, l, m, ds, ms, rfl, hl, hm, sz, fun H1 s1 => ?_⟩
    rw [ev]
    refine ⟨_, rfl, _, rfl, ?_⟩
    refine iteF ?_
    obtain ⟨xs, hl1, hp⟩ := DimsAt.same s1 hl
    have hlen := hp.length
    have l1 := sz.dl
    refine ⟨_, rfl, l, rfl, ⟨_, hl1⟩, fun D hD => lc_build (walk_list (K := K) (a := l)) hD (fun i ys R => Same H1 R ∧ Paired (DimAt K R) ys (ds.take i)) ⟨Same.refl H1, .nil⟩ (fun _ _ _ _ p => Same.seq (p.1.trans cd_sub) hl1) ?_ ?_⟩
    · rintro i ys y H2 H2' hi e ly ⟨sm, py⟩ ⟨rfl, hy⟩
      obtain ⟨d, hd, p, q, rfl, h1, h2⟩ := paired_at hp hy
      refine ⟨p, _, rfl, Same.seqT (sm.trans cd_sub) h1, rfl, _, _, rfl, _, _, rfl, rfl, rfl, yes ?_⟩
      obtain ⟨zs, h3, h4⟩ := id h2
      refine ⟨_, rfl, _, rfl, q, zs, rfl, .inr ⟨Same.seqT (sm.trans cd_sub) h3, by show 2 ≤ sizeLine; decide, fun t ht => ?_⟩⟩
      have nDt : D ≠ t := ne_of_none e ht
      have s3 : Same (cd D H2') (cd D (upd H2' t (.tup [.str d.1, .ref q]))) := cd_same (same_new ht)
      refine LcNx.add (by rw [upd_ne nDt]; exact e) ly (by omega) ⟨sm.trans s3, ?_⟩
      obtain ⟨g1, g2⟩ := List.getElem?_eq_some_iff.mp hd
      rw [List.take_succ_eq_append_getElem g1, g2]
      exact PySem.Paired.snoc (PySem.Paired.mono (fun _ _ => DimAt.same s3) py) ⟨t, q, rfl, SqT.of (cd_of upd_same nDt.symm), AttsAt.same (sm.trans s3) h2⟩
    · rintro ys H2 e ly ⟨sm, py⟩
      rw [hlen, List.take_length] at py
      have s2 : Same H1 H2 := sm.trans cd_sub
      have hx2 : H2 x = some (.ins C dx []) := s2 _ _ (s1 _ _ hx)
      have nDx : D ≠ x := (ne_of_none (s1 _ _ hx) hD).symm
      refine ⟨_, rfl, x, C, dx, _, rfl, hx2, T.cl, T.nD, (by show 0 < 1000; decide), ?_⟩
      have s3 : Same (cd x H2) (upd H2 x (.ins C dx (putF "dimension_list" (.ref D) []))) := fun c o q => by rw [upd_ne (ct_ne q).1]; exact cd_sub _ _ q
      have hm3 : Txs K (upd H2 x (.ins C dx (putF "dimension_list" (.ref D) []))) m ms := Same.txs s3 (txs_cd hx2 (Same.txs (s1.trans s2) hm))
      refine ⟨_, rfl, m, ms.map V.str, rfl, hm3, fun b hb => ?_⟩
      have nxb : x ≠ b := ne_of_none upd_same hb
      have hDb : D ≠ b := fun z => by
        rw [← z, upd_ne nDx] at hb
        rw [e] at hb
        cases hb
      refine ⟨_, rfl, x, C, dx, _, rfl, (by rw [upd_ne nxb]; exact upd_same), T.cl, T.nM, (by show 1 < 1000; decide), ?_⟩
      have e1 : putF "measure_list" (V.ref b) (putF "dimension_list" (V.ref D) []) = plF D b := pl_put D b
      have s4 : Same (cd x H2) (upd (upd (upd H2 x (.ins C dx (putF "dimension_list" (.ref D) []))) b (.lst (ms.map V.str))) x (.ins C dx (putF "measure_list" (V.ref b) (putF "dimension_list" (V.ref D) [])))) := fun c o q => by
        have nc := (ct_ne q).1
        have qc := cd_sub _ _ q
        have ncb : c ≠ b := ne_of_none (show upd H2 x (.ins C dx (putF "dimension_list" (.ref D) [])) c = some o by rw [upd_ne nc]; exact qc) hb
        rw [upd_ne nc, upd_ne ncb, upd_ne nc]
        exact qc
      have py2 : Paired (DimAt K (cd x H2)) ys ds := PySem.Paired.mono (fun y d q => dim_cd hx2 (DimAt.same cd_sub q)) py
      refine k _ D b ys (s1.free hD) ?_ (Eq.trans upd_same (congrArg (fun z => some (HO.ins C dx z)) e1)) (s4 _ _ (cd_of e nDx)) (PySem.Paired.mono (fun _ _ => DimAt.same s4) py2) ?_ ?_
      · have hb2 : H2 b = none := by
          rw [upd_ne nxb.symm] at hb
          exact hb
        exact (s1.trans s2).free hb2
      · rw [upd_ne nxb.symm, upd_same]
      · have s5 : Same (cd x H) (cd x H2) := cd_same (s1.trans s2)
        have s6 := cd_same (D := x) s4
        exact s5.trans (fun c o q => s6 c o (cd_of q (ct_ne q).1))
end
end Kd
namespace Kd
open PySem PySem.Spec PyProof.Rows L2
section
variable {P : Program} {w : World} {K : PySem.W.Frag} {mg : Str → Option Value} {base : Heap} {f : Addr} {fd : FuncData}
def spDims (K : PySem.W.Frag) (C : Addr) : Sp := fun vs H Q _ => ∃ (x : Addr) (ds : List (Str × List (Str × Str))) (ms : List Str), vs = [.ref x] ∧ PlanAt K C H x ds ms ∧ ∀ l xs, H l = none → Paired (DimAt K H) xs ds → Q (.ref l) (upd H l (.lst xs))
def spMeas (K : PySem.W.Frag) (C : Addr) : Sp := fun vs H Q _ => ∃ (x : Addr) (ds : List (Str × List (Str × Str))) (ms : List Str), vs = [.ref x] ∧ PlanAt K C H x ds ms ∧ ∀ l, H l = none → Q (.ref l) (upd H l (.lst (ms.map V.str)))
theorem sc_dims : FnScope ["self"] ["self"] (defScope s_Plan_dimensions) := ⟨rfl, rfl, rfl, by decide +kernel, rfl, by decide +kernel, by decide +kernel⟩
theorem ok_dims {C : Addr} (F : FnP K "dimensions" "Plan.dimensions" s_Plan_dimensions f fd) (T : PlTxt K C) (gl : mg "list" = none) : FnOk P w K mg base CX0 1 f fd ["self"] (spDims K C) := by
  refine F.ok sc_dims (fun vs H Q E h => ?_) (fun cdv A outer s H vs Q E hr h => ?_)
  · obtain ⟨x, ds, ms, rfl, _⟩ := h
    rfl
  · obtain ⟨x, ds, ms, rfl, ⟨dx, a, b, xs, h1, h2, h3, h4⟩, k⟩ := h
    refine ⟨_, PSs.nox (pss_one (ps_ret (pe_callTy call_list_of (by rfl) gl (by decide +kernel) (pa_cons (pe_fld (pv 0) rfl) pa_nil)))), ?_⟩
    exact ⟨_, rfl, x, C, dx, _, _, rfl, h1, T.cl, T.nD, pl_dim a b, a, xs, rfl, .inl (SqL.of h2), fun l hl => k l xs hl h3⟩
theorem sc_meas : FnScope ["self"] ["self"] (defScope s_Plan_measures) := ⟨rfl, rfl, rfl, by decide +kernel, rfl, by decide +kernel, by decide +kernel⟩
theorem ok_meas {C : Addr} (F : FnP K "measures" "Plan.measures" s_Plan_measures f fd) (T : PlTxt K C) (gl : mg "list" = none) : FnOk P w K mg base CX0 1 f fd ["self"] (spMeas K C) := by
  refine F.ok sc_meas (fun vs H Q E h => ?_) (fun cdv A outer s H vs Q E hr h => ?_)
  · obtain ⟨x, ds, ms, rfl, _⟩ := h
    rfl
  · obtain ⟨x, ds, ms, rfl, ⟨dx, a, b, xs, h1, h2, h3, h4⟩, k⟩ := h
    refine ⟨_, PSs.nox (pss_one (ps_ret (pe_callTy call_list_of (by rfl) gl (by decide +kernel) (pa_cons (pe_fld (pv 0) rfl) pa_nil)))), ?_⟩
    exact ⟨_, rfl, x, C, dx, _, _, rfl, h1, T.cl, T.nM, pl_mea a b, b, _, rfl, .inl (SqL.of h4), fun l hl => k l hl⟩
end
end Kd

namespace Kd
open PySem PySem.Spec PyProof.Rows L2
/-! ### the writing of a plan, as a mirror -/
abbrev Dm := Str × List (Str × Str)
/-- a way of the four -/
def IsWay (z : Str) : Prop := z ∈ (["first", "last", "day", "before"] : List Str)
theorem IsWay.nm {z : Str} (h : IsWay z) : Low z ∧ z.length ≤ 8 := by
  have h1 : ∀ z ∈ (["first", "last", "day", "before"] : List Str), (z.cps.toList.all fun c => decide (97 ≤ c ∧ c ≤ 122)) = true ∧ z.length ≤ 8 := by decide +kernel
  obtain ⟨a, b⟩ := h1 z h
  exact ⟨fun c hc => of_decide_eq_true (List.all_eq_true.mp a c hc), b⟩
theorem Low.free {z : Str} (h : Low z) {c : Nat} (hc : c < 97) : c ∉ TL.tl z := fun e => by
  have := (h c e).1
  omega
/-! ### lengths -/
end Kd

namespace Kd
open PySem PySem.Spec PyProof.Rows L2
/-! ### a whole number in figures -/
def Wh (i : Int) : Prop := i.natAbs < 10 ^ 60
end Kd

namespace KdEx
open PySem PySem.Spec PyProof.Rows L2
section
variable {prog : Program} {w : World} {A : Around} {E : Value → Shared → Prop} {s : Shared}
end
section
variable {X : Cx}
/-- a value of which repr is known whatever is under way, and its text -/
def flatT : V → Str
  | .str z => reprText z
  | .non => "None"
  | .int i => toString i
  | _ => ""
def Flat1 : V → Prop
  | .str z => (∀ c ∈ z.cps.toList, c < 16 ^ 8) ∧ z.length ≤ 4000
  | .non => True
  | _ => False
theorem flat_len {v : V} (h : Flat1 v) : (flatT v).length ≤ 50000 := by
  cases v with
  | str z =>
    have := StrLaws.reprText_len z h.1
    show (reprText z).length ≤ 50000
    have h2 := h.2
    omega
  | non => show ("None" : Str).length ≤ 50000; decide +kernel
  | _ => exact h.elim
end
section
variable {X : Cx} {CX : CXT} {k : Nat} {f C : Addr} {fd : FuncData} {ps : List Str} {sp : Sp} {dvs : List V} {ds : List Value} {E : XK} {x m : Str} {p1 p2 pos : Pos} {e : Expr} {es : List Expr} {t : TA}
/-- C.m(e, ..), C a class of the program, m a def of it -/
structure ClsFn (K : PySem.W.Frag) (C f : Addr) (m : Str) : Prop where
  sp : PySem.W.specialIn K (.ref C) "__getattribute__" = some (some (.builtin "type.__getattribute__"))
  rd : PySem.W.readsIn K C (.type "type") = true
  fi : PySem.W.findCls K (.ref C) (.type "type") m = some (.val (.ref f))
  kp : PySem.W.keepIn K (.ref f) = true
theorem pe_clsfn {pl : Sem Bool} (hg : Gl X x) (hm : X.mg x = some (.ref C)) (T : ClsFn X.K C f m) (F : FnOk X.prog X.w X.K X.mg X.base CX k f fd ps sp) (hr : Room k X.A) (hb : Binds X.K fd ps ds) (hd : Vals dvs ds) (hx : Passes CX X E) (ha : PA X (e :: es) t)
    (hdb : (x == ("__debug__" : Str)) = false := by decide)
    (hc : eval (.Call (.Attribute (.Name x p1) m p2) (e :: es) [] pos) X.env = (do
      let ov ← eval (.Name x p1) X.env
      standAt p2.atName
      let (f, first) ← holding [ov] (getMethod ov m pl)
      callWith pos f first (backTo pos (starEach (e :: es) X.env)) (backToKw pos (keywordEach [] X.env))) := by rfl)
    (he : starEach (e :: es) X.env = (false, eval e X.env) :: starEach es X.env := by rfl) (hpl : (backTo pos (starEach es X.env)).any (·.1) = false := by rfl) :
    PE X (.Call (.Attribute (.Name x p1) m p2) (e :: es) [] pos) (tCall sp dvs E t) := by
  refine ⟨fun pins s σ H Q I h => ?_⟩
  refine PySem.W.methodCall_KW (ld_glob I hg hm ?_ hdb) hc
  refine PySem.W.method_cls I.kIn T.sp ?_
  refine PySem.W.cls_value I.kIn T.rd T.fi rfl ?_
  show wpAny _ _ (callWith pos (Value.ref f) [] (backTo pos (starEach (e :: es) X.env)) []) _ _ _
  refine PySem.W.callWith_K (h₀ := X.base) I.ok.mod.kin T.kp (thn (ha.run pos pins _ σ H _ (I.tok _) h) fun us s1 ⟨vs, H1, I1, r, q⟩ => ⟨I1.kIn, ?_⟩) he hpl
  exact run_fn F hr hb hd hx I1 r q
end
/-! ### == and != by an own def -/
section
variable {X : Cx} {CX : CXT} {n : Nat} {C f : Addr} {fd : FuncData} {ps : List Str} {sp : Sp} {E : XK} {op : CmpOp}
end
end KdEx

namespace KdRp
open PySem PySem.Spec PyProof.Rows L2
section
variable {prog : Program} {w : World}
/-- what repr makes of x in this heap is some text of at most L signs -/
def RepW (prog : Program) (w : World) (h : Heap) (d : Nat) (x : Value) (L : Nat) : Prop :=
  ∀ (A : Around) (s : Shared), A.units + d < cLine → s.heap = h → ∀ b, b + L ≤ sizeLine → ∀ (E : Value → Shared → Prop) (Q : Str → Shared → Prop), (∀ t tk, t.length ≤ L → Q t { s with toks := tk }) → wpAny (model prog w) A (pyReprUnder b x) Q E s
theorem RepW.flat {h : Heap} {d L : Nat} {x : Value} {t : Str} (r : ReprIs prog w x t) (hl : t.length ≤ L) : RepW prog w h d x L := fun A s _ _ b hb E Q q => r b (by omega) A E s Q fun tk => q t tk hl
theorem fold_w {h : Heap} {d L : Nat} {A : Around} {E : Value → Shared → Prop} (hu : A.units + d < cLine) : ∀ (l : List Value) (acc : Array Str) (n : Nat) (s : Shared) (Q : (Array Str × Nat) → Shared → Prop), s.heap = h → (∀ x ∈ l, RepW prog w h d x L) → n + 1 + (L + 2) * l.length ≤ sizeLine →
    (∀ (ts : List Str) (m : Nat) (tk : Nat), ts.length = l.length → (∀ t ∈ ts, t.length ≤ L) → Q ⟨acc ++ ts.toArray, m⟩ { s with toks := tk }) → wpAny (model prog w) A (forIn l (⟨acc, n⟩ : (Array Str × Nat)) tupBody) Q E s := by
  intro l
  induction l with
  | nil =>
    intro acc n s Q _ _ _ q
    have q0 := q [] n s.toks rfl (fun _ z => (nomatch z))
    simp only [List.forIn_nil]
    exact wpAny_pure (by simpa using q0)
  | cons x l ih =>
    intro acc n s Q hs hx hn q
    rw [List.length_cons, Nat.mul_succ] at hn
    rw [List.forIn_cons]
    refine wpAny_bind (wpAny_bind (hx x (List.mem_cons_self ..) A s hu hs (n + 1) (by omega) E _ fun t tk ht => wpAny_pure ?_))
    refine ih (acc.push t) (n + (t.length + 2)) { s with toks := tk } Q hs (fun y hy => hx y (List.mem_cons_of_mem _ hy)) (by omega) fun ts m tk' hl hts => ?_
    have q1 := q (t :: ts) m tk' (by rw [List.length_cons, hl, List.length_cons]) fun y hy => by
      rcases List.mem_cons.mp hy with rfl | hy
      · exact ht
      · exact hts y hy
    simpa using q1
theorem piled_of : ∀ (ts : List Str) {L : Nat}, (∀ t ∈ ts, t.length ≤ L) → piled ts ≤ (L + 2) * ts.length
  | [], _, _ => Nat.zero_le _
  | t :: ts, L, h => by
    have ih := piled_of ts fun y hy => h y (List.mem_cons_of_mem _ hy)
    have h1 := h t (List.mem_cons_self ..)
    rw [piled_cons, List.length_cons, Nat.mul_succ]
    omega
theorem join_le (ts : List Str) {L : Nat} (h : ∀ t ∈ ts, t.length ≤ L) : (Str.join ", " ts).length ≤ (L + 2) * ts.length := by
  have p := piled_of ts h
  cases ts with
  | nil => show (Str.join ", " []).length ≤ _; exact Nat.zero_le _
  | cons t ts =>
    have e := join_length_add (t :: ts) (by simp)
    omega
/-- a tuple's signs -/
abbrev tupL (L n : Nat) : Nat := (L + 2) * n + 8
theorem at_w {h : Heap} {d L b : Nat} {A : Around} {E : Value → Shared → Prop} {s : Shared} {a : Addr} {o : Obj} {items : Array Value} {n : Nat} {Q : Fin → Shared → Prop} (hu : A.units + d < cLine) (hs : s.heap = h) (ha : h.get? a = some o) (hd : o.data = .seq items n)
    (hx : ∀ x ∈ items.toList, RepW prog w h d x L) (hb : b + tupL L items.size ≤ sizeLine) (q : ∀ m u tk, m.length ≤ tupL L items.size → Q (.done (.ret (.str m u))) { s with toks := tk }) : wpAny (model prog w) A (Builtin.tupleReprAt b ⟨[.ref a], []⟩) Q E s := by
  have hb' : b + ((L + 2) * items.size + 8) ≤ sizeLine := hb
  rw [tuple_repr_tree]
  refine wpAny_bind (fmt_underWay fun c => ?_)
  cases c with
  | true =>
    refine PySem.W.KFB.if_so rfl ?_
    refine wpAny_bind (wpAny_rule ?_)
    refine wpAny_bind (wpAny_mkStr (wpAny_pure ?_) (by decide +kernel))
    exact q "(...)" _ _ (Nat.le_trans fmt_way (by show 5 ≤ (L + 2) * items.size + 8; omega))
  | false =>
    refine PySem.W.KFB.if_not rfl ?_
    unfold tupleReprRest Builtin.Tuple.tupleItemsOf
    refine wpAny_bind (wpAny_bind (wpAny_seqItems (by rw [hs]; exact ha) hd (wpAny_pure ?_)))
    rw [← Array.forIn_toList]
    have el : items.toList.length = items.size := Array.length_toList
    refine wpAny_bind (fold_w hu _ _ _ _ _ hs hx (by rw [el]; omega) fun ts m tk hl hts => ?_)
    have hj := join_le ts hts
    rw [hl, el] at hj
    have e1 : ((("(" : String) : Str)).length = 1 := rfl
    have e3 : (((if items.size == 1 then ",)" else ")" : String) : Str)).length ≤ 2 := by split <;> decide +kernel
    have e4 : (#[] ++ ts.toArray).toList = ts := by simp
    have hm : ((("(" : Str) ++ Str.join ", " ts ++ ((if items.size == 1 then ",)" else ")" : String) : Str)) : Str).length ≤ tupL L items.size := by
      rw [strLen_append, strLen_append, e1]
      show _ ≤ (L + 2) * items.size + 8
      omega
    have hz := Nat.le_trans hm (Nat.le_trans (Nat.le_add_left _ b) hb)
    refine wpAny_bind (wpAny_mkStr (wpAny_pure ?_) (by simpa using hz))
    have q1 := q _ tk (tk + 1) hm
    simpa using q1
/-- a tuple within -/
theorem RepW.tup {h : Heap} {d L : Nat} {a : Addr} {o : Obj} {items : Array Value} {n : Nat} (ha : h.get? a = some o) (hc : o.cls = .type "tuple") (hd : o.data = .seq items n) (hx : ∀ x ∈ items.toList, RepW prog w h d x L) : RepW prog w h (d + 2) (.ref a) (tupL L items.size) := by
  intro A s hu hs b hb E Q q
  have hT : s.TypeIs (.ref a) "tuple" := ⟨o, by rw [hs]; exact ha, hc⟩
  refine wpAny_pyReprUnder_ref (by omega) (wpAny_pyReprObjUnder_twin (twin := "tuple.__repr__.under") hT F.slot_tuple_repr rfl (by omega) ?_)
  refine call_twin_own (F.quiet_tuple_repr_under _) F.entry_tuple_repr_under F.check_tuple_repr_under hT F.slot_tuple_repr (F.args_tuple_repr_1 _) (wpOwn_of_wpAny ?_)
  refine at_w (by rw [units_under_tuple_repr_under]; omega) hs ha hd hx hb fun m u tk hm => ?_
  exact ⟨⟨m, u, rfl⟩, m, u, rfl, q m tk hm⟩
/-- repr(t) -/
theorem repr_w {h : Heap} {d L : Nat} {A : Around} {E : Value → Shared → Prop} {s : Shared} {a : Addr} {o : Obj} {items : Array Value} {n : Nat} {Q : Value → Shared → Prop} (hu : A.units + (d + 8) < cLine) (hs : s.heap = h) (ha : h.get? a = some o) (hc : o.cls = .type "tuple") (hd : o.data = .seq items n)
    (hx : ∀ x ∈ items.toList, RepW prog w h d x L) (hb : tupL L items.size ≤ sizeLine) (q : ∀ (m : Str) (u tk : Tok), Q (.str m u) { s with toks := tk }) : wpAny (model prog w) A (call (.builtin "repr") [.ref a]) Q E s := by
  have hT : s.TypeIs (.ref a) "tuple" := ⟨o, by rw [hs]; exact ha, hc⟩
  refine call_repr_slot (by omega) hT F.slot_tuple_repr ?_
  refine wpAny_call (codeAny_call_builtin_own (Code.quiet_builtin _ (by decide +kernel)) F.entry_tuple_repr (F.slot_tuple_repr.check _ _ _ _ _ _ _ _ hT (F.args_tuple_repr_1 _) (wpOwn_of_wpAny ?_)))
  refine at_w (b := 0) (by
    have e : A.in1.units ≤ A.units + 1 := by first | exact Nat.le_refl _ | (simp [Around.in1])
    rw [units_under_tuple_repr]
    omega) hs ha hd hx (by omega) fun m u tk _ => ?_
  exact ⟨m, u, rfl, q m u tk⟩
end
/-! ### repr of what a refusal keeps -/
theorem RepW.mono {prog : Program} {w : World} {h : Heap} {d d' L L' : Nat} {x : Value} (r : RepW prog w h d x L) (hd : d ≤ d') (hl : L ≤ L') : RepW prog w h d' x L' :=
  fun A s hu hs b hb E Q q => r A s (by omega) hs b (by omega) E Q fun t tk ht => q t tk (by omega)
/-- a value without parts, of a few signs -/
def FlatS : V → Prop
  | .str z => (∀ c ∈ z.cps.toList, c < 16 ^ 8) ∧ z.length ≤ 100
  | .int i => i.natAbs.log2 < 1920
  | .non => True
  | _ => False
theorem flat_w {prog : Program} {w : World} {h : Heap} {v : V} {u : Value} (r : RelV v u) (f : FlatS v) : RepW prog w h 0 u 2000 := by
  cases v with
  | str z =>
    obtain ⟨t, rfl⟩ := r
    have := StrLaws.reprText_len z f.1
    have f2 := f.2
    have hl : (reprText z).length ≤ 2000 := by omega
    exact .flat (ReprIs.str z t (Nat.le_trans hl (by decide))) hl
  | int i =>
    obtain ⟨t, rfl⟩ := r
    exact .flat (ReprIs.int t f) (Nat.le_trans (int_text_len_1921 f) (by decide))
  | non =>
    cases r
    exact .flat ReprIs.none (by decide +kernel)
  | _ => exact f.elim
theorem flats_w {prog : Program} {w : World} {h : Heap} : ∀ {ys : List V} {us : List Value}, Vals ys us → (∀ y ∈ ys, FlatS y) → ∀ u ∈ us, RepW prog w h 0 u 2000
  | [], _, r, _, u, hu => by
    cases r
    cases hu
  | y :: ys, _, r, hy, u, hu => by
    cases r with
    | cons r1 r2 =>
      rcases List.mem_cons.mp hu with rfl | hu
      · exact flat_w r1 (hy y (List.mem_cons_self ..))
      · exact flats_w r2 (fun z hz => hy z (List.mem_cons_of_mem _ hz)) u hu
/-- a tuple of such -/
def Tup1 (K : PySem.W.Frag) (H : Hp) (y : V) : Prop := ∃ (b : Addr) (zs : List V), y = .ref b ∧ SqT K H b zs ∧ zs.length ≤ 40 ∧ ∀ z ∈ zs, FlatS z
def Rep2 (K : PySem.W.Frag) (x : V) (H : Hp) : Prop := (∃ z : Str, x = .str z ∧ KdEx.Flat1 (.str z)) ∨ (∃ i : Int, x = .int i ∧ i.natAbs.log2 < 1920) ∨ x = .non ∨ ∃ (a : Addr) (ys : List V), x = .ref a ∧ SqT K H a ys ∧ ys.length ≤ 40 ∧ ∀ y ∈ ys, FlatS y ∨ Tup1 K H y
section
variable {X : Cx} {pins : List (Addr × Obj)} {σ : L2.St} {H : Hp} {s : Shared}
theorem parts_w (I : Inv X pins σ H s) : ∀ {ys : List V} {us : List Value}, Vals ys us → (∀ y ∈ ys, FlatS y ∨ Tup1 X.K H y) → ∀ u ∈ us, RepW X.prog X.w s.heap 2 u 80100
  | [], _, r, _, u, hu => by
    cases r
    cases hu
  | y :: ys, _, r, hy, u, hu => by
    cases r with
    | cons r1 r2 =>
      rcases List.mem_cons.mp hu with rfl | hu
      · rcases hy y (List.mem_cons_self ..) with f | ⟨b, zs, rfl, hb, hl, hz⟩
        · exact (flat_w r1 f).mono (by decide) (by decide)
        · cases r1
          obtain ⟨its, rv, ⟨o, ho, hcl, n, hd⟩, _⟩ := I.tuple hb
          have el : its.toArray.size = zs.length := by rw [List.size_toArray, ← rv.length]
          refine RepW.mono (RepW.tup (d := 0) (L := 2000) ho hcl hd (by simpa using flats_w rv hz)) (by decide) ?_
          show (2000 + 2) * its.toArray.size + 8 ≤ 80100
          rw [el]
          omega
      · exact parts_w I r2 (fun z hz => hy z (List.mem_cons_of_mem _ hz)) u hu
def rRep2 (K : PySem.W.Frag) : List V → Hp → VK → Prop := fun xs H Q => ∃ x, xs = [x] ∧ Rep2 K x H ∧ ∀ m : Str, Q (.str m) H
theorem cr_rep2 (hu : X.A.units + 64 < cLine) : CallR X (.builtin "repr") (rRep2 X.K) := by
  intro pins s σ H xs us Q I r h
  obtain ⟨x, rfl, hx, q⟩ := h
  obtain ⟨u, rfl, rx⟩ := vals1 r
  rcases hx with ⟨z, rfl, hz⟩ | ⟨i, rfl, hi⟩ | rfl | ⟨a, ys, rfl, ht, hl, hy⟩
  · obtain ⟨t, rfl⟩ := rx
    exact PySem.P.repr_of_str ⟨.str _, H, I.tok _, ⟨_, rfl⟩, q _⟩ (Nat.le_trans (KdEx.flat_len (v := .str z) hz) (by decide))
  · obtain ⟨t, rfl⟩ := rx
    exact PySem.P.repr_of_int hi ⟨.str _, H, I.tok _, ⟨_, rfl⟩, q _⟩
  · cases rx
    exact PySem.P.repr_of_none ⟨.str _, H, I.tok _, ⟨_, rfl⟩, q _⟩
  · cases rx
    obtain ⟨its, rv, ⟨o, ho, hcl, n, hd⟩, _⟩ := I.tuple ht
    have el : its.toArray.size = ys.length := by rw [List.size_toArray, ← rv.length]
    refine repr_w (d := 2) (L := 80100) (by omega) rfl ho hcl hd (by simpa using parts_w I rv hy) (Nat.le_trans (show (80100 + 2) * its.toArray.size + 8 ≤ 4000000 by rw [el]; omega) (by decide)) fun m u tk => ⟨.str m, H, I.tok _, ⟨u, rfl⟩, q m⟩
end
end KdRp

namespace Kd
open PySem PySem.Spec PyProof.Rows L2
/-! ### kinds -/
/-- a value as the laws draw it -/
inductive Fv where
  | i (z : Int)
  | s (z : Str)
  deriving DecidableEq
def Fv.v : Fv → V
  | .i z => .int z
  | .s z => .str z
def Fv.d : Fv → PyData
  | .i z => .int z
  | .s z => .str z
theorem Fv.v_inj {a b : Fv} (h : a.v = b.v) : a = b := by
  cases a <;> cases b <;> simp [Fv.v] at h <;> rw [h]
theorem Fv.scal (a b : Fv) : L2.scal a.v b.v = true := by
  cases a <;> cases b <;> rfl
theorem Fv.ne (a b : Fv) : (!decide (a.v = b.v)) = !decide (a = b) := by
  by_cases h : a = b
  · rw [h]
    simp
  · have h2 : ¬ a.v = b.v := fun q => h (Fv.v_inj q)
    rw [decide_eq_false h, decide_eq_false h2]
theorem Fv.flat (a : Fv) : flatV a.v = true := by cases a <;> rfl
abbrev Kind := Int × List Fv
section
variable {P : Program} {w : World} {K : PySem.W.Frag} {mg : Str → Option Value} {base : Heap} {f : Addr} {fd : FuncData}
theorem Fv.dp {H : Hp} (a : Fv) : Dp K H a.v a.d := by
  cases a
  · exact .int _
  · exact .str _
def KindAt (K : PySem.W.Frag) (H : Hp) (x : V) (k : Kind) : Prop := ∃ p q, x = .ref p ∧ SqT K H p [.int k.1, .ref q] ∧ SqT K H q (k.2.map Fv.v)
theorem KindAt.same {H H' : Hp} {x : V} {k : Kind} (e : Same H H') : KindAt K H x k → KindAt K H' x k := fun ⟨p, q, h1, h2, h3⟩ => ⟨p, q, h1, Same.seqT e h2, Same.seqT e h3⟩
def KindsAt (K : PySem.W.Frag) (H : Hp) (l : Addr) (ks : List Kind) : Prop := ∃ xs, SqL K H l xs ∧ Paired (KindAt K H) xs ks
theorem KindsAt.same {H H' : Hp} {l : Addr} {ks : List Kind} (e : Same H H') : KindsAt K H l ks → KindsAt K H' l ks := fun ⟨xs, h1, h2⟩ => ⟨xs, e.seq h1, PySem.Paired.mono (fun _ _ => KindAt.same e) h2⟩
theorem map_at {α β : Type} {g : α → β} {l : List α} {i : Nat} (h : i < l.length) : (l.map g)[i]? = some (g l[i]) := by rw [List.getElem?_map, List.getElem?_eq_getElem h]; rfl
end
/-! ### rows -/
inductive Rw where
  | kind (d key : Str) (day : Int) (vals : List Fv)
  | fact (name : Str) (day : Int) (keys : List Str) (nums : List Int)
  | forget (name : Str)
def Rw.at (K : PySem.W.Frag) (H : Hp) (p : Addr) : Rw → Prop
  | .kind d key day vals => ∃ q, SqT K H p [.str "kind", .str d, .str key, .int day, .ref q] ∧ SqT K H q (vals.map Fv.v)
  | .fact name day keys nums => ∃ q1 q2, SqT K H p [.str "fact", .str name, .int day, .ref q1, .ref q2] ∧ SqT K H q1 (keys.map V.str) ∧ SqT K H q2 (nums.map V.int)
  | .forget name => SqT K H p [.str "forget", .str name]
theorem Rw.same {K : PySem.W.Frag} {H H' : Hp} {p : Addr} (e : Same H H') : ∀ {r : Rw}, r.at K H p → r.at K H' p
  | .kind .., ⟨q, h1, h2⟩ => ⟨q, Same.seqT e h1, Same.seqT e h2⟩
  | .fact .., ⟨q1, q2, h1, h2, h3⟩ => ⟨q1, q2, Same.seqT e h1, Same.seqT e h2, Same.seqT e h3⟩
  | .forget .., h => Same.seqT e h
/-- a short text of letters and figures, and more -/
structure Tx (z : Str) : Prop where
  le : z.length ≤ 14
  ok : ∀ c ∈ z.cps.toList, c < 128
def Nu (i : Int) : Prop := i.natAbs < 2 ^ 210
def Fv.ok : Fv → Prop
  | .i z => Nu z
  | .s z => Tx z
def Rw.ok : Rw → Prop
  | .kind d key day vals => Tx d ∧ Tx key ∧ Nu day ∧ vals.length ≤ 10 ∧ ∀ v ∈ vals, v.ok
  | .fact name day keys nums => Tx name ∧ Nu day ∧ (keys.length ≤ 10 ∧ ∀ z ∈ keys, Tx z) ∧ nums.length ≤ 10 ∧ ∀ i ∈ nums, Nu i
  | .forget name => Tx name
theorem IsNm.tx {z : Str} (h : IsNm z) : Tx z := ⟨by have := h.le8; omega, fun c hc => by have := h.low c hc; omega⟩
theorem Tx.sok {z : Str} (h : Tx z) : PyData.strOk z = true := by
  unfold PyData.strOk
  rw [Array.all_eq_true']
  intro c hc
  have := h.ok c (Array.mem_toList_iff.mpr hc)
  exact decide_eq_true (by omega)
theorem Tx.flat {z : Str} (h : Tx z) : KdRp.FlatS (.str z) := ⟨fun c hc => Nat.lt_of_lt_of_le (h.ok c hc) (by decide), by have := h.le; omega⟩
theorem Nu.flat {i : Int} (h : Nu i) : KdRp.FlatS (.int i) := by
  show i.natAbs.log2 < 1920
  by_cases z : i.natAbs = 0
  · rw [z]
    decide
  · exact Nat.lt_trans ((Nat.log2_lt z).mpr h) (by decide)
theorem Fv.ok.flat : ∀ {v : Fv}, v.ok → KdRp.FlatS v.v
  | .i _, h => Nu.flat h
  | .s _, h => Tx.flat h
theorem tx_kind : Tx ("kind" : Str) := ⟨by decide +kernel, by decide +kernel⟩
theorem tx_fact : Tx ("fact" : Str) := ⟨by decide +kernel, by decide +kernel⟩
theorem tx_forget : Tx ("forget" : Str) := ⟨by decide +kernel, by decide +kernel⟩
/-- repr of a row is some text -/
theorem Rw.rep {K : PySem.W.Frag} {H : Hp} {p : Addr} : ∀ {r : Rw}, r.at K H p → r.ok → KdRp.Rep2 K (.ref p) H
  | .kind d key day vals, ⟨q, h1, h2⟩, ⟨o1, o2, o3, o4, o5⟩ => .inr (.inr (.inr ⟨p, _, rfl, h1, by show 5 ≤ 40; decide, fun y hy => by
      simp only [List.mem_cons, List.not_mem_nil, or_false] at hy
      rcases hy with rfl | rfl | rfl | rfl | rfl
      · exact .inl tx_kind.flat
      · exact .inl o1.flat
      · exact .inl o2.flat
      · exact .inl o3.flat
      · exact .inr ⟨q, _, rfl, h2, by rw [List.length_map]; omega, fun z hz => by
          obtain ⟨v, hv, rfl⟩ := List.mem_map.mp hz
          exact (o5 v hv).flat⟩⟩))
  | .fact name day keys nums, ⟨q1, q2, h1, h2, h3⟩, ⟨o1, o2, ⟨o3, o4⟩, o5, o6⟩ => .inr (.inr (.inr ⟨p, _, rfl, h1, by show 5 ≤ 40; decide, fun y hy => by
      simp only [List.mem_cons, List.not_mem_nil, or_false] at hy
      rcases hy with rfl | rfl | rfl | rfl | rfl
      · exact .inl tx_fact.flat
      · exact .inl o1.flat
      · exact .inl o2.flat
      · exact .inr ⟨q1, _, rfl, h2, by rw [List.length_map]; omega, fun z hz => by
          obtain ⟨v, hv, rfl⟩ := List.mem_map.mp hz
          exact (o4 v hv).flat⟩
      · exact .inr ⟨q2, _, rfl, h3, by rw [List.length_map]; omega, fun z hz => by
          obtain ⟨v, hv, rfl⟩ := List.mem_map.mp hz
          exact (o6 v hv).flat⟩⟩))
  | .forget name, h1, o1 => .inr (.inr (.inr ⟨p, _, rfl, h1, by show 2 ≤ 40; decide, fun y hy => by
      simp only [List.mem_cons, List.not_mem_nil, or_false] at hy
      rcases hy with rfl | rfl
      · exact .inl tx_forget.flat
      · exact .inl (Tx.flat o1)⟩))
/-- a small letter or a figure -/
def KeyC (c : Nat) : Prop := (97 ≤ c ∧ c ≤ 122) ∨ (48 ≤ c ∧ c ≤ 57)
structure Ky (z : Str) : Prop where
  ok : ∀ c ∈ z.cps.toList, KeyC c
  ge : 1 ≤ z.length
  le : z.length ≤ 12
theorem Ky.tx {z : Str} (h : Ky z) : Tx z := ⟨by have := h.le; omega, fun c hc => by rcases h.ok c hc with q | q <;> omega⟩
theorem Wh.nu {i : Int} (h : Wh i) : Nu i := Nat.lt_of_lt_of_le h (by decide)
def Fv.good : Fv → Prop
  | .i z => Wh z
  | .s z => Ky z
theorem Fv.good.ok : ∀ {v : Fv}, v.good → v.ok
  | .i _, h => Wh.nu h
  | .s _, h => Ky.tx h
/-- a row of a plan of these lists -/
def Rw.good (ds : List Dm) (ms : List Str) : Rw → Prop
  | .kind d key day vals => (∃ e ∈ ds, d = e.1 ∧ vals.length = e.2.length) ∧ Ky key ∧ Wh day ∧ ∀ v ∈ vals, v.good
  | .fact name day keys nums => Ky name ∧ Wh day ∧ (keys.length = ds.length ∧ ∀ z ∈ keys, Ky z) ∧ nums.length = ms.length ∧ ∀ i ∈ nums, Wh i
  | .forget name => Ky name

/-! ### the writing of rows, as a mirror -/
theorem Ky.free {z : Str} (h : Ky z) {c : Nat} (hc : c < 48 ∨ (57 < c ∧ c < 97) ∨ 122 < c) : c ∉ TL.tl z := fun q => by
  rcases h.ok c q with e | e <;> omega
/-- a row of good parts, whatever the plan -/
def Rw.fine : Rw → Prop
  | .kind d key day vals => IsNm d ∧ Ky key ∧ Wh day ∧ vals.length ≤ 5 ∧ ∀ v ∈ vals, v.good
  | .fact name day keys nums => Ky name ∧ Wh day ∧ (keys.length ≤ 4 ∧ ∀ z ∈ keys, Ky z) ∧ nums.length ≤ 4 ∧ ∀ i ∈ nums, Wh i
  | .forget name => Ky name
/-! ### one writing for each -/
/-! ### rows as data -/
def rwD : Rw → PyData
  | .kind d key day vals => .tuple [.str "kind", .str d, .str key, .int day, .tuple (vals.map Fv.d)]
  | .fact name day keys nums => .tuple [.str "fact", .str name, .int day, .tuple (keys.map PyData.str), .tuple (nums.map PyData.int)]
  | .forget name => .tuple [.str "forget", .str name]
section
variable {K : PySem.W.Frag}
theorem fvs_dp {H : Hp} : ∀ vs : List Fv, DpAll K H (vs.map Fv.v) (vs.map Fv.d)
  | [] => .nil
  | v :: vs => .cons v.dp (fvs_dp vs)
theorem ints_dpA {H : Hp} : ∀ vs : List Int, DpAll K H (vs.map V.int) (vs.map PyData.int)
  | [] => .nil
  | v :: vs => .cons (.int v) (ints_dpA vs)
theorem strs_dpA {H : Hp} : ∀ vs : List Str, DpAll K H (vs.map V.str) (vs.map PyData.str)
  | [] => .nil
  | v :: vs => .cons (.str v) (strs_dpA vs)
theorem Rw.dp {H : Hp} {p : Addr} : ∀ {r : Rw}, r.at K H p → Dp K H (.ref p) (rwD r)
  | .kind d key day vals, ⟨q, h1, h2⟩ => .tup h1 (.cons (.str _) (.cons (.str _) (.cons (.str _) (.cons (.int _) (.cons (.tup h2 (fvs_dp vals)) .nil)))))
  | .fact name day keys nums, ⟨q1, q2, h1, h2, h3⟩ => .tup h1 (.cons (.str _) (.cons (.str _) (.cons (.int _) (.cons (.tup h2 (strs_dpA keys)) (.cons (.tup h3 (ints_dpA nums)) .nil)))))
  | .forget name, h => .tup h (.cons (.str _) (.cons (.str _) .nil))
theorem lay_fvs : ∀ vs : List Fv, (∀ v ∈ vs, v.ok) → PyData.canLayAll0 (vs.map Fv.d) = true ∧ PyData.depthAll (vs.map Fv.d) = 0
  | [], _ => ⟨rfl, rfl⟩
  | v :: vs, h => by
    obtain ⟨h1, h2⟩ := lay_fvs vs fun z hz => h z (List.mem_cons_of_mem _ hz)
    have h3 := h v (List.mem_cons_self ..)
    cases v with
    | i z =>
      constructor
      · simp only [List.map_cons, Fv.d, PyData.canLayAll0, PyData.canLay0, h1, Bool.and_self]
      · simp only [List.map_cons, Fv.d, PyData.depthAll, PyData.depth, h2]
        rfl
    | s z =>
      have h4 : Tx z := h3
      constructor
      · simp only [List.map_cons, Fv.d, PyData.canLayAll0, PyData.canLay0, h1, h4.sok, Bool.and_self]
      · simp only [List.map_cons, Fv.d, PyData.depthAll, PyData.depth, h2]
        rfl
theorem lay_txs : ∀ vs : List Str, (∀ v ∈ vs, Tx v) → PyData.canLayAll0 (vs.map PyData.str) = true ∧ PyData.depthAll (vs.map PyData.str) = 0
  | [], _ => ⟨rfl, rfl⟩
  | v :: vs, h => by
    obtain ⟨h1, h2⟩ := lay_txs vs fun z hz => h z (List.mem_cons_of_mem _ hz)
    have h3 := h v (List.mem_cons_self ..)
    constructor
    · simp only [List.map_cons, PyData.canLayAll0, PyData.canLay0, h1, h3.sok, Bool.and_self]
    · simp only [List.map_cons, PyData.depthAll, PyData.depth, h2]
      rfl
theorem lay_intsA : ∀ xs : List Int, PyData.canLayAll0 (xs.map PyData.int) = true ∧ PyData.depthAll (xs.map PyData.int) = 0
  | [] => ⟨rfl, rfl⟩
  | x :: xs => by
    obtain ⟨h1, h2⟩ := lay_intsA xs
    constructor
    · simp only [List.map_cons, PyData.canLayAll0, PyData.canLay0, h1, Bool.and_self]
    · simp only [List.map_cons, PyData.depthAll, PyData.depth, h2, Nat.max_self]
theorem lay_rw : ∀ {r : Rw}, r.ok → PyData.canLay0 (rwD r) = true ∧ (rwD r).depth ≤ 2
  | .kind d key day vals, ⟨o1, o2, o3, o4, o5⟩ => by
    obtain ⟨h1, h2⟩ := lay_fvs vals o5
    constructor
    · simp only [rwD, PyData.canLayAll0, PyData.canLay0, h1, o1.sok, o2.sok, tx_kind.sok, Bool.and_self]
    · simp only [rwD, PyData.depthAll, PyData.depth, h2]
      decide
  | .fact name day keys nums, ⟨o1, o2, ⟨o3, o4⟩, o5, o6⟩ => by
    obtain ⟨h1, h2⟩ := lay_txs keys o4
    obtain ⟨h3, h4⟩ := lay_intsA nums
    constructor
    · simp only [rwD, PyData.canLayAll0, PyData.canLay0, h1, h3, o1.sok, tx_fact.sok, Bool.and_self]
    · simp only [rwD, PyData.depthAll, PyData.depth, h2, h4]
      decide
  | .forget name, o => by
    have o : Tx name := o
    constructor
    · simp only [rwD, PyData.canLayAll0, PyData.canLay0, o.sok, tx_forget.sok, Bool.and_self]
    · simp only [rwD, PyData.depthAll, PyData.depth]
      decide
theorem Rw.fine.ok : ∀ {r : Rw}, r.fine → r.ok
  | .kind d key day vals, ⟨h1, h2, h3, h4, h5⟩ => ⟨h1.tx, h2.tx, h3.nu, by omega, fun v hv => (h5 v hv).ok⟩
  | .fact name day keys nums, ⟨h1, h2, ⟨h3, h4⟩, h5, h6⟩ => ⟨h1.tx, h2.nu, ⟨by omega, fun z hz => (h4 z hz).tx⟩, by omega, fun i hi => (h6 i hi).nu⟩
  | .forget name, h => Ky.tx h
/-- a list of rows stands at l -/
def RwAt (K : PySem.W.Frag) (H : Hp) (x : V) (r : Rw) : Prop := ∃ p, x = .ref p ∧ r.at K H p
def RwsAt (K : PySem.W.Frag) (H : Hp) (l : Addr) (rs : List Rw) : Prop := ∃ xs, SqL K H l xs ∧ Paired (RwAt K H) xs rs
theorem RwAt.same {H H' : Hp} {x : V} {r : Rw} (e : Same H H') : RwAt K H x r → RwAt K H' x r := fun ⟨p, h1, h2⟩ => ⟨p, h1, Rw.same e h2⟩
theorem RwsAt.same {H H' : Hp} {l : Addr} {rs : List Rw} (e : Same H H') : RwsAt K H l rs → RwsAt K H' l rs := fun ⟨xs, h1, h2⟩ => ⟨xs, e.seq h1, PySem.Paired.mono (fun _ _ => RwAt.same e) h2⟩
theorem rws_dp {H : Hp} : ∀ {xs : List V} {rs : List Rw}, Paired (RwAt K H) xs rs → DpAll K H xs (rs.map rwD)
  | _, _, .nil => .nil
  | _, _, .cons ⟨p, e1, e2⟩ t => by
    subst e1
    exact .cons (Rw.dp e2) (rws_dp t)
theorem RwsAt.dp {H : Hp} {l : Addr} {rs : List Rw} (h : RwsAt K H l rs) : Dp K H (.ref l) (.list (rs.map rwD)) := by
  obtain ⟨xs, h1, h2⟩ := h
  exact .lst h1 (rws_dp h2)
theorem lay_rws : ∀ {rs : List Rw}, (∀ r ∈ rs, r.ok) → PyData.canLayAll0 (rs.map rwD) = true ∧ PyData.depthAll (rs.map rwD) ≤ 2
  | [], _ => ⟨rfl, Nat.zero_le _⟩
  | r :: rs, h => by
    obtain ⟨h1, h2⟩ := lay_rws fun z hz => h z (List.mem_cons_of_mem _ hz)
    obtain ⟨h3, h4⟩ := lay_rw (h r (List.mem_cons_self ..))
    constructor
    · simp only [List.map_cons, PyData.canLayAll0, h1, h3, Bool.and_self]
    · simp only [List.map_cons, PyData.depthAll]
      omega
theorem rws_shaped {rs : List Rw} (h : ∀ r ∈ rs, r.ok) : SeqAt.shaped (.list (rs.map rwD)) = true := by
  obtain ⟨h1, h2⟩ := lay_rws h
  simp [SeqAt.shaped, PyData.canLay0, PyData.depth, h1]
  omega
end
end Kd

/-! lists of pairs as tables -/
namespace Kd
open L2
section
variable {α β : Type} [DecidableEq α]
def lk (ms : List (α × β)) (k : α) : Option β := (ms.find? fun m => decide (m.1 = k)).map (·.2)
def pt (ms : List (α × β)) (k : α) (b : β) : List (α × β) := if (ms.any fun m => decide (m.1 = k)) = true then ms.map (fun m => if m.1 = k then (m.1, b) else m) else ms ++ [(k, b)]
def dp (ms : List (α × β)) (k : α) : List (α × β) := ms.filter fun m => decide (m.1 ≠ k)
theorem lk_pos {m : α × β} {r : List (α × β)} {k : α} (e : m.1 = k) : lk (m :: r) k = some m.2 := by simp [lk, List.find?_cons, e]
theorem lk_neg {m : α × β} {r : List (α × β)} {k : α} (e : ¬ m.1 = k) : lk (m :: r) k = lk r k := by simp [lk, List.find?_cons, e]
theorem lk_any (k : α) : ∀ ms : List (α × β), (ms.any fun m => decide (m.1 = k)) = (lk ms k).isSome
  | [] => rfl
  | m :: r => by
    rw [List.any_cons]
    by_cases e : m.1 = k
    · rw [lk_pos e, decide_eq_true e]; rfl
    · rw [lk_neg e, decide_eq_false e, Bool.false_or]; exact lk_any k r
theorem lk_mem {k : α} {b : β} : ∀ {ms : List (α × β)}, lk ms k = some b → (k, b) ∈ ms
  | [], h => by cases h
  | m :: r, h => by
    by_cases e : m.1 = k
    · rw [lk_pos e] at h
      have e2 := Option.some.inj h
      rw [← e, ← e2]
      exact List.mem_cons_self ..
    · rw [lk_neg e] at h
      exact List.mem_cons_of_mem _ (lk_mem h)
theorem lk_of_mem {k : α} {b : β} : ∀ {ms : List (α × β)}, (ms.map (·.1)).Nodup → (k, b) ∈ ms → lk ms k = some b
  | [], _, h => by cases h
  | m :: r, hn, h => by
    rw [List.map_cons, List.nodup_cons] at hn
    rcases List.mem_cons.mp h with e | h
    · rw [← e]; exact lk_pos rfl
    · have ne : ¬ m.1 = k := fun e => hn.1 (by rw [e]; exact List.mem_map_of_mem (f := (·.1)) h)
      rw [lk_neg ne]
      exact lk_of_mem hn.2 h
theorem lk_none {k : α} : ∀ {ms : List (α × β)}, lk ms k = none ↔ ∀ m ∈ ms, m.1 ≠ k
  | [] => ⟨fun _ m hm => (by cases hm), fun _ => rfl⟩
  | m :: r => by
    by_cases e : m.1 = k
    · rw [lk_pos e]
      exact ⟨fun h => (by cases h), fun h => absurd e (h m (List.mem_cons_self ..))⟩
    · rw [lk_neg e, lk_none]
      constructor
      · intro h x hx
        rcases List.mem_cons.mp hx with rfl | hx
        · exact e
        · exact h x hx
      · exact fun h x hx => h x (List.mem_cons_of_mem _ hx)
theorem lk_some_key {k : α} {ms : List (α × β)} (h : k ∈ ms.map (·.1)) : ∃ b, lk ms k = some b := by
  cases e : lk ms k with
  | some b => exact ⟨b, rfl⟩
  | none =>
    obtain ⟨m, hm, hk⟩ := List.mem_map.mp h
    exact absurd hk (lk_none.mp e m hm)
theorem pt_old {ms : List (α × β)} {k : α} {b c : β} (h : lk ms k = some c) : pt ms k b = ms.map (fun m => if m.1 = k then (m.1, b) else m) := by
  unfold pt
  rw [lk_any, h]
  rfl
theorem pt_new {ms : List (α × β)} {k : α} {b : β} (h : lk ms k = none) : pt ms k b = ms ++ [(k, b)] := by
  unfold pt
  rw [lk_any, h]
  rfl
theorem mem_pt {ms : List (α × β)} {k : α} {b : β} {m : α × β} (h : m ∈ pt ms k b) : m = (k, b) ∨ (m ∈ ms ∧ m.1 ≠ k) := by
  cases e : lk ms k with
  | none =>
    rw [pt_new e] at h
    rcases List.mem_append.mp h with h | h
    · exact .inr ⟨h, lk_none.mp e m h⟩
    · exact .inl (List.mem_singleton.mp h)
  | some c =>
    rw [pt_old e] at h
    obtain ⟨x, hx, rfl⟩ := List.mem_map.mp h
    by_cases q : x.1 = k
    · rw [if_pos q, q]; exact .inl rfl
    · rw [if_neg q]; exact .inr ⟨hx, q⟩
theorem pt_keys_old {ms : List (α × β)} {k : α} {b c : β} (h : lk ms k = some c) : (pt ms k b).map (·.1) = ms.map (·.1) := by
  rw [pt_old h, List.map_map]
  apply List.map_congr_left
  intro m _
  show (if m.1 = k then (m.1, b) else m).1 = m.1
  split <;> rfl
theorem pt_keys_new {ms : List (α × β)} {k : α} {b : β} (h : lk ms k = none) : (pt ms k b).map (·.1) = ms.map (·.1) ++ [k] := by
  rw [pt_new h, List.map_append]
  rfl
theorem pt_nodup {ms : List (α × β)} {k : α} {b : β} (hn : (ms.map (·.1)).Nodup) : ((pt ms k b).map (·.1)).Nodup := by
  cases e : lk ms k with
  | none =>
    rw [pt_keys_new e, List.nodup_append]
    refine ⟨hn, List.nodup_cons.mpr ⟨List.not_mem_nil, List.nodup_nil⟩, fun x hx y hy z => ?_⟩
    rw [List.mem_singleton.mp hy] at z
    obtain ⟨m, hm, hk⟩ := List.mem_map.mp hx
    exact lk_none.mp e m hm (hk.trans z)
  | some c => rw [pt_keys_old e]; exact hn
theorem lk_snoc {k j : α} {b : β} : ∀ {ms : List (α × β)}, lk ms k = none → lk (ms ++ [(k, b)]) j = if j = k then some b else lk ms j
  | [], _ => by
    by_cases q : j = k
    · rw [if_pos q]; exact lk_pos q.symm
    · rw [if_neg q]; exact lk_neg (fun z => q z.symm)
  | m :: r, h => by
    rw [List.cons_append]
    by_cases p : m.1 = k
    · rw [lk_pos p] at h; cases h
    · rw [lk_neg p] at h
      by_cases q : m.1 = j
      · rw [lk_pos q, lk_pos q, if_neg (fun z => p (q.trans z))]
      · rw [lk_neg q, lk_neg q, lk_snoc h]
theorem lk_repl {k j : α} {b : β} : ∀ {ms : List (α × β)}, lk (ms.map fun m => if m.1 = k then (m.1, b) else m) j = (lk ms j).map fun x => if j = k then b else x
  | [] => rfl
  | m :: r => by
    rw [List.map_cons]
    by_cases h : m.1 = k
    · rw [if_pos h]
      by_cases q : m.1 = j
      · rw [lk_pos (m := (m.1, b)) q, lk_pos q, Option.map_some, if_pos (q.symm.trans h)]
      · rw [lk_neg (m := (m.1, b)) q, lk_neg q, lk_repl]
    · rw [if_neg h]
      by_cases q : m.1 = j
      · rw [lk_pos q, lk_pos q, Option.map_some, if_neg (fun z => h (q.trans z))]
      · rw [lk_neg q, lk_neg q, lk_repl]
theorem lk_pt {ms : List (α × β)} {k j : α} {b : β} : lk (pt ms k b) j = if j = k then some b else lk ms j := by
  cases e : lk ms k with
  | none => rw [pt_new e, lk_snoc e]
  | some c =>
    rw [pt_old e, lk_repl]
    by_cases q : j = k
    · rw [if_pos q, q, e, Option.map_some, if_pos rfl]
    · rw [if_neg q]
      cases lk ms j with
      | none => rfl
      | some x => rw [Option.map_some, if_neg q]
theorem lk_dp {k j : α} : ∀ {ms : List (α × β)}, lk (dp ms k) j = if j = k then none else lk ms j
  | [] => by split <;> rfl
  | m :: r => by
    have ih := lk_dp (k := k) (j := j) (ms := r)
    unfold dp at ih ⊢
    by_cases p : m.1 = k
    · rw [List.filter_cons_of_neg (by simp [p]), ih]
      by_cases q : j = k
      · rw [if_pos q, if_pos q]
      · rw [if_neg q, if_neg q, lk_neg (fun z => q (z.symm.trans p))]
    · rw [List.filter_cons_of_pos (by simp [p])]
      by_cases q : m.1 = j
      · rw [lk_pos q, lk_pos q, if_neg (fun z => p (q.trans z))]
      · rw [lk_neg q, lk_neg q, ih]
theorem mem_dp {ms : List (α × β)} {k : α} {m : α × β} : m ∈ dp ms k ↔ m ∈ ms ∧ m.1 ≠ k := by
  unfold dp
  rw [List.mem_filter, decide_eq_true_iff]
theorem dp_nodup {ms : List (α × β)} {k : α} (hn : (ms.map (·.1)).Nodup) : ((dp ms k).map (·.1)).Nodup := hn.sublist (List.Sublist.map _ List.filter_sublist)
theorem pt_length (ms : List (α × β)) (k : α) (b : β) : (pt ms k b).length ≤ ms.length + 1 := by
  unfold pt
  split
  · rw [List.length_map]; omega
  · rw [List.length_append]; show ms.length + 1 ≤ ms.length + 1; omega
theorem dp_length (ms : List (α × β)) (k : α) : (dp ms k).length ≤ ms.length := List.length_filter_le _ _
/-! ### as the heap has them -/
variable {κ : Type} [DecidableEq κ] {g : α → κ} {r r' : α → V}
theorem val_map (gi : ∀ a b, g a = g b → a = b) {k : α} : ∀ {ms : List (α × β)}, valV (ms.map fun m => (g m.1, r m.1)) (g k) = (lk ms k).map fun _ => r k
  | [] => rfl
  | m :: t => by
    rw [List.map_cons]
    by_cases e : m.1 = k
    · rw [lk_pos e, valV_pos (p := (g m.1, r m.1)) (by rw [e]), Option.map_some, e]
    · rw [lk_neg e, valV_neg (p := (g m.1, r m.1)) (fun z => e (gi _ _ z)), val_map gi]
theorem map_pt (gi : ∀ a b, g a = g b → a = b) {k : α} {b : β} (h : ∀ t, t ≠ k → r' t = r t) {ms : List (α × β)} : (pt ms k b).map (fun m => (g m.1, r' m.1)) = putK (ms.map fun m => (g m.1, r m.1)) (g k) (r' k) := by
  unfold putK
  rw [valV_any, val_map gi]
  cases e : lk ms k with
  | none =>
    rw [pt_new e, List.map_append, if_neg (by simp)]
    congr 1
    apply List.map_congr_left
    intro m hm
    rw [h m.1 (lk_none.mp e m hm)]
  | some c =>
    rw [pt_old e, if_pos (by simp), List.map_map, List.map_map]
    apply List.map_congr_left
    intro m hm
    show (g (if m.1 = k then (m.1, b) else m).1, r' (if m.1 = k then (m.1, b) else m).1) = if g m.1 = g k then (g m.1, r' k) else (g m.1, r m.1)
    by_cases q : m.1 = k
    · rw [if_pos q, if_pos (by rw [q]), q]
    · rw [if_neg q, if_neg (fun z => q (gi _ _ z)), h _ q]
theorem map_dp (gi : ∀ a b, g a = g b → a = b) {k : α} {ms : List (α × β)} : (dp ms k).map (fun m => (g m.1, r m.1)) = dropK (ms.map fun m => (g m.1, r m.1)) (g k) := by
  unfold dp dropK
  rw [List.filter_map]
  congr 1
  apply List.filter_congr
  intro m _
  show decide (m.1 ≠ k) = decide (g m.1 ≠ g k)
  by_cases q : m.1 = k
  · rw [q]; simp
  · have q2 : g m.1 ≠ g k := fun z => q (gi _ _ z)
    rw [decide_eq_true q, decide_eq_true q2]
/-- the same keys, other values -/
theorem map_pt_old {k : α} {b c : β} {ms : List (α × β)} (e : lk ms k = some c) : (pt ms k b).map (fun m => (g m.1, r m.1)) = ms.map fun m => (g m.1, r m.1) := by
  rw [pt_old e, List.map_map]
  apply List.map_congr_left
  intro m _
  show (g (if m.1 = k then (m.1, b) else m).1, r (if m.1 = k then (m.1, b) else m).1) = _
  split <;> rfl
end
end Kd

/-! what stays of a heap: all but the objects of a set N -/
namespace Kd
open PySem PySem.Spec PyProof.Rows L2 LamX
/-- a tuple, known or not -/
def IsT (o : HO) : Prop := (∃ xs, o = .tup xs) ∨ ∃ u xs, o = .frz u (.tup xs)
def NoTb (o : HO) : Prop := ∀ ps, o ≠ .tbl ps
/-- what a program changes -/
def Chg : HO → Prop
  | .lst _ => True
  | .dK _ => True
  | .dT _ => True
  | .ins .. => True
  | _ => False
theorem Chg.notT {o : HO} (h : Chg o) : ¬ IsT o := by
  rintro (⟨xs, rfl⟩ | ⟨u, xs, rfl⟩) <;> exact h
theorem Chg.noTb {o : HO} (h : Chg o) : NoTb o := fun ps z => by rw [z] at h; exact h
theorem IsT.noTb {o : HO} (h : IsT o) : NoTb o := by
  rcases h with ⟨xs, rfl⟩ | ⟨u, xs, rfl⟩ <;> intro ps z <;> cases z
abbrev TB := List (Addr × Str)
structure Fr (T : TB) (N : Addr → Prop) (H H' : Hp) : Prop where
  st : ∀ b o, H b = some o → NoTb o → (IsT o ∨ ¬ N b) → H' b = some o
  tb : Tabs T H → Tabs T H'
/-- the tuples and the objects of M stay -/
def Keep (M : Addr → Prop) (H H' : Hp) : Prop := ∀ b o, H b = some o → NoTb o → (IsT o ∨ M b) → H' b = some o
def no (_ : Addr) : Prop := False
section
variable {K : PySem.W.Frag} {T : TB} {N N' M : Addr → Prop} {H H' H1 H2 : Hp} {a b p : Addr} {o o' : HO}
theorem Fr.refl : Fr T N H H := ⟨fun _ _ e _ _ => e, id⟩
theorem Fr.trans (f : Fr T N H H1) (g : Fr T N H1 H2) : Fr T N H H2 := ⟨fun b o e t c => g.st b o (f.st b o e t c) t c, fun t => g.tb (f.tb t)⟩
theorem Fr.of (s : Same H H') : Fr T N H H' := ⟨fun b o e _ _ => s b o e, fun t => t.ext s⟩
theorem Fr.ext (s : ExtN H H') (t : Tabs T H') : Fr T N H H' := ⟨fun b o e n _ => s b o e n, fun _ => t⟩
theorem Fr.mono (f : Fr T N H H') (h : ∀ b, N b → N' b) : Fr T N' H H' := ⟨fun b o e t c => f.st b o e t (c.imp id fun z q => z (h b q)), f.tb⟩
theorem Fr.put (e : H b = some o) (c : Chg o) (n : N b) : Fr T N H (upd H b o') := by
  refine ⟨fun d u e2 t q => ?_, fun t r hr => ?_⟩
  · by_cases z : d = b
    · subst z
      rw [e] at e2
      cases e2
      exact q.elim (fun q => absurd q c.notT) fun q => absurd n q
    · rw [upd_ne z]; exact e2
  · obtain ⟨ps, h1, h2, h3⟩ := t r hr
    refine ⟨ps, ?_, h2, fun pos cv hc => ?_⟩
    · rw [upd_ne (fun z => by rw [z, e] at h1; exact c.noTb ps (Option.some.inj h1))]; exact h1
    · obtain ⟨d, e1, e2⟩ := h3 pos cv hc
      refine ⟨d, e1, ?_⟩
      rw [upd_ne (fun z => by
        rw [z, e] at e2
        rw [Option.some.inj e2] at c
        exact c)]
      exact e2
theorem Fr.keep (f : Fr T N H H') (d : ∀ b, M b → ¬ N b) : Keep M H H' := fun b o e t c => f.st b o e t (c.imp id (d b))
theorem Fr.at (f : Fr T N H H') (e : H b = some o) (c : Chg o) (n : ¬ N b) : H' b = some o := f.st b o e c.noTb (.inr n)
theorem Fr.tup (f : Fr T N H H') {xs : List V} (e : H b = some (.tup xs)) : H' b = some (.tup xs) := f.st b _ e (fun _ z => nomatch z) (.inl (.inl ⟨xs, rfl⟩))
theorem Keep.refl : Keep M H H := fun _ _ e _ _ => e
theorem Keep.trans (f : Keep M H H1) (g : Keep M H1 H2) : Keep M H H2 := fun b o e t c => g b o (f b o e t c) t c
theorem Keep.of (s : Same H H') : Keep M H H' := fun b o e _ _ => s b o e
theorem Keep.mono (f : Keep M H H') (h : ∀ b, N b → M b) : Keep N H H' := fun b o e t c => f b o e t (c.imp id (h b))
theorem Keep.at (f : Keep M H H') (e : H b = some o) (c : Chg o) (n : M b) : H' b = some o := f b o e c.noTb (.inr n)
theorem Keep.tup (f : Keep M H H') {xs : List V} (e : H b = some (.tup xs)) : H' b = some (.tup xs) := f b _ e (fun _ z => nomatch z) (.inl (.inl ⟨xs, rfl⟩))
theorem Keep.seqT {xs : List V} (f : Keep M H H') (h : SqT K H a xs) : SqT K H' a xs := by
  rcases h with (h | ⟨u, h⟩) | h
  · exact .inl (.inl (f.tup h))
  · exact .inl (.inr ⟨u, f a _ h (fun _ z => nomatch z) (.inl (.inr ⟨u, xs, rfl⟩))⟩)
  · exact .inr h
theorem Fr.keep0 (f : Fr T N H H') : Keep no H H' := f.keep fun _ z => z.elim
theorem Fr.seqT {xs : List V} (f : Fr T N H H') (h : SqT K H a xs) : SqT K H' a xs := f.keep0.seqT h
theorem Keep.rw_at (f : Keep M H H') : ∀ {r : Rw}, r.at K H p → r.at K H' p
  | .kind .., ⟨q, h1, h2⟩ => ⟨q, f.seqT h1, f.seqT h2⟩
  | .fact .., ⟨q1, q2, h1, h2, h3⟩ => ⟨q1, q2, f.seqT h1, f.seqT h2, f.seqT h3⟩
  | .forget .., h => f.seqT h
/-- a new object -/
theorem new_of (np : H p = none) (e : upd H p o = H') : Same H H' ∧ H' p = some o := by
  subst e
  exact ⟨same_new np, upd_same⟩
/-- an object changed -/
theorem put_of (e0 : H b = some o) (c : Chg o) (n : N b) (e : upd H b o' = H') : Fr T N H H' ∧ H' b = some o' ∧ ∀ d, d ≠ b → H' d = H d := by
  subst e
  exact ⟨Fr.put e0 c n, upd_same, fun d h => upd_ne h⟩
end
/-! ### data of tuples -/
section
variable {K : PySem.W.Frag} {M : Addr → Prop} {H H' : Hp}
/-- no lists within -/
def NoL : Nat → PyData → Prop
  | 0, _ => False
  | _ + 1, .list _ => False
  | _ + 1, .dict _ => False
  | n + 1, .tuple ds => ∀ d ∈ ds, NoL n d
  | _ + 1, _ => True
mutual
theorem Keep.dp' (f : Keep M H H') : ∀ (d : PyData) (n : Nat) (v : V), NoL n d → Dp K H v d → Dp K H' v d
  | .none, _, _, _, h => by cases h; exact .non
  | .bool b, _, _, _, h => by cases h; exact .bl b
  | .int i, _, _, _, h => by cases h; exact .int i
  | .str x, _, _, _, h => by cases h; exact .str x
  | .list ds, 0, _, q, _ => q.elim
  | .list ds, _ + 1, _, q, _ => q.elim
  | .tuple ds, 0, _, q, _ => q.elim
  | .tuple ds, n + 1, _, q, h => by
    cases h with
    | tup r s => exact .tup (f.seqT r) (Keep.dpall' f ds n _ q s)
  | .dict _, _, _, _, h => by cases h
theorem Keep.dpall' (f : Keep M H H') : ∀ (ds : List PyData) (n : Nat) (vs : List V), (∀ d ∈ ds, NoL n d) → DpAll K H vs ds → DpAll K H' vs ds
  | [], _, _, _, h => by cases h; exact .nil
  | d :: ds, n, _, q, h => by
    cases h with
    | cons r s => exact .cons (Keep.dp' f d n _ (q d (List.mem_cons_self ..)) r) (Keep.dpall' f ds n _ (fun e he => q e (List.mem_cons_of_mem _ he)) s)
end
theorem Keep.dp (f : Keep M H H') {d : PyData} {n : Nat} {v : V} (q : NoL n d) (h : Dp K H v d) : Dp K H' v d := f.dp' d n v q h
end
end Kd

namespace Kd
open PySem PySem.Spec PyProof.Rows L2
section
variable {P : Program} {w : World} {K : PySem.W.Frag} {mg : Str → Option Value} {base : Heap} {f : Addr} {fd : FuncData}
/-! ### attributes_of -/
def spAttr (K : PySem.W.Frag) (C : Addr) : Sp := fun vs H Q _ => ∃ (x : Addr) (n : Str) (ds : List (Str × List (Str × Str))) (ms : List Str), vs = [.ref x, .str n] ∧ PlanAt K C H x ds ms ∧
  (∀ d q H', ds.find? (fun d => decide (d.1 = n)) = some d → AttsAt K H' q d.2 → Same H H' → Q (.ref q) H') ∧ (ds.find? (fun d => decide (d.1 = n)) = none → ∀ H', Same H H' → Q .non H')
theorem sc_attr : FnScope ["plan", "dimension", "name", "attributes"] ["plan", "dimension"] (defScope s_attributes_of) := ⟨rfl, rfl, rfl, by decide +kernel, rfl, by decide +kernel, by decide +kernel⟩
theorem ok_attr {C fd1 : Addr} {fdd : FuncData} (F : FnP K "attributes_of" "attributes_of" s_attributes_of f fd) (T : PlTxt K C) (GD : FnOk P w K mg base CX0 1 fd1 fdd ["self"] (spDims K C)) (bD : Binds K fdd ["self"] []) (mD : Meth K C "dimensions" fd1) : FnOk P w K mg base CX0 2 f fd ["plan", "dimension"] (spAttr K C) := by
  refine F.ok sc_attr (fun vs H Q E h => ?_) (fun cdv A outer s H vs Q E hr h => ?_)
  · obtain ⟨x, n, ds, ms, rfl, _⟩ := h
    rfl
  · obtain ⟨x, n, ds, ms, rfl, hp, k1, k2⟩ := h
    have nd := sc_attr.nd
    obtain ⟨dx, pa, pb, px, e1, e2, e3, e4⟩ := id hp.ex
    refine ⟨_, PSs.nox (pss_cons (ps_for PassesOwn.never rfl (pi_list (pe_meth0 (pv 0) T.cl mD GD hr bD .nil pass0)) (pg_tup rfl (pgs_cons (pg_name (i := 2) nd rfl (Or.inl rfl)) (pgs_cons (pg_name (i := 3) nd rfl (Or.inl rfl)) pgs_nil)))
        (pss_one (ps_if (pt_cmpR op_eq (pv 2) (pv 1) (nomark _)) (pss_one (ps_ret (pv 3))) pss_nil)))
      (pss_one (ps_ret pe_non))), ?_⟩
    refine ⟨_, rfl, x, dx, _, rfl, e1, pl_no0 (by decide +kernel) (by decide +kernel), x, ds, ms, rfl, hp, fun l xs nl pl => ?_⟩
    have s1 : Same H (upd H l (.lst xs)) := same_new nl
    refine ⟨l, rfl, ⟨_, SqL.of upd_same⟩, for_list (K := K) (a := l) (xs := xs) (fun i σ H2 => ∃ u v, σ = [some (.ref x), some (.str n), u, v] ∧ Same (upd H l (.lst xs)) H2 ∧ (ds.take i).find? (fun d => decide (d.1 = n)) = none) ⟨_, _, rfl, Same.refl _, rfl⟩ (fun i σ H2 _ ⟨_, _, _, s2, _⟩ => SqL.of (s2 _ _ upd_same)) ?_ ?_⟩
    · rintro i y σ H2 hi ⟨u, v, rfl, s2, na⟩
      obtain ⟨d, hd, p, q, rfl, h1, h2⟩ := paired_at pl hi
      have s02 := s1.trans s2
      refine ⟨p, _, rfl, Same.seqT s02 h1, rfl, _, _, rfl, _, _, rfl, rfl, ?_⟩
      refine ⟨_, rfl, _, rfl, rfl, _, rfl, ?_⟩
      obtain ⟨g1, g2⟩ := List.getElem?_eq_some_iff.mp hd
      by_cases c : d.1 = n
      · rw [decide_eq_true (congrArg V.str c)]
        refine iteT ⟨_, rfl, k1 d q H2 ?_ (h2.same s02) s02⟩
        rw [← List.take_append_drop i ds, List.find?_append, na, List.drop_eq_getElem_cons g1, g2, List.find?_cons_of_pos (by simp [c])]
        rfl
      · rw [decide_eq_false (fun z => c (by injection z))]
        refine iteF ⟨_, _, rfl, s2, ?_⟩
        rw [List.take_succ_eq_append_getElem g1, List.find?_append, na, g2, List.find?_cons_of_neg (by simp [c])]
        rfl
    · rintro σ H2 ⟨u, v, rfl, s2, na⟩
      have hl := pl.length
      rw [hl, List.take_length] at na
      exact k2 na H2 (s1.trans s2)
/-! ### changes_day -/
def dif (ws : List Str) (o n : List Fv) (j : Nat) : Bool := decide (ws.getD j Str.empty = "day") && !decide (o.getD j (.i 0) = n.getD j (.i 0))
def chg (ws : List Str) (o n : List Fv) : Bool := (List.range ws.length).any (dif ws o n)
def spChg (K : PySem.W.Frag) : Sp := fun vs H Q _ => ∃ (l a b : Addr) (ws : List Str) (o n : List Fv), vs = [.ref l, .ref a, .ref b] ∧ SqL K H l (ws.map V.str) ∧ SqT K H a (o.map Fv.v) ∧ SqT K H b (n.map Fv.v) ∧ o.length = ws.length ∧ n.length = ws.length ∧ ws.length ≤ 5 ∧ ∀ H', Same H H' → Q (.bl (chg ws o n)) H'
theorem sc_chg : FnScope ["ways", "old", "new", "at", "way"] ["ways", "old", "new"] (defScope s_changes_day) := ⟨rfl, rfl, rfl, by decide +kernel, rfl, by decide +kernel, by decide +kernel⟩
theorem ok_chg (F : FnP K "changes_day" "changes_day" s_changes_day f fd) (gA : mg "any" = none) (gE : mg "enumerate" = none) : FnOk P w K mg base CX0 1 f fd ["ways", "old", "new"] (spChg K) := by
  refine F.ok sc_chg (fun vs H Q E h => ?_) (fun cdv A outer s H vs Q E hr h => ?_)
  · obtain ⟨l, a, b, ws, o, n, rfl, _⟩ := h
    rfl
  · obtain ⟨l, a, b, ws, o, n, rfl, hl, ha, hb, lo, ln, lw, k⟩ := h
    have nd := sc_chg.nd
    refine ⟨_, PSs.nox (pss_one (ps_ret (pe_callB (cr_any rfl) (by rfl) gA (by decide +kernel) (pa_cons (pe_lc (own := [("at", 3), ("way", 4)]) (g := gTup K 2 (gCons (gName 3) (gCons (gName 4) gNil))) (tt := tYes) (te := tAndV (tOp rEq (tVar 4) (tC (.str "day"))) (tOp rNe (tOp (rIxT K) (tVar 1) (tVar 3)) (tOp (rIxT K) (tVar 2) (tVar 3)))) rfl nd (pi_enum rfl gE (pa_cons (pv 0) pa_nil)) (blkOk_by (own := [("at", 3), ("way", 4)]) (N := ["ways", "old", "new", "at", "way"]) (sc := defScope s_changes_day) (by decide +kernel))
      (fun _ _ _ _ _ => pg_tup rfl (pgs_cons (pg_name (i := 3) nd rfl (Or.inl rfl)) (pgs_cons (pg_name (i := 4) nd rfl (Or.inl rfl)) pgs_nil))) (fun _ _ _ _ _ => pts_nil) (fun _ _ _ _ _ => pe_and (pe_cmpR op_eq (pv 4) pe_str (nomark _)) (pe_one (pe_cmpR op_ne (pe_ix ix_tup (pv 1) (pv 3) (fun _ _ => rfl)) (pe_ix ix_tup (pv 2) (pv 3) (fun _ _ => rfl)) (nomark _))))) pa_nil)))), ?_⟩
    refine ⟨_, rfl, l, _, rfl, hl, fun D hD => lc_build (walk_enum (K := K) (a := l) (xs := ws.map V.str)) hD (fun i ys R => Same H R ∧ ys = (List.range i).map fun j => V.bl (dif ws o n j)) ⟨Same.refl H, rfl⟩ (fun _ _ _ _ p => (p.1.trans cd_sub).seq hl) ?_ ?_⟩
    · rintro i ys y H2 H2' hi e ly ⟨sm, rfl⟩ ⟨T, x1, y1, rfl, nT, rfl, e1, e2⟩
      rw [List.length_map] at hi
      cases e1
      obtain ⟨z, rfl, e3⟩ := strs_at e2
      have nDT : D ≠ T := ne_of_none e nT
      have s2 : Same H (cd D (upd H2 T (.tup [.int (i : Nat), .str z]))) := sm.trans (cd_same (same_new nT))
      have ho : (o.map Fv.v)[i]? = some (o[i]'(by omega)).v := map_at (by omega)
      have hn : (n.map Fv.v)[i]? = some (n[i]'(by omega)).v := map_at (by omega)
      refine ⟨T, _, rfl, SqT.of upd_same, rfl, _, _, rfl, _, _, rfl, rfl, rfl, yes ?_⟩
      refine ⟨_, rfl, rfl, _, rfl, ?_⟩
      have ew : ws.getD i Str.empty = z := by rw [List.getD_eq_getElem?_getD, e3]; rfl
      have add : ∀ b, dif ws o n i = b → ∃ acc, (upd H2 T (.tup [.int (i : Nat), .str z])) D = some (.lst acc) ∧ acc.length < sizeLine ∧ LcNx D (fun i ys R => Same H R ∧ ys = (List.range i).map fun j => V.bl (dif ws o n j)) (i + 1) (upd (upd H2 T (.tup [.int (i : Nat), .str z])) D (.lst (acc ++ [V.bl b]))) := fun b hb =>
        LcNx.add (by rw [upd_ne nDT]; exact e) ly (by omega) ⟨s2, by rw [← hb, List.range_succ, List.map_append]; rfl⟩
      by_cases c : z = "day"
      · rw [decide_eq_true (congrArg V.str c)]
        refine iteT ⟨_, rfl, _, rfl, a, _, _, _, rfl, rfl, Same.seqT (s2.trans cd_sub) ha, atI_nat ho, _, rfl, _, rfl, b, _, _, _, rfl, rfl, Same.seqT (s2.trans cd_sub) hb, atI_nat hn, Fv.scal _ _, ?_⟩
        rw [Fv.ne]
        refine add _ ?_
        unfold dif
        rw [ew, decide_eq_true c, Bool.true_and]
        have q1 : o.getD i (.i 0) = o[i]'(by omega) := by simp [List.getD_eq_getElem?_getD, show i < o.length by omega]
        have q2 : n.getD i (.i 0) = n[i]'(by omega) := by simp [List.getD_eq_getElem?_getD, show i < n.length by omega]
        rw [q1, q2]
      · rw [decide_eq_false (fun q => c (by injection q))]
        refine iteF (add _ ?_)
        unfold dif
        rw [ew, decide_eq_false c, Bool.false_and]
    · rintro ys H2 e ly ⟨sm, rfl⟩
      rw [List.length_map] at e
      refine ⟨D, (List.range ws.length).map (dif ws o n), rfl, SqL.of (by rw [List.map_map]; exact e), ?_⟩
      have e1 : ((List.range ws.length).map (dif ws o n)).any id = chg ws o n := by
        unfold chg
        rw [List.any_map]
        rfl
      rw [e1]
      exact k H2 (sm.trans cd_sub)
end
end Kd

namespace Kd
open PySem PySem.Spec PyProof.Rows L2
section
variable {P : Program} {w : World} {K : PySem.W.Frag} {mg : Str → Option Value} {base : Heap} {f : Addr} {fd : FuncData}
/-! ### opening_kinds -/
def nxt (ws : List Str) (p : Kind × Kind) : Bool := chg ws p.1.2 p.2.2
def opn (ws : List Str) (ks : List Kind) : List Kind := ks.take 1 ++ ((ks.zip (ks.drop 1)).filter (nxt ws)).map (·.2)
def spOpen (K : PySem.W.Frag) : Sp := fun vs H Q _ => ∃ (l m : Addr) (ws : List Str) (ks : List Kind), vs = [.ref l, .ref m] ∧ SqL K H l (ws.map V.str) ∧ KindsAt K H m ks ∧ (∀ k ∈ ks, k.2.length = ws.length) ∧ ws.length ≤ 5 ∧ ks.length ≤ 4000 ∧
  ∀ r ys H', H' r = some (.lst ys) → Paired (KindAt K H') ys (opn ws ks) → Same H H' → Q (.ref r) H'
theorem sc_open : FnScope ["ways", "ordered", "openers", "ahead", "kind"] ["ways", "ordered"] (defScope s_opening_kinds) := ⟨rfl, rfl, rfl, by decide +kernel, rfl, by decide +kernel, by decide +kernel⟩
theorem kind_list {H : Hp} {l : Addr} {L : List V} {y : V} {k : Kind} (hl : H l = some (.lst L)) : KindAt K H y k → KindAt K (cd l H) y k := fun ⟨p, q, h1, h2, h3⟩ => ⟨p, q, h1, seqT_list0 hl h2, seqT_list0 hl h3⟩
theorem kind_store {H : Hp} {l : Addr} {L : List V} {o : HO} {y : V} {k : Kind} (hl : H l = some (.lst L)) (h : KindAt K H y k) : KindAt K (upd H l o) y k :=
  (kind_list hl h).same fun b u e => by rw [upd_ne (ct_ne e).1]; exact cd_sub _ _ e
theorem paired_take {α β : Type} {R : α → β → Prop} : ∀ (n : Nat) {l : List α} {m : List β}, Paired R l m → Paired R (l.take n) (m.take n)
  | 0, _, _, _ => .nil
  | n + 1, _, _, .nil => .nil
  | n + 1, _, _, .cons h t => .cons h (paired_take n t)
theorem cut1 (xs : List V) : cutV xs none (some 1) = xs.take 1 := by
  unfold cutV
  rw [HT.sIx_none]
  have e : HT.sIx xs.length xs.length (some ((1 : Nat) : Int)) = min 1 xs.length := HT.sIx_nat _ _ _
  have e2 : HT.sIx xs.length xs.length (some 1) = min 1 xs.length := e
  rw [e2]
  cases xs with
  | nil => rfl
  | cons x r => simp
theorem cutR (xs : List V) : cutV xs (some 1) none = xs.drop 1 := by
  unfold cutV
  rw [HT.sIx_none]
  have e : HT.sIx xs.length 0 (some ((1 : Nat) : Int)) = min 1 xs.length := HT.sIx_nat _ _ _
  have e2 : HT.sIx xs.length 0 (some 1) = min 1 xs.length := e
  rw [e2]
  cases xs with
  | nil => rfl
  | cons x r => simp
theorem ok_open {fC : Addr} {fdC : FuncData} (F : FnP K "opening_kinds" "opening_kinds" s_opening_kinds f fd) (GC : FnOk P w K mg base CX0 1 fC fdC ["ways", "old", "new"] (spChg K)) (kC : PySem.W.keepIn K (.ref fC) = true) (bC : Binds K fdC ["ways", "old", "new"] []) (gC : mg "changes_day" = some (.ref fC)) (gZ : mg "zip" = none) :
    FnOk P w K mg base CX0 2 f fd ["ways", "ordered"] (spOpen K) := by
  refine F.ok sc_open (fun vs H Q E h => ?_) (fun cdv A outer s H vs Q E hr h => ?_)
  · obtain ⟨l, m, ws, ks, rfl, _⟩ := h
    rfl
  · obtain ⟨l, m, ws, ks, rfl, hl, ⟨xs, hm, hp⟩, hk, lw, lk, k⟩ := h
    have nd := sc_open.nd
    have hlen := hp.length
    refine ⟨_, PSs.nox (pss_cons (ps_set (i := 2) nd rfl (Or.inl rfl) (pe_slice sl_list (pv 1) po_none (po_some pe_int)))
      (pss_cons (ps_for PassesOwn.never rfl (pi_zip rfl gZ (pa_cons (pv 1) (pa_cons (pe_slice sl_list (pv 1) (po_some pe_int) po_none) pa_nil))) (pg_tup rfl (pgs_cons (pg_name (i := 3) nd rfl (Or.inl rfl)) (pgs_cons (pg_name (i := 4) nd rfl (Or.inl rfl)) pgs_nil)))
        (pss_one (ps_if (pt_val (pe_call GC hr rfl gC kC bC .nil pass0 (pa_cons (pv 0) (pa_cons (pe_ix ix_tup (pv 3) pe_int (fun _ _ => rfl)) (pa_cons (pe_ix ix_tup (pv 4) pe_int (fun _ _ => rfl)) pa_nil)))))
          (pss_one (ps_expr (pe_bm PySem.F.plainAttrs_list PySem.F.slot_list_append PySem.F.type_list_append mt_append (pv 2) (pa_cons (pv 4) pa_nil)))) pss_nil)))
      (pss_one (ps_ret (pv 2))))), ?_⟩
    refine ⟨_, rfl, _, rfl, m, xs, rfl, hm, fun r nr => ?_⟩
    rw [cut1]
    have s1 : Same H (upd H r (.lst (xs.take 1))) := same_new nr
    refine ⟨_, rfl, _, rfl, _, rfl, m, xs, rfl, s1.seq hm, fun z nz => ?_⟩
    rw [cutR]
    have nrz : r ≠ z := ne_of_none upd_same nz
    have s2 : Same (upd H r (.lst (xs.take 1))) (upd (upd H r (.lst (xs.take 1))) z (.lst (xs.drop 1))) := same_new nz
    have hzr : cd r (upd (upd H r (.lst (xs.take 1))) z (.lst (xs.drop 1))) z = some (.lst (xs.drop 1)) := cd_of upd_same nrz.symm
    have s02 : Same H (cd r (upd (upd H r (.lst (xs.take 1))) z (.lst (xs.drop 1)))) := Same.cd (s1.trans s2) nr
    refine ⟨m, z, xs, xs.drop 1, rfl, (s1.trans s2).seq hm, SqL.of upd_same, ?_⟩
    refine for_it (walk_zip (K := K) (n := (xs.drop 1).length) (by rw [List.length_drop]; omega)) (fun i σ H2 => ∃ (ys : List V) (u v : Option V), σ = [some (.ref l), some (.ref m), some (.ref r), u, v] ∧ H2 r = some (.lst ys) ∧ Paired (KindAt K H2) ys (ks.take 1 ++ (((ks.zip (ks.drop 1)).take i).filter (nxt ws)).map (·.2)) ∧ ys.length ≤ i + 1 ∧ Same (cd r (upd (upd H r (.lst (xs.take 1))) z (.lst (xs.drop 1)))) (cd r H2))
      ⟨xs.take 1, _, _, rfl, s2 _ _ upd_same, ?_, by rw [List.length_take]; omega, Same.refl _⟩ (fun i σ H2 _ ⟨_, _, _, _, _, _, _, s3⟩ => ⟨((s02.trans s3).trans cd_sub).seq hm, SqL.of (cd_sub _ _ (s3 _ _ hzr))⟩) ?_ ?_
    · rw [List.take_zero, List.filter_nil, List.map_nil, List.append_nil]
      exact paired_take 1 (PySem.Paired.mono (fun _ _ => KindAt.same (s1.trans s2)) hp)
    · rintro i y σ H2 H3 hi ⟨ys, u, v, rfl, h2, p2, ly, s3⟩ ⟨T, x1, y1, rfl, nT, rfl, e1, e2⟩
      rw [List.length_drop] at hi
      have e1 : xs[i]? = some x1 := e1
      have e2 : (xs.drop 1)[i]? = some y1 := e2
      rw [List.getElem?_drop] at e2
      obtain ⟨k1, q1, p, q, rfl, a1, a2⟩ := paired_at hp e1
      obtain ⟨k2, q2, p', q', rfl, b1, b2⟩ := paired_at hp e2
      have nrT : r ≠ T := ne_of_none h2 nT
      have s4 : Same H2 (upd H2 T (.tup [.ref p, .ref p'])) := same_new nT
      have s04 : Same H (upd H2 T (.tup [.ref p, .ref p'])) := ((s02.trans s3).trans cd_sub).trans s4
      refine ⟨T, _, rfl, SqT.of upd_same, rfl, _, _, rfl, _, _, rfl, rfl, ?_⟩
      have n1 := hk k1 (List.mem_of_getElem? q1)
      have n2 := hk k2 (List.mem_of_getElem? q2)
      refine ⟨_, rfl, _, rfl, p, _, _, _, rfl, rfl, Same.seqT s04 a1, atI_nat (j := 1) rfl, _, rfl, p', _, _, _, rfl, rfl, Same.seqT s04 b1, atI_nat (j := 1) rfl, l, q, q', ws, k1.2, k2.2, rfl, s04.seq hl, Same.seqT s04 a2, Same.seqT s04 b2, n1, n2, lw, fun H5 s5 => ⟨_, rfl, ?_⟩⟩
      have s25 := s4.trans s5
      have h5 := s25 _ _ h2
      have p5 : Paired (KindAt K H5) ys _ := PySem.Paired.mono (fun _ _ => KindAt.same s25) p2
      have g1 : i < (ks.zip (ks.drop 1)).length := by rw [List.length_zip, List.length_drop]; omega
      have g2 : (ks.zip (ks.drop 1))[i] = (k1, k2) := by
        obtain ⟨c1, c2⟩ := List.getElem?_eq_some_iff.mp q1
        obtain ⟨c3, c4⟩ := List.getElem?_eq_some_iff.mp q2
        rw [List.getElem_zip, List.getElem_drop, c2]
        have c5 : ks[1 + i]'(by omega) = k2 := c4
        rw [c5]
      have et : ((ks.zip (ks.drop 1)).take (i + 1)).filter (nxt ws) = ((ks.zip (ks.drop 1)).take i).filter (nxt ws) ++ [(k1, k2)].filter (nxt ws) := by
        rw [List.take_succ_eq_append_getElem g1, List.filter_append, g2]
      by_cases c : chg ws k1.2 k2.2 = true
      · rw [c]
        refine iteT ⟨_, rfl, .inl ⟨rfl, _, SqL.of h5⟩, _, rfl, r, _, _, rfl, rfl, h5, Nat.lt_of_le_of_lt (by omega : ys.length ≤ 4000) (by decide), ?_⟩
        refine ⟨ys ++ [.ref p'], _, _, rfl, upd_same, ?_, by rw [List.length_append]; show ys.length + 1 ≤ i + 1 + 1; omega, ?_⟩
        · rw [et, List.filter_cons_of_pos (by exact c), List.filter_nil, List.map_append, ← List.append_assoc]
          exact PySem.Paired.snoc (PySem.Paired.mono (fun _ _ => kind_store h5) p5) (kind_store h5 ⟨p', q', rfl, Same.seqT (s04.trans s5) b1, Same.seqT (s04.trans s5) b2⟩)
        · rw [cd_upd]
          exact s3.trans (cd_same s25)
      · have c : chg ws k1.2 k2.2 = false := by simpa using c
        rw [c]
        refine iteF ⟨ys, _, _, rfl, h5, ?_, by omega, s3.trans (cd_same s25)⟩
        rw [et, List.filter_cons_of_neg (by show ¬ chg ws k1.2 k2.2 = true; rw [c]; decide), List.filter_nil, List.append_nil]
        exact p5
    · rintro σ H2 ⟨ys, u, v, rfl, h2, p2, ly, s3⟩
      have e : (ks.zip (ks.drop 1)).take (xs.drop 1).length = ks.zip (ks.drop 1) := List.take_of_length_le (by rw [List.length_zip, List.length_drop, List.length_drop]; omega)
      rw [e] at p2
      exact ⟨_, rfl, k r ys H2 h2 p2 ((s02.trans s3).trans cd_sub)⟩
/-! ### last_and_unlike -/
def optD : Option Fv → PyData
  | none => .none
  | some a => a.d
def optV : Option Fv → V
  | none => .non
  | some a => a.v
theorem optV_dp {H : Hp} (a : Option Fv) : Dp K H (optV a) (optD a) := by
  cases a
  · exact .non
  · exact Fv.dp _
/-- the last one, and the last one that is unlike it -/
def unl (cs : List Fv) : Option Fv × Option Fv := match cs.getLast? with
  | none => (none, none)
  | some l => (some l, (cs.filter fun c => !decide (c = l)).getLast?)
def spLast (K : PySem.W.Frag) : Sp := fun vs H Q _ => ∃ (l : Addr) (cs : List Fv), vs = [.ref l] ∧ SqL K H l (cs.map Fv.v) ∧ cs.length ≤ 4000 ∧ ∀ r H', Dp K H' (.ref r) (.tuple [optD (unl cs).1, optD (unl cs).2]) → Same H H' → Q (.ref r) H'
theorem sc_last : FnScope ["column", "last", "value", "unlike"] ["column"] (defScope s_last_and_unlike) := ⟨rfl, rfl, rfl, by decide +kernel, rfl, by decide +kernel, by decide +kernel⟩
theorem atI_end {α : Type} {xs : List α} {a : α} (h : xs.getLast? = some a) : atI xs (-1) = some a := by
  obtain ⟨r, rfl⟩ := List.getLast?_eq_some_iff.mp h
  exact atI_last r a
theorem last_map {cs : List Fv} : (cs.map Fv.v).getLast? = cs.getLast?.map Fv.v := List.getLast?_map
theorem ok_last (F : FnP K "last_and_unlike" "last_and_unlike" s_last_and_unlike f fd) : FnOk P w K mg base CX0 1 f fd ["column"] (spLast K) := by
  refine F.ok sc_last (fun vs H Q E h => ?_) (fun cdv A outer s H vs Q E hr h => ?_)
  · obtain ⟨l, cs, rfl, _⟩ := h
    rfl
  · obtain ⟨l, cs, rfl, hl, lc, k⟩ := h
    have nd := sc_last.nd
    refine ⟨_, PSs.nox (pss_cons (ps_if (pt_not (pt_truth (pv 0) (by intro _; rfl))) (pss_one (ps_ret (pe_tup (pa_cons pe_non (pa_cons pe_non pa_nil))))) pss_nil)
      (pss_cons (ps_set (i := 1) nd rfl (Or.inr rfl) (pe_ix ix_list (pv 0) (pe_un un_neg pe_int) (fun _ _ => rfl)))
      (pss_cons (ps_setLc (i := 3) (own := [("value", 2)]) (g := gName 2) (tt := tTest (tOp rNe (tVar 2) (tVar 1))) rfl nd rfl rfl (sw_true rfl rfl rfl (by decide +kernel)) (pi_list (pv 0)) (blkOk_by (own := [("value", 2)]) (N := ["column", "last", "value", "unlike"]) (sc := defScope s_last_and_unlike) (by decide +kernel))
        (fun _ _ _ _ _ => pg_name (i := 2) nd rfl (Or.inl rfl)) (fun _ _ _ _ _ => pts_one (pt_cmpR op_ne (pv 2) (pv 1) (nomark _))) (fun _ _ _ _ _ => pv 2))
      (pss_one (ps_ret (pe_tup (pa_cons (pv 1) (pa_cons (pe_ifExp (pt_truth (pv 3) (by intro _; rfl)) (pe_ix ix_list (pv 3) (pe_un un_neg pe_int) (fun _ _ => rfl)) pe_non) pa_nil)))))))), ?_⟩
    refine ⟨_, rfl, _, .inl ⟨_, hl, rfl⟩, ?_⟩
    cases hc : cs.getLast? with
    | none =>
      have e0 : cs = [] := List.getLast?_eq_none_iff.mp hc
      subst e0
      refine iteT ⟨by show 2 ≤ sizeLine; decide, fun t nt => ?_⟩
      exact k t _ (.tup (SqT.of upd_same) (.cons .non (.cons .non .nil))) (same_new nt)
    | some a =>
      have ne : (!(cs.map Fv.v).isEmpty) = true := by
        cases cs with
        | nil => cases hc
        | cons _ _ => rfl
      rw [ne]
      refine iteF ⟨_, rfl, _, rfl, l, _, _, _, rfl, rfl, hl, atI_end (by rw [last_map, hc]; rfl), ?_⟩
      refine ⟨_, rfl, l, rfl, ⟨_, hl⟩, fun D hD => lc_build (walk_list (K := K) (a := l) (xs := cs.map Fv.v)) hD (fun i ys R => R = H ∧ ys = ((cs.take i).filter fun c => !decide (c = a)).map Fv.v) ⟨rfl, rfl⟩ (fun i ys H2 _ p => (cd_is0 p.1).seq hl) ?_ ?_⟩
      · rintro i ys y H2 H2' hi e ly ⟨ec, rfl⟩ ⟨rfl, hy⟩
        rw [List.length_map] at hi
        rw [map_at hi] at hy
        cases hy
        refine ⟨rfl, _, rfl, _, rfl, Fv.scal _ _, _, rfl, ?_⟩
        rw [Fv.ne]
        have et : (cs.take (i + 1)).filter (fun c => !decide (c = a)) = (cs.take i).filter (fun c => !decide (c = a)) ++ [cs[i]].filter (fun c => !decide (c = a)) := by
          rw [List.take_succ_eq_append_getElem hi, List.filter_append]
        by_cases c : cs[i] = a
        · rw [decide_eq_true c]
          refine iteF (LcNx.skip e ly ⟨ec, ?_⟩)
          rw [et, List.filter_cons_of_neg (by simp [c]), List.filter_nil, List.append_nil]
        · rw [decide_eq_false c]
          refine iteT ⟨_, rfl, LcNx.add e ly (by omega) ⟨ec, ?_⟩⟩
          rw [et, List.filter_cons_of_pos (by simp [c]), List.filter_nil, List.map_append]
          rfl
      · rintro ys H2 e ly ⟨ec, rfl⟩
        rw [List.length_map, List.take_length] at e
        have s2 : Same H H2 := cd_is0 ec
        refine ⟨_, rfl, _, rfl, _, .inl ⟨_, SqL.of e, rfl⟩, ?_⟩
        have eu : unl cs = (some a, (cs.filter fun c => !decide (c = a)).getLast?) := by unfold unl; rw [hc]
        rw [eu] at k
        cases hf : (cs.filter fun c => !decide (c = a)).getLast? with
        | none =>
          rw [hf] at k
          have e0 := List.getLast?_eq_none_iff.mp hf
          rw [e0]
          refine iteF ⟨by show 2 ≤ sizeLine; decide, fun t nt => ?_⟩
          exact k t _ (.tup (SqT.of upd_same) (.cons (Fv.dp a) (.cons .non .nil))) (s2.trans (same_new nt))
        | some b =>
          rw [hf] at k
          have ne2 : (!((cs.filter fun c => !decide (c = a)).map Fv.v).isEmpty) = true := by
            cases hq : cs.filter fun c => !decide (c = a) with
            | nil => rw [hq] at hf; cases hf
            | cons _ _ => rfl
          rw [ne2]
          refine iteT ⟨_, rfl, _, rfl, D, _, _, _, rfl, rfl, SqL.of e, atI_end (by rw [last_map, hf]; rfl), by show 2 ≤ sizeLine; decide, fun t nt => ?_⟩
          exact k t _ (.tup (SqT.of upd_same) (.cons (Fv.dp a) (.cons (Fv.dp b) .nil))) (s2.trans (same_new nt))
end
end Kd

/-! sorted(xs, key=lambda x: x[0]) of tuples whose first items are whole numbers -/
namespace KdLam
open PySem PySem.Spec PyProof.Rows L2
abbrev itemBody (x : Str) (p1 p2 p3 : Pos) (j : Nat) : Expr := .Subscript (.Name x p1) (.Constant (.int 0) j p2) p3
section
variable {prog : Program} {w : World} {A : Around} {s : Shared} {E : Value → Shared → Prop}
/-- the lambda, called with a tuple -/
theorem lam_item {x qual : Str} {params : Arguments} {p1 p2 p3 : Pos} {j : Nat} {scope : Scope} {cl : List (Str × Addr)} {pm ctv : Value} {c f t : Addr} {its : List Value} {i : Int} {tk : Tok}
    (ho : s.heap.get? f = some (PySem.W.kla_obj "<lambda>" qual params (itemBody x p1 p2 p3 j) scope cl pm c ctv)) (hcd : s.heap.CodeRec (.ref c) qual) (hlim : s.heap.NoLimit) (hroom : A.depth < recursionLimit)
    (hbind : ∀ v, bindArgs (PySem.W.kla_fn "<lambda>" qual params (itemBody x p1 p2 p3 j) scope cl pm (.ref c) ctv) ⟨[v], []⟩ = pure [(x, v)]) (hco : scope.isCoroutine = false) (hgen : scope.isGenerator = false) (hk : scope.kind = .function) (hx : scope.names.lookup x = some .local) (hcell : ∀ y ∈ scope.names, y.2 ≠ .cell)
    (hd : (x == ("__debug__" : Str)) = false) (hcdn : (x == ("__classdict__" : Str)) = false) (ht : IsTup s.heap t its.toArray) (hi : its[0]? = some (.int i tk)) (hz : its.length ≤ sizeLine) :
    wpAny (model prog w) A (call (.ref f) [.ref t]) (fun v s2 => ∃ h2 t2, s2 = { s with heap := h2, toks := t2 } ∧ (∀ b o, s.heap.get? b = some o → h2.get? b = some o) ∧ v = .int i tk) E s := by
  refine wpAny_call (PySem.W.kla_callFunE hroom ho rfl hco hgen rfl hcd ?_)
  rw [hbind]
  refine wpAny_pure (wpAny_newFunctionEnv hcell (fun y hy => ?_) (fun h1 hns hsb => ⟨hlim.fresh _ hsb, ?_⟩) hk)
  · rw [List.mem_singleton.mp hy]
    exact hx
  · show codeAny _ _ (.expr (itemBody x p1 p2 p3 j) (PySem.W.envX qual scope s.heap.objs.size f (.ref c) cl)) _ _
    have kp : ∀ b o, s.heap.get? b = some o → h1.get? b = some o := fun b o e => hsb.extBut b o (Nat.ne_of_lt (Heap.lt_size e)) (Heap.get?_push_of_some _ e)
    refine PySem.W.kla_codeExpr (Subscript_ (wpAny_Name (wpAny_loadName_local hk hx hns (v := .ref t) (by simp) ?_) hd))
    refine wpAny_Constant_int ?_
    have pl : IsTup h1 t its.toArray := by
      obtain ⟨o, e, r⟩ := ht
      exact ⟨o, kp _ _ e, r⟩
    have hn := line63
    have hl0 : 0 < its.length := by
      rcases Nat.eq_zero_or_pos its.length with e | e
      · rw [List.length_eq_zero_iff.mp e] at hi
        cases hi
      · exact e
    refine subscriptTail_builtinR (x := .int i tk) (T := "tuple") ?_ slot_tuple_getitem.lookup (getItem_tuple (j := 0) (Q := fun r s2 => r = .int i tk ∧ (∃ h2 t2, s2 = { s with heap := h2, toks := t2 } ∧ (∀ b o, s.heap.get? b = some o → h2.get? b = some o) ∧ r = .int i tk)) pl (by omega) (by omega) (by simp [seqIndex?, hl0]) (by simpa using hi) ⟨rfl, h1, _, rfl, kp, rfl⟩)
    obtain ⟨o, e, r, _⟩ := pl
    exact ⟨o, e, r⟩
end
open LamX
/-- the items with their first ones -/
def Firsts (K : PySem.W.Frag) (H : Hp) (bs : List (Int × V)) : Prop := ∀ b ∈ bs, ∃ (t : Addr) (ys : List V), b.2 = .ref t ∧ SqT K H t (.int b.1 :: ys)
def byFirst (bs : List (Int × V)) : List (Int × V) := bs.mergeSort fun a b => decide (a.1 ≤ b.1)
def tSortLam (K : PySem.W.Frag) (T : List (Addr × Str)) (t : TA) : TE := fun σ H Q => t σ H fun vs H1 => ∃ (l : Addr) (bs : List (Int × V)), vs = [.ref l] ∧ Tabs T H1 ∧ bs.length ≤ 4000 ∧
  ∀ H2, ExtN H1 H2 → Tabs T H2 → SqL K H2 l (bs.map (·.2)) ∧ Firsts K H2 bs ∧ ∀ p, H2 p = none → Q (.ref p) (upd H2 p (.lst ((byFirst bs).map (·.2))))
theorem each_of {R : Value → Int × V → Prop} : ∀ {us : List Value} {bs : List (Int × V)}, Vals (bs.map (·.2)) us → (∀ b ∈ bs, ∀ u, RelV b.2 u → R u b) → PySem.W.EachIs R us bs
  | _, [], .nil, _ => .nil
  | _, b :: bs, .cons r t, h => .cons (h b (List.mem_cons_self ..) _ r) (each_of t fun c hc => h c (List.mem_cons_of_mem _ hc))
theorem vals_of {R : Value → Int × V → Prop} (hR : ∀ u b, R u b → RelV b.2 u) : ∀ {us : List Value} {bs : List (Int × V)}, PySem.W.EachIs R us bs → Vals (bs.map (·.2)) us
  | _, _, .nil => .nil
  | _, _, .cons r t => .cons (hR _ _ r) (vals_of hR t)
theorem pe_sortLam {X : Cx} {e : Expr} {t : TA} {p pos lpos kpos p1 p2 p3 : Pos} {j : Nat} {x : Str} {params : Arguments} {scope : Scope} {T : List (Addr × Str)} {c P : Addr} (hg : Gl X "sorted") (hm : X.mg "sorted" = none) (hr : Room 1 X.A) (ha : PA X [e] t)
    (TB : TabB X.base X.mg c P) (hcode : X.env.code = .ref c) (hmT : (P, X.env.qual ++ "<lambda>") ∈ T) (hu : ∀ p ∈ T, p.1 = P → p.2 = X.env.qual ++ "<lambda>") (hdef : defaultsOf params X.env = ([], [])) (hcl : cloFrom X.env.cells scope.names [] = [])
    (hbind : ∀ pm c ctv v, bindArgs (PySem.W.kla_fn "<lambda>" (X.env.qual ++ "<lambda>") params (itemBody x p1 p2 p3 j) scope [] pm (.ref c) ctv) ⟨[v], []⟩ = pure [(x, v)]) (hco : scope.isCoroutine = false := by rfl) (hgen : scope.isGenerator = false := by rfl) (hk : scope.kind = .function := by rfl) (hx : scope.names.lookup x = some .local := by rfl)
    (hcell : ∀ y ∈ scope.names, y.2 ≠ .cell ∧ y.2 ≠ .free) (hd : (x == ("__debug__" : Str)) = false := by decide) (hcdn : (x == ("__classdict__" : Str)) = false := by decide)
    (hst : backTo pos (starEach [e] X.env) = (false, eval e X.env) :: backTo pos (starEach [] X.env) := by rfl) (hpl : (backTo pos (starEach [e] X.env)).any (·.1) = false := by rfl) :
    PE X (.Call (.Name "sorted" p) [e] [⟨some "key", .Lambda params (itemBody x p1 p2 p3 j) scope lpos, kpos⟩] pos) (tSortLam X.K T t) := by
  refine ⟨fun pins s σ H Q I h => ?_⟩
  refine wpAny_Call_Name_kw (ld_blt (u := .builtin "sorted") I hg hm (by decide +kernel) ?_ (by decide) (by decide))
  refine PyProof.Rows.callWith_kw (thn (ha.run pos pins s σ H _ I h) fun us s1 ⟨vs, H1, I1, r1, l, bs, e1, hT, hl, q1⟩ => ?_) hst hpl rfl rfl
  subst e1
  cases r1 with
  | cons r1 r2 =>
  cases r2
  cases r1
  show wpAny _ _ (evalAll [do let v ← eval (.Lambda params (itemBody x p1 p2 p3 j) scope lpos) X.env; standAt pos; pure v]) _ _ s1
  refine wpAny_evalAll_cons (wpAny_bind (lam_make2 I1 TB hcode hmT hu hT hdef (fun y hy hf => absurd hf (hcell y hy).2) fun f c1 pm ctv H2 s2 I2 eN T2 hf hfn hfr hco2 => wpAny_bind (wpAny_standAt (wpAny_pure (wpAny_evalAll_nil ?_)))))
  show wpAny _ _ (call (.builtin "sorted") [.ref l] [(Str.ofString "key", .ref f)]) _ _ s2
  obtain ⟨hs2, hf2, q2⟩ := q1 H2 eN T2
  rw [hcl] at hf
  obtain ⟨its, rv, pl, hz⟩ := I2.list hs2
  have hlen : its.length = bs.length := by rw [← rv.length, List.length_map]
  have hcr : s2.heap.CodeRec (.ref c1) (X.env.qual ++ "<lambda>") := by
    obtain ⟨⟨oc, us, t, a1, a2, a3⟩, _⟩ := I2.hok c1 _ hco2
    exact ⟨c1, oc, us, t, rfl, a1, a2, a3⟩
  refine PySem.W.sorted_key_data (R := fun u (b : Int × V) => RelV b.2 u ∧ b ∈ bs) (bs := bs) (b := false) (fun b : Int × V => .int b.1) pl.isList (each_of rv fun b hb u r => ⟨r, hb⟩) (PySem.W.AllAlike.of fun _ _ => rfl) (PySem.W.Sortable.others fun _ => ⟨(fun z => nomatch z), (fun _ z => nomatch z)⟩)
    (by have := hl; exact Nat.le_trans this (by decide)) (fun b _ => ?_) (ksk_s1 _ _) (fun _ => ksk_l1 _ _) (fun _ => ksk_t1 _ _) (fun v b hR hb hp tk kp => ?_) fun out cc hp tk kp hfr2 hD ho eo => ?_
  · have := hr.un
    show X.A.units + 2 + 0 < cLine
    omega
  · obtain ⟨t1, ys, e1, e2⟩ := hf2 b hb
    obtain ⟨hR1, _⟩ := hR
    rw [e1] at hR1
    cases (show v = Value.ref t1 from hR1)
    obtain ⟨it2, rt, ⟨o2, a1, a2⟩, z2⟩ := I2.tuple e2
    cases rt with
    | @cons _ u _ us ru rr =>
    obtain ⟨tk2, rfl⟩ := ru
    have hlim : hp.NoLimit := I2.nolimit.keeps kp
    have hcr2 : hp.CodeRec (.ref c1) (X.env.qual ++ "<lambda>") := by
      obtain ⟨c3, oc, us3, t3, b1, b2, b3⟩ := hcr
      exact ⟨c3, oc, us3, t3, b1, kp _ _ b2, b3⟩
    have hz2 : (Value.int b.1 tk2 :: us).length ≤ sizeLine := by
      have := rr.length
      rw [List.length_cons, ← this]
      exact z2
    refine wpAny_mono (lam_item (s := { s2 with heap := hp, toks := tk }) (A := X.A.in1.in1) (i := b.1) (tk := tk2) (its := Value.int b.1 tk2 :: us) (kp _ _ hf) hcr2 hlim (by have := hr.dp; show X.A.depth < _; omega) (hbind pm c1 ctv) hco hgen hk hx (fun y hy => (hcell y hy).1) hd hcdn ⟨o2, kp _ _ a1, a2⟩ rfl hz2) (fun v3 s3 q3 => ?_) fun _ _ q => q
    obtain ⟨h3, t3, rfl, k3, rfl⟩ := q3
    exact ⟨h3, t3, rfl, k3, Reads.int _ _⟩
  · rw [PySem.W.dataLe_int (fun b : Int × V => b.1)] at eo
    have rv2 : Vals ((byFirst bs).map (·.2)) out := vals_of (fun u b h => h.1) eo
    have hn : H2 (s2.heap.objs.size + 1) = none := I2.hok.fresh (Nat.le_succ _)
    refine ⟨.ref (s2.heap.objs.size + 1), _, I2.laid (o := .lst ((byFirst bs).map (·.2))) (t' := tk) kp (Nat.le_succ _) ?_, rfl, q2 _ hn⟩
    refine ⟨?_, out, cc, rv2, hD⟩
    rw [rv2.length, ho]
    exact Nat.le_trans hl (by decide)
end KdLam

/-! for a, b, c in zip(xs, ys, zs) over three lists -/
namespace KdZ
open PySem PySem.Spec PyProof.Rows L2
/-- three lists walked together -/
def It3 (K : PySem.W.Frag) (a b c : Addr) : It :=
  ⟨fun i H => ∃ (xs ys zs : List V) (x y z : V), SqL K H a xs ∧ SqL K H b ys ∧ SqL K H c zs ∧ xs[i]? = some x ∧ ys[i]? = some y ∧ zs[i]? = some z,
    fun i H v H' => ∃ T x y z, v = .ref T ∧ H T = none ∧ H' = upd H T (.tup [x, y, z]) ∧ (∀ xs, SqL K H a xs → xs[i]? = some x) ∧ (∀ ys, SqL K H b ys → ys[i]? = some y) ∧ ∀ zs, SqL K H c zs → zs[i]? = some z,
    fun i H => ∃ xs ys zs : List V, SqL K H a xs ∧ SqL K H b ys ∧ SqL K H c zs ∧ i = min (min xs.length ys.length) zs.length⟩
theorem one {q N : Addr} (h : q < N) : ∀ b ∈ [q], b < N := fun b hb => by rw [List.mem_singleton.mp hb]; exact h
theorem turn3 {P : Program} {w : World} {K : PySem.W.Frag} {elts : List Expr} {kk : Nat} {tpos : Pos} {a b c N : Addr} (la : a < N) (lb : b < N) (lc : c < N) :
    Turn P w K (.Tuple elts kk tpos) (It3 K a b c) [N + 5, N + 3, N + 4, N, N + 1, N + 2] (N + 5) (fun i h => IsZip h (N + 5) (N + 3) (N + 4) .none ∧ IsTupOf3 h (N + 3) (.ref N) (.ref (N + 1)) (.ref (N + 2)) ∧ (∃ a1 a2 a3, IsTupOf3 h (N + 4) a1 a2 a3) ∧ h.IsListIter N a i ∧ h.IsListIter (N + 1) b i ∧ h.IsListIter (N + 2) c i) where
  mem := List.mem_cons_self ..
  obj := fun i h st q hq => by
    obtain ⟨h1, h2, ⟨a1, a2, a3, h3⟩, ⟨o4, e4, _, d4⟩, ⟨o5, e5, _, d5⟩, ⟨o6, e6, _, d6⟩⟩ := st
    have e : q = N + 5 ∨ q = N + 3 ∨ q = N + 4 ∨ q = N ∨ q = N + 1 ∨ q = N + 2 := by simpa using hq
    rcases e with rfl | rfl | rfl | rfl | rfl | rfl
    · exact ⟨_, h1, fun v z => nomatch z⟩
    · exact ⟨_, h2, fun v z => nomatch z⟩
    · exact ⟨_, h3, fun v z => nomatch z⟩
    · exact ⟨o4, e4, fun v z => by rw [d4] at z; cases z⟩
    · exact ⟨o5, e5, fun v z => by rw [d5] at z; cases z⟩
    · exact ⟨o6, e6, fun v z => by rw [d6] at z; cases z⟩
  keep := fun i h h' st k => by
    obtain ⟨h1, h2, ⟨a1, a2, a3, h3⟩, h4, h5, h6⟩ := st
    exact ⟨k _ (by simp) _ h1, k _ (by simp) _ h2, ⟨a1, a2, a3, k _ (by simp) _ h3⟩, h4.at fun o q => k _ (by simp) o q, h5.at fun o q => k _ (by simp) o q, h6.at fun o q => k _ (by simp) o q⟩
  item := by
    intro X hP hw hK hc i pins s σ H E I hf st hg
    subst hP hw hK
    obtain ⟨h1, h2, h3, h4, h5, h6⟩ := st
    obtain ⟨xs, ys, zs, x, y, z, qx, qy, qz, gx, gy, gz⟩ := hg
    obtain ⟨i1, r1, p1, _⟩ := I.list qx
    obtain ⟨i2, r2, p2, _⟩ := I.list qy
    obtain ⟨i3, r3, p3, _⟩ := I.list qz
    obtain ⟨u1, e1, ru1⟩ := r1.get gx
    obtain ⟨u2, e2, ru2⟩ := r2.get gy
    obtain ⟨u3, e3, ru3⟩ := r3.get gz
    have l1 := (List.getElem?_eq_some_iff.mp e1).1
    have l2 := (List.getElem?_eq_some_iff.mp e2).1
    have l3 := (List.getElem?_eq_some_iff.mp e3).1
    have hh : X.A.in1.handled = none := by have := I.ok.hd hc; simpa using this
    have G := GoesN.zip3 (prog := X.prog) (w := X.w) (A := X.A) (elts := elts) (x1 := kk) (pos := tpos) (zip_sep3 (N := N) (fp1 := [a]) (fp2 := [b]) (fp3 := [c]) (one la) (one lb) (one lc)) (Draws.list hh N a (Nat.ne_of_lt la) i1.toArray) (Draws.list hh (N + 1) b (Nat.ne_of_lt (Nat.lt_succ_of_lt lb)) i2.toArray) (Draws.list hh (N + 2) c (Nat.ne_of_lt (Nat.lt_succ_of_lt (Nat.lt_succ_of_lt lc))) i3.toArray)
    refine G.goes i s _ E (by simp; omega) ⟨h1, h2, h3, ⟨h4, p1.isList⟩, ⟨h5, p2.isList⟩, ⟨h6, p3.isList⟩⟩ fun v h' tk hY st' hk htk => ?_
    obtain ⟨T, v1, v2, v3, rfl, hT, a1, a2, a3, ht⟩ := hY
    have b1 : v1 = u1 := by rw [List.getElem?_toArray, e1] at a1; exact (Option.some.inj a1).symm
    have b2 : v2 = u2 := by rw [List.getElem?_toArray, e2] at a2; exact (Option.some.inj a2).symm
    have b3 : v3 = u3 := by rw [List.getElem?_toArray, e3] at a3; exact (Option.some.inj a3).symm
    subst b1 b2 b3
    obtain ⟨s1, s2, s3, ⟨s4, _⟩, ⟨s5, _⟩, ⟨s6, _⟩⟩ := st'
    have hsub : ∀ q ∈ [N + 5, N + 4, N, N + 1, N + 2], q ∈ [N + 5, N + 3, N + 4, N, N + 1, N + 2] := fun q hq => by
      have e : q = N + 5 ∨ q = N + 4 ∨ q = N ∨ q = N + 1 ∨ q = N + 2 := by simpa using hq
      rcases e with rfl | rfl | rfl | rfl | rfl <;> simp
    have new : ObjOk X.prog X.w (upd H T (.tup [x, y, z])) h' T (.tup [x, y, z]) := ⟨by show 3 ≤ sizeLine; decide, [v1, v2, v3], .cons ru1 (.cons ru2 (.cons ru3 .nil)), ht⟩
    have I1 : Inv X pins σ (upd H T (.tup [x, y, z])) { s with heap := h', toks := tk } := I.turnedNew (t' := tk) (ch := [N + 5, N + 4, N, N + 1, N + 2]) hk (fun q hq => hf q (hsub q hq)) hT new
    refine ⟨.ref T, _, I1, rfl, ⟨T, x, y, z, rfl, I.hok.fresh hT, rfl, fun l hl => by rw [I.list_inj hl qx]; exact gx, fun l hl => by rw [I.list_inj hl qy]; exact gy, fun l hl => by rw [I.list_inj hl qz]; exact gz⟩, ⟨s1, s2, s3, s4, s5, s6⟩, fun q hq => ?_⟩
    have hlt : q < s.heap.objs.size := by
      have e : q = N + 5 ∨ q = N + 3 ∨ q = N + 4 ∨ q = N ∨ q = N + 1 ∨ q = N + 2 := by simpa using hq
      obtain ⟨a1, a2, a3, h3⟩ := h3
      rcases e with rfl | rfl | rfl | rfl | rfl | rfl
      · exact Heap.lt_size h1
      · exact Heap.lt_size h2
      · exact Heap.lt_size h3
      · obtain ⟨_, e, _⟩ := h4; exact Heap.lt_size e
      · obtain ⟨_, e, _⟩ := h5; exact Heap.lt_size e
      · obtain ⟨_, e, _⟩ := h6; exact Heap.lt_size e
    rw [upd_ne (Nat.ne_of_lt (Nat.lt_of_lt_of_le hlt hT))]
    exact (hf q hq).1
  done := by
    intro X hP hw hK hc i pins s σ H E I hf st hg
    subst hP hw hK
    obtain ⟨h1, h2, h3, h4, h5, h6⟩ := st
    obtain ⟨xs, ys, zs, qx, qy, qz, hi⟩ := hg
    obtain ⟨i1, r1, p1, _⟩ := I.list qx
    obtain ⟨i2, r2, p2, _⟩ := I.list qy
    obtain ⟨i3, r3, p3, _⟩ := I.list qz
    have hh : X.A.in1.handled = none := by have := I.ok.hd hc; simpa using this
    have G := GoesN.zip3 (prog := X.prog) (w := X.w) (A := X.A) (elts := elts) (x1 := kk) (pos := tpos) (zip_sep3 (N := N) (fp1 := [a]) (fp2 := [b]) (fp3 := [c]) (one la) (one lb) (one lc)) (Draws.list hh N a (Nat.ne_of_lt la) i1.toArray) (Draws.list hh (N + 1) b (Nat.ne_of_lt (Nat.lt_succ_of_lt lb)) i2.toArray) (Draws.list hh (N + 2) c (Nat.ne_of_lt (Nat.lt_succ_of_lt (Nat.lt_succ_of_lt lc))) i3.toArray)
    have en : i = min (min i1.toArray.size i2.toArray.size) i3.toArray.size := by
      rw [List.size_toArray, List.size_toArray, List.size_toArray, ← r1.length, ← r2.length, ← r3.length]
      exact hi
    subst en
    have hsub : ∀ q ∈ [N + 5, N + 4, N, N + 1, N + 2], q ∈ [N + 5, N + 3, N + 4, N, N + 1, N + 2] := fun q hq => by
      have e : q = N + 5 ∨ q = N + 4 ∨ q = N ∨ q = N + 1 ∨ q = N + 2 := by simpa using hq
      rcases e with rfl | rfl | rfl | rfl | rfl <;> simp
    exact G.stops s (fun s2 => Inv X pins σ H s2) E ⟨h1, h2, h3, ⟨h4, p1.isList⟩, ⟨h5, p2.isList⟩, ⟨h6, p3.isList⟩⟩ fun h' tk hk htk => I.turnedL (t' := tk) (ch := [N + 5, N + 4, N, N + 1, N + 2]) hk fun q hq => hf q (hsub q hq)
  self := fun A i s Q E st h => wpAny_pyIter_zip st.1 h
def iZip3 (K : PySem.W.Frag) (ta : TA) : TI := fun σ H R => ta σ H fun vs H1 => ∃ a b c xs ys zs, vs = [.ref a, .ref b, .ref c] ∧ SqL K H1 a xs ∧ SqL K H1 b ys ∧ SqL K H1 c zs ∧ R (It3 K a b c) H1
theorem pi_zip3 {X : Cx} {e e2 e3 : Expr} {ta : TA} {p pos tpos : Pos} {elts : List Expr} {kk : Nat} (hg : Gl X "zip") (hm : X.mg "zip" = none) (ha : PA X [e, e2, e3] ta)
    (hs : starEach [e, e2, e3] X.env = (false, eval e X.env) :: starEach [e2, e3] X.env := by rfl) (hpl : (backTo pos (starEach [e2, e3] X.env)).any (·.1) = false := by rfl) :
    PI X (.Tuple elts kk tpos) (.Call (.Name "zip" p) [e, e2, e3] [] pos) (iZip3 X.K ta) := by
  refine ⟨fun pins s σ H R I h => Call_ (ld_blt I hg hm PyProof.Rows.boot_zip (PyProof.Rows.callWith_type1 (thn (ha.run pos pins s σ H _ I h) fun us s1 ⟨vs, H1, I1, r1, q1⟩ => ?_) hs hpl))⟩
  obtain ⟨a, b, c, xs, ys, zs, rfl, qx, qy, qz, q⟩ := q1
  cases r1 with
  | cons r1 t =>
  cases t with
  | cons r2 t =>
  cases t with
  | cons r3 t =>
  cases t
  cases r1
  cases r2
  cases r3
  obtain ⟨i1, w1, p1, _⟩ := I1.list qx
  obtain ⟨i2, w2, p2, _⟩ := I1.list qy
  obtain ⟨i3, w3, p3, _⟩ := I1.list qz
  refine zip_begins3 (begins_list a i1.toArray) (begins_list b i2.toArray) (begins_list c i3.toArray) p1.isList p2.isList p3.isList fun h' hz hTI hTO g1 g2 g3 hsz hk => wpAny_pyIter_zip hz ?_
  refine ⟨s1.heap.objs.size + 5, [s1.heap.objs.size + 5, s1.heap.objs.size + 3, s1.heap.objs.size + 4, s1.heap.objs.size, s1.heap.objs.size + 1, s1.heap.objs.size + 2], _, _, H1, rfl, I1.kept (t' := s1.toks) hk, turn3 p1.lt p2.lt p3.lt, ⟨hz, hTI, ⟨_, _, _, hTO⟩, ⟨_, g1, rfl, rfl⟩, ⟨_, g2, rfl, rfl⟩, ⟨_, g3, rfl, rfl⟩⟩, fun d hd => ?_, q⟩
  have hle : s1.heap.objs.size ≤ d := by
    have e' : d = s1.heap.objs.size + 5 ∨ d = s1.heap.objs.size + 3 ∨ d = s1.heap.objs.size + 4 ∨ d = s1.heap.objs.size ∨ d = s1.heap.objs.size + 1 ∨ d = s1.heap.objs.size + 2 := by simpa using hd
    rcases e' with z | z | z | z | z | z
    all_goals
      rw [z]
      first | exact Nat.le_add_right _ _ | exact Nat.le_refl _
  exact I1.fpOk hle (I1.hok.fresh hle)
/-- three lists of one length -/
def Y3 (xs ys zs : List V) : Nat → Hp → V → Hp → Prop := fun i H v H' => ∃ T x y z, v = .ref T ∧ H T = none ∧ H' = upd H T (.tup [x, y, z]) ∧ xs[i]? = some x ∧ ys[i]? = some y ∧ zs[i]? = some z
theorem walk_zip3 {K : PySem.W.Frag} {a b c : Addr} {xs ys zs : List V} {n : Nat} (h1 : xs.length = n) (h2 : ys.length = n) (h3 : zs.length = n) : Walk (It3 K a b c) n (fun H => SqL K H a xs ∧ SqL K H b ys ∧ SqL K H c zs) (Y3 xs ys zs) where
  goes := fun i H hi ⟨q1, q2, q3⟩ => ⟨xs, ys, zs, xs[i]'(by omega), ys[i]'(by omega), zs[i]'(by omega), q1, q2, q3, List.getElem?_eq_getElem _, List.getElem?_eq_getElem _, List.getElem?_eq_getElem _⟩
  stops := fun H ⟨q1, q2, q3⟩ => ⟨xs, ys, zs, q1, q2, q3, by omega⟩
  yields := fun i H x H' hi ⟨q1, q2, q3⟩ ⟨T, x1, y1, z1, e1, e2, e3, g1, g2, g3⟩ => ⟨T, x1, y1, z1, e1, e2, e3, g1 _ q1, g2 _ q2, g3 _ q3⟩
end KdZ

namespace Kd
open PySem PySem.Spec PyProof.Rows L2
section
variable {P : Program} {w : World} {K : PySem.W.Frag} {mg : Str → Option Value} {base : Heap} {f : Addr} {fd : FuncData}
/-! ### value_by_way -/
def col (at_ : Nat) (ks : List Kind) : List Fv := ks.map fun k => k.2.getD at_ (.i 0)
def wvD (way : Str) (at_ : Nat) (ks : List Kind) (op : Option (List Fv)) : PyData :=
  if way = "day" then optD (op.map fun o => o.getD at_ (.i 0)) else if way = "before" then .tuple [optD (unl (col at_ ks)).1, optD (unl (col at_ ks)).2] else optD (if way = "first" then (col at_ ks).head? else (col at_ ks).getLast?)
/-- None, or the values that open a version -/
def OpAt (K : PySem.W.Frag) (H : Hp) (o : V) (n : Nat) : Option (List Fv) → Prop
  | none => o = .non
  | some ov => ∃ q, o = .ref q ∧ SqT K H q (ov.map Fv.v) ∧ ov.length = n
theorem OpAt.same {H H' : Hp} {o : V} {n : Nat} (e : Same H H') : ∀ {op : Option (List Fv)}, OpAt K H o n op → OpAt K H' o n op
  | none, h => h
  | some _, ⟨q, h1, h2, h3⟩ => ⟨q, h1, Same.seqT e h2, h3⟩
theorem get_at {l : List Fv} {i : Nat} (h : i < l.length) : l.getD i (.i 0) = l[i] := by simp [List.getD_eq_getElem?_getD, h]
/-! ### day_value -/
def spDayV (K : PySem.W.Frag) : Sp := fun vs H Q _ => ∃ (at_ n : Nat) (o : V) (op : Option (List Fv)), vs = [.int (at_ : Int), o] ∧ OpAt K H o n op ∧ at_ < n ∧ ∀ r, Dp K H r (optD (op.map fun o => o.getD at_ (.i 0))) → Q r H
theorem sc_dayv : FnScope ["at", "opening"] ["at", "opening"] (defScope s_day_value) := ⟨rfl, rfl, rfl, by decide +kernel, rfl, by decide +kernel, by decide +kernel⟩
theorem ok_dayv (F : FnP K "day_value" "day_value" s_day_value f fd) : FnOk P w K mg base CX0 1 f fd ["at", "opening"] (spDayV K) := by
  refine F.ok sc_dayv (fun vs H Q E h => ?_) (fun cdv A outer s H vs Q E hr h => ?_)
  · obtain ⟨at_, n, o, op, rfl, _⟩ := h
    rfl
  · obtain ⟨at_, n, o, op, rfl, ho, ha, k⟩ := h
    refine ⟨_, PSs.nox (pss_one (ps_ret (pe_ifExp (pt_cmp (pc_isN (pv 1))) pe_non (pe_ix ix_tup (pv 1) (pv 0) (fun _ _ => rfl))))), ?_⟩
    cases op with
    | none =>
      have e : o = .non := ho
      subst e
      exact ⟨_, rfl, _, rfl, iteT (k _ .non)⟩
    | some ov =>
      obtain ⟨q, rfl, h2, h3⟩ := ho
      refine ⟨_, rfl, _, rfl, iteF ⟨_, rfl, _, rfl, q, _, _, _, rfl, rfl, h2, atI_nat (map_at (by omega)), ?_⟩⟩
      refine k _ ?_
      show Dp K H _ (ov.getD at_ (.i 0)).d
      rw [get_at (by omega)]
      exact Fv.dp _
/-! ### steady_value -/
def stD (way : Str) (cs : List Fv) : PyData := if way = "before" then .tuple [optD (unl cs).1, optD (unl cs).2] else optD (if way = "first" then cs.head? else cs.getLast?)
theorem wv_day {way : Str} {i : Nat} {ks : List Kind} {op : Option (List Fv)} (h : way = "day") : wvD way i ks op = optD (op.map fun o => o.getD i (.i 0)) := by unfold wvD; rw [if_pos h]
theorem wv_st {way : Str} {i : Nat} {ks : List Kind} {op : Option (List Fv)} (h : ¬ way = "day") : wvD way i ks op = stD way (col i ks) := by unfold wvD stD; rw [if_neg h]
def spStv (K : PySem.W.Frag) : Sp := fun vs H Q _ => ∃ (way : Str) (m : Addr) (cs : List Fv), vs = [.str way, .ref m] ∧ SqL K H m (cs.map Fv.v) ∧ cs.length ≤ 4000 ∧ ∀ r H', Dp K H' r (stD way cs) → Same H H' → Q r H'
theorem sc_stv : FnScope ["way", "column"] ["way", "column"] (defScope s_steady_value) := ⟨rfl, rfl, rfl, by decide +kernel, rfl, by decide +kernel, by decide +kernel⟩
theorem ok_stv {fL : Addr} {fdL : FuncData} (F : FnP K "steady_value" "steady_value" s_steady_value f fd) (GL : FnOk P w K mg base CX0 1 fL fdL ["column"] (spLast K)) (kL : PySem.W.keepIn K (.ref fL) = true) (bL : Binds K fdL ["column"] []) (gL : mg "last_and_unlike" = some (.ref fL)) : FnOk P w K mg base CX0 2 f fd ["way", "column"] (spStv K) := by
  refine F.ok sc_stv (fun vs H Q E h => ?_) (fun cdv A outer s H vs Q E hr h => ?_)
  · obtain ⟨way, m, cs, rfl, _⟩ := h
    rfl
  · obtain ⟨way, m, cs, rfl, hm, lk, k⟩ := h
    have nd := sc_stv.nd
    refine ⟨_, PSs.nox (pss_cons (ps_if (pt_cmpR op_eq (pv 0) pe_str (nomark _)) (pss_one (ps_ret (pe_call GL hr rfl gL kL bL .nil pass0 (pa_cons (pv 1) pa_nil)))) pss_nil)
      (pss_cons (ps_if (pt_not (pt_truth (pv 1) (by intro _; rfl))) (pss_one (ps_ret pe_non)) pss_nil)
      (pss_one (ps_ret (pe_ifExp (pt_cmpR op_eq (pv 0) pe_str (nomark _)) (pe_ix ix_list (pv 1) pe_int (fun _ _ => rfl)) (pe_ix ix_list (pv 1) (pe_un un_neg pe_int) (fun _ _ => rfl))))))), ?_⟩
    refine ⟨_, rfl, rfl, _, rfl, ?_⟩
    by_cases c2 : way = "before"
    · rw [decide_eq_true (congrArg V.str c2)]
      have ev : stD way cs = .tuple [optD (unl cs).1, optD (unl cs).2] := by unfold stD; rw [if_pos c2]
      rw [ev] at k
      exact iteT ⟨_, rfl, m, cs, rfl, hm, lk, fun r H3 d3 s3 => k _ H3 d3 s3⟩
    · rw [decide_eq_false (fun z => c2 (by injection z))]
      have ev : stD way cs = optD (if way = "first" then cs.head? else cs.getLast?) := by unfold stD; rw [if_neg c2]
      rw [ev] at k
      refine iteF ⟨_, rfl, _, .inl ⟨_, hm, rfl⟩, ?_⟩
      cases hc : cs with
      | nil =>
        rw [hc] at k
        have e0 : optD (if way = "first" then ([] : List Fv).head? else ([] : List Fv).getLast?) = .none := by split <;> rfl
        rw [e0] at k
        exact iteT (k _ H .non (Same.refl H))
      | cons b r =>
        rw [← hc]
        have ne : (!(cs.map Fv.v).isEmpty) = true := by rw [hc]; rfl
        rw [ne]
        refine iteF ⟨_, rfl, rfl, _, rfl, ?_⟩
        by_cases c3 : way = "first"
        · rw [decide_eq_true (congrArg V.str c3)]
          rw [if_pos c3, hc] at k
          exact iteT ⟨_, rfl, m, _, _, _, rfl, rfl, hm, atI_nat (j := 0) (by rw [hc]; rfl), k _ H (Fv.dp b) (Same.refl H)⟩
        · rw [decide_eq_false (fun z => c3 (by injection z))]
          rw [if_neg c3] at k
          cases hl : cs.getLast? with
          | none => rw [List.getLast?_eq_none_iff.mp hl] at hc; cases hc
          | some z =>
            rw [hl] at k
            exact iteF ⟨_, rfl, _, rfl, m, _, _, _, rfl, rfl, hm, atI_end (by rw [last_map, hl]; rfl), k _ H (Fv.dp z) (Same.refl H)⟩
/-! ### version_values -/
theorem optD_nolist (a : Option Fv) (n : Nat) : NoL (n + 1) (optD a) := by
  cases a with
  | none => exact trivial
  | some b => cases b <;> exact trivial
theorem wv_nolist (way : Str) (i : Nat) (ks : List Kind) (op : Option (List Fv)) : NoL 2 (wvD way i ks op) := by
  unfold wvD
  split
  · exact optD_nolist _ 1
  · split
    · intro d hd
      rcases List.mem_cons.mp hd with rfl | hd
      · exact optD_nolist _ 0
      · rw [List.mem_singleton.mp hd]
        exact optD_nolist _ 0
    · exact optD_nolist _ 1
mutual
theorem dp_cd' {H : Hp} {D : Addr} {L : List V} (hD : H D = some (.lst L)) : ∀ (d : PyData) (n : Nat) (v : V), NoL n d → Dp K H v d → Dp K (cd D H) v d
  | _, 0, _, h, _ => (show False from h).elim
  | .none, n + 1, _, _, h => by cases h; exact .non
  | .bool b, n + 1, _, _, h => by cases h; exact .bl b
  | .int i, n + 1, _, _, h => by cases h; exact .int i
  | .str x, n + 1, _, _, h => by cases h; exact .str x
  | .list ds, n + 1, _, q, _ => (show False from q).elim
  | .tuple ds, n + 1, _, q, h => by
    cases h with
    | tup a b => exact .tup (seqT_list0 hD a) (dpall_cd' hD ds n _ q b)
  | .dict _, n + 1, _, q, _ => (show False from q).elim
theorem dpall_cd' {H : Hp} {D : Addr} {L : List V} (hD : H D = some (.lst L)) : ∀ (ds : List PyData) (n : Nat) (vs : List V), (∀ d ∈ ds, NoL n d) → DpAll K H vs ds → DpAll K (cd D H) vs ds
  | [], _, _, _, h => by cases h; exact .nil
  | d :: ds, n, _, q, h => by
    cases h with
    | cons a b => exact .cons (dp_cd' hD d n _ (q d (List.mem_cons_self ..)) a) (dpall_cd' hD ds n _ (fun e he => q e (List.mem_cons_of_mem _ he)) b)
end
theorem dp_cd {H : Hp} {D : Addr} {L : List V} {d : PyData} {n : Nat} {v : V} (hD : H D = some (.lst L)) (q : NoL n d) (h : Dp K H v d) : Dp K (cd D H) v d := dp_cd' hD d n v q h
def vvD (ws : List Str) (ks : List Kind) (op : Option (List Fv)) : List PyData := (List.range ws.length).map fun j => wvD (ws.getD j Str.empty) j ks op
def stL (ws : List Str) (ks : List Kind) : List PyData := (List.range ws.length).map fun j => stD (ws.getD j Str.empty) (col j ks)
theorem st_nolist (way : Str) (cs : List Fv) : NoL 2 (stD way cs) := by
  unfold stD
  split
  · intro d hd
    rcases List.mem_cons.mp hd with rfl | hd
    · exact optD_nolist _ 0
    · rw [List.mem_singleton.mp hd]
      exact optD_nolist _ 0
  · exact optD_nolist _ 1
def spVv (K : PySem.W.Frag) : Sp := fun vs H Q _ => ∃ (l m : Addr) (o : V) (ws : List Str) (ks : List Kind) (op : Option (List Fv)) (ss : List V), vs = [.ref l, .ref m, o] ∧ SqL K H l (ws.map V.str) ∧ SqL K H m ss ∧ DpAll K H ss (stL ws ks) ∧ OpAt K H o ws.length op ∧ ws.length ≤ 5 ∧
  ∀ r H', Dp K H' (.ref r) (.tuple (vvD ws ks op)) → Same H H' → Q (.ref r) H'
theorem sc_vv : FnScope ["ways", "steady", "opening", "at", "way"] ["ways", "steady", "opening"] (defScope s_version_values) := ⟨rfl, rfl, rfl, by decide +kernel, rfl, by decide +kernel, by decide +kernel⟩
theorem dpall_snoc {H : Hp} {v : V} {d : PyData} : ∀ {vs : List V} {ds : List PyData}, DpAll K H vs ds → Dp K H v d → DpAll K H (vs ++ [v]) (ds ++ [d])
  | _, _, .nil, h => .cons h .nil
  | _, _, .cons a t, h => .cons a (dpall_snoc t h)
theorem ok_vv {fV : Addr} {fdV : FuncData} (F : FnP K "version_values" "version_values" s_version_values f fd) (GV : FnOk P w K mg base CX0 1 fV fdV ["at", "opening"] (spDayV K)) (kV : PySem.W.keepIn K (.ref fV) = true) (bV : Binds K fdV ["at", "opening"] []) (gV : mg "day_value" = some (.ref fV)) (gE : mg "enumerate" = none) (gT : mg "tuple" = none) :
    FnOk P w K mg base CX0 2 f fd ["ways", "steady", "opening"] (spVv K) := by
  refine F.ok sc_vv (fun vs H Q E h => ?_) (fun cdv A outer s H vs Q E hr h => ?_)
  · obtain ⟨l, m, o, ws, ks, op, ss, rfl, _⟩ := h
    rfl
  · obtain ⟨l, m, o, ws, ks, op, ss, rfl, hl, hm, ds, ho, lw, k⟩ := h
    have nd := sc_vv.nd
    refine ⟨_, PSs.nox (pss_one (ps_ret (pe_callTy call_tuple_of (by rfl) gT (by decide +kernel) (pa_cons (pe_lc (own := [("at", 3), ("way", 4)]) (g := gTup K 2 (gCons (gName 3) (gCons (gName 4) gNil))) (tt := tYes) (te := tIf (tTest (tOp rEq (tVar 4) (tC (.str "day")))) (tCall (spDayV K) [] E0 (tCons (tVar 3) (tCons (tVar 2) tNil))) (tOp (rIxL K) (tVar 1) (tVar 3))) rfl nd (pi_enum rfl gE (pa_cons (pv 0) pa_nil)) (blkOk_by (own := [("at", 3), ("way", 4)]) (N := ["ways", "steady", "opening", "at", "way"]) (sc := defScope s_version_values) (by decide +kernel))
      (fun _ _ _ _ _ => pg_tup rfl (pgs_cons (pg_name (i := 3) nd rfl (Or.inl rfl)) (pgs_cons (pg_name (i := 4) nd rfl (Or.inl rfl)) pgs_nil))) (fun _ _ _ _ _ => pts_nil) (fun _ _ _ _ _ => pe_ifExp (pt_cmpR op_eq (pv 4) pe_str (nomark _)) (pe_call GV hr rfl gV kV bV .nil pass0 (pa_cons (pv 3) (pa_cons (pv 2) pa_nil))) (pe_ix ix_list (pv 1) (pv 3) (fun _ _ => rfl)))) pa_nil)))), ?_⟩
    refine ⟨_, rfl, l, _, rfl, hl, fun D hD => lc_build (walk_enum (K := K) (a := l) (xs := ws.map V.str)) hD (fun i ys R => Same H R ∧ DpAll K R ys ((List.range i).map fun j => wvD (ws.getD j Str.empty) j ks op)) ⟨Same.refl H, .nil⟩ (fun _ _ _ _ p => (p.1.trans cd_sub).seq hl) ?_ ?_⟩
    · rintro i ys y H2 H2' hi e ly ⟨sm, dp⟩ ⟨T, x1, y1, rfl, nT, rfl, e1, e2⟩
      rw [List.length_map] at hi
      cases e1
      obtain ⟨z, rfl, e3⟩ := strs_at e2
      have nDT : D ≠ T := ne_of_none e nT
      have s2 : Same H (cd D (upd H2 T (.tup [.int (i : Nat), .str z]))) := sm.trans (cd_same (same_new nT))
      have s2' := s2.trans cd_sub
      refine ⟨T, _, rfl, SqT.of upd_same, rfl, _, _, rfl, _, _, rfl, rfl, rfl, yes ?_⟩
      have ew : ws.getD i Str.empty = z := by rw [List.getD_eq_getElem?_getD, e3]; rfl
      have e5 : upd H2 T (.tup [.int (i : Nat), .str z]) D = some (.lst ys) := by rw [upd_ne nDT]; exact e
      have fin : ∀ r, Dp K (upd H2 T (.tup [.int (i : Nat), .str z])) r (wvD z i ks op) → ∃ acc, (upd H2 T (.tup [.int (i : Nat), .str z])) D = some (.lst acc) ∧ acc.length < sizeLine ∧ LcNx D (fun i ys R => Same H R ∧ DpAll K R ys ((List.range i).map fun j => wvD (ws.getD j Str.empty) j ks op)) (i + 1) (upd (upd H2 T (.tup [.int (i : Nat), .str z])) D (.lst (acc ++ [r]))) := fun r d3 => by
        refine LcNx.add e5 ly (by omega) ⟨s2, ?_⟩
        rw [List.range_succ, List.map_append]
        refine dpall_snoc (DpAll.same (cd_same (same_new nT)) _ _ dp) ?_
        show Dp K _ r (wvD (ws.getD i Str.empty) i ks op)
        rw [ew]
        exact dp_cd e5 (wv_nolist z i ks op) d3
      refine ⟨_, rfl, rfl, _, rfl, ?_⟩
      by_cases c : z = "day"
      · rw [decide_eq_true (congrArg V.str c)]
        refine iteT ⟨_, rfl, _, rfl, i, ws.length, o, op, rfl, OpAt.same s2' ho, hi, fun r d3 => fin r ?_⟩
        rw [wv_day c]
        exact d3
      · rw [decide_eq_false (fun q => c (by injection q))]
        have lss := DpAll.len ds
        unfold stL at lss
        rw [List.length_map, List.length_range] at lss
        have hq : ss[i]? = some ss[i] := List.getElem?_eq_getElem (by omega)
        refine iteF ⟨_, rfl, _, rfl, m, _, _, _, rfl, rfl, s2'.seq hm, atI_nat hq, fin _ ?_⟩
        rw [wv_st c]
        obtain ⟨d, hd, dd⟩ := DpAll.at_ (DpAll.same s2' _ _ ds) hq
        unfold stL at hd
        rw [List.getElem?_map, List.getElem?_range hi] at hd
        cases hd
        have dd2 : Dp K (upd H2 T (.tup [.int (i : Nat), .str z])) ss[i] (stD (ws.getD i Str.empty) (col i ks)) := dd
        rw [ew] at dd2
        exact dd2
    · rintro ys H2 e ly ⟨sm, dp⟩
      rw [List.length_map] at dp
      have s2 := sm.trans cd_sub
      refine ⟨D, ys, rfl, .inl ⟨SqL.of e, fun t nt => ?_⟩⟩
      exact k t _ (.tup (SqT.of upd_same) (DpAll.same (cd_sub.trans (same_new nt)) _ _ dp)) (s2.trans (same_new nt))
end
end Kd

namespace Kd
open PySem PySem.Spec PyProof.Rows L2 LamX
/-! ### heaps without the tables -/
def nt (H : Hp) : Hp := fun b => match H b with
  | some (.tbl _) => none
  | o => o
theorem nt_of {H : Hp} {b : Addr} {o : HO} (e : H b = some o) (h : ∀ ps, o ≠ .tbl ps) : nt H b = some o := by
  unfold nt
  rw [e]
  cases o with
  | tbl ps => exact absurd rfl (h ps)
  | _ => rfl
theorem nt_sub {H : Hp} : Same (nt H) H := fun b o e => by
  unfold nt at e
  cases q : H b with
  | none => rw [q] at e; cases e
  | some u =>
    rw [q] at e
    cases u with
    | tbl ps => cases e
    | _ => exact e
theorem nt_not {H : Hp} {b : Addr} {o : HO} (e : nt H b = some o) : ∀ ps, o ≠ .tbl ps := fun ps z => by
  subst z
  have q := nt_sub _ _ e
  unfold nt at e
  rw [q] at e
  cases e
theorem ext_nt {H H' : Hp} (e : ExtN H H') : Same (nt H) (nt H') := fun b o h => nt_of (e b o (nt_sub _ _ h) (nt_not h)) (nt_not h)
/-- an assignment, the slots written out -/
theorem set_st {i : Nat} {σ σ' : L2.St} {K : L2.St → Hp → Prop} {v : V} {H : Hp} (e : σ.set i (some v) = σ') (h : K σ' H) : (fun x H1 => gName i x σ H1 K) v H := by
  subst e
  exact h
section
variable {P : Program} {w : World} {K : PySem.W.Frag} {mg : Str → Option Value} {base : Heap} {f : Addr} {fd : FuncData}
theorem seqL_nt {H : Hp} {a : Addr} {xs : List V} (h : SqL K H a xs) : SqL K (nt H) a xs := by
  rcases h with (q | ⟨o, q⟩) | q
  · exact .inl (.inl (nt_of q (fun _ z => nomatch z)))
  · exact .inl (.inr ⟨o, nt_of q (fun _ z => nomatch z)⟩)
  · exact .inr q
theorem seqT_nt {H : Hp} {a : Addr} {xs : List V} (h : SqT K H a xs) : SqT K (nt H) a xs := by
  rcases h with (q | ⟨o, q⟩) | q
  · exact .inl (.inl (nt_of q (fun _ z => nomatch z)))
  · exact .inl (.inr ⟨o, nt_of q (fun _ z => nomatch z)⟩)
  · exact .inr q
theorem kinds_nt {H : Hp} {l : Addr} {ks : List Kind} : KindsAt K H l ks → KindsAt K (nt H) l ks := fun ⟨xs, h1, h2⟩ => ⟨xs, seqL_nt h1, PySem.Paired.mono (fun _ _ ⟨p, q, e1, e2, e3⟩ => ⟨p, q, e1, seqT_nt e2, seqT_nt e3⟩) h2⟩
mutual
theorem dp_nt {H : Hp} : ∀ (d : PyData) (v : V), Dp K H v d → Dp K (nt H) v d
  | .none, _, h => by cases h; exact .non
  | .bool b, _, h => by cases h; exact .bl b
  | .int i, _, h => by cases h; exact .int i
  | .str x, _, h => by cases h; exact .str x
  | .list ds, _, h => by
    cases h with
    | lst a b => exact .lst (seqL_nt a) (dpall_nt ds _ b)
  | .tuple ds, _, h => by
    cases h with
    | tup a b => exact .tup (seqT_nt a) (dpall_nt ds _ b)
  | .dict _, _, h => by cases h
theorem dpall_nt {H : Hp} : ∀ (ds : List PyData) (vs : List V), DpAll K H vs ds → DpAll K (nt H) vs ds
  | [], _, h => by cases h; exact .nil
  | d :: ds, _, h => by
    cases h with
    | cons a b => exact .cons (dp_nt d _ a) (dpall_nt ds _ b)
end
/-! ### kinds by rising days -/
def srt (ks : List Kind) : List Kind := ks.mergeSort fun a b => decide (a.1 ≤ b.1)
theorem paired_zip {α β : Type} {R : α → β → Prop} : ∀ {l : List α} {m : List β}, Paired R l m → ∀ p ∈ l.zip m, R p.1 p.2
  | _, _, .nil, p, hp => by simp at hp
  | _, _, .cons h t, p, hp => by
    rcases List.mem_cons.mp (show p ∈ _ :: _ from hp) with rfl | hp
    · exact h
    · exact paired_zip t p hp
theorem paired_of {α β : Type} {R : α → β → Prop} : ∀ {cs : List (α × β)}, (∀ c ∈ cs, R c.1 c.2) → Paired R (cs.map (·.1)) (cs.map (·.2))
  | [], _ => .nil
  | c :: cs, h => .cons (h c (List.mem_cons_self ..)) (paired_of fun d hd => h d (List.mem_cons_of_mem _ hd))
def firsts (xs : List V) (ks : List Kind) : List (Int × V) := (xs.zip ks).map fun c => (c.2.1, c.1)
theorem firsts_snd {xs : List V} {ks : List Kind} (h : xs.length = ks.length) : (firsts xs ks).map (·.2) = xs := by
  unfold firsts
  rw [List.map_map]
  exact List.map_fst_zip (by omega)
theorem srt_paired {H : Hp} {xs : List V} {ks : List Kind} (hp : Paired (KindAt K H) xs ks) : Paired (KindAt K H) ((KdLam.byFirst (firsts xs ks)).map (·.2)) (srt ks) := by
  have hl := hp.length
  have e1 : KdLam.byFirst (firsts xs ks) = ((xs.zip ks).mergeSort fun a b => decide (a.2.1 ≤ b.2.1)).map fun c => (c.2.1, c.1) := by
    unfold KdLam.byFirst firsts
    exact (List.map_mergeSort (r := fun a b : V × Kind => decide (a.2.1 ≤ b.2.1)) (s := fun a b : Int × V => decide (a.1 ≤ b.1)) (f := fun c : V × Kind => (c.2.1, c.1)) (l := xs.zip ks) (fun a _ b _ => rfl)).symm
  have e2 : srt ks = ((xs.zip ks).mergeSort fun a b => decide (a.2.1 ≤ b.2.1)).map (·.2) := by
    have e3 : ks = (xs.zip ks).map (·.2) := (List.map_snd_zip (by omega)).symm
    unfold srt
    rw [List.map_mergeSort (r := fun a b : V × Kind => decide (a.2.1 ≤ b.2.1)) (s := fun a b : Kind => decide (a.1 ≤ b.1)) (f := fun c : V × Kind => c.2) (l := xs.zip ks) (fun a _ b _ => rfl), ← e3]
  rw [e1, e2, List.map_map]
  refine paired_of (cs := (xs.zip ks).mergeSort fun a b => decide (a.2.1 ≤ b.2.1)) fun c hc => paired_zip hp c ?_
  exact List.mem_mergeSort.mp hc
/-! ### stretches -/
def bgn (ops : List Kind) (j : Nat) : PyData := match j with
  | 0 => .none
  | j + 1 => .int (ops.getD j (0, [])).1
def fin_ (ops : List Kind) (j : Nat) : PyData := if j < ops.length then .int (ops.getD j (0, [])).1 else .none
def opv (ops : List Kind) (j : Nat) : Option (List Fv) := match j with
  | 0 => none
  | j + 1 => some (ops.getD j (0, [])).2
def verD (ws : List Str) (ord ops : List Kind) (j : Nat) : PyData := .tuple [bgn ops j, fin_ ops j, .tuple (vvD ws ord (opv ops j))]
def strL (ws : List Str) (ks : List Kind) : List PyData := (List.range ((opn ws (srt ks)).length + 1)).map (verD ws (srt ks) (opn ws (srt ks)))
theorem vv_nolist (ws : List Str) (ks : List Kind) (op : Option (List Fv)) : NoL 3 (.tuple (vvD ws ks op)) := fun d hd => by
  obtain ⟨j, _, rfl⟩ := List.mem_map.mp hd
  exact wv_nolist _ _ _ _
theorem ver_nolist (ws : List Str) (ord ops : List Kind) (j : Nat) : NoL 4 (verD ws ord ops j) := fun d hd => by
  rcases List.mem_cons.mp hd with rfl | hd
  · cases j <;> exact trivial
  · rcases List.mem_cons.mp hd with rfl | hd
    · unfold fin_
      split <;> exact trivial
    · rw [List.mem_singleton.mp hd]
      exact vv_nolist _ _ _
theorem kget {ops : List Kind} {i : Nat} (h : i < ops.length) : ops.getD i (0, []) = ops[i] := by simp [List.getD_eq_getElem?_getD, h]
theorem bgn_dp {H : Hp} {ops : List Kind} {i : Nat} {v : V} (h : ([V.non] ++ ops.map fun k => V.int k.1)[i]? = some v) : Dp K H v (bgn ops i) := by
  cases i with
  | zero =>
    cases (Option.some.inj h)
    exact .non
  | succ i =>
    have h2 : (ops.map fun k => V.int k.1)[i]? = some v := h
    have hl := (List.getElem?_eq_some_iff.mp h2).1
    rw [List.length_map] at hl
    rw [map_at hl] at h2
    cases h2
    show Dp K H _ (.int (ops.getD i (0, [])).1)
    rw [kget hl]
    exact .int _
theorem fin_dp {H : Hp} {ops : List Kind} {i : Nat} {v : V} (h : ((ops.map fun k => V.int k.1) ++ [V.non])[i]? = some v) : Dp K H v (fin_ ops i) := by
  unfold fin_
  by_cases hl : i < ops.length
  · rw [if_pos hl, kget hl]
    rw [List.getElem?_append_left (by rw [List.length_map]; exact hl), map_at hl] at h
    cases h
    exact .int _
  · rw [if_neg hl]
    have h2 := (List.getElem?_eq_some_iff.mp h).1
    rw [List.length_append, List.length_map] at h2
    have e : i = (ops.map fun k => V.int k.1).length := by rw [List.length_map]; simp at h2; omega
    rw [List.getElem?_append_right (by omega), e, Nat.sub_self] at h
    cases (Option.some.inj h)
    exact .non
theorem op_at {H : Hp} {ops : List Kind} {yv : List V} {n i : Nat} {v : V} (hp : Paired (fun v (kd : Kind) => ∃ q, v = .ref q ∧ SqT K H q (kd.2.map Fv.v)) yv ops) (hl : ∀ k ∈ ops, k.2.length = n) (h : ([V.non] ++ yv)[i]? = some v) : OpAt K H v n (opv ops i) := by
  cases i with
  | zero =>
    cases (Option.some.inj h)
    rfl
  | succ i =>
    have h2 : yv[i]? = some v := h
    obtain ⟨kd, q1, q, e1, e2⟩ := paired_at hp h2
    obtain ⟨g1, g2⟩ := List.getElem?_eq_some_iff.mp q1
    show OpAt K H v n (some (ops.getD i (0, [])).2)
    rw [kget g1, g2]
    exact ⟨q, e1, e2, hl kd (List.mem_of_getElem? q1)⟩
abbrev qS : Str := ("stretches" : Str) ++ ".<locals>." ++ "<lambda>"
theorem FunD.okC {x qual : Str} {params : Arguments} {body : List Stmt} {scope : Scope} {dvs : List V} {kws : List (Str × V)} {c : Addr} {CX : CXT} {N ps : List Str} {k : Nat} {sp : Sp} (F : FunD K x qual params body scope dvs kws f fd) (hc : fd.code = .ref c) (S : FnScope N ps scope) (len : ∀ vs H Q E, sp vs H Q E → vs.length = ps.length)
    (hb : ∀ (A : Around) (outer : List Env) (s : Shared) (H : Hp) (vs : List V) (Q : VK) (E : XK), Room k (A.deeper (envOfC qual scope s.heap.objs.size f (.ref c))) → sp vs H Q E →
      ∃ t, PSs (cxOf CX P w K mg base N qual scope f (.ref c) A outer s H E) body t ∧ t { nx := fun _ H' => Q .non H', rt := Q } (start N vs) H) : FnOk P w K mg base CX (k + 1) f fd ps sp := by
  obtain ⟨oc, od, dV, kV, doc, pm, an, cdv, ct, osl, rfl, lk, hcd, _, _⟩ := F.ex
  have e : cdv = .ref c := hc
  subst e
  exact fn_of lk hcd S len fun A outer s H vs Q E hr hsp => hb A outer s H vs Q E hr hsp
def spStr (K : PySem.W.Frag) (C Pt : Addr) : Sp := fun vs H Q _ => ∃ (x l : Addr) (n : Str) (ds : List (Str × List (Str × Str))) (ms : List Str) (d : Str × List (Str × Str)) (ks : List Kind), vs = [.ref x, .str n, .ref l] ∧ PlanAt K C H x ds ms ∧ ds.find? (fun d => decide (d.1 = n)) = some d ∧ KindsAt K H l ks ∧ (∀ k ∈ ks, k.2.length = d.2.length) ∧ d.2.length ≤ 5 ∧ ks.length ≤ 200 ∧ Tabs [(Pt, qS)] H ∧
  ∀ r H', ExtN H H' → Tabs [(Pt, qS)] H' → (∀ b o, H b = some o → (∀ ps, o ≠ .tbl ps) → b ≠ r) → (∃ ys, H' r = some (.lst ys) ∧ ys.length ≤ 300 ∧ DpAll K H' ys (strL (d.2.map (·.2)) ks)) → Q (.ref r) H'
def stSc : Scope := { kind := .function, names := [(".0", .local), ("at", .cell), ("way", .local), ("steady_value", .globalImplicit), ("ordered", .cell)], isGenerator := false, isCoroutine := false }
abbrev stN : List Str := ["plan", "dimension", "kinds", "attributes", "attribute", "way", "ways", "ordered", "openers", "day", "values", "cuts", "opened_with", "at", "steady", "begin", "end", "opening"]
theorem sc_str : FnScope stN ["plan", "dimension", "kinds"] (defScope s_stretches) := ⟨rfl, rfl, rfl, by decide +kernel, rfl, by decide +kernel, by decide +kernel⟩
set_option maxHeartbeats 0 in
theorem ok_str {C c Pt fA fO fV fS : Addr} {fdA fdO fdV fdS : FuncData} (F : FnP K "stretches" "stretches" s_stretches f fd) (hc : fd.code = .ref c) (TB : TabB base mg c Pt) (GA : FnOk P w K mg base CX0 2 fA fdA ["plan", "dimension"] (spAttr K C)) (kA : PySem.W.keepIn K (.ref fA) = true) (bA : Binds K fdA ["plan", "dimension"] []) (gA : mg "attributes_of" = some (.ref fA))
    (GO : FnOk P w K mg base CX0 2 fO fdO ["ways", "ordered"] (spOpen K)) (kO : PySem.W.keepIn K (.ref fO) = true) (bO : Binds K fdO ["ways", "ordered"] []) (gO : mg "opening_kinds" = some (.ref fO)) (GV : FnOk P w K mg base CX0 2 fV fdV ["ways", "steady", "opening"] (spVv K)) (kV : PySem.W.keepIn K (.ref fV) = true) (bV : Binds K fdV ["ways", "steady", "opening"] []) (gV : mg "version_values" = some (.ref fV))
    (GS : FnOk P w K mg base CX0 2 fS fdS ["way", "column"] (spStv K)) (kS : PySem.W.keepIn K (.ref fS) = true) (bS : Binds K fdS ["way", "column"] []) (gS : mg "steady_value" = some (.ref fS)) (gE : mg "enumerate" = none) (gs : mg "sorted" = none) (gZ : mg "zip" = none) :
    FnOk P w K mg base CX0 4 f fd ["plan", "dimension", "kinds"] (spStr K C Pt) := by
  refine FunD.okC F hc sc_str (fun vs H Q E h => ?_) (fun A outer s H vs Q E hr h => ?_)
  · obtain ⟨x, l, n, ds, ms, d, ks, rfl, _⟩ := h
    rfl
  · obtain ⟨x, l, n, ds, ms, d, ks, rfl, hp, hd, hk, hkl, ld, lk, hT, k⟩ := h
    have nd := sc_str.nd
    have hr2 : Room 2 _ := hr.mono (by decide)
    have hr1 : Room 1 _ := hr.mono (by decide)
    refine ⟨_, PSs.nox (pss_cons (ps_set (i := 3) nd rfl (Or.inl rfl) (pe_call GA hr2 rfl gA kA bA .nil pass0 (pa_cons (pv 0) (pa_cons (pv 1) pa_nil))))
      (pss_cons (ps_if (pt_cmp (pc_isN (pv 3))) (pss_one ps_never) pss_nil)
      (pss_cons (ps_set (i := 6) nd rfl (Or.inr rfl) (pe_lc (own := [("attribute", 4), ("way", 5)]) (g := gTup K 2 (gCons (gName 4) (gCons (gName 5) gNil))) (tt := tYes) rfl nd (pi_tup (pv 3)) (blkOk_by (own := [("attribute", 4), ("way", 5)]) (N := stN) (sc := defScope s_stretches) (by decide +kernel))
        (fun _ _ _ _ _ => pg_tup rfl (pgs_cons (pg_name (i := 4) nd rfl (Or.inl rfl)) (pgs_cons (pg_name (i := 5) nd rfl (Or.inl rfl)) pgs_nil))) (fun _ _ _ _ _ => pts_nil) (fun _ _ _ _ _ => pv 5)))
      (pss_cons (ps_set (i := 7) nd rfl (Or.inr rfl) (KdLam.pe_sortLam (T := [(Pt, qS)]) rfl gs hr1 (pa_cons (pv 2) pa_nil) TB rfl (List.mem_cons_self ..) (fun p hp _ => by rw [List.mem_singleton.mp hp]; rfl) rfl rfl (fun _ _ _ _ => rfl) rfl rfl rfl rfl (by decide +kernel)))
      (pss_cons (ps_set (i := 8) nd rfl (Or.inl rfl) (pe_call GO hr2 rfl gO kO bO .nil pass0 (pa_cons (pv 6) (pa_cons (pv 7) pa_nil))))
      (pss_cons (ps_setLc (i := 11) (own := [("day", 9), ("values", 10)]) (g := gTup K 2 (gCons (gName 9) (gCons (gName 10) gNil))) (tt := tYes) rfl nd rfl rfl (sw_true rfl rfl rfl (by decide +kernel)) (pi_list (pv 8)) (blkOk_by (own := [("day", 9), ("values", 10)]) (N := stN) (sc := defScope s_stretches) (by decide +kernel))
        (fun _ _ _ _ _ => pg_tup rfl (pgs_cons (pg_name (i := 9) nd rfl (Or.inl rfl)) (pgs_cons (pg_name (i := 10) nd rfl (Or.inl rfl)) pgs_nil))) (fun _ _ _ _ _ => pts_nil) (fun _ _ _ _ _ => pv 9))
      (pss_cons (ps_set (i := 12) nd rfl (Or.inl rfl) (pe_op op_cat (pe_lst (pa_cons pe_non pa_nil)) (pe_lc (own := [("day", 9), ("values", 10)]) (g := gTup K 2 (gCons (gName 9) (gCons (gName 10) gNil))) (tt := tYes) rfl nd (pi_list (pv 8)) (blkOk_by (own := [("day", 9), ("values", 10)]) (N := stN) (sc := defScope s_stretches) (by decide +kernel))
        (fun _ _ _ _ _ => pg_tup rfl (pgs_cons (pg_name (i := 9) nd rfl (Or.inl rfl)) (pgs_cons (pg_name (i := 10) nd rfl (Or.inl rfl)) pgs_nil))) (fun _ _ _ _ _ => pts_nil) (fun _ _ _ _ _ => pv 10))))
      (pss_cons (ps_set (i := 14) nd rfl (Or.inr rfl) (pe_lc (own := [("at", 13), ("way", 5)]) (g := gTup K 2 (gCons (gName 13) (gCons (gName 5) gNil))) (tt := tYes) (te := tCall (spStv K) [] E0 (tCons (tVar 5) (tCons (tLc (iList K (tVar 7)) (gTup K 2 (gCons (gName 9) (gCons (gName 10) gNil))) tYes (tOp (rIxT K) (tVar 10) (tVar 13)) [9, 10]) tNil))) rfl nd (pi_enum rfl gE (pa_cons (pv 6) pa_nil)) (blkOk_by (own := [("at", 13), ("way", 5)]) (N := stN) (sc := defScope s_stretches) (by decide +kernel))
        (fun _ _ _ _ _ => pg_tup rfl (pgs_cons (pg_name (i := 13) nd rfl (Or.inr rfl)) (pgs_cons (pg_name (i := 5) nd rfl (Or.inl rfl)) pgs_nil))) (fun _ _ _ _ _ => pts_nil)
        (fun _ _ _ _ _ => pe_call GS hr2 rfl gS kS bS .nil pass0 (pa_cons (pv 5) (pa_cons (pe_lc (own := [("day", 9), ("values", 10)]) (g := gTup K 2 (gCons (gName 9) (gCons (gName 10) gNil))) (tt := tYes) (te := tOp (rIxT K) (tVar 10) (tVar 13)) rfl nd (pi_list (pv 7)) (blkOk_by (own := [("day", 9), ("values", 10)]) (N := stN) (sc := stSc) (by decide +kernel))
          (fun _ _ _ _ _ => pg_tup rfl (pgs_cons (pg_name (i := 9) nd rfl (Or.inl rfl)) (pgs_cons (pg_name (i := 10) nd rfl (Or.inl rfl)) pgs_nil))) (fun _ _ _ _ _ => pts_nil) (fun _ _ _ _ _ => pe_ix ix_tup (pv 10) (pv 13) (fun _ _ => rfl))) pa_nil)))))
      (pss_one (ps_ret (pe_lc (own := [("begin", 15), ("end", 16), ("opening", 17)]) (g := gTup K 3 (gCons (gName 15) (gCons (gName 16) (gCons (gName 17) gNil)))) (tt := tYes) (te := tTup (tCons (tVar 15) (tCons (tVar 16) (tCons (tCall (spVv K) [] E0 (tCons (tVar 6) (tCons (tVar 14) (tCons (tVar 17) tNil)))) tNil)))) rfl nd
          (KdZ.pi_zip3 rfl gZ (pa_cons (pe_op op_cat (pe_lst (pa_cons pe_non pa_nil)) (pv 11)) (pa_cons (pe_op op_cat (pv 11) (pe_lst (pa_cons pe_non pa_nil))) (pa_cons (pv 12) pa_nil)))) (blkOk_by (own := [("begin", 15), ("end", 16), ("opening", 17)]) (N := stN) (sc := defScope s_stretches) (by decide +kernel))
        (fun _ _ _ _ _ => pg_tup rfl (pgs_cons (pg_name (i := 15) nd rfl (Or.inl rfl)) (pgs_cons (pg_name (i := 16) nd rfl (Or.inl rfl)) (pgs_cons (pg_name (i := 17) nd rfl (Or.inl rfl)) pgs_nil)))) (fun _ _ _ _ _ => pts_nil) (fun _ _ _ _ _ => pe_tup (pa_cons (pv 15) (pa_cons (pv 16) (pa_cons (pe_call GV hr2 rfl gV kV bV .nil pass0 (pa_cons (pv 6) (pa_cons (pv 14) (pa_cons (pv 17) pa_nil)))) pa_nil))))))))))))))), ?_⟩
    refine ⟨_, rfl, _, rfl, x, n, ds, ms, rfl, hp, fun d1 q H1 hd1 hq s1 => ?_, fun hn => by rw [hd] at hn; cases hn⟩
    rw [hd] at hd1
    cases hd1
    obtain ⟨ya, ha, pa⟩ := hq
    have la := pa.length
    refine ⟨_, rfl, _, rfl, iteF ?_⟩
    refine ⟨_, rfl, q, rfl, ⟨_, ha⟩, fun D hD => lc_build (walk_tup (K := K) (a := q)) hD (fun i ys R => R = H1 ∧ ys = (d.2.take i).map fun a => V.str a.2) ⟨rfl, rfl⟩ (fun i ys H2 _ p => Same.seqT (cd_is0 p.1) ha) ?_ ?_⟩
    · rintro i ys y H2 H2' hi e ly ⟨ec, rfl⟩ ⟨rfl, hy⟩
      obtain ⟨a, q1, r, rfl, a1⟩ := paired_at pa hy
      refine ⟨r, _, rfl, Same.seqT (cd_is0 ec) a1, rfl, _, _, rfl, _, _, rfl, rfl, rfl, yes ?_⟩
      exact ⟨_, rfl, LcNx.add e ly (by omega) ⟨ec, take_snoc q1⟩⟩
    · rintro ys H2 e2 ly ⟨ec2, rfl⟩
      have eW : (d.2.take ya.length).map (fun a => V.str a.2) = (d.2.map (·.2)).map V.str := by
        rw [la, List.take_length, List.map_map]
        rfl
      rw [eW] at e2
      have lws : (d.2.map (·.2)).length = d.2.length := List.length_map ..
      generalize d.2.map (·.2) = ws at *
      have s02 : Same H H2 := s1.trans (cd_is0 ec2)
      obtain ⟨xs, hx, px⟩ := hk
      have lx := px.length
      refine set_st (σ' := [some (.ref x), some (.str n), some (.ref l), some (.ref q), none, none, some (.ref D), none, none, none, none, none, none, none, none, none, none, none]) rfl ?_
      refine ⟨_, rfl, l, firsts xs ks, rfl, hT.ext s02, by unfold firsts; rw [List.length_map, List.length_zip]; omega, fun H3 eN T3 => ?_⟩
      have s23 : Same (nt H2) (nt H3) := ext_nt eN
      obtain ⟨xs3, hx3, px3⟩ : KindsAt K H3 l ks := KindsAt.same (s23.trans nt_sub) (kinds_nt (KindsAt.same s02 ⟨xs, hx, px⟩))
      have hx3' : SqL K H3 l xs := (s23.trans nt_sub).seq (seqL_nt (s02.seq hx))
      have px3' : Paired (KindAt K H3) xs ks := PySem.Paired.mono (fun _ _ ⟨p, q, e1, e2, e3⟩ => ⟨p, q, e1, Same.seqT (s23.trans nt_sub) (seqT_nt (Same.seqT s02 e2)), Same.seqT (s23.trans nt_sub) (seqT_nt (Same.seqT s02 e3))⟩) px
      refine ⟨by rw [firsts_snd lx]; exact hx3', fun b hb => ?_, fun p np => ?_⟩
      · obtain ⟨cz, hcz, rfl⟩ := List.mem_map.mp hb
        obtain ⟨p, q, e1, e2, e3⟩ := paired_zip px3' cz hcz
        exact ⟨p, _, e1, e2⟩
      have e3 : H3 D = some (.lst (ws.map V.str)) := nt_sub _ _ (s23 _ _ (nt_of e2 (fun _ z => nomatch z)))
      have s34 : Same H3 (upd H3 p (.lst ((KdLam.byFirst (firsts xs ks)).map (·.2)))) := same_new np
      have hord : KindsAt K (upd H3 p (.lst ((KdLam.byFirst (firsts xs ks)).map (·.2)))) p (srt ks) := ⟨_, SqL.of upd_same, PySem.Paired.mono (fun _ _ => KindAt.same s34) (srt_paired px3')⟩
      have hsl : ∀ k ∈ srt ks, k.2.length = ws.length := fun kd hkd => by rw [lws]; exact hkl kd (List.mem_mergeSort.mp hkd)
      have lsr : (srt ks).length = ks.length := List.length_mergeSort ..
      refine set_st (σ' := [some (.ref x), some (.str n), some (.ref l), some (.ref q), none, none, some (.ref D), some (.ref p), none, none, none, none, none, none, none, none, none, none]) rfl ?_
      refine ⟨_, rfl, _, rfl, D, p, ws, srt ks, rfl, SqL.of (s34 _ _ e3), hord, hsl, by omega, by omega, fun r yo H5 h5 p5 s5 => ?_⟩
      have lo := p5.length
      have lops : (opn ws (srt ks)).length ≤ ks.length + 1 := by
        unfold opn
        rw [List.length_append, List.length_take, List.length_map]
        have := List.length_filter_le (nxt ws) ((srt ks).zip ((srt ks).drop 1))
        rw [List.length_zip, List.length_drop] at this
        omega
      have hops : ∀ k ∈ opn ws (srt ks), k.2.length = ws.length := fun kd hkd => by
        unfold opn at hkd
        rcases List.mem_append.mp hkd with hkd | hkd
        · exact hsl kd (List.mem_of_mem_take hkd)
        · obtain ⟨pr, hpr, rfl⟩ := List.mem_map.mp hkd
          exact hsl _ (List.mem_of_mem_drop (List.of_mem_zip (List.mem_filter.mp hpr).1).2)
      generalize hopd : opn ws (srt ks) = ops at *
      refine set_st (σ' := [some (.ref x), some (.str n), some (.ref l), some (.ref q), none, none, some (.ref D), some (.ref p), some (.ref r), none, none, none, none, none, none, none, none, none]) rfl ?_
      refine ⟨_, rfl, r, rfl, ⟨_, SqL.of h5⟩, fun D6 hD6 => lc_build (walk_list (K := K) (a := r)) hD6 (fun i ys R => R = H5 ∧ ys = (ops.take i).map fun k => V.int k.1) ⟨rfl, rfl⟩ (fun i ys H6 _ p => SqL.of (cd_is0 p.1 _ _ h5)) ?_ ?_⟩
      · rintro i ys y H6 H6' hi e ly ⟨ec, rfl⟩ ⟨rfl, hy⟩
        obtain ⟨kd, q1, p, q, rfl, a1, a2⟩ := paired_at p5 hy
        refine ⟨p, _, rfl, Same.seqT (cd_is0 ec) a1, rfl, _, _, rfl, _, _, rfl, rfl, rfl, yes ?_⟩
        exact ⟨_, rfl, LcNx.add e ly (by omega) ⟨ec, take_snoc q1⟩⟩
      · rintro ys H6 e6 ly ⟨ec6, rfl⟩
        rw [lo, List.take_length] at e6
        have s56 : Same H5 H6 := cd_is0 ec6
        refine set_st (σ' := [some (.ref x), some (.str n), some (.ref l), some (.ref q), none, none, some (.ref D), some (.ref p), some (.ref r), none, none, some (.ref D6), none, none, none, none, none, none]) rfl ?_
        refine ⟨by show 1 ≤ sizeLine; decide, fun p7 n7 => ?_⟩
        have s67 : Same H6 (upd H6 p7 (.lst [.non])) := same_new n7
        have s57 := s56.trans s67
        refine ⟨_, rfl, r, rfl, ⟨_, SqL.of (s57 _ _ h5)⟩, fun D8 hD8 => lc_build (walk_list (K := K) (a := r)) hD8 (fun i ys R => R = upd H6 p7 (.lst [.non]) ∧ Paired (fun v (kd : Kind) => ∃ q, v = .ref q ∧ SqT K R q (kd.2.map Fv.v)) ys (ops.take i)) ⟨rfl, .nil⟩ (fun i ys H8 _ p => SqL.of (cd_is0 p.1 _ _ (s57 _ _ h5))) ?_ ?_⟩
        · rintro i ys y H8 H8' hi e ly ⟨ec, pr⟩ ⟨rfl, hy⟩
          obtain ⟨kd, q1, p, q, rfl, a1, a2⟩ := paired_at p5 hy
          have s58 : Same H5 H8' := s57.trans (cd_is0 ec)
          refine ⟨p, _, rfl, Same.seqT s58 a1, rfl, _, _, rfl, _, _, rfl, rfl, rfl, yes ?_⟩
          refine ⟨_, rfl, LcNx.add e ly (by omega) ⟨ec, ?_⟩⟩
          obtain ⟨g1, g2⟩ := List.getElem?_eq_some_iff.mp q1
          rw [List.take_succ_eq_append_getElem g1, g2]
          refine PySem.Paired.snoc pr ⟨q, rfl, ?_⟩
          rw [ec]
          exact Same.seqT s57 a2
        · rintro yv H8 e8 lyv ⟨ec8, pr8⟩
          rw [lo, List.take_length] at pr8
          have lv := pr8.length
          have s78 : Same (upd H6 p7 (.lst [.non])) H8 := cd_is0 ec8
          refine ⟨p7, D8, _, _, rfl, rfl, s78 _ _ upd_same, e8, le_line (by show 1 + yv.length ≤ 4000; omega), fun p9 n9 => ?_⟩
          have s89 : Same H8 (upd H8 p9 (.lst ([.non] ++ yv))) := same_new n9
          have s69 := (s67.trans s78).trans s89
          have c9 := s69 _ _ e6
          have s49 : Same (upd H3 p (.lst ((KdLam.byFirst (firsts xs ks)).map (·.2)))) (upd H8 p9 (.lst ([.non] ++ yv))) := s5.trans (s56.trans s69)
          have s39 := s34.trans s49
          have f9 : upd H8 p9 (.lst ([.non] ++ yv)) p9 = some (.lst ([.non] ++ yv)) := upd_same
          have pr9 : Paired (fun v (kd : Kind) => ∃ q, v = .ref q ∧ SqT K (upd H8 p9 (.lst ([.non] ++ yv))) q (kd.2.map Fv.v)) yv ops := PySem.Paired.mono (fun _ _ ⟨q, e1, e2⟩ => ⟨q, e1, Same.seqT (cd_sub.trans s89) e2⟩) pr8
          generalize upd H8 p9 (.lst ([.non] ++ yv)) = H9 at s89 s69 c9 s49 s39 f9 pr9 ⊢
          refine set_st (σ' := [some (.ref x), some (.str n), some (.ref l), some (.ref q), none, none, some (.ref D), some (.ref p), some (.ref r), none, none, some (.ref D6), some (.ref p9), none, none, none, none, none]) rfl ?_
          refine ⟨_, rfl, D, _, rfl, SqL.of (s39 _ _ e3), fun DS hDS => lc_build (walk_enum (K := K) (a := D) (xs := ws.map V.str)) hDS (fun i ys R => Same H9 R ∧ DpAll K R ys ((List.range i).map fun j => stD (ws.getD j Str.empty) (col j (srt ks)))) ⟨Same.refl _, .nil⟩ (fun _ _ _ _ p => SqL.of ((p.1.trans cd_sub) _ _ (s39 _ _ e3))) ?_ ?_⟩
          · rintro i ys y Ha Ha' hi e ly ⟨sm, dp⟩ ⟨T, x1, y1, rfl, nT, rfl, e1, e2⟩
            rw [List.length_map] at hi
            cases e1
            obtain ⟨z, rfl, ez⟩ := strs_at e2
            have nDT : DS ≠ T := ne_of_none e nT
            have ew : ws.getD i Str.empty = z := by rw [List.getD_eq_getElem?_getD, ez]; rfl
            have e6b : upd Ha T (.tup [.int (i : Nat), .str z]) DS = some (.lst ys) := by rw [upd_ne nDT]; exact e
            have sT : Same Ha (upd Ha T (.tup [.int (i : Nat), .str z])) := same_new nT
            refine ⟨T, _, rfl, SqT.of upd_same, rfl, _, _, rfl, _, _, rfl, rfl, rfl, yes ?_⟩
            generalize upd Ha T (.tup [.int (i : Nat), .str z]) = Hb at e6b sT ⊢
            have sb : Same H9 (cd DS Hb) := sm.trans (cd_same sT)
            obtain ⟨xo, ho1, ho2⟩ := KindsAt.same (s49.trans (sb.trans cd_sub)) hord
            have lxo := ho2.length
            refine ⟨_, rfl, _, rfl, p, rfl, ⟨_, ho1⟩, fun DC hDC => lc_build (walk_list (K := K) (a := p)) hDC (fun j zs R => R = Hb ∧ zs = ((srt ks).take j).map fun k => (k.2.getD i (.i 0)).v) ⟨rfl, rfl⟩ (fun j zs Hc _ q => (cd_is0 q.1).seq ho1) ?_ ?_⟩
            · rintro j zs y Hc Hc' hj ec lz ⟨eh, rfl⟩ ⟨rfl, hy⟩
              obtain ⟨kd, q1, pk, qk, rfl, a1, a2⟩ := paired_at ho2 hy
              have hk1 := hsl kd (List.mem_of_getElem? q1)
              refine ⟨pk, _, rfl, Same.seqT (cd_is0 eh) a1, rfl, _, _, rfl, _, _, rfl, rfl, rfl, yes ?_⟩
              refine ⟨_, rfl, _, rfl, qk, _, _, _, rfl, rfl, Same.seqT (cd_is0 eh) a2, atI_nat (map_at (by omega)), LcNx.add ec lz (by omega) ⟨eh, ?_⟩⟩
              rw [← get_at (by omega)]
              exact take_snoc q1
            · rintro zs Hc ec lz ⟨eh, rfl⟩
              have eC : ((srt ks).take xo.length).map (fun k => (k.2.getD i (.i 0)).v) = (col i (srt ks)).map Fv.v := by
                unfold col
                rw [lxo, List.take_length, List.map_map]
                rfl
              rw [eC] at ec
              have lcol : (col i (srt ks)).length = (srt ks).length := by unfold col; exact List.length_map ..
              refine ⟨z, DC, col i (srt ks), rfl, SqL.of ec, by omega, fun r Hd dd sd => ?_⟩
              have e7 : Hd DS = some (.lst ys) := sd _ _ (cd_is0 eh _ _ e6b)
              have scc : Same (cd DS Ha) (cd DS Hd) := cd_same ((sT.trans (cd_is0 eh)).trans sd)
              refine LcNx.add e7 ly (by omega) ⟨sm.trans scc, ?_⟩
              rw [List.range_succ, List.map_append]
              refine dpall_snoc (DpAll.same scc _ _ dp) ?_
              show Dp K (cd DS Hd) r (stD (ws.getD i Str.empty) (col i (srt ks)))
              rw [ew]
              exact dp_cd e7 (st_nolist z _) dd
          · rintro ss HS eS lS ⟨sS, dS⟩
            rw [List.length_map] at dS
            have s9S : Same H9 HS := sS.trans cd_sub
            have dS2 : DpAll K HS ss (stL ws (srt ks)) := DpAll.same cd_sub _ _ dS
            replace c9 := s9S _ _ c9
            refine set_st (σ' := [some (.ref x), some (.str n), some (.ref l), some (.ref q), none, none, some (.ref D), some (.ref p), some (.ref r), none, none, some (.ref D6), some (.ref p9), none, some (.ref DS), none, none, none]) rfl ?_
            refine ⟨by show 1 ≤ sizeLine; decide, fun pa na => ?_⟩
            have s9a := same_new (o := .lst [.non]) na
            have lcut : (ops.map fun k => V.int k.1).length = ops.length := List.length_map ..
            refine ⟨_, rfl, pa, D6, _, _, rfl, rfl, upd_same, s9a _ _ c9, le_line (by rw [lcut]; show 1 + ops.length ≤ 4000; omega), fun pb nb => ?_⟩
            have sab := same_new (o := .lst ([.non] ++ ops.map fun k => V.int k.1)) nb
            have cb := sab _ _ (s9a _ _ c9)
            refine ⟨_, rfl, by show 1 ≤ sizeLine; decide, fun pc nc => ?_⟩
            have sbc := same_new (o := .lst [.non]) nc
            refine ⟨D6, pc, _, _, rfl, rfl, sbc _ _ cb, upd_same, le_line (by rw [lcut]; show ops.length + 1 ≤ 4000; omega), fun pd nd2 => ?_⟩
            have scd := same_new (o := .lst ((ops.map fun k => V.int k.1) ++ [.non])) nd2
            generalize hHd : upd (upd (upd (upd HS pa (.lst [.non])) pb (.lst ([.non] ++ ops.map fun k => V.int k.1))) pc (.lst [.non])) pd (.lst ((ops.map fun k => V.int k.1) ++ [.non])) = Hd at *
            have gd : Hd pd = some (.lst ((ops.map fun k => V.int k.1) ++ [.non])) := by rw [← hHd]; exact upd_same
            have gb : Hd pb = some (.lst ([.non] ++ ops.map fun k => V.int k.1)) := scd _ _ (sbc _ _ upd_same)
            have s9d := ((s9a.trans sab).trans sbc).trans scd
            have g9 : Hd p9 = some (.lst ([.non] ++ yv)) := s9d _ _ (s9S _ _ f9)
            have s8d : Same H8 Hd := s89.trans (s9S.trans s9d)
            have s7d := s78.trans s8d
            have s5d : Same H5 Hd := s57.trans s7d
            have s4d := s5.trans s5d
            have s3d := s34.trans s4d
            have prd : Paired (fun v (kd : Kind) => ∃ q, v = .ref q ∧ SqT K Hd q (kd.2.map Fv.v)) yv ops := PySem.Paired.mono (fun _ _ ⟨q, e1, e2⟩ => ⟨q, e1, Same.seqT (s9S.trans s9d) e2⟩) pr9
            refine ⟨_, rfl, pb, pd, p9, _, _, _, rfl, SqL.of gb, SqL.of gd, SqL.of g9, fun B hB => ?_⟩
            refine lc_build (KdZ.walk_zip3 (K := K) (a := pb) (b := pd) (c := p9) (n := ops.length + 1) (by rw [List.length_append, lcut]; show 1 + ops.length = _; omega) (by rw [List.length_append, lcut]; rfl) (by rw [List.length_append]; show 1 + yv.length = _; omega)) hB
              (fun i ys R => Same Hd R ∧ DpAll K R ys ((List.range i).map (verD ws (srt ks) ops))) ⟨Same.refl _, .nil⟩ (fun i ys Hz _ p => ⟨SqL.of (cd_sub _ _ (p.1 _ _ gb)), SqL.of (cd_sub _ _ (p.1 _ _ gd)), SqL.of (cd_sub _ _ (p.1 _ _ g9))⟩) ?_ ?_
            · rintro i ys y He He' hi e ly ⟨sm, dp⟩ ⟨T, v1, v2, v3, rfl, nT, rfl, ev1, ev2, ev3⟩
              have nBT : B ≠ T := ne_of_none e nT
              have sde : Same Hd (upd He T (.tup [v1, v2, v3])) := (sm.trans cd_sub).trans (same_new nT)
              refine ⟨T, _, rfl, SqT.of upd_same, rfl, _, _, rfl, _, _, rfl, _, _, rfl, rfl, rfl, yes ?_⟩
              have hop : OpAt K (upd He T (.tup [v1, v2, v3])) v3 ws.length (opv ops i) := op_at (PySem.Paired.mono (fun _ _ ⟨q, e1, e2⟩ => ⟨q, e1, Same.seqT sde e2⟩) prd) hops ev3
              refine ⟨_, rfl, _, rfl, _, rfl, _, rfl, _, rfl, D, DS, v3, ws, srt ks, opv ops i, ss, rfl, SqL.of (sde _ _ (s3d _ _ e3)), SqL.of (sde _ _ (s9d _ _ eS)), DpAll.same (s9d.trans sde) _ _ dS2, hop, by omega, fun rv Hf df sf => ?_⟩
              refine ⟨by show 3 ≤ sizeLine; decide, fun t ntt => ?_⟩
              have ef : upd Hf t (.tup [v1, v2, .ref rv]) B = some (.lst ys) := by
                have q1 : Hf B = some (.lst ys) := sf _ _ (by rw [upd_ne nBT]; exact e)
                rw [upd_ne (ne_of_none q1 ntt)]
                exact q1
              have sef : Same (cd B He) (cd B (upd Hf t (.tup [v1, v2, .ref rv]))) := cd_same (((same_new nT).trans sf).trans (same_new ntt))
              refine LcNx.add ef ly (by omega) ⟨sm.trans sef, ?_⟩
              rw [List.range_succ, List.map_append]
              refine dpall_snoc (DpAll.same sef _ _ dp) (dp_cd ef (ver_nolist ws (srt ks) ops i) ?_)
              refine .tup (SqT.of upd_same) (.cons (bgn_dp ev1) (.cons (fin_dp ev2) (.cons (Dp.same (same_new ntt) _ _ df) .nil)))
            · rintro ys Hz ez ly ⟨sm, dp⟩
              have sdz : Same Hd Hz := sm.trans cd_sub
              have s3z := s3d.trans sdz
              refine k B Hz ((ExtN.of s02).trans (eN.trans (ExtN.of s3z))) (T3.ext s3z) (fun b o hb nt => ne_of_none (((ExtN.of s02).trans (eN.trans (ExtN.of s3d))) b _ hb nt) hB) ⟨_, ez, by omega, ?_⟩
              have ew : strL ws ks = (List.range (ops.length + 1)).map (verD ws (srt ks) ops) := by
                unfold strL
                rw [hopd]
              rw [ew]
              exact DpAll.same cd_sub _ _ dp
end
end Kd

namespace Kd
open PySem PySem.Spec PyProof.Rows L2
/-! ### the mirror of a house's things -/
abbrev Th := Str × Str
abbrev Dims := List (Str × List (Str × Str))
def oD : Option Int → PyData
  | none => .none
  | some i => .int i
def ovI : Option Int → V
  | none => .non
  | some i => .int i
/-- a version: from, to, values -/
abbrev Sv := Option Int × Option Int × List PyData
def bO (ops : List Kind) (j : Nat) : Option Int := match j with
  | 0 => none
  | j + 1 => some (ops.getD j (0, [])).1
def fO (ops : List Kind) (j : Nat) : Option Int := if j < ops.length then some (ops.getD j (0, [])).1 else none
def svOf (ws : List Str) (ord ops : List Kind) (j : Nat) : Sv := (bO ops j, fO ops j, vvD ws ord (opv ops j))
def sv (ws : List Str) (ks : List Kind) : List Sv := (List.range ((opn ws (srt ks)).length + 1)).map (svOf ws (srt ks) (opn ws (srt ks)))
def svD (s : Sv) : PyData := .tuple [oD s.1, oD s.2.1, .tuple s.2.2]
theorem strL_sv (ws : List Str) (ks : List Kind) : strL ws ks = (sv ws ks).map svD := by
  unfold strL sv
  rw [List.map_map]
  apply List.map_congr_left
  intro j _
  show PyData.tuple [bgn _ j, fin_ _ j, _] = .tuple [oD (bO _ j), oD (fO _ j), _]
  congr 2
  · cases j <;> rfl
  · congr 1
    unfold fin_ fO
    split <;> rfl
theorem sv_nol {ws : List Str} {ks : List Kind} {s : Sv} (h : s ∈ sv ws ks) : NoL 3 (.tuple s.2.2) := by
  obtain ⟨j, _, rfl⟩ := List.mem_map.mp h
  exact vv_nolist _ _ _
theorem opn_le (ws : List Str) (ks : List Kind) : (opn ws (srt ks)).length ≤ ks.length := by
  have h : (srt ks).length = ks.length := List.length_mergeSort ..
  unfold opn
  rw [List.length_append, List.length_take, List.length_map]
  have := List.length_filter_le (nxt ws) ((srt ks).zip ((srt ks).drop 1))
  rw [List.length_zip, List.length_drop] at this
  omega
theorem sv_len (ws : List Str) (ks : List Kind) : (sv ws ks).length = (opn ws (srt ks)).length + 1 := by
  unfold sv
  rw [List.length_map, List.length_range]
theorem sv_le (ws : List Str) (ks : List Kind) : (sv ws ks).length ≤ ks.length + 1 := by
  rw [sv_len]
  have := opn_le ws ks
  omega
/-- the first version is from all days -/
theorem sv_head (ws : List Str) (ks : List Kind) : ∃ s r, sv ws ks = s :: r ∧ s.1 = none := by
  unfold sv
  rw [List.range_succ_eq_map, List.map_cons]
  exact ⟨_, _, rfl, rfl⟩
/-- a version with its number -/
structure Ver where
  n : Int
  b : Option Int
  e : Option Int
  d : List PyData
def Ver.s (r : Ver) : Sv := (r.b, r.e, r.d)
def verD1 (r : Ver) : PyData := .tuple [.int r.n, oD r.b, oD r.e, .tuple r.d]
abbrev Old := List (Option Int × Int)
def oldOf (vs : List Ver) : Old := vs.map fun r => (r.b, r.n)
def numStep (old : Old) (acc : List Ver × Int) (s : Sv) : List Ver × Int :=
  (acc.1 ++ [⟨(lk old s.1).getD (if (lk old s.1).isSome then acc.2 else acc.2 + 1), s.1, s.2.1, s.2.2⟩], if (lk old s.1).isSome then acc.2 else acc.2 + 1)
def numS (old : Old) (g : Int) (ss : List Sv) : List Ver × Int := ss.foldl (numStep old) ([], g)
theorem numS_take {old : Old} {g : Int} {ss : List Sv} {i : Nat} {s : Sv} (h : ss[i]? = some s) : numS old g (ss.take (i + 1)) = numStep old (numS old g (ss.take i)) s := by
  obtain ⟨h1, h2⟩ := List.getElem?_eq_some_iff.mp h
  unfold numS
  rw [List.take_succ_eq_append_getElem h1, List.foldl_append, h2]
  rfl
theorem numF_map (old : Old) : ∀ (ss : List Sv) (acc : List Ver × Int), (ss.foldl (numStep old) acc).1.map Ver.s = acc.1.map Ver.s ++ ss
  | [], acc => by rw [List.append_nil]; rfl
  | s :: ss, acc => by
    rw [List.foldl_cons, numF_map old ss]
    unfold numStep
    rw [List.map_append, List.append_assoc]
    rfl
theorem numS_map (old : Old) (g : Int) (ss : List Sv) : (numS old g ss).1.map Ver.s = ss := numF_map old ss ([], g)
theorem numS_len (old : Old) (g : Int) (ss : List Sv) : (numS old g ss).1.length = ss.length := by
  have h := congrArg List.length (numS_map old g ss)
  rw [List.length_map] at h
  exact h
/-- the things of a house -/
structure Ts where
  kinds : List (Th × List Kind)
  nums : List (Th × List Ver)
  given : Int
def stayed (old : Old) (ss : List Sv) : List Sv := ss.filter fun s => (lk old s.1).isSome
def Ts.ks (ts : Ts) (t : Th) : List Kind := (lk ts.kinds t).getD []
def Ts.vs (ts : Ts) (t : Th) : List Ver := (lk ts.nums t).getD []
def Ts.anew (ws : List Str) (ts : Ts) (t : Th) : Ts :=
  { ts with nums := pt ts.nums t (numS (oldOf (ts.vs t)) ts.given (sv ws (ts.ks t))).1, given := (numS (oldOf (ts.vs t)) ts.given (sv ws (ts.ks t))).2 }
def Ts.came (ws : List Str) (ts : Ts) (t : Th) : Int := ((sv ws (ts.ks t)).length : Int) - ((stayed (oldOf (ts.vs t)) (sv ws (ts.ks t))).length : Int)
def Ts.went (ws : List Str) (ts : Ts) (t : Th) : Int := ((ts.vs t).length : Int) - ((stayed (oldOf (ts.vs t)) (sv ws (ts.ks t))).length : Int)
/-- a kind taken, not yet numbered -/
def Ts.kept (ts : Ts) (t : Th) (day : Int) (vals : List Fv) : Ts := { ts with kinds := pt ts.kinds t (pt (ts.ks t) day vals) }
def wsOf (ds : Dims) (n : Str) : List Str := match ds.find? (fun d => decide (d.1 = n)) with
  | some d => d.2.map (·.2)
  | none => []
theorem wsOf_some {ds : Dims} {n : Str} {d : Str × List (Str × Str)} (h : ds.find? (fun d => decide (d.1 = n)) = some d) : wsOf ds n = d.2.map (·.2) := by
  unfold wsOf
  rw [h]
/-- the version of a day -/
def begB (day : Int) (b : Option Int) : Bool := match b with
  | none => true
  | some b => decide (b ≤ day)
def verOn (vs : List Ver) (day : Int) : Option Ver := (vs.filter fun r => begB day r.b).getLast?
theorem flt_snoc {α : Type} {p : α → Bool} {xs : List α} {i : Nat} {z : α} (h : xs[i]? = some z) : (xs.take (i + 1)).filter p = (xs.take i).filter p ++ if p z = true then [z] else [] := by
  obtain ⟨h1, h2⟩ := List.getElem?_eq_some_iff.mp h
  rw [List.take_succ_eq_append_getElem h1, List.filter_append, h2]
  by_cases c : p z = true <;> simp [c]
end Kd

/-! for a, b in zip(xs, t): a list and a tuple -/
namespace KdZ
open PySem PySem.Spec PyProof.Rows L2
/-- a list and a tuple walked together -/
def ItLT (K : PySem.W.Frag) (a b : Addr) : It :=
  ⟨fun i H => ∃ (xs ys : List V) (x y : V), SqL K H a xs ∧ SqT K H b ys ∧ xs[i]? = some x ∧ ys[i]? = some y,
    fun i H v H' => ∃ T x y, v = .ref T ∧ H T = none ∧ H' = upd H T (.tup [x, y]) ∧ (∀ xs, SqL K H a xs → xs[i]? = some x) ∧ ∀ ys, SqT K H b ys → ys[i]? = some y,
    fun i H => ∃ xs ys : List V, SqL K H a xs ∧ SqT K H b ys ∧ i = min xs.length ys.length⟩
theorem turnLT {P : Program} {w : World} {K : PySem.W.Frag} {elts : List Expr} {kk : Nat} {tpos : Pos} {a b N : Addr} (la : a < N) (lb : b < N) :
    Turn P w K (.Tuple elts kk tpos) (ItLT K a b) [N + 4, N + 2, N + 3, N, N + 1] (N + 4) (fun i h => IsZip h (N + 4) (N + 2) (N + 3) .none ∧ IsTupOf2 h (N + 2) (.ref N) (.ref (N + 1)) ∧ (∃ a1 a2, IsTupOf2 h (N + 3) a1 a2) ∧ h.IsListIter N a i ∧ h.IsTupleIter (N + 1) b i) where
  mem := List.mem_cons_self ..
  obj := fun i h st q hq => by
    obtain ⟨h1, h2, ⟨a1, a2, h3⟩, ⟨o4, e4, _, d4⟩, ⟨o5, e5, _, d5⟩⟩ := st
    have e : q = N + 4 ∨ q = N + 2 ∨ q = N + 3 ∨ q = N ∨ q = N + 1 := by simpa using hq
    rcases e with rfl | rfl | rfl | rfl | rfl
    · exact ⟨_, h1, fun v z => nomatch z⟩
    · exact ⟨_, h2, fun v z => nomatch z⟩
    · exact ⟨_, h3, fun v z => nomatch z⟩
    · exact ⟨o4, e4, fun v z => by rw [d4] at z; cases z⟩
    · exact ⟨o5, e5, fun v z => by rw [d5] at z; cases z⟩
  keep := fun i h h' st k => by
    obtain ⟨h1, h2, ⟨a1, a2, h3⟩, h4, h5⟩ := st
    exact ⟨k _ (by simp) _ h1, k _ (by simp) _ h2, ⟨a1, a2, k _ (by simp) _ h3⟩, h4.at fun o q => k _ (by simp) o q, h5.at fun o q => k _ (by simp) o q⟩
  item := by
    intro X hP hw hK hc i pins s σ H E I hf st hg
    subst hP hw hK
    obtain ⟨h1, h2, h3, h4, h5⟩ := st
    obtain ⟨xs, ys, x, y, qx, qy, gx, gy⟩ := hg
    obtain ⟨i1, r1, p1, _⟩ := I.list qx
    obtain ⟨i2, r2, p2, _⟩ := I.tuple qy
    obtain ⟨u1, e1, ru1⟩ := r1.get gx
    obtain ⟨u2, e2, ru2⟩ := r2.get gy
    have l1 := (List.getElem?_eq_some_iff.mp e1).1
    have l2 := (List.getElem?_eq_some_iff.mp e2).1
    have hh : X.A.in1.handled = none := by have := I.ok.hd hc; simpa using this
    have G := GoesN.zip2 (prog := X.prog) (w := X.w) (A := X.A) (elts := elts) (x1 := kk) (pos := tpos) (zip_sep2 (N := N) (fp1 := [a]) (fp2 := [b]) (one la) (one lb)) (Draws.list hh N a (Nat.ne_of_lt la) i1.toArray) (Draws.tuple hh (N + 1) b (Nat.ne_of_lt (Nat.lt_succ_of_lt lb)) i2.toArray)
    refine G.goes i s _ E (by simp; omega) ⟨h1, h2, h3, ⟨h4, p1.isList⟩, ⟨h5, p2⟩⟩ fun v h' tk hY st' hk htk => ?_
    obtain ⟨T, v1, v2, rfl, hT, a1, a2, ht⟩ := hY
    have b1 : v1 = u1 := by rw [List.getElem?_toArray, e1] at a1; exact (Option.some.inj a1).symm
    have b2 : v2 = u2 := by rw [List.getElem?_toArray, e2] at a2; exact (Option.some.inj a2).symm
    subst b1 b2
    obtain ⟨s1, s2, s3, ⟨s4, _⟩, ⟨s5, _⟩⟩ := st'
    have hsub : ∀ q ∈ [N + 4, N + 3, N, N + 1], q ∈ [N + 4, N + 2, N + 3, N, N + 1] := fun q hq => by
      have e : q = N + 4 ∨ q = N + 3 ∨ q = N ∨ q = N + 1 := by simpa using hq
      rcases e with rfl | rfl | rfl | rfl <;> simp
    have new : ObjOk X.prog X.w (upd H T (.tup [x, y])) h' T (.tup [x, y]) := ⟨by show 2 ≤ sizeLine; decide, [v1, v2], .cons ru1 (.cons ru2 .nil), ht⟩
    have I1 : Inv X pins σ (upd H T (.tup [x, y])) { s with heap := h', toks := tk } := I.turnedNew (t' := tk) (ch := [N + 4, N + 3, N, N + 1]) hk (fun q hq => hf q (hsub q hq)) hT new
    refine ⟨.ref T, _, I1, rfl, ⟨T, x, y, rfl, I.hok.fresh hT, rfl, fun l hl => by rw [I.list_inj hl qx]; exact gx, fun l hl => by rw [I.tuple_inj hl qy]; exact gy⟩, ⟨s1, s2, s3, s4, s5⟩, fun q hq => ?_⟩
    have hlt : q < s.heap.objs.size := by
      have e : q = N + 4 ∨ q = N + 2 ∨ q = N + 3 ∨ q = N ∨ q = N + 1 := by simpa using hq
      obtain ⟨a1, a2, h3⟩ := h3
      rcases e with rfl | rfl | rfl | rfl | rfl
      · exact Heap.lt_size h1
      · exact Heap.lt_size h2
      · exact Heap.lt_size h3
      · obtain ⟨_, e, _⟩ := h4; exact Heap.lt_size e
      · obtain ⟨_, e, _⟩ := h5; exact Heap.lt_size e
    rw [upd_ne (Nat.ne_of_lt (Nat.lt_of_lt_of_le hlt hT))]
    exact (hf q hq).1
  done := by
    intro X hP hw hK hc i pins s σ H E I hf st hg
    subst hP hw hK
    obtain ⟨h1, h2, h3, h4, h5⟩ := st
    obtain ⟨xs, ys, qx, qy, hi⟩ := hg
    obtain ⟨i1, r1, p1, _⟩ := I.list qx
    obtain ⟨i2, r2, p2, _⟩ := I.tuple qy
    have hh : X.A.in1.handled = none := by have := I.ok.hd hc; simpa using this
    have G := GoesN.zip2 (prog := X.prog) (w := X.w) (A := X.A) (elts := elts) (x1 := kk) (pos := tpos) (zip_sep2 (N := N) (fp1 := [a]) (fp2 := [b]) (one la) (one lb)) (Draws.list hh N a (Nat.ne_of_lt la) i1.toArray) (Draws.tuple hh (N + 1) b (Nat.ne_of_lt (Nat.lt_succ_of_lt lb)) i2.toArray)
    have en : i = min i1.toArray.size i2.toArray.size := by
      rw [List.size_toArray, List.size_toArray, ← r1.length, ← r2.length]
      exact hi
    subst en
    have hsub : ∀ q ∈ [N + 4, N + 3, N, N + 1], q ∈ [N + 4, N + 2, N + 3, N, N + 1] := fun q hq => by
      have e : q = N + 4 ∨ q = N + 3 ∨ q = N ∨ q = N + 1 := by simpa using hq
      rcases e with rfl | rfl | rfl | rfl <;> simp
    exact G.stops s (fun s2 => Inv X pins σ H s2) E ⟨h1, h2, h3, ⟨h4, p1.isList⟩, ⟨h5, p2⟩⟩ fun h' tk hk htk => I.turnedL (t' := tk) (ch := [N + 4, N + 3, N, N + 1]) hk fun q hq => hf q (hsub q hq)
  self := fun A i s Q E st h => wpAny_pyIter_zip st.1 h
def iZipLT (K : PySem.W.Frag) (ta : TA) : TI := fun σ H R => ta σ H fun vs H1 => ∃ a b xs ys, vs = [.ref a, .ref b] ∧ SqL K H1 a xs ∧ SqT K H1 b ys ∧ R (ItLT K a b) H1
theorem pi_zipLT {X : Cx} {e e2 : Expr} {ta : TA} {p pos tpos : Pos} {elts : List Expr} {kk : Nat} (hg : Gl X "zip") (hm : X.mg "zip" = none) (ha : PA X [e, e2] ta)
    (hs : starEach [e, e2] X.env = (false, eval e X.env) :: starEach [e2] X.env := by rfl) (hpl : (backTo pos (starEach [e2] X.env)).any (·.1) = false := by rfl) :
    PI X (.Tuple elts kk tpos) (.Call (.Name "zip" p) [e, e2] [] pos) (iZipLT X.K ta) := by
  refine ⟨fun pins s σ H R I h => Call_ (ld_blt I hg hm PyProof.Rows.boot_zip (PyProof.Rows.callWith_type1 (thn (ha.run pos pins s σ H _ I h) fun us s1 ⟨vs, H1, I1, r1, q1⟩ => ?_) hs hpl))⟩
  obtain ⟨a, b, xs, ys, rfl, qx, qy, q⟩ := q1
  cases r1 with
  | cons r1 t =>
  cases t with
  | cons r2 t =>
  cases t
  cases r1
  cases r2
  obtain ⟨i1, w1, p1, _⟩ := I1.list qx
  obtain ⟨i2, w2, p2, _⟩ := I1.tuple qy
  obtain ⟨o2, ho2, _⟩ := id p2
  refine zip_begins2 (begins_list a i1.toArray) (begins_tuple b i2.toArray) p1.isList p2 fun h' hz hTI hTO g1 g2 hsz hk => wpAny_pyIter_zip hz ?_
  refine ⟨s1.heap.objs.size + 4, [s1.heap.objs.size + 4, s1.heap.objs.size + 2, s1.heap.objs.size + 3, s1.heap.objs.size, s1.heap.objs.size + 1], _, _, H1, rfl, I1.kept (t' := s1.toks) hk, turnLT p1.lt (Heap.lt_size ho2), ⟨hz, hTI, ⟨_, _, hTO⟩, ⟨_, g1, rfl, rfl⟩, ⟨_, g2, rfl, rfl⟩⟩, fun d hd => ?_, q⟩
  have hle : s1.heap.objs.size ≤ d := by
    have e' : d = s1.heap.objs.size + 4 ∨ d = s1.heap.objs.size + 2 ∨ d = s1.heap.objs.size + 3 ∨ d = s1.heap.objs.size ∨ d = s1.heap.objs.size + 1 := by simpa using hd
    rcases e' with z | z | z | z | z
    all_goals
      rw [z]
      first | exact Nat.le_add_right _ _ | exact Nat.le_refl _
  exact I1.fpOk hle (I1.hok.fresh hle)
theorem walk_zipLT {K : PySem.W.Frag} {a b : Addr} {xs ys : List V} {n : Nat} (hn : n = min xs.length ys.length) : Walk (ItLT K a b) n (fun H => SqL K H a xs ∧ SqT K H b ys) (YPair (fun i => xs[i]?) (fun i => ys[i]?)) := by
  subst hn
  refine ⟨fun i _ hi q => ?_, fun _ q => ⟨xs, ys, q.1, q.2, by omega⟩, fun i H v H' _ q y => ?_⟩
  · have h1 : i < xs.length := by omega
    have h2 : i < ys.length := by omega
    exact ⟨xs, ys, xs[i], ys[i], q.1, q.2, by simp [h1], by simp [h2]⟩
  · obtain ⟨T, x, z, h1, h2, h3, h4, h5⟩ := y
    exact ⟨T, x, z, h1, h2, h3, h4 xs q.1, h5 ys q.2⟩
end KdZ

namespace Kd
open PySem PySem.Spec PyProof.Rows L2
/-! ### things: a pair of a dimension's name and a key -/
def thOf (ds : List (Str × List (Str × Str))) (keys : List Str) : List Th := (ds.map (·.1)).zip keys
section
variable {P : Program} {w : World} {K : PySem.W.Frag} {mg : Str → Option Value} {base : Heap} {f : Addr} {fd : FuncData}
def ThAt (H : Hp) (v : V) (d : Th) : Prop := ∃ r, v = .ref r ∧ H r = some (.tup [.str d.1, .str d.2])
theorem ThAt.same {H H' : Hp} {v : V} {d : Th} (s : Same H H') : ThAt H v d → ThAt H' v d := fun ⟨r, e, h⟩ => ⟨r, e, s _ _ h⟩
def spNamed (K : PySem.W.Frag) (C : Addr) : Sp := fun vs H Q _ => ∃ (x p : Addr) (keys : List Str) (ds : List (Str × List (Str × Str))) (ms : List Str), vs = [.ref x, .ref p] ∧ PlanAt K C H x ds ms ∧ SqT K H p (keys.map V.str) ∧ ds.length ≤ 4 ∧
  ∀ l xs H', Same H H' → H l = none → H' l = some (.lst xs) → Paired (ThAt H') xs (thOf ds keys) → Q (.ref l) H'
abbrev N_things_named : List Str := ["plan", "keys", "dimension", "attributes", "key"]
theorem sc_things_named : FnScope N_things_named ["plan", "keys"] (defScope s_things_named) := ⟨rfl, rfl, rfl, by decide +kernel, rfl, by decide +kernel, by decide +kernel⟩
/-! slots: 0 plan 1 keys 2 dimension 3 attributes 4 key; cells:  -/
theorem ok_named {C fd1 : Addr} {fdd : FuncData} (F : FnP K "things_named" "things_named" s_things_named f fd) (T : PlTxt K C) (GD : FnOk P w K mg base CX0 1 fd1 fdd ["self"] (spDims K C)) (bD : Binds K fdd ["self"] []) (mD : Meth K C "dimensions" fd1) (z_zip : mg "zip" = none) : FnOk P w K mg base CX0 2 f fd ["plan", "keys"] (spNamed K C) := by
  refine F.ok sc_things_named (fun vs H Q E h => ?_) (fun cdv A outer s H vs Q E hr h => ?_)
  · obtain ⟨x, p, keys, ds, ms, rfl, _⟩ := h
    rfl
  · obtain ⟨x, p, keys, ds, ms, rfl, hp, hk, d4, k⟩ := h
    have nd := sc_things_named.nd
    obtain ⟨dx, pa, pb, px, h1, h2, h3, h4⟩ := id hp.ex
    refine ⟨_, PSs.nox (pss_one (ps_ret (pe_lc (own := [("dimension", 2), ("attributes", 3), ("key", 4)]) (g := gTup K 2 (gCons (gTup K 2 (gCons (gName 2) (gCons (gName 3) gNil))) (gCons (gName 4) gNil))) (tt := tYes) (te := tTup (tCons (tVar 2) (tCons (tVar 4) tNil))) rfl nd (KdZ.pi_zipLT rfl z_zip (pa_cons (pe_meth0 (pv 0) T.cl mD GD (hr.mono (by decide)) bD .nil pass0) (pa_cons (pv 1) pa_nil))) (blkOk_by (own := [("dimension", 2), ("attributes", 3), ("key", 4)]) (N := N_things_named) (sc := defScope s_things_named) (by decide +kernel))
        (fun _ _ _ _ _ => pg_tup rfl (pgs_cons (pg_tup rfl (pgs_cons (pg_name (i := 2) nd rfl (Or.inl rfl)) (pgs_cons (pg_name (i := 3) nd rfl (Or.inl rfl)) pgs_nil))) (pgs_cons (pg_name (i := 4) nd rfl (Or.inl rfl)) pgs_nil))) (fun _ _ _ _ _ => pts_nil) (fun _ _ _ _ _ => pe_tup (pa_cons (pv 2) (pa_cons (pv 4) pa_nil)))))), ?_⟩
    refine ⟨_, rfl, x, dx, _, rfl, h1, pl_no0 (by decide +kernel) (by decide +kernel), x, ds, ms, rfl, hp, fun l xs nl pl => ?_⟩
    have s0 : Same H (upd H l (.lst xs)) := same_new nl
    have e0 : upd H l (.lst xs) l = some (.lst xs) := upd_same
    generalize upd H l (.lst xs) = H0 at s0 e0 ⊢
    have hlen := pl.length
    refine ⟨_, rfl, l, p, xs, keys.map V.str, rfl, SqL.of e0, Same.seqT s0 hk, fun D hD => ?_⟩
    refine lc_build (KdZ.walk_zipLT (K := K) (a := l) (b := p) rfl) hD (fun i zs R => Same H0 R ∧ Paired (ThAt R) zs ((thOf ds keys).take i)) ⟨Same.refl _, .nil⟩ (fun _ _ _ _ z => ⟨SqL.of ((z.1.trans cd_sub) _ _ e0), Same.seqT ((s0.trans z.1).trans cd_sub) hk⟩) ?_ ?_
    · rintro i zs y H2 H2' hi e ly ⟨sm, pz⟩ ⟨T0, a, b, rfl, nT, rfl, ga, gb⟩
      have hi2 : i < (thOf ds keys).length := by
        unfold thOf
        rw [List.length_zip, List.length_map, ← hlen]
        rw [List.length_map] at hi
        exact hi
      obtain ⟨d, hd, pp, qq, rfl, h5, h6⟩ := paired_at pl ga
      obtain ⟨key, rfl, hkey⟩ : ∃ key, b = .str key ∧ keys[i]? = some key := by
        have gb : (keys.map V.str)[i]? = some b := gb
        rw [List.getElem?_map] at gb
        obtain ⟨key, h7, h8⟩ := Option.map_eq_some_iff.mp gb
        exact ⟨key, h8.symm, h7⟩
      have nTD : D ≠ T0 := ne_of_none e nT
      have sT : Same H2 (upd H2 T0 (.tup [.ref pp, .str key])) := same_new nT
      have eT : upd H2 T0 (.tup [.ref pp, .str key]) T0 = some (.tup [.ref pp, .str key]) := upd_same
      generalize upd H2 T0 (.tup [.ref pp, .str key]) = H3 at sT eT ⊢
      have s03 : Same H H3 := (s0.trans (sm.trans cd_sub)).trans sT
      refine ⟨T0, _, rfl, SqT.of eT, rfl, _, _, rfl, pp, _, rfl, Same.seqT s03 h5, rfl, _, _, rfl, _, _, rfl, rfl, _, _, rfl, rfl, rfl, yes ?_⟩
      refine ⟨_, rfl, _, rfl, by show 2 ≤ sizeLine; decide, fun t nt => ?_⟩
      have s4 : Same H3 (upd H3 t (.tup [.str d.1, .str key])) := same_new nt
      have e4 : upd H3 t (.tup [.str d.1, .str key]) t = some (.tup [.str d.1, .str key]) := upd_same
      generalize upd H3 t (.tup [.str d.1, .str key]) = H4 at s4 e4 ⊢
      have s24 := sT.trans s4
      have e5 := s24 _ _ e
      refine LcNx.add e5 ly (by rw [List.length_map] at hi; omega) ⟨sm.trans (cd_same s24), ?_⟩
      have hz : (thOf ds keys)[i]'hi2 = (d.1, key) := by
        have h9 : (thOf ds keys)[i]? = some (d.1, key) := by
          unfold thOf
          rw [List.getElem?_zip_eq_some]
          exact ⟨by rw [List.getElem?_map, hd]; rfl, hkey⟩
        exact (List.getElem?_eq_some_iff.mp h9).2
      rw [List.take_succ_eq_append_getElem hi2, hz]
      exact PySem.Paired.snoc (PySem.Paired.mono (fun _ _ => ThAt.same (cd_same s24)) pz) ⟨t, rfl, cd_of e4 (ne_of_none (sT _ _ e) nt).symm⟩
    · rintro zs H2 e ly ⟨sm, pz⟩
      have hl : min xs.length (keys.map V.str).length = (thOf ds keys).length := by
        unfold thOf
        rw [List.length_zip, List.length_map, List.length_map, hlen]
      rw [hl, List.take_length] at pz
      exact k D zs H2 (s0.trans (sm.trans cd_sub)) (s0.free hD) e (PySem.Paired.mono (fun _ _ => ThAt.same cd_sub) pz)
end
end Kd

namespace Kd
open PySem PySem.Spec PyProof.Rows L2
/-! ### Things.__init__ -/
def thF (p kd nb : Addr) (gv : Int) : List (Str × V) := [("plan", .ref p), ("kinds", .ref kd), ("numbered", .ref nb), ("given", .int gv)]
theorem th_put (p kd nb : Addr) : putF "given" (.int 0) (putF "numbered" (.ref nb) (putF "kinds" (.ref kd) (putF "plan" (.ref p) []))) = thF p kd nb 0 := by
  have n1 : ("kinds" : Str) ≠ "plan" := by decide +kernel
  have n2 : ("numbered" : Str) ≠ "plan" := by decide +kernel
  have n3 : ("numbered" : Str) ≠ "kinds" := by decide +kernel
  have n4 : ("given" : Str) ≠ "plan" := by decide +kernel
  have n5 : ("given" : Str) ≠ "kinds" := by decide +kernel
  have n6 : ("given" : Str) ≠ "numbered" := by decide +kernel
  simp [putF, thF, n1, n2, n3, n4, n5, n6, n1.symm, n2.symm, n3.symm, n4.symm, n5.symm, n6.symm]
structure ThTxt (K : PySem.W.Frag) (C : Addr) : Prop where
  cl : Cls K C
  nP : NoAttr K C "plan"
  nK : NoAttr K C "kinds"
  nN : NoAttr K C "numbered"
  nG : NoAttr K C "given"
section
variable {P : Program} {w : World} {K : PySem.W.Frag} {mg : Str → Option Value} {base : Heap} {f : Addr} {fd : FuncData}
def spThings (K : PySem.W.Frag) (C : Addr) : Sp := fun vs H Q _ => ∃ x dx p : Addr, vs = [.ref x, .ref p] ∧ H x = some (.ins C dx []) ∧
  ∀ (H' : Hp) (kd nb : Addr), H kd = none → H nb = none → kd ≠ nb → H' x = some (.ins C dx (thF p kd nb 0)) → H' kd = some (.dT []) → H' nb = some (.dT []) → Same (cd x H) (cd x H') → Q .non H'
theorem sc_things : FnScope ["self", "plan"] ["self", "plan"] (defScope s_Things_init) := ⟨rfl, rfl, rfl, by decide +kernel, rfl, by decide +kernel, by decide +kernel⟩
theorem ok_things {C : Addr} (F : FnP K "__init__" "Things.__init__" s_Things_init f fd) (T : ThTxt K C) : FnOk P w K mg base CX0 1 f fd ["self", "plan"] (spThings K C) := by
  refine F.ok sc_things (fun vs H Q E h => ?_) (fun cdv A outer s H vs Q E hr h => ?_)
  · obtain ⟨x, dx, p, rfl, _⟩ := h
    rfl
  · obtain ⟨x, dx, p, rfl, hx, k⟩ := h
    have nd := sc_things.nd
    refine ⟨_, PSs.nox (pss_cons (ps_fld (pv 0) (pv 1) rfl) (pss_cons (ps_fld (pv 0) pe_dnewT rfl) (pss_cons (ps_fld (pv 0) pe_dnewT rfl) (pss_one (ps_fld (pv 0) pe_int rfl))))), ?_⟩
    refine ⟨_, rfl, _, rfl, x, C, dx, _, rfl, hx, T.cl, T.nP, (by show 0 < 1000; decide), ?_⟩
    have hx1 : upd H x (.ins C dx (putF "plan" (.ref p) [])) x = some (.ins C dx (putF "plan" (.ref p) [])) := upd_same
    have o1 : ∀ b, b ≠ x → upd H x (.ins C dx (putF "plan" (.ref p) [])) b = H b := fun b hb => upd_ne hb
    generalize upd H x (.ins C dx (putF "plan" (.ref p) [])) = H1 at hx1 o1 ⊢
    intro kd nkd
    have nkx : kd ≠ x := (ne_of_none hx1 nkd).symm
    have hx2 : upd H1 kd (.dT []) x = some (.ins C dx (putF "plan" (.ref p) [])) := by rw [upd_ne nkx.symm]; exact hx1
    refine ⟨_, rfl, x, C, dx, _, rfl, hx2, T.cl, T.nK, (by show 1 < 1000; decide), ?_⟩
    have hx3 : upd (upd H1 kd (.dT [])) x (.ins C dx (putF "kinds" (.ref kd) (putF "plan" (.ref p) []))) x = some (.ins C dx (putF "kinds" (.ref kd) (putF "plan" (.ref p) []))) := upd_same
    have k3 : upd (upd H1 kd (.dT [])) x (.ins C dx (putF "kinds" (.ref kd) (putF "plan" (.ref p) []))) kd = some (.dT []) := by rw [upd_ne nkx]; exact upd_same
    have o3 : ∀ b, b ≠ x → b ≠ kd → upd (upd H1 kd (.dT [])) x (.ins C dx (putF "kinds" (.ref kd) (putF "plan" (.ref p) []))) b = H1 b := fun b h1 h2 => by rw [upd_ne h1, upd_ne h2]
    generalize upd (upd H1 kd (.dT [])) x (.ins C dx (putF "kinds" (.ref kd) (putF "plan" (.ref p) []))) = H3 at hx3 k3 o3 ⊢
    intro nb nnb
    have nbx : nb ≠ x := (ne_of_none hx3 nnb).symm
    have nbk : nb ≠ kd := (ne_of_none k3 nnb).symm
    have hx4 : upd H3 nb (.dT []) x = some (.ins C dx (putF "kinds" (.ref kd) (putF "plan" (.ref p) []))) := by rw [upd_ne nbx.symm]; exact hx3
    refine ⟨_, rfl, x, C, dx, _, rfl, hx4, T.cl, T.nN, (by show 2 < 1000; decide), ?_⟩
    have hx5 : upd (upd H3 nb (.dT [])) x (.ins C dx (putF "numbered" (.ref nb) (putF "kinds" (.ref kd) (putF "plan" (.ref p) [])))) x = some (.ins C dx (putF "numbered" (.ref nb) (putF "kinds" (.ref kd) (putF "plan" (.ref p) [])))) := upd_same
    have n5 : upd (upd H3 nb (.dT [])) x (.ins C dx (putF "numbered" (.ref nb) (putF "kinds" (.ref kd) (putF "plan" (.ref p) [])))) nb = some (.dT []) := by rw [upd_ne nbx]; exact upd_same
    have o5 : ∀ b, b ≠ x → b ≠ nb → upd (upd H3 nb (.dT [])) x (.ins C dx (putF "numbered" (.ref nb) (putF "kinds" (.ref kd) (putF "plan" (.ref p) [])))) b = H3 b := fun b h1 h2 => by rw [upd_ne h1, upd_ne h2]
    generalize upd (upd H3 nb (.dT [])) x (.ins C dx (putF "numbered" (.ref nb) (putF "kinds" (.ref kd) (putF "plan" (.ref p) [])))) = H5 at hx5 n5 o5 ⊢
    refine ⟨_, rfl, x, C, dx, _, rfl, hx5, T.cl, T.nG, (by show 3 < 1000; decide), ?_⟩
    have hkd0 : H kd = none := by rw [← o1 kd nkx]; exact nkd
    have hnb0 : H nb = none := by rw [← o1 nb nbx, ← o3 nb nbx nbk]; exact nnb
    refine k _ kd nb hkd0 hnb0 nbk.symm (Eq.trans upd_same (congrArg (fun z => some (HO.ins C dx z)) (th_put p kd nb))) ?_ ?_ (fun b o q => ?_)
    · rw [upd_ne nkx, o5 kd nkx nbk.symm]
      exact k3
    · rw [upd_ne nbx]
      exact n5
    · have bx := (ct_ne q).1
      have qb := cd_sub _ _ q
      have bk : b ≠ kd := ne_of_none qb hkd0
      have bn : b ≠ nb := ne_of_none qb hnb0
      refine cd_of ?_ bx
      rw [upd_ne bx, o5 b bx bn, o3 b bx bk, o1 b bx]
      exact qb
/-! ### Things.knows -/
theorem th_num (p kd nb : Addr) (gv : Int) : (thF p kd nb gv).lookup ("numbered" : Str) = some (.ref nb) := by
  unfold thF
  rw [List.lookup_cons, show (("numbered" : Str) == "plan") = false by decide +kernel]
  show List.lookup _ _ = _
  rw [List.lookup_cons, show (("numbered" : Str) == "kinds") = false by decide +kernel]
  show List.lookup _ _ = _
  rw [List.lookup_cons, show (("numbered" : Str) == "numbered") = true by decide +kernel]
def thK (t : Th) : List L2.Key := [Sum.inr t.1, Sum.inr t.2]
def spKnows (C : Addr) : Sp := fun vs H Q _ => ∃ (x dx p kd nb r : Addr) (gv : Int) (t : Th) (kvs : List (List L2.Key × V)), vs = [.ref x, .ref r] ∧ H x = some (.ins C dx (thF p kd nb gv)) ∧ H r = some (.tup [.str t.1, .str t.2]) ∧ H nb = some (.dT kvs) ∧ Q (.bl (valV kvs (thK t)).isSome) H
theorem sc_knows : FnScope ["self", "thing"] ["self", "thing"] (defScope s_Things_knows) := ⟨rfl, rfl, rfl, by decide +kernel, rfl, by decide +kernel, by decide +kernel⟩
theorem ok_knows {C : Addr} (F : FnP K "knows" "Things.knows" s_Things_knows f fd) (T : ThTxt K C) : FnOk P w K mg base CX0 1 f fd ["self", "thing"] (spKnows C) := by
  refine F.ok sc_knows (fun vs H Q E h => ?_) (fun cdv A outer s H vs Q E hr h => ?_)
  · obtain ⟨x, dx, p, kd, nb, r, gv, t, kvs, rfl, _⟩ := h
    rfl
  · obtain ⟨x, dx, p, kd, nb, r, gv, t, kvs, rfl, hx, hr2, hn, k⟩ := h
    have hu := hr.units
    have hu1 : (A.deeper (envOfC "Things.knows" (defScope s_Things_knows) s.heap.objs.size f cdv)).units + 1 < cLine := by omega
    refine ⟨_, PSs.nox (pss_one (ps_ret (pe_cmp (pc_din hu1 (pv 1) (pe_fld (pv 0) rfl))))), ?_⟩
    refine ⟨_, rfl, _, rfl, x, C, dx, _, _, rfl, hx, T.cl, T.nN, th_num p kd nb gv, nb, _, rfl, .inr ⟨kvs, thK t, r, .inl hn, rfl, hr2, rfl⟩, k⟩
end
end Kd

/-! a dict whose keys are None, ints and texts: a thing of its own (HO.ext) -/
namespace KdNd
open PySem PySem.Spec PyProof.Rows L2
abbrev NK := Option Key
def nkV : NK → V
  | none => .non
  | some k => kV k
theorem nk_is {P : Program} {w : World} {k : NK} {u : Value} (r : RelV (nkV k) u) : (noneKind P w).is k u = true := by
  cases k with
  | none =>
    obtain rfl : u = Value.none := r
    rfl
  | some k => exact kV_is (P := P) (w := w) (k := k) r
/-- the dict at a -/
def NdO (P : Program) (w : World) (a : Addr) (kvs : List (NK × V)) : HO := .ext fun h => kvs.length ≤ sizeLine ∧ (a == sysModules) = false ∧ ∃ vs, KV kvs vs ∧ h.DictOf (noneKind P w) a vs
theorem nd_of {P : Program} {w : World} {H : Hp} {h : Heap} {a : Addr} {kvs : List (NK × V)} (ok : HOk P w H h) (e : H a = some (NdO P w a kvs)) : kvs.length ≤ sizeLine ∧ (a == sysModules) = false ∧ ∃ vs, KV kvs vs ∧ h.DictOf (noneKind P w) a vs :=
  (show ObjOk P w H h a (NdO P w a kvs) from ok a _ e).1
theorem nd_new {P : Program} {w : World} {H' : Hp} {h' : Heap} {a : Addr} {kvs : List (NK × V)} {vs : List (NK × Value)} (z : kvs.length ≤ sizeLine) (hd : (a == sysModules) = false) (rel : KV kvs vs) (dd : h'.DictOf (noneKind P w) a vs) : ObjOk P w H' h' a (NdO P w a kvs) :=
  ⟨⟨z, hd, vs, rel, dd⟩, let ⟨q, _, _, hq, _⟩ := dd; ⟨q, hq⟩, fun h1 h2 ⟨z, hd, vs, rel, d1⟩ k => ⟨z, hd, vs, rel, d1.at k⟩⟩
section
variable {X : Cx} {pins : List (Addr × Obj)} {σ : L2.St} {H : Hp} {s : Shared} {a : Addr} {kvs : List (NK × V)} {k : NK} {u : Value} {A : Around} {E : Value → Shared → Prop}
theorem nd_in {Q : Value → Shared → Prop} (I : Inv X pins σ H s) (e : H a = some (NdO X.prog X.w a kvs)) (ry : RelV (nkV k) u) (h : ∀ s', Inv X pins σ H s' → Q (.bool (valV kvs k).isSome) s') : wpAny (model X.prog X.w) A (compareOp .In u (.ref a)) Q E s := by
  obtain ⟨z, hd, vs, rel, dd⟩ := nd_of I.hok e
  refine wpAny_in_of (nk_is ry) hd dd.mapOf ?_
  rw [← (rel.val k).isSome_eq]
  exact h _ (I.tok _)
theorem nd_notIn {Q : Value → Shared → Prop} (I : Inv X pins σ H s) (e : H a = some (NdO X.prog X.w a kvs)) (ry : RelV (nkV k) u) (h : ∀ s', Inv X pins σ H s' → Q (.bool (!(valV kvs k).isSome)) s') : wpAny (model X.prog X.w) A (compareOp .NotIn u (.ref a)) Q E s := by
  obtain ⟨z, hd, vs, rel, dd⟩ := nd_of I.hok e
  refine wpAny_notIn_of (nk_is ry) hd dd.mapOf ?_
  rw [← (rel.val k).isSome_eq]
  exact h _ (I.tok _)
/-- d[y] = v by a comprehension -/
theorem nd_dictSet {v : V} {r : Value} {Q : Unit → Shared → Prop} (I : Inv X pins σ H s) (e : H a = some (NdO X.prog X.w a kvs)) (ry : RelV (nkV k) u) (rv : RelV v r) (l : kvs.length < sizeLine) (h : ∀ s', Inv X pins σ (upd H a (NdO X.prog X.w a (putK kvs k v))) s' → Q () s') :
    wpAny (model X.prog X.w) A (dictSet a u r) Q E s := by
  obtain ⟨z, hd, vs, rel, dd⟩ := nd_of I.hok e
  have hz : vs.length ≤ sizeLine := by rw [← rel.length]; exact z
  have hl : (putK kvs k v).length ≤ sizeLine := by have := length_putK kvs k v; omega
  refine wpAny_dictSet_pairs (hsz := hz) (nk_is ry) dd fun h' dd' hs => h _ ?_
  have he : ∃ q, h'.get? a = some q := let ⟨q, _, _, hq, _⟩ := dd'; ⟨q, hq⟩
  exact d_write I (by rw [e]; exact True.intro) hs he (nd_new hl hd (rel.put k rv) dd')
/-- d.get(y, v) -/
theorem nd_get2 {v : V} {r : Value} {Q : Value → Shared → Prop} (I : Inv X pins σ H s) (e : H a = some (NdO X.prog X.w a kvs)) (ry : RelV (nkV k) u) (rv : RelV v r) (h : ∀ w' s', Inv X pins σ H s' → RelV ((valV kvs k).getD v) w' → Q w' s') :
    wpAny (model X.prog X.w) A (call (.builtin "dict.get") [.ref a, u, r]) Q E s := by
  obtain ⟨z, hd, vs, rel, dd⟩ := nd_of I.hok e
  exact call_meetsIn PySem.F.slot_dict_get dd.typeIs PySem.F.entry_dict_get (PySem.F.args_dict_get_3 _ _ _) (meets_dict_get_default (noneKind X.prog X.w) a (nk_is ry) hd r) ⟨_, dd.mapOf, h _ _ (I.tok _) ((rel.val k).getD rv)⟩
theorem nd_len {Q : Value → Shared → Prop} (I : Inv X pins σ H s) (e : H a = some (NdO X.prog X.w a kvs)) (h : ∀ t s', Inv X pins σ H s' → Q (.int kvs.length t) s') : wpAny (model X.prog X.w) A (call (.builtin "len") [.ref a]) Q E s := by
  obtain ⟨z, hd, vs, rel, dd⟩ := nd_of I.hok e
  refine call_len_dict hd dd (by rw [← rel.length]; rw [sizeLine_eq] at z; omega) ?_
  rw [← rel.length]
  exact h _ _ (I.tok _)
theorem nd_at (I : Inv X pins σ H s) (e : H a = some (NdO X.prog X.w a kvs)) : s.TypeIs (.ref a) "dict" ∧ (∀ b, Value.ref a = .ref b → ∃ ob, s.heap.get? b = some ob ∧ ob.dict = none) ∧ (a == sysModules) = false := by
  obtain ⟨_, hd, vs, _, dd⟩ := nd_of I.hok e
  refine ⟨dd.typeIs, fun b q => ?_, hd⟩
  cases q
  obtain ⟨ob, _, _, h1, h2, _⟩ := dd
  exact ⟨ob, h1, h2.2.1⟩
end
/-- y in d, y not in d -/
def tNdIn (P : Program) (w : World) (ty td : TE) : TE := fun σ H Q => ty σ H fun y H1 => td σ H1 fun x H2 => ∃ a kvs k, x = .ref a ∧ y = nkV k ∧ H2 a = some (NdO P w a kvs) ∧ Q (.bl (valV kvs k).isSome) H2
def tNdNotIn (P : Program) (w : World) (ty td : TE) : TE := fun σ H Q => ty σ H fun y H1 => td σ H1 fun x H2 => ∃ a kvs k, x = .ref a ∧ y = nkV k ∧ H2 a = some (NdO P w a kvs) ∧ Q (.bl (!(valV kvs k).isSome)) H2
section
variable {X : Cx} {o i : Expr} {td ty : TE}
theorem pc_ndin (hi : PE X i ty) (ho : PE X o td) : PC X .In i o (tNdIn X.prog X.w ty td) := by
  refine ⟨fun pins s σ H Q I h => ?_⟩
  refine thn (hi.run pins s σ H _ I h) fun iv s1 ⟨y, H1, I1, ry, q1⟩ => thn (ho.run pins s1 σ H1 _ I1 q1) fun u s2 ⟨x, H2, I2, rx, q2⟩ => ?_
  obtain ⟨a, kvs, k, rfl, rfl, e, q2⟩ := q2
  obtain rfl : u = Value.ref a := rx
  exact nd_in I2 e ry fun s3 I3 => ⟨.bl _, H2, I3, rfl, q2⟩
theorem pc_ndnotin (hi : PE X i ty) (ho : PE X o td) : PC X .NotIn i o (tNdNotIn X.prog X.w ty td) := by
  refine ⟨fun pins s σ H Q I h => ?_⟩
  refine thn (hi.run pins s σ H _ I h) fun iv s1 ⟨y, H1, I1, ry, q1⟩ => thn (ho.run pins s1 σ H1 _ I1 q1) fun u s2 ⟨x, H2, I2, rx, q2⟩ => ?_
  obtain ⟨a, kvs, k, rfl, rfl, e, q2⟩ := q2
  obtain rfl : u = Value.ref a := rx
  exact nd_notIn I2 e ry fun s3 I3 => ⟨.bl _, H2, I3, rfl, q2⟩
/-- d.get(y, x) -/
def tNdGet2 (P : Program) (w : World) (td ty tx : TE) : TE := fun σ H Q => td σ H fun x H1 => ∃ a, x = .ref a ∧ (∃ kvs, H1 a = some (NdO P w a kvs)) ∧ ty σ H1 fun y H2 => tx σ H2 fun z H3 => ∃ kvs k, y = nkV k ∧ H3 a = some (NdO P w a kvs) ∧ Q ((valV kvs k).getD z) H3
theorem pe_ndget2 {e f : Expr} {tx : TE} {apos cpos : Pos} (ho : PE X o td) (he : PE X e ty) (hf : PE X f tx) (m : M2 X o "get" apos e f cpos) : PE X (.Call (.Attribute o "get" apos) [e, f] [] cpos) (tNdGet2 X.prog X.w td ty tx) := by
  refine ⟨fun pins s σ H Q I h => ?_⟩
  refine wpAny_Call_method m.base m.few m.line PySem.F.plainAttrs_dict PySem.F.slot_dict_get PySem.F.type_dict_get (thn (ho.run pins s σ H _ I h) fun u s1 ⟨x, H1, I1, rx, a, ex, ⟨kvs, d⟩, q1⟩ => ?_)
  subst ex
  obtain rfl : u = Value.ref a := rx
  obtain ⟨t1, t2, _⟩ := nd_at I1 d
  refine ⟨t1, t2, ?_⟩
  rw [m.trees]
  refine Calls.callWith_builtin rfl (Calls.evalArgs_plain (Calls.spliced_cons (thn (he.run pins s1 σ H1 _ I1 q1) fun iv s2 ⟨y, H2, I2, ry, q2⟩ =>
    Calls.spliced_cons (thn (hf.run pins s2 σ H2 _ I2 q2) fun fv s3 ⟨z, H3, I3, rz, kv, k, ey, g, q3⟩ => Calls.spliced_nil ?_))))
  subst ey
  exact nd_get2 I3 g ry rz fun w' s4 I4 rw' => ⟨_, H3, I4, rw', q3⟩
theorem call_lenN : CallR X (.builtin "len") (fun xs H Q => ∃ a kvs, xs = [V.ref a] ∧ H a = some (NdO X.prog X.w a kvs) ∧ Q (.int kvs.length) H) := by
  intro pins s σ H vs us Q I r h
  obtain ⟨a, kvs, rfl, e, q⟩ := h
  cases r with
  | cons r t =>
    cases t
    cases r
    exact nd_len I e fun t s' I' => ⟨.int kvs.length, H, I', ⟨t, rfl⟩, q⟩
end
end KdNd

/-! dicts with tuple keys: pop, setdefault; list(d.values()) -/
namespace KdDt
open PySem PySem.Spec PyProof.Rows L2
section
variable {X : Cx}
theorem kt_none {H : Hp} {kvs : List (List L2.Key × V)} {xs : List (List L2.Key × Addr × Value)} {k : List L2.Key} (r : KT H kvs xs) (h : atKey xs k = none) : valV kvs k = none := by
  have q := r.val k
  rw [h] at q
  cases e : valV kvs k with
  | none => rfl
  | some v => rw [e] at q; exact False.elim q
theorem kt_some {H : Hp} {kvs : List (List L2.Key × V)} {xs : List (List L2.Key × Addr × Value)} {k : List L2.Key} {p : Addr × Value} (r : KT H kvs xs) (h : atKey xs k = some p) : ∃ v, valV kvs k = some v ∧ RelV v p.2 := by
  have q := r.val k
  rw [h] at q
  cases e : valV kvs k with
  | none => rw [e] at q; exact False.elim q
  | some v => rw [e] at q; exact ⟨v, rfl, q⟩
theorem kt_at {H : Hp} {kvs : List (List L2.Key × V)} {xs : List (List L2.Key × Addr × Value)} {k : List L2.Key} {v : V} (r : KT H kvs xs) (h : valV kvs k = some v) : ∃ p, atKey xs k = some p ∧ RelV v p.2 := by
  have q := r.val k
  rw [h] at q
  cases e : atKey xs k with
  | none => rw [e] at q; exact False.elim q
  | some p => rw [e] at q; exact ⟨p, rfl, q⟩
/-- d.pop(k), the key there -/
def rPop1T : V → List V → Hp → VK → Prop := fun x xs H Q => ∃ (a b : Addr) (kvs : List (List L2.Key × V)) (k : List L2.Key) (v : V), x = .ref a ∧ xs = [.ref b] ∧ H a = some (.dT kvs) ∧ H b = some (.tup (k.map kV)) ∧ valV kvs k = some v ∧ Q v (upd H a (.dT (dropK kvs k)))
theorem mt_pop1T (hu : X.A.units + 1 < cLine) : MtR X "dict.pop" rPop1T := by
  intro pins s σ H x xs v us Q I rx rxs h
  obtain ⟨a, b, kvs, k, y, rfl, rfl, ha, hb, hv, q⟩ := h
  cases rx
  cases rxs with
  | cons r1 r2 =>
  cases r2
  cases r1
  obtain ⟨z, hd, xs', rel, dd⟩ := dt_of I.hok ha
  have hz : xs'.length ≤ sizeLine := by rw [← Paired.length rel]; exact z
  obtain ⟨p, hp, rp⟩ := kt_at rel hv
  refine call_pop_heap (hsz := hz) (more := []) (.inl rfl) (PySem.F.args_dict_pop_2 _ _) (tupleKind_room_in1 hu) (key_of I.hok hb) hd dd hp fun h' dd' hs => ?_
  obtain ⟨o, es, ep, hq, h2, h3, h4, _, h5⟩ := dd'
  refine ⟨y, _, d_write (ob := .dT (dropK kvs k)) I (by rw [ha]; exact True.intro) hs ⟨o, hq⟩ ⟨Nat.le_trans (dropK_le kvs k) z, hd, _, (L2.DX.KT_drop k rel).keeps (fun c ys ec => ?_), o, es, ep, hq, h2, h3, h4, h5⟩, rp, q⟩
  rw [upd_ne (ne_of ec ha (fun z => nomatch z))]
  exact ec
/-- d.setdefault(k, x) -/
def rSetdT : V → List V → Hp → VK → Prop := fun x xs H Q => ∃ (a b : Addr) (kvs : List (List L2.Key × V)) (k : List L2.Key) (d : V), x = .ref a ∧ xs = [.ref b, d] ∧ H a = some (.dT kvs) ∧ H b = some (.tup (k.map kV)) ∧ kvs.length < sizeLine ∧
  (∀ v, valV kvs k = some v → Q v H) ∧ (valV kvs k = none → Q d (upd H a (.dT (putK kvs k d))))
theorem mt_setdT (hu : X.A.units + 1 < cLine) : MtR X "dict.setdefault" rSetdT := by
  intro pins s σ H x xs v us Q I rx rxs h
  obtain ⟨a, b, kvs, k, d, rfl, rfl, ha, hb, hl, q1, q2⟩ := h
  cases rx
  cases rxs with
  | @cons _ u1 _ _ r1 r2 =>
  cases r2 with
  | @cons _ u2 _ _ r2 r3 =>
  cases r3
  cases r1
  obtain ⟨z, hd, xs', rel, dd⟩ := dt_of I.hok ha
  have hz : xs'.length ≤ sizeLine := by rw [← Paired.length rel]; exact z
  refine call_setdefault_heap (hsz := hz) (tupleKind_room_in1 hu) (key_of I.hok hb) hd dd (fun p hp => ?_) fun hn h' dd' hs => ?_
  · obtain ⟨y, e, ry⟩ := kt_some rel hp
    exact ⟨y, H, I.tok _, ry, q1 y e⟩
  · obtain ⟨o, es, ep, hq, h2, h3, h4, _, h5⟩ := dd'
    have hl2 : (putK kvs k d).length ≤ sizeLine := by have := length_putK kvs k d; omega
    refine ⟨d, _, d_write (ob := .dT (putK kvs k d)) I (by rw [ha]; exact True.intro) hs ⟨o, hq⟩ ⟨hl2, hd, _, (rel.put k hb r2).keeps (fun c ys ec => ?_), o, es, ep, hq, h2, h3, h4, h5⟩, r2, q2 (kt_none rel hn)⟩
    rw [upd_ne (ne_of ec ha (fun z => nomatch z))]
    exact ec
/-- list(e.values()) -/
def tListVals (te : TE) : TE := fun σ H Q => te σ H fun x H1 => ∃ (d : Addr) (kvs : List (L2.Key × V)), x = .ref d ∧ H1 d = some (.dK kvs) ∧ ∀ p, H1 p = none → Q (.ref p) (upd H1 p (.lst (kvs.map (·.2))))
theorem kv_snds : ∀ {kvs : List (L2.Key × V)} {vs : List (L2.Key × Value)}, KV kvs vs → Vals (kvs.map (·.2)) (vs.map (·.2))
  | _, _, .nil => .nil
  | _, _, .cons r t => .cons r.2 (kv_snds t)
theorem pe_listVals {e : Expr} {te : TE} {p apos cpos pos : Pos} (hc : X.calm = true) (he : PE X e te) (hg : Gl X "list") (hm : X.mg "list" = none) (hv : bootBuiltins "list" = some (.type "list")) (hbase : attributeBase e "values" X.env (eval e X.env) = eval e X.env := by rfl) (hline : (apos.endLine == cpos.line) = true := by rfl)
    (hs : starEach [.Call (.Attribute e "values" apos) [] [] cpos] X.env = (false, eval (.Call (.Attribute e "values" apos) [] [] cpos) X.env) :: starEach [] X.env := by rfl) : PE X (.Call (.Name "list" p) [.Call (.Attribute e "values" apos) [] [] cpos] [] pos) (tListVals te) := by
  constructor
  intro pins s σ H Q I hq
  refine wpAny_Call_Name_kw (ld_blt I hg hm hv (PyProof.Rows.callWith_type1 ?_ hs rfl))
  rw [hs]
  refine Calls.spliced_cons (wpAny_Call_method (T := "dict") (id := "dict.values") hbase rfl hline F.plainAttrs_dict F.slot_dict_values F.type_dict_values (thn (he.run pins s σ H _ I hq) ?_))
  rintro u s1 ⟨x, H1, I1, rx, d, kvs, rfl, hd, q⟩
  obtain rfl : u = Value.ref d := rx
  obtain ⟨hz, hs0, vs, kv, hdo⟩ := dk_of I1.hok hd
  obtain ⟨ep, hat⟩ := hdo.dictAt
  have lk : kvs.length = vs.length := Paired.length kv
  have J : Inv X pins σ H1 { s1 with heap := s1.heap.push { cls := .type "dict_values", data := .fields #[.ref d] } } := I1.kept (t' := s1.toks) fun b ob q => Heap.get?_push_of_some _ q
  refine ⟨hdo.typeIs, hdo.mapOf.noDict, method_meetsIn F.slot_dict_values F.entry_dict_values rfl (PySem.evalArgs_none ⟨rfl, hdo.typeIs, F.args_dict_values_1 _, _, meets_dict_values (mixKind X.prog X.w) d hs0, ⟨vs, hdo⟩, Calls.spliced_nil ?_⟩)⟩
  refine PySem.W.kdl_call (PySem.W.kdl_values (knd := mixKind X.prog X.w) (kvs := vs) (ep := ep)) (I1.ok.hd hc) ⟨⟨_, Heap.get?_push_size _ rfl, rfl, rfl⟩, hat.push _⟩ (by omega) fun h' tk acc c hk hS hacc => ?_
  have ea : acc.toList = vs.map (·.2) := PySem.W.kdl_vals_eq acc.toList (by rw [Array.length_toList]; exact hacc.1) fun j v e => hacc.2 j v (by rw [← Array.getElem?_toList]; exact e)
  refine ⟨.ref _, _, J.laid (o := .lst (kvs.map (·.2))) (t' := tk) hk (Nat.le_refl _) ⟨by rw [List.length_map]; exact hz, acc.toList, c, ?_, ?_⟩, rfl, q _ (J.hok.fresh (Nat.le_refl _))⟩
  · rw [ea]
    exact kv_snds kv
  · rw [Array.toArray_toList]
    exact hS
end
end KdDt

/-! a dict comprehension over any kind of dict: O0 D the empty one, Put y z D H H' the storing of z at y -/
namespace KdDn
open PySem PySem.Spec PyProof.Rows L2 KdNd
abbrev PutR := V → V → Addr → Hp → Hp → Prop
def tDcG (O0 : Addr → HO) (Put : PutR) (wi : TI) (g : TG) (tt : TT) (tk tv : TE) (vs : List Nat) : TE := fun σ H Q => wi σ H fun J H1 => ∀ D, H1 D = none → ∃ W : Nat → Nat → Hp → Prop, (∃ m, W 0 m (upd H1 D (O0 D))) ∧ ∀ i m H, W i m H →
  (J.stop i H ∧ Q (.ref D) H) ∨ (J.go i H ∧ ∃ Nx : Hp → Prop, (∀ H', Nx H' → ∃ m', m' < m ∧ W (i + 1) m' H') ∧ ∀ x H', J.yld i H x H' → g x (wipe σ vs) H' fun σ2 H2 => wipe σ2 vs = wipe σ vs ∧ tt σ2 H2 fun b H3 =>
    if b = true then tk σ2 H3 fun y H4 => tv σ2 H4 fun z H5 => ∃ H6, Put y z D H5 H6 ∧ Nx H6 else Nx H3)
section
variable {X : Cx}
/-- what the empty dict and the storing must keep -/
structure DKit (X : Cx) (O0 : Addr → HO) (Put : PutR) : Prop where
  nil : ∀ {H : Hp} (h : Heap), sysModules < h.objs.size → ObjOk X.prog X.w H (h.push { cls := .type "dict", data := .dict #[] }) h.objs.size (O0 h.objs.size)
  put : ∀ (Y : Cx), Y.prog = X.prog → Y.w = X.w → ∀ {pins : List (Addr × Obj)} {σ : L2.St} {H H' : Hp} {s : Shared} {E : Value → Shared → Prop} {D : Addr} {y z : V} {u r : Value} {Q : Unit → Shared → Prop}, Inv Y pins σ H s → Put y z D H H' → RelV y u → RelV z r →
    (∀ s', Inv Y pins σ H' s' → Q () s') → wpAny (model Y.prog Y.w) Y.A (dictSet D u r) Q E s
abbrev Blk (X : Cx) (scope : Scope) (R : Cx → Prop) : Prop := ∀ (s : Shared) (H : Hp) (C : Addr) (cl : List (Str × Addr)) (fp : List Addr), R (X.blk s H scope (compEnvC scope cl C X.env) fp)
theorem dcg_core {O0 : Addr → HO} {Put : PutR} (kit : DKit X O0 Put) {pins : List (Addr × Obj)} {s : Shared} {σ : L2.St} {H : Hp} {Q : VK} {kx vx tg iter : Expr} {ifs : List Expr} {scope : Scope} {own : List (Str × Nat)} {pos pos' : Pos} {wi : TI} {g : TG} {tt : TT} {tk tv : TE} {use : Option (Value → Sem Unit)} {Qf : Value → Shared → Prop}
    (hc : X.calm = true) (hN : X.N.Nodup) (I0 : Inv X pins σ H s) (hi : PI X tg iter wi) (ok : BlkOk X.N X.env.scope scope own) (hg : Blk X scope fun Y => PG Y tg g) (ht : Blk X scope fun Y => PTs Y ifs tt) (hk : Blk X scope fun Y => PE Y kx tk) (he : Blk X scope fun Y => PE Y vx tv)
    (hs : ∀ x, foldedSetIterable iter X.env x = pure x) (h : tDcG O0 Put wi g tt tk tv (own.map (·.2)) σ H Q)
    (out : ∀ D C s' m H', Inv X pins σ H' s' → Q (.ref D) H' → s'.heap.Ns C m → FpOk X pins H' C → compPost (model X.prog X.w) X.A X.xe use Qf (.ref D) C (.ok .next) s') :
    wpAny (model X.prog X.w) X.A (comprehension (.DictComp kx vx [⟨tg, iter, ifs, 0⟩] scope pos) scope X.env pos' newDict false (eval iter X.env) use) Qf X.xe s := by
  refine wpAny_comprehension_free (use := use) rfl hs (closure_ok fun y hy e => (ok.free y hy e).elim (fun k => I0.ok.has _ (.inl k)) fun k => I0.ok.has _ (.inr k)) ok.kind (fun y hy e => by rw [ok.uniq y hy, e]) (thn (hi.run pins s σ H _ I0 h) fun xv sa hx => thn hx fun itv sb hb => ?_)
  obtain ⟨it, fp, tn, J, Hb, rfl, Ib, T, stb, fb, q⟩ := hb
  refine wpAny_newObj_type (newEnv_comp ?_)
  generalize eD : sb.heap.objs.size = D
  have nD : Hb D = none := Ib.hok.fresh (Nat.le_of_eq eD)
  obtain ⟨W, ⟨m0, w0⟩, turn⟩ := q D nD
  generalize ec : ({ sb with heap := sb.heap.push { cls := .type "dict", data := .dict #[] } } : Shared) = sc
  have hpc : sc.heap = sb.heap.push { cls := .type "dict", data := .dict #[] } := by rw [← ec]
  have Ic : Inv X pins σ (upd Hb D (O0 D)) sc := by
    rw [← ec]
    refine Ib.laid (t' := sb.toks) (fun b o e => Heap.get?_push_of_some _ e) (Nat.le_of_eq eD) ?_
    have z := kit.nil (H := upd Hb D (O0 D)) sb.heap Ib.big
    rw [eD] at z
    exact z
  have fpc : ∀ b ∈ fp, FpOk X pins (upd Hb D (O0 D)) b ∧ b < sc.heap.objs.size := fun b hb => by
    obtain ⟨o, e, _⟩ := T.obj _ _ stb b hb
    have lt := Heap.lt_size e
    exact ⟨⟨by rw [upd_ne (by rw [← eD]; exact Nat.ne_of_lt lt)]; exact (fb b hb).1, (fb b hb).2⟩, by rw [hpc, Heap.size_push]; exact Nat.lt_succ_of_lt lt⟩
  have stc : tn 0 sc.heap := T.keep _ _ _ stb fun b _ o e => by rw [hpc]; exact Heap.get?_push_of_some _ e
  have Id := block_start Ic ok hN fpc
  have rg := hg sc (upd Hb D (O0 D)) sc.heap.objs.size (cellsFrom (sc.heap.objs.size + 1) scope.names (cloFrom X.env.cells scope.names [])) fp
  have rt := ht sc (upd Hb D (O0 D)) sc.heap.objs.size (cellsFrom (sc.heap.objs.size + 1) scope.names (cloFrom X.env.cells scope.names [])) fp
  have rk := hk sc (upd Hb D (O0 D)) sc.heap.objs.size (cellsFrom (sc.heap.objs.size + 1) scope.names (cloFrom X.env.cells scope.names [])) fp
  have re := he sc (upd Hb D (O0 D)) sc.heap.objs.size (cellsFrom (sc.heap.objs.size + 1) scope.names (cloFrom X.env.cells scope.names [])) fp
  show codeAny _ _ (.compStart (.DictComp kx vx [⟨tg, iter, ifs, 0⟩] scope pos) 0 (.ref it) (.ref D) (compEnvC scope (cellsFrom (sc.heap.objs.size + 1) scope.names (cloFrom X.env.cells scope.names [])) sc.heap.objs.size X.env)) (compPost (model X.prog X.w) X.A X.xe use Qf (.ref D) sc.heap.objs.size) { sc with heap := pushCells (sc.heap.push { cls := .type "dict", data := .dict #[] }) scope.names }
  have nfp : ∀ b ∈ fp, (upd Hb D (O0 D)) b = none := fun b hb => (fpc b hb).1.1
  generalize hce : compEnvC scope (cellsFrom (sc.heap.objs.size + 1) scope.names (cloFrom X.env.cells scope.names [])) sc.heap.objs.size X.env = ce at Id rg rt rk re ⊢
  have cL : ce.locals = sc.heap.objs.size := by subst hce; rfl
  generalize eHc : upd Hb D (O0 D) = Hc at Ic Id rg rt rk re w0 nfp fpc
  generalize esd : ({ sc with heap := pushCells (sc.heap.push { cls := .type "dict", data := .dict #[] }) scope.names } : Shared) = sd at Id ⊢
  have std : tn 0 sd.heap := T.keep _ _ _ stc fun b _ o e => by rw [← esd]; exact pushCells_keeps _ _ _ _ (Heap.get?_push_of_some _ e)
  have fixed : ∀ {σ' : L2.St} {H' : Hp} {s' : Shared}, Inv (X.blk sc Hc scope ce fp) [] σ' H' s' → (∀ b ∈ fp, H' b = none) → ∀ b ∈ fp, FpOk (X.blk sc Hc scope ce fp) [] H' b := fun {σ' H' s'} Jn hn b hb =>
    ⟨hn b hb, (Jn.ok.exf b hb).1, Jn.ok.exfs b hb, .inl hb, fun x c e => (Jn.ok.exf b hb).2 x c e, fun p hp => absurd (show p ∈ ([] : List (Addr × Obj)) ++ [] from hp) (by simp)⟩
  have body : codeAny (model X.prog X.w) X.A (.compLoop (.DictComp kx vx [⟨tg, iter, ifs, 0⟩] scope pos) 0 (.ref it) (.ref D) ce) (compPost (model X.prog X.w) X.A X.xe use Qf (.ref D) sc.heap.objs.size) sd := by
    refine compLoop_anyD (fun n s' => ∃ i H', Inv (X.blk sc Hc scope ce fp) [] (wipe σ (own.map (·.2))) H' s' ∧ tn i s'.heap ∧ (∀ b ∈ fp, H' b = none) ∧ W i n H') ?_ m0 ⟨0, Hc, Id, std, nfp, w0⟩
    rintro n se ⟨i, He, Ie, ste, nfe, we⟩
    rcases turn i n He we with ⟨stop, qq⟩ | ⟨go, Nx, hNx, step⟩
    · refine thnF (T.done (X.blk sc Hc scope ce fp) rfl rfl rfl hc i [] se _ He (fun _ _ => False) Ie (fixed Ie nfe) ste stop) fun r sf ⟨hr, If⟩ => ?_
      subst hr
      have Ig : Inv X pins σ He sf := Ic.call' (ch := fp) If.os If.base If.hok If.bare fun b hb => ⟨(fpc b hb).1.2.2.2.1, (fpc b hb).1.2.1, (fpc b hb).1.2.2.2.2.1, (fpc b hb).1.2.2.2.2.2⟩
      have nC : He sc.heap.objs.size = none := by
        rw [← cL]
        exact If.free
      obtain ⟨m, hn, _⟩ := If.loc
      have hn2 : sf.heap.Ns ce.locals m := hn
      rw [cL] at hn2
      exact out D sc.heap.objs.size sf m He Ig qq hn2 (Ic.fpOk (Nat.le_refl _) nC)
    · refine thnF (T.item (X.blk sc Hc scope ce fp) rfl rfl rfl hc i [] se _ He (fun _ _ => False) Ie (fixed Ie nfe) ste go) fun r sf ⟨u, hr, hf⟩ => ?_
      subst hr
      refine thnF hf fun _ sg ⟨x, Hg, Ig, rx, yg, stg, ng⟩ => thnF (rg.run _ sg _ Hg x u _ (Ig.pinned (fixed Ig ng) (T.obj _ _ stg)) rx (step x Hg yg)) fun _ sh ⟨σh, Hh, Ih, hwh, qh⟩ => thnF (rt.run _ sh σh Hh _ Ih qh) fun b sj ⟨Hj, Ij, qj⟩ => ?_
      have fin : ∀ {s' : Shared} {H' : Hp}, Inv (X.blk sc Hc scope ce fp) ([] ++ pinsAt fp sg.heap) σh H' s' → Nx H' → ∃ m, m < n ∧ ∃ i H', Inv (X.blk sc Hc scope ce fp) [] (wipe σ (own.map (·.2))) H' s' ∧ tn i s'.heap ∧ (∀ b ∈ fp, H' b = none) ∧ W i m H' := fun {s' H'} In nx => by
        obtain ⟨m', hm, w'⟩ := hNx H' nx
        have held : ∀ b ∈ fp, ∀ o, sg.heap.get? b = some o → s'.heap.get? b = some o ∧ H' b = none := fun b hb o e => by
          have z := In.pin (b, o) (List.mem_append_right _ (List.mem_append_right _ (mem_pinsAt hb e)))
          exact ⟨z.1, z.2.1⟩
        refine ⟨m', hm, i + 1, H', (In.unpinned (pins := [])).weak (by rw [← hwh, wipe_length]) (fun j v e => ?_), T.keep _ _ _ stg fun b hb o e => (held b hb o e).1, fun b hb => ?_, w'⟩
        · rw [← hwh] at e
          exact (wipe_some e).1
        · obtain ⟨o, e, _⟩ := T.obj _ _ stg b hb
          exact (held b hb o e).2
      cases b with
      | false =>
        rw [if_neg (by decide)] at qj ⊢
        exact fin Ij qj
      | true =>
        rw [if_pos rfl] at qj ⊢
        refine thnF (rk.run _ sj σh Hj _ Ij qj) fun z sk ⟨yk, Hk, Ik, r1, qk⟩ => thnF (re.run _ sk σh Hk _ Ik qk) fun z2 sl ⟨yv, Hl, Il, r2, Hm, pm, nx⟩ => ?_
        exact kit.put (X.blk sc Hc scope ce fp) rfl rfl Il pm r1 r2 fun sm Im => fin Im nx
  exact codeAny_compStart_dict body (T.self X.A 0 _ _ _ std body)
theorem pe_dcg {O0 : Addr → HO} {Put : PutR} (kit : DKit X O0 Put) {kx vx tg iter : Expr} {ifs : List Expr} {scope : Scope} {own : List (Str × Nat)} {pos : Pos} {wi : TI} {g : TG} {tt : TT} {tk tv : TE} (hc : X.calm = true) (hN : X.N.Nodup) (hi : PI X tg iter wi) (ok : BlkOk X.N X.env.scope scope own)
    (hg : Blk X scope fun Y => PG Y tg g) (ht : Blk X scope fun Y => PTs Y ifs tt) (hk : Blk X scope fun Y => PE Y kx tk) (he : Blk X scope fun Y => PE Y vx tv) (hs : ∀ x, foldedSetIterable iter X.env x = pure x := by intro _; rfl) : PE X (.DictComp kx vx [⟨tg, iter, ifs, 0⟩] scope pos) (tDcG O0 Put wi g tt tk tv (own.map (·.2))) := by
  constructor
  intro pins s σ H Q I h
  rw [arm_eval_DictComp]
  refine dcg_core kit hc hN I hi ok hg ht hk he hs h fun D C s' m H' I2 q hn f => ⟨m, hn, fun h2 sb => ⟨.ref D, H', ?_, rfl, q⟩⟩
  exact I2.turned (t' := s'.toks) (fun b o hb e => (sb.2 b hb).trans e) f.1 f.2.1 f.2.2.2.1 f.2.2.2.2.1 f.2.2.2.2.2
/-! keys that are None, ints and texts -/
def PutN (P : Program) (w : World) : PutR := fun y z D H H' => ∃ kvs k, y = nkV k ∧ H D = some (NdO P w D kvs) ∧ kvs.length < sizeLine ∧ H' = upd H D (NdO P w D (putK kvs k z))
theorem kitN : DKit X (fun D => NdO X.prog X.w D []) (PutN X.prog X.w) where
  nil := fun {H} h big => nd_new (by simp) (by
    have z : h.objs.size ≠ sysModules := Nat.ne_of_gt big
    simpa using z) (vs := []) (show KV [] [] from Paired.nil) (Heap.DictOf.new h)
  put := fun Y e1 e2 {pins σ H H' s E D y z u r Q} I p ry rz k => by
    obtain ⟨kvs, k', rfl, hD, hl, rfl⟩ := p
    rw [← e1, ← e2] at hD k
    exact nd_dictSet I hD ry rz hl k
end
/-- by what holds between two turns -/
theorem dcg_it {O0 : Addr → HO} {Put : PutR} {J : It} {n : Nat} {G : Hp → Prop} {Y : Nat → Hp → V → Hp → Prop} (w : Walk J n G Y) {g : TG} {tt : TT} {tk tv : TE} {vs : List Nat} {σ : L2.St} {H1 : Hp} {D : Addr} {Qd : Hp → Prop} (Pv : Nat → Hp → Prop) (h0 : Pv 0 (upd H1 D (O0 D))) (hG : ∀ i H, i ≤ n → Pv i H → G H)
    (hs : ∀ i x H H', i < n → Pv i H → Y i H x H' → g x (wipe σ vs) H' fun σ2 H2 => wipe σ2 vs = wipe σ vs ∧ tt σ2 H2 fun b H3 => if b = true then tk σ2 H3 fun y H4 => tv σ2 H4 fun z H5 => ∃ H6, Put y z D H5 H6 ∧ Pv (i + 1) H6 else Pv (i + 1) H3) (hd : ∀ H, Pv n H → Qd H) :
    ∃ W : Nat → Nat → Hp → Prop, (∃ m, W 0 m (upd H1 D (O0 D))) ∧ ∀ i m H, W i m H → (J.stop i H ∧ Qd H) ∨ (J.go i H ∧ ∃ Nx : Hp → Prop, (∀ H', Nx H' → ∃ m', m' < m ∧ W (i + 1) m' H') ∧ ∀ x H', J.yld i H x H' → g x (wipe σ vs) H' fun σ2 H2 => wipe σ2 vs = wipe σ vs ∧ tt σ2 H2 fun b H3 =>
      if b = true then tk σ2 H3 fun y H4 => tv σ2 H4 fun z H5 => ∃ H6, Put y z D H5 H6 ∧ Nx H6 else Nx H3) := by
  refine ⟨fun i m H => m = n - i ∧ i ≤ n ∧ Pv i H, ⟨n, rfl, Nat.zero_le _, h0⟩, fun i m H hw => ?_⟩
  obtain ⟨em, hi, p⟩ := hw
  by_cases lt : i < n
  · exact .inr ⟨w.goes i H lt (hG i H hi p), Pv (i + 1), fun H' p' => ⟨n - (i + 1), by omega, rfl, lt, p'⟩, fun x H' y => hs i x H H' lt p (w.yields i H x H' lt (hG i H hi p) y)⟩
  · obtain rfl : i = n := by omega
    exact .inl ⟨w.stops H (hG i H hi p), hd H p⟩
end KdDn

namespace Kd
open PySem PySem.Spec PyProof.Rows L2 LamX
/-- nothing but a table stands there -/
def Fresh (H : Hp) (b : Addr) : Prop := ∀ o, H b = some o → ¬ NoTb o
theorem Fresh.of {H : Hp} {b : Addr} (h : H b = none) : Fresh H b := fun o e => by rw [h] at e; cases e
def Nw (M M' : Addr → Prop) (H : Hp) : Prop := ∀ b, M' b → M b ∨ Fresh H b
/-- all of M stand there, and are no tuples -/
def Live (M : Addr → Prop) (H : Hp) : Prop := ∀ b, M b → ∃ o, H b = some o ∧ Chg o
section
variable {K : PySem.W.Frag} {T : TB} {M M' M2 N : Addr → Prop} {H H1 H' : Hp} {b p : Addr} {o : HO}
theorem Nw.refl : Nw M M H := fun _ h => .inl h
theorem Fresh.back (f : Fr T M H H1) (n : ¬ M b) (h : Fresh H1 b) : Fresh H b := fun o e t => h o (f.st b o e t (.inr n)) t
theorem Nw.trans (f : Fr T M H H1) (a : Nw M M' H) (c : Nw M' M2 H1) : Nw M M2 H := fun b h => by
  rcases c b h with h | h
  · exact a b h
  · by_cases m : M b
    · exact .inl m
    · exact .inr (h.back f m)
theorem Live.not (l : Live M H) (h : Fresh H b) : ¬ M b := fun m => by
  obtain ⟨o, e, c⟩ := l b m
  exact h o e c.noTb
theorem Live.notN (l : Live M H) (h : H b = none) : ¬ M b := l.not (Fresh.of h)
theorem Live.notT (l : Live M H) (e : H b = some o) (c : ¬ Chg o) : ¬ M b := fun m => by
  obtain ⟨u, e2, c2⟩ := l b m
  rw [e] at e2
  cases e2
  exact c c2
theorem Live.keep (l : Live M H) (k : Keep M H H') : Live M H' := fun b m => by
  obtain ⟨o, e, c⟩ := l b m
  exact ⟨o, k.at e c m, c⟩
theorem Live.same (l : Live M H) (s : Same H H') : Live M H' := l.keep (Keep.of s)
theorem Fr.transN (f : Fr T M H H1) (nw : Nw M M' H) (g : Fr T M' H1 H') : Fr T M H H' := ⟨fun b o e t c => g.st b o (f.st b o e t c) t (c.imp id fun n m => (nw b m).elim n fun z => z o e t), fun t => g.tb (f.tb t)⟩
/-- what is apart of M is apart of what M became -/
theorem Nw.apart (nw : Nw M M' H) (l : Live N H) (d : ∀ b, N b → ¬ M b) : ∀ b, N b → ¬ M' b := fun b n m => by
  rcases nw b m with m | f
  · exact d b n m
  · exact l.not f n
end
/-! ### versions -/
section
variable {P : Program} {w : World} {K : PySem.W.Frag} {mg : Str → Option Value} {base : Heap} {f : Addr} {fd : FuncData} {M : Addr → Prop} {H H' : Hp} {T : TB}
def VerAt (K : PySem.W.Frag) (H : Hp) (v : V) (r : Ver) : Prop := ∃ q y, v = .ref q ∧ H q = some (.tup [.int r.n, ovI r.b, ovI r.e, y]) ∧ Dp K H y (.tuple r.d) ∧ NoL 3 (.tuple r.d)
theorem VerAt.keep {v : V} {r : Ver} (k : Keep M H H') : VerAt K H v r → VerAt K H' v r := fun ⟨q, y, e, h, d, n⟩ => ⟨q, y, e, k.tup h, k.dp n d, n⟩
theorem VerAt.same {v : V} {r : Ver} (s : Same H H') (h : VerAt K H v r) : VerAt K H' v r := h.keep (M := no) (Keep.of s)
theorem vers_keep {xs : List V} {rs : List Ver} (k : Keep M H H') (h : Paired (VerAt K H) xs rs) : Paired (VerAt K H') xs rs := PySem.Paired.mono (fun _ _ => VerAt.keep k) h
theorem ovI_dp (o : Option Int) : Dp K H (ovI o) (oD o) := by
  cases o
  · exact .non
  · exact .int _
theorem VerAt.dp {v : V} {r : Ver} : VerAt K H v r → Dp K H v (verD1 r) := fun ⟨q, y, e, h, d, _⟩ => by
  rw [e]
  exact .tup (SqT.of h) (.cons (.int _) (.cons (ovI_dp _) (.cons (ovI_dp _) (.cons d .nil))))
theorem dp_ovI {v : V} : ∀ {o : Option Int}, Dp K H v (oD o) → v = ovI o
  | none, h => by cases h; rfl
  | some i, h => by cases h; rfl
/-- a kind as an entry of a dict -/
def KvAt (K : PySem.W.Frag) (H : Hp) (kv : L2.Key × V) (k : Kind) : Prop := kv.1 = Sum.inl k.1 ∧ ∃ q, kv.2 = .ref q ∧ SqT K H q (k.2.map Fv.v)
theorem KvAt.keep {kv : L2.Key × V} {k : Kind} (p : Keep M H H') : KvAt K H kv k → KvAt K H' kv k := fun ⟨h1, q, h2, h3⟩ => ⟨h1, q, h2, p.seqT h3⟩
def InnerAt (K : PySem.W.Frag) (H : Hp) (d : Addr) (ks : List Kind) : Prop := ∃ kvs, H d = some (.dK kvs) ∧ Paired (KvAt K H) kvs ks
def VersAt (K : PySem.W.Frag) (H : Hp) (l : Addr) (vs : List Ver) : Prop := ∃ xs, H l = some (.lst xs) ∧ Paired (VerAt K H) xs vs
theorem InnerAt.keep {d : Addr} {ks : List Kind} (m : M d) (p : Keep M H H') : InnerAt K H d ks → InnerAt K H' d ks := fun ⟨kvs, h1, h2⟩ => ⟨kvs, p.at h1 trivial m, PySem.Paired.mono (fun _ _ => KvAt.keep p) h2⟩
theorem VersAt.keep {l : Addr} {vs : List Ver} (m : M l) (p : Keep M H H') : VersAt K H l vs → VersAt K H' l vs := fun ⟨xs, h1, h2⟩ => ⟨xs, p.at h1 trivial m, vers_keep p h2⟩
/-- the things of a house at th, the objects M its own -/
structure ThO (K : PySem.W.Frag) (C : Addr) (H : Hp) (M : Addr → Prop) (th p : Addr) (ts : Ts) : Prop where
  live : Live M H
  ex : ∃ (dx kd nb : Addr) (ka na : Th → Addr), H th = some (.ins C dx (thF p kd nb ts.given)) ∧ H kd = some (.dT (ts.kinds.map fun e => (thK e.1, .ref (ka e.1)))) ∧ H nb = some (.dT (ts.nums.map fun e => (thK e.1, .ref (na e.1)))) ∧ kd ≠ nb ∧ M th ∧ M kd ∧ M nb ∧
    (∀ e ∈ ts.kinds, M (ka e.1) ∧ InnerAt K H (ka e.1) e.2) ∧ (∀ e ∈ ts.kinds, ∀ e' ∈ ts.kinds, ka e.1 = ka e'.1 → e.1 = e'.1) ∧ ∀ e ∈ ts.nums, M (na e.1) ∧ VersAt K H (na e.1) e.2
theorem ThO.keep {C th p : Addr} {ts : Ts} (h : ThO K C H M th p ts) (k : Keep M H H') : ThO K C H' M th p ts := by
  obtain ⟨dx, kd, nb, ka, na, h1, h2, h3, h4, m1, m2, m3, h5, h6, h7⟩ := h.ex
  exact ⟨h.live.keep k, dx, kd, nb, ka, na, k.at h1 trivial m1, k.at h2 trivial m2, k.at h3 trivial m3, h4, m1, m2, m3, fun e he => ⟨(h5 e he).1, (h5 e he).2.keep (h5 e he).1 k⟩, h6, fun e he => ⟨(h7 e he).1, (h7 e he).2.keep (h7 e he).1 k⟩⟩
theorem ThO.same {C th p : Addr} {ts : Ts} (h : ThO K C H M th p ts) (s : Same H H') : ThO K C H' M th p ts := h.keep (Keep.of s)
theorem thK_inj : ∀ a b : Th, thK a = thK b → a = b := fun a b h => by
  unfold thK at h
  have h1 : (Sum.inr a.1 : L2.Key) = Sum.inr b.1 := (List.cons.inj h).1
  have h2 : (Sum.inr a.2 : L2.Key) = Sum.inr b.2 := (List.cons.inj (List.cons.inj h).2).1
  exact Prod.ext (Sum.inr.inj h1) (Sum.inr.inj h2)
/-- a plan and its own objects -/
def PlanO (K : PySem.W.Frag) (C : Addr) (H : Hp) (M : Addr → Prop) (p : Addr) (ds : Dims) (ms : List Str) : Prop := Live M H ∧ ∀ H', Keep M H H' → PlanAt K C H' p ds ms
theorem PlanO.at {C p : Addr} {ds : Dims} {ms : List Str} (h : PlanO K C H M p ds ms) : PlanAt K C H p ds ms := h.2 H Keep.refl
theorem PlanO.keep {C p : Addr} {ds : Dims} {ms : List Str} (h : PlanO K C H M p ds ms) (k : Keep M H H') : PlanO K C H' M p ds ms := ⟨h.1.keep k, fun H2 k2 => h.2 H2 (k.trans k2)⟩
theorem keep_dim {y : V} {d : Str × List (Str × Str)} (k : Keep M H H') : DimAt K H y d → DimAt K H' y d := fun ⟨p, q, h1, h2, zs, h3, h4⟩ => ⟨p, q, h1, k.seqT h2, zs, k.seqT h3, PySem.Paired.mono (fun _ _ ⟨r, e1, e2⟩ => ⟨r, e1, k.seqT e2⟩) h4⟩
theorem PlanO.mk {C p dx a b : Addr} {ds : Dims} {ms : List Str} {xs : List V} (h1 : H p = some (.ins C dx (plF a b))) (h2 : H a = some (.lst xs)) (h3 : Paired (DimAt K H) xs ds) (h4 : H b = some (.lst (ms.map V.str))) : PlanO K C H (fun c => c = p ∨ c = a ∨ c = b) p ds ms := by
  refine ⟨?_, fun H2 k => ⟨dx, a, b, xs, k.at h1 trivial (.inl rfl), k.at h2 trivial (.inr (.inl rfl)), PySem.Paired.mono (fun _ _ => keep_dim k) h3, k.at h4 trivial (.inr (.inr rfl))⟩⟩
  rintro c (rfl | rfl | rfl)
  · exact ⟨_, h1, trivial⟩
  · exact ⟨_, h2, trivial⟩
  · exact ⟨_, h4, trivial⟩
theorem sv_item {v : V} {s : Sv} (h : Dp K H v (svD s)) : ∃ q y, v = .ref q ∧ SqT K H q [ovI s.1, ovI s.2.1, y] ∧ Dp K H y (.tuple s.2.2) := by
  unfold svD at h
  cases h with
  | @tup q xs _ hq hd =>
    cases hd with
    | cons h1 hd =>
    cases hd with
    | cons h2 hd =>
    cases hd with
    | cons h3 hd =>
    cases hd
    rw [dp_ovI h1, dp_ovI h2] at hq
    exact ⟨_, _, rfl, hq, h3⟩
theorem Fr.drop {N : Addr → Prop} {D : Addr} (f : Fr T (fun b => N b ∨ b = D) H H') (hD : H D = none) : Fr T N H H' :=
  ⟨fun b o e t c => f.st b o e t (c.imp id fun n q => q.elim n fun z => by rw [z, hD] at e; cases e), f.tb⟩
theorem th_given (p kd nb : Addr) (gv : Int) : (thF p kd nb gv).lookup ("given" : Str) = some (.int gv) := by
  simp [thF, List.lookup, show (("given" : Str) == "plan") = false by decide +kernel, show (("given" : Str) == "kinds") = false by decide +kernel, show (("given" : Str) == "numbered") = false by decide +kernel]
theorem th_kinds (p kd nb : Addr) (gv : Int) : (thF p kd nb gv).lookup ("kinds" : Str) = some (.ref kd) := by
  simp [thF, List.lookup, show (("kinds" : Str) == "plan") = false by decide +kernel]
theorem th_plan (p kd nb : Addr) (gv : Int) : (thF p kd nb gv).lookup ("plan" : Str) = some (.ref p) := by
  simp [thF, List.lookup]
theorem th_putg (p kd nb : Addr) (g g' : Int) : putF "given" (.int g') (thF p kd nb g) = thF p kd nb g' := by
  have n4 : ("given" : Str) ≠ "plan" := by decide +kernel
  have n5 : ("given" : Str) ≠ "kinds" := by decide +kernel
  have n6 : ("given" : Str) ≠ "numbered" := by decide +kernel
  simp [putF, thF, n4.symm, n5.symm, n6.symm]
theorem th_no {p kd nb : Addr} {g : Int} {m : Str} (h1 : (m == ("plan" : Str)) = false) (h2 : (m == ("kinds" : Str)) = false) (h3 : (m == ("numbered" : Str)) = false) (h4 : (m == ("given" : Str)) = false) : (thF p kd nb g).lookup m = none := by
  simp [thF, List.lookup, h1, h2, h3, h4]
/-- a def of the module, its promise and how it is called -/
structure Fun (P : Program) (w : World) (K : PySem.W.Frag) (mg : Str → Option Value) (base : Heap) (x : Str) (n : Nat) (ps : List Str) (sp : Sp) (f : Addr) (fd : FuncData) : Prop where
  G : FnOk P w K mg base CX0 n f fd ps sp
  k : PySem.W.keepIn K (.ref f) = true
  b : Binds K fd ps []
  g : mg x = some (.ref f)
/-- a method -/
structure MFun (P : Program) (w : World) (K : PySem.W.Frag) (mg : Str → Option Value) (base : Heap) (C : Addr) (x : Str) (n : Nat) (ps : List Str) (sp : Sp) (f : Addr) (fd : FuncData) : Prop where
  G : FnOk P w K mg base CX0 n f fd ps sp
  b : Binds K fd ps []
  cl : Cls K C
  m : Meth K C x f
theorem set_sl {i : Nat} {σ σ' : L2.St} {Q : L2.St → Hp → Prop} {v : V} {H : Hp} (e : σ.set i (some v) = σ') (h : Q σ' H) : (fun x H1 => gName i x σ H1 Q) v H := by
  show Q (σ.set i (some v)) H
  rw [e]
  exact h
theorem sl_eq {t : L2.St → Hp → Prop} {σ σ' : L2.St} {H : Hp} (e : σ = σ') (h : t σ' H) : t σ H := by
  rw [e]
  exact h
/-- what holds behind an if -/
theorem join_if {c : TT} {A B : TS} {D : Ends} {σ : L2.St} {H : Hp} (C : L2.St → Hp → Prop) (h1 : ∀ σ' H', C σ' H' → D.nx σ' H') (h2 : (∀ σ' H', C σ' H' → D.nx σ' H') → tIfS c A B D σ H) : tIfS c A B D σ H := h2 h1
/-- the old numbers as a dict -/
def nk (b : Option Int) : KdNd.NK := b.map Sum.inl
theorem nkV_nk (b : Option Int) : ovI b = KdNd.nkV (nk b) := by cases b <;> rfl
def oldK (old : Old) : List (KdNd.NK × V) := old.map fun m => (nk m.1, .int m.2)
theorem val_oldK (b : Option Int) : ∀ old : Old, valV (oldK old) (nk b) = (lk old b).map V.int
  | [] => rfl
  | m :: r => by
    show valV ((nk m.1, V.int m.2) :: oldK r) (nk b) = _
    by_cases e : m.1 = b
    · rw [lk_pos e, valV_pos (p := (nk m.1, V.int m.2)) (by rw [e])]; rfl
    · rw [lk_neg e, valV_neg (p := (nk m.1, V.int m.2)) (fun z => e ?_), val_oldK b r]
      cases h : m.1 <;> cases h2 : b <;> rw [h, h2] at z <;> simp [nk] at z
      · rw [z]
end
end Kd

namespace Kd
open PySem PySem.Spec PyProof.Rows L2
section
variable {P : Program} {w : World} {K : PySem.W.Frag} {mg : Str → Option Value} {base : Heap} {f : Addr} {fd : FuncData}
/-! ### Things.version_on -/
def spVerOn (K : PySem.W.Frag) (C : Addr) : Sp := fun vs H Q _ => ∃ (x p r : Addr) (M : Addr → Prop) (day : Int) (t : Th) (ts : Ts) (vers : List Ver) (ver : Ver), vs = [.ref x, .ref r, .int day] ∧ ThO K C H M x p ts ∧ H r = some (.tup [.str t.1, .str t.2]) ∧ lk ts.nums t = some vers ∧
  vers.length ≤ 4000 ∧ verOn vers day = some ver ∧ ∀ v H', Same H H' → VerAt K H' v ver → Q v H'
abbrev N_Things_version_on : List Str := ["self", "thing", "day", "version", "begun"]
theorem sc_Things_version_on : FnScope N_Things_version_on ["self", "thing", "day"] (defScope s_Things_version_on) := ⟨rfl, rfl, rfl, by decide +kernel, rfl, by decide +kernel, by decide +kernel⟩
/-! slots: 0 self 1 thing 2 day 3 version 4 begun; cells: day -/
theorem ok_verOn {C : Addr} (F : FnP K "version_on" "Things.version_on" s_Things_version_on f fd) (T : ThTxt K C) : FnOk P w K mg base CX0 1 f fd ["self", "thing", "day"] (spVerOn K C) := by
  refine F.ok sc_Things_version_on (fun vs H Q E h => ?_) (fun cdv A outer s H vs Q E hr h => ?_)
  · obtain ⟨x, p, r, M, day, t, ts, vers, ver, rfl, _⟩ := h
    rfl
  · obtain ⟨x, p, r, M, day, t, ts, vers, ver0, rfl, hO, hr2, hlk, hlen, hon, k⟩ := h
    obtain ⟨dx, kd, nb, ka, na, hx, hkd, hn, _, _, _, _, _, _, h7⟩ := hO.ex
    obtain ⟨mN, xs, hl, pv4⟩ := h7 (t, vers) (lk_mem hlk)
    have nd := sc_Things_version_on.nd
    have hu := hr.units
    have hu1 : (A.deeper (envOfC "Things.version_on" (defScope s_Things_version_on) s.heap.objs.size f cdv)).units + 1 < cLine := by omega
    refine ⟨_, PSs.nox (pss_cons (ps_setLc (i := 4) (own := [("version", 3)]) (g := gName 3) (tt := tOr (tB (tIsN (tOp (rIxT K) (tVar 3) (tC (.int 1))))) (tTest (tOp (rI0 fun i j => .bl (decide (i ≤ j))) (tOp (rIxT K) (tVar 3) (tC (.int 1))) (tVar 2)))) (te := tVar 3) rfl nd rfl rfl (sw_true rfl rfl rfl (by decide +kernel)) (pi_list (pe_dget hu1 (pe_fld (pv 0) rfl) (pv 1) (fun _ _ => rfl))) (blkOk_by (own := [("version", 3)]) (N := N_Things_version_on) (sc := defScope s_Things_version_on) (by decide +kernel))
        (fun _ _ _ _ _ => pg_name (i := 3) nd rfl (Or.inl rfl)) (fun _ _ _ _ _ => pts_one (PW.pt (pw_or (pt_cmp (pc_isN (pe_ix ix_tup (pv 3) pe_int (fun _ _ => rfl)))) (pw_or1 (pt_cmpR op_le (pe_ix ix_tup (pv 3) pe_int (fun _ _ => rfl)) (pv 2) (nomark _)))))) (fun _ _ _ _ _ => pv 3))
      (pss_one (ps_ret (pe_ix ix_list (pv 4) (pe_un un_neg pe_int) (fun _ _ => rfl))))), ?_⟩
    have hxl : xs.length = vers.length := pv4.length
    have hv : valV (ts.nums.map fun e => (thK e.1, V.ref (na e.1))) (thK t) = some (.ref (na t)) := by
      rw [val_map (r := fun t => V.ref (na t)) thK_inj, hlk]
      rfl
    refine ⟨_, rfl, x, C, dx, _, _, rfl, hx, T.cl, T.nN, th_num p kd nb _, _, rfl, nb, _, rfl, .inr ⟨_, thK t, r, .inl hn, rfl, hr2, hv.symm⟩, na t, rfl, ⟨_, SqL.of hl⟩, fun D hD => ?_⟩
    refine lc_build (walk_list (K := K) (a := na t) (xs := xs)) hD (fun i zs R => Same H R ∧ Paired (VerAt K R) zs ((vers.take i).filter fun r => begB day r.b)) ⟨Same.refl _, .nil⟩ (fun _ _ _ _ z => SqL.of ((z.1.trans cd_sub) _ _ hl)) ?_ ?_
    · rintro i zs y H2 H2' hi e ly ⟨sm, pz⟩ ⟨rfl, hy⟩
      obtain ⟨ver, hver, q, yv, rfl, hq, dq, nl⟩ := paired_at pv4 hy
      have hq2 := (sm.trans cd_sub) _ _ hq
      have nqD : q ≠ D := fun z => by rw [z, e] at hq2; cases hq2
      have vat : VerAt K (cd D H2') (.ref q) ver := ⟨q, yv, rfl, cd_of hq2 nqD, Dp.same sm _ _ dq, nl⟩
      refine ⟨rfl, _, rfl, q, _, _, _, rfl, rfl, SqT.of hq2, atI_nat (j := 1) rfl, _, rfl, ?_⟩
      cases hb : ver.b with
      | none =>
        rw [show ovI none = V.non from rfl]
        refine iteT ?_
        refine ⟨_, rfl, LcNx.add e ly (by omega) ⟨sm, ?_⟩⟩
        rw [flt_snoc hver, if_pos (by unfold begB; rw [hb])]
        exact PySem.Paired.snoc pz vat
      | some b =>
        rw [show ovI (some b) = V.int b from rfl]
        refine iteF ?_
        have hq3 : SqT K H2' q [.int ver.n, .int b, ovI ver.e, yv] := by
          have := SqT.of (K := K) hq2
          rw [hb] at this
          exact this
        refine ⟨_, rfl, q, _, _, _, rfl, rfl, hq3, atI_nat (j := 1) rfl, _, rfl, _, _, rfl, rfl, _, rfl, ?_⟩
        by_cases c : b ≤ day
        · rw [decide_eq_true c]
          refine iteT ⟨_, rfl, LcNx.add e ly (by omega) ⟨sm, ?_⟩⟩
          rw [flt_snoc hver, if_pos (by unfold begB; rw [hb]; exact decide_eq_true c)]
          exact PySem.Paired.snoc pz vat
        · rw [decide_eq_false c]
          refine iteF (LcNx.skip e ly ⟨sm, ?_⟩)
          rw [flt_snoc hver, if_neg (by unfold begB; rw [hb]; simp [c]), List.append_nil]
          exact pz
    · rintro zs H2 e ly ⟨sm, pz⟩
      rw [hxl, List.take_length] at pz
      have pz2 : Paired (VerAt K H2) zs (vers.filter fun r => begB day r.b) := PySem.Paired.mono (fun _ _ => VerAt.same cd_sub) pz
      have hzl := pz2.length
      unfold verOn at hon
      have h0 : 0 < (vers.filter fun r => begB day r.b).length := by
        cases h : vers.filter fun r => begB day r.b with
        | nil => rw [h] at hon; cases hon
        | cons a t => exact Nat.succ_pos _
      have hz : zs.length - 1 < zs.length := by omega
      obtain ⟨ver, h1, h2⟩ := paired_at pz2 (List.getElem?_eq_getElem hz)
      have hlast : zs.getLast? = some zs[zs.length - 1] := by rw [List.getLast?_eq_getElem?]; exact List.getElem?_eq_getElem hz
      obtain ⟨zr, hzr⟩ := List.getLast?_eq_some_iff.mp hlast
      have ev : ver = ver0 := by
        rw [List.getLast?_eq_getElem?, ← hzl, h1] at hon
        exact Option.some.inj hon
      subst ev
      refine ⟨_, rfl, _, rfl, D, zs, _, _, rfl, rfl, SqL.of e, ?_, k _ H2 (sm.trans cd_sub) h2⟩
      have h3 : atI (zr ++ [zs[zs.length - 1]]) (-1) = some zs[zs.length - 1] := atI_last _ _
      rw [← hzr] at h3
      exact h3
end
end Kd

namespace Kd
open PySem PySem.Spec PyProof.Rows L2
section
variable {P : Program} {w : World} {K : PySem.W.Frag} {mg : Str → Option Value} {base : Heap} {f : Addr} {fd : FuncData}
/-! ### Things.with_numbers -/
def spWithN (P : Program) (w : World) (K : PySem.W.Frag) (T : TB) (C : Addr) : Sp := fun vs H Q _ => ∃ (x dx p kd nb l o : Addr) (gv : Int) (xs : List V) (ss : List Sv) (old : Old), vs = [.ref x, .ref l, .ref o] ∧ H x = some (.ins C dx (thF p kd nb gv)) ∧ H l = some (.lst xs) ∧ DpAll K H xs (ss.map svD) ∧ ss.length ≤ 300 ∧ (∀ s ∈ ss, NoL 3 (.tuple s.2.2)) ∧
  H o = some (KdNd.NdO P w o (oldK old)) ∧ ∀ H' r ys, H r = none → H' r = some (.lst ys) → Paired (VerAt K H') ys (numS old gv ss).1 → H' x = some (.ins C dx (thF p kd nb (numS old gv ss).2)) → Fr T (fun b => b = x) H H' → Q (.ref r) H'
abbrev N_Things_with_numbers : List Str := ["self", "versions", "old", "numbered", "begin", "end", "values"]
theorem sc_Things_with_numbers : FnScope N_Things_with_numbers ["self", "versions", "old"] (defScope s_Things_with_numbers) := ⟨rfl, rfl, rfl, by decide +kernel, rfl, by decide +kernel, by decide +kernel⟩
/-! slots: 0 self 1 versions 2 old 3 numbered 4 begin 5 end 6 values; cells:  -/
theorem ok_withN {T : TB} {C : Addr} (F : FnP K "with_numbers" "Things.with_numbers" s_Things_with_numbers f fd) (TX : ThTxt K C) : FnOk P w K mg base CX0 1 f fd ["self", "versions", "old"] (spWithN P w K T C) := by
  refine F.ok sc_Things_with_numbers (fun vs H Q E h => ?_) (fun cdv A outer s H vs Q E hr h => ?_)
  · obtain ⟨x, dx, p, kd, nb, l, o, gv, xs, ss, old, rfl, _⟩ := h
    rfl
  · obtain ⟨x, dx, p, kd, nb, l, o, gv, xs, ss, old, rfl, hx, hl, hd, hlen, hnl, ho, k⟩ := h
    have nd := sc_Things_with_numbers.nd
    refine ⟨_, PSs.nox (pss_cons (ps_set (i := 3) nd rfl (Or.inl rfl) (pe_lst pa_nil))
      (pss_cons (ps_for PassesOwn.never rfl (pi_list (pv 1)) (pg_tup rfl (pgs_cons (pg_name (i := 4) nd rfl (Or.inl rfl)) (pgs_cons (pg_name (i := 5) nd rfl (Or.inl rfl)) (pgs_cons (pg_name (i := 6) nd rfl (Or.inl rfl)) pgs_nil))))
        (pss_cons (ps_if (pt_cmp (KdNd.pc_ndnotin (pv 4) (pv 2)))
          (pss_one (ps_fldaug (pv 0) pe_int in_add))
          pss_nil)
        (pss_one (ps_expr (pe_bm PySem.F.plainAttrs_list PySem.F.slot_list_append PySem.F.type_list_append mt_append (pv 3) (pa_cons (pe_tup (pa_cons (KdNd.pe_ndget2 (pv 2) (pv 4) (pe_fld (pv 0) rfl) ⟨rfl, rfl, rfl, rfl⟩) (pa_cons (pv 4) (pa_cons (pv 5) (pa_cons (pv 6) pa_nil))))) pa_nil))))))
      (pss_one (ps_ret (pv 3))))), ?_⟩
    have hxl : xs.length = ss.length := by rw [DpAll.len hd, List.length_map]
    refine ⟨by show 0 ≤ sizeLine; decide, fun D nD => ?_⟩
    generalize e0 : upd H D (.lst []) = H0
    obtain ⟨s0, eD⟩ := new_of nD e0
    have nDx : D ≠ x := fun z => by rw [z, hx] at nD; cases nD
    refine set_sl (σ' := [some (.ref x), some (.ref l), some (.ref o), some (.ref D), none, none, none]) rfl ?_
    refine ⟨_, rfl, l, rfl, ⟨_, SqL.of (s0 _ _ hl)⟩, for_list (K := K) (a := l) (xs := xs) (fun i σ R => ∃ ys b4 b5 b6, σ = [some (.ref x), some (.ref l), some (.ref o), some (.ref D), b4, b5, b6] ∧ R D = some (.lst ys) ∧ Paired (VerAt K R) ys (numS old gv (ss.take i)).1 ∧
      R x = some (.ins C dx (thF p kd nb (numS old gv (ss.take i)).2)) ∧ Fr T (fun b => b = x ∨ b = D) H R ∧ R l = some (.lst xs) ∧ R o = some (KdNd.NdO P w o (oldK old))) ⟨[], none, none, none, rfl, eD, .nil, s0 _ _ hx, Fr.of s0, s0 _ _ hl, s0 _ _ ho⟩ (fun i σ R _ z => ?_) (fun i y σ R hy z => ?_) (fun σ R z => ?_)⟩
    · obtain ⟨ys, b4, b5, b6, _, _, _, _, _, hl2, _⟩ := z
      exact SqL.of hl2
    · obtain ⟨ys, b4, b5, b6, rfl, hD, pys, hx2, fr, hl2, ho2⟩ := z
      obtain ⟨dv, hdv, dpv⟩ := DpAll.at_ hd hy
      rw [List.getElem?_map] at hdv
      obtain ⟨sI, hsI, rfl⟩ := Option.map_eq_some_iff.mp hdv
      obtain ⟨q, yv, rfl, hq, dyv⟩ := sv_item dpv
      have nlv := hnl sI (List.mem_of_getElem? hsI)
      have kp : Keep no H R := fr.keep0
      have lys : ys.length ≤ 300 := by
        have h1 := pys.length
        rw [numS_len, List.length_take] at h1
        omega
      have hnx := numS_take (old := old) (g := gv) hsI
      generalize numS old gv (ss.take i) = acc at *
      refine ⟨q, _, rfl, kp.seqT hq, rfl, _, _, rfl, _, _, rfl, _, _, rfl, rfl, ?_⟩
      refine sl_eq (σ' := [some (.ref x), some (.ref l), some (.ref o), some (.ref D), some (ovI sI.1), some (ovI sI.2.1), some yv]) rfl ?_
      dsimp only [tSeq]
      refine join_if (fun σ R2 => σ = [some (.ref x), some (.ref l), some (.ref o), some (.ref D), some (ovI sI.1), some (ovI sI.2.1), some yv] ∧ R2 D = some (.lst ys) ∧ Paired (VerAt K R2) ys acc.1 ∧ R2 x = some (.ins C dx (thF p kd nb (if (lk old sI.1).isSome then acc.2 else acc.2 + 1))) ∧ Fr T (fun b => b = x ∨ b = D) H R2 ∧ R2 l = some (.lst xs) ∧ R2 o = some (KdNd.NdO P w o (oldK old))) ?_ ?_
      · rintro σ R2 ⟨rfl, hD3, py3, hx3, fr3, hl3, ho3⟩
        refine ⟨_, rfl, .inl ⟨rfl, _, SqL.of hD3⟩, _, rfl, o, rfl, ⟨_, ho3⟩, _, rfl, _, rfl, x, C, dx, _, _, rfl, hx3, TX.cl, TX.nG, th_given _ _ _ _, oldK old, nk sI.1, nkV_nk _, ho3, ?_⟩
        rw [val_oldK]
        have eN : ((lk old sI.1).map V.int).getD (V.int (if (lk old sI.1).isSome then acc.2 else acc.2 + 1)) = V.int ((lk old sI.1).getD (if (lk old sI.1).isSome then acc.2 else acc.2 + 1)) := by
          cases lk old sI.1 <;> rfl
        rw [eN]
        refine ⟨_, rfl, _, rfl, _, rfl, by show 4 ≤ sizeLine; decide, fun t nt => ?_⟩
        generalize e4 : upd R2 t _ = R4
        obtain ⟨s4, et⟩ := new_of nt e4
        refine ⟨D, ys, _, rfl, rfl, s4 _ _ hD3, Nat.lt_of_le_of_lt lys (by decide), ?_⟩
        have kp4 : Keep no H R4 := (fr3.trans (Fr.of s4)).keep0
        generalize e5 : upd R4 D _ = R5
        obtain ⟨f5, eD5, o5⟩ := put_of (T := T) (N := fun b => b = x ∨ b = D) (s4 _ _ hD3) trivial (.inr rfl) e5
        have ntD : t ≠ D := fun z => by rw [z, hD3] at nt; cases nt
        have nxD : x ≠ D := nDx.symm
        have nlD : l ≠ D := fun z => by rw [z, nD] at hl; cases hl
        have noD : o ≠ D := fun z => by rw [z, nD] at ho; cases ho
        refine ⟨_, _, _, _, rfl, eD5, ?_, ?_, (fr3.trans (Fr.of s4)).trans f5, by rw [o5 l nlD]; exact s4 _ _ hl3, by rw [o5 o noD]; exact s4 _ _ ho3⟩
        · rw [hnx]
          refine PySem.Paired.snoc (vers_keep (M := no) ((Keep.of s4).trans f5.keep0) py3) ⟨t, yv, rfl, by rw [o5 t ntD]; exact et, (kp4.trans f5.keep0).dp nlv dyv, nlv⟩
        · rw [hnx, o5 x nxD]
          exact s4 _ _ hx3
      · intro go
        refine ⟨_, rfl, _, rfl, o, oldK old, nk sI.1, rfl, nkV_nk _, ho2, _, rfl, ?_⟩
        rw [val_oldK]
        cases hlk : lk old sI.1 with
        | some n =>
          refine iteF ?_
          refine go _ _ ⟨rfl, hD, pys, ?_, fr, hl2, ho2⟩
          rw [hlk]
          exact hx2
        | none =>
          refine iteT ?_
          refine ⟨_, rfl, x, C, dx, _, _, rfl, hx2, TX.cl, TX.nG, th_given _ _ _ _, _, _, rfl, rfl, dx, _, hx2, by show 4 < 1000; decide, ?_⟩
          rw [th_putg]
          generalize e4 : upd R x _ = R4
          obtain ⟨f4, ex4, o4⟩ := put_of (T := T) (N := fun b => b = x ∨ b = D) hx2 trivial (.inl rfl) e4
          refine go _ _ ⟨rfl, by rw [o4 D nDx]; exact hD, vers_keep f4.keep0 pys, ?_, fr.trans f4, ?_, ?_⟩
          · rw [ex4, hlk]
            rfl
          · rw [o4 l (ne_of hl hx (fun z => nomatch z))]; exact hl2
          · rw [o4 o (ne_of ho hx (fun z => nomatch z))]; exact ho2
    · obtain ⟨ys, b4, b5, b6, rfl, hD, pys, hx2, fr, hl2, ho2⟩ := z
      rw [hxl, List.take_length] at pys hx2
      exact ⟨_, rfl, k R D ys nD hD pys hx2 (fr.drop nD)⟩
end
end Kd

namespace Kd
open PySem PySem.Spec PyProof.Rows L2 LamX
section
variable {P : Program} {w : World} {K : PySem.W.Frag} {mg : Str → Option Value} {base : Heap} {f : Addr} {fd : FuncData}
theorem oldK_snoc (vs : List Ver) (r : Ver) : oldK (oldOf (vs ++ [r])) = oldK (oldOf vs) ++ [(nk r.b, .int r.n)] := by
  unfold oldK oldOf
  rw [List.map_append, List.map_append]
  rfl
theorem old_none {vs : List Ver} {i : Nat} {r : Ver} (h : vs[i]? = some r) (hn : (vs.map (·.b)).Nodup) : lk (oldOf (vs.take i)) r.b = none := by
  rw [lk_none]
  intro m hm e
  obtain ⟨q, hq, rfl⟩ := List.mem_map.mp hm
  obtain ⟨j, hj, ej⟩ := List.mem_iff_getElem.mp hq
  obtain ⟨h1, h2⟩ := List.getElem?_eq_some_iff.mp h
  rw [List.length_take] at hj
  rw [List.getElem_take] at ej
  have := (List.getElem_inj (xs := vs.map (·.b)) hn (i := j) (j := i) (h₀ := by rw [List.length_map]; omega) (h₁ := by rw [List.length_map]; exact h1)).mp (by rw [List.getElem_map, List.getElem_map, h2, ej]; exact e)
  omega
theorem kinds_items {H2 H3 : Hp} (s : Same H2 H3) : ∀ {ts : List Addr} {kvs : List (L2.Key × V)} {ks : List Kind}, Paired (fun (t : Addr) (q : L2.Key × V) => H3 t = some (.tup [kV q.1, q.2])) ts kvs → Paired (KvAt K H2) kvs ks → Paired (KindAt K H3) (ts.map V.ref) ks
  | _, _, _, .nil, .nil => .nil
  | _, _, _, .cons (a := t) (b := q) h1 t1, .cons ⟨e1, p, e2, h2⟩ t2 => .cons ⟨t, p, rfl, by
      rw [e1, e2] at h1
      exact SqT.of h1, Same.seqT s h2⟩ (kinds_items s t1 t2)
theorem stayed_snoc (old : Old) {ss : List Sv} {i : Nat} {s : Sv} (h : ss[i]? = some s) : stayed old (ss.take (i + 1)) = stayed old (ss.take i) ++ if (lk old s.1).isSome = true then [s] else [] := flt_snoc h
/-! ### Things.number_anew -/
abbrev tbS (Pt : Addr) : TB := [(Pt, qS)]
/-- what a numbering asks of a thing -/
structure NumOk (ds : Dims) (ts : Ts) (t : Th) (d : Str × List (Str × Str)) : Prop where
  fd : ds.find? (fun d => decide (d.1 = t.1)) = some d
  kl : ∀ k ∈ ts.ks t, k.2.length = d.2.length
  d5 : d.2.length ≤ 5
  kn : (ts.ks t).length ≤ 200
  vn : (ts.vs t).length ≤ 300
  nd : ((ts.vs t).map (·.b)).Nodup
  nn : ts.nums.length ≤ 4000
def spAnew (K : PySem.W.Frag) (Pt C CP : Addr) : Sp := fun vs H Q _ => ∃ (x p r : Addr) (M MP : Addr → Prop) (ts : Ts) (ds : Dims) (ms : List Str) (t : Th) (d : Str × List (Str × Str)), vs = [.ref x, .ref r] ∧ ThO K C H M x p ts ∧ PlanO K CP H MP p ds ms ∧ (∀ b, MP b → ¬ M b) ∧ H r = some (.tup [.str t.1, .str t.2]) ∧
  NumOk ds ts t d ∧ Tabs (tbS Pt) H ∧ ∀ H' M' v q, Fr (tbS Pt) M H H' → Nw M M' H → ThO K C H' M' x p (ts.anew (d.2.map (·.2)) t) → v = .ref q → H' q = some (.tup [.int (ts.came (d.2.map (·.2)) t), .int (ts.went (d.2.map (·.2)) t)]) → Q v H'
abbrev N_Things_number_anew : List Str := ["self", "thing", "dimension", "key", "number", "begin", "end", "values", "old", "kinds", "versions", "stayed"]
theorem sc_Things_number_anew : FnScope N_Things_number_anew ["self", "thing"] (defScope s_Things_number_anew) := ⟨rfl, rfl, rfl, by decide +kernel, rfl, by decide +kernel, by decide +kernel⟩
/-! slots: 0 self 1 thing 2 dimension 3 key 4 number 5 begin 6 end 7 values 8 old 9 kinds 10 versions 11 stayed; cells: old -/
theorem ok_anew {Pt C CP fW fS : Addr} {fdW fdS : FuncData} (F : FnP K "number_anew" "Things.number_anew" s_Things_number_anew f fd) (TX : ThTxt K C) (mW : MFun P w K mg base C "with_numbers" 1 ["self", "versions", "old"] (spWithN P w K (tbS Pt) C) fW fdW) (c_stretches : Fun P w K mg base "stretches" 4 ["plan", "dimension", "kinds"] (spStr K CP Pt) fS fdS)
    (z_list : mg "list" = none) (z_len : mg "len" = none) : FnOk P w K mg base CX0 5 f fd ["self", "thing"] (spAnew K Pt C CP) := by
  refine F.ok sc_Things_number_anew (fun vs H Q E h => ?_) (fun cdv A outer s H vs Q E hr h => ?_)
  · obtain ⟨x, p, r, M, MP, ts, ds, ms, t, d, rfl, _⟩ := h
    rfl
  · obtain ⟨x, p, r, M, MP, ts, ds, ms, t, d, rfl, hO, hP, dj, hr2, ok, hT, k⟩ := h
    obtain ⟨dx, kd, nb, ka, na, hx, hkd, hnb, nkn, m1, m2, m3, h5, h6, h7⟩ := hO.ex
    have nd := sc_Things_number_anew.nd
    have hu := hr.units
    have hu1 : (A.deeper (envOfC "Things.number_anew" (defScope s_Things_number_anew) s.heap.objs.size f cdv)).units + 1 < cLine := by omega
    refine ⟨_, PSs.nox (pss_cons (ps_asg (pv 1) (pg_tup rfl (pgs_cons (pg_name (i := 2) nd rfl (Or.inl rfl)) (pgs_cons (pg_name (i := 3) nd rfl (Or.inl rfl)) pgs_nil))))
      (pss_cons (ps_set (i := 8) nd rfl (Or.inr rfl) (KdDn.pe_dcg (own := [("number", 4), ("begin", 5), ("end", 6), ("values", 7)]) (g := gTup K 4 (gCons (gName 4) (gCons (gName 5) (gCons (gName 6) (gCons (gName 7) gNil))))) (tt := tYes) (tk := tVar 5) (tv := tVar 4) KdDn.kitN rfl nd (pi_list (pe_dget2 hu1 (pe_fld (pv 0) rfl) (pv 1) (pe_lst pa_nil) ⟨rfl, rfl, rfl, rfl⟩)) (blkOk_by (own := [("number", 4), ("begin", 5), ("end", 6), ("values", 7)]) (N := N_Things_number_anew) (sc := defScope s_Things_number_anew) (by decide +kernel))
        (fun _ _ _ _ _ => pg_tup rfl (pgs_cons (pg_name (i := 4) nd rfl (Or.inl rfl)) (pgs_cons (pg_name (i := 5) nd rfl (Or.inl rfl)) (pgs_cons (pg_name (i := 6) nd rfl (Or.inl rfl)) (pgs_cons (pg_name (i := 7) nd rfl (Or.inl rfl)) pgs_nil))))) (fun _ _ _ _ _ => pts_nil) (fun _ _ _ _ _ => pv 5) (fun _ _ _ _ _ => pv 4)))
      (pss_cons (ps_set (i := 9) nd rfl (Or.inl rfl) (LiI.pe_listItems rfl (pe_dget2 hu1 (pe_fld (pv 0) rfl) (pv 1) pe_dnewK ⟨rfl, rfl, rfl, rfl⟩) rfl z_list (by decide +kernel)))
      (pss_cons (ps_set (i := 10) nd rfl (Or.inl rfl) (pe_call c_stretches.G (hr.mono (by decide)) rfl c_stretches.g c_stretches.k c_stretches.b .nil pass0 (pa_cons (pe_fld (pv 0) rfl) (pa_cons (pv 2) (pa_cons (pv 9) pa_nil)))))
      (pss_cons (ps_set (i := 11) nd rfl (Or.inl rfl) (pe_callB call_len_seq (by rfl) z_len boot_len (pa_cons (pe_lc (own := [("begin", 5), ("end", 6), ("values", 7)]) (g := gTup K 3 (gCons (gName 5) (gCons (gName 6) (gCons (gName 7) gNil)))) (tt := tB (KdNd.tNdIn P w (tVar 5) (tVar 8))) (te := tVar 5) rfl nd (pi_list (pv 10)) (blkOk_by (own := [("begin", 5), ("end", 6), ("values", 7)]) (N := N_Things_number_anew) (sc := defScope s_Things_number_anew) (by decide +kernel))
        (fun _ _ _ _ _ => pg_tup rfl (pgs_cons (pg_name (i := 5) nd rfl (Or.inl rfl)) (pgs_cons (pg_name (i := 6) nd rfl (Or.inl rfl)) (pgs_cons (pg_name (i := 7) nd rfl (Or.inl rfl)) pgs_nil)))) (fun _ _ _ _ _ => pts_one (pt_cmp (KdNd.pc_ndin (pv 5) (pv 8)))) (fun _ _ _ _ _ => pv 5)) pa_nil)))
      (pss_cons (ps_dput hu1 (pe_fld (pv 0) rfl) (pv 1) (pe_meth (pv 0) mW.cl mW.m mW.G (hr.mono (by decide)) mW.b .nil pass0 (pa_cons (pv 10) (pa_cons (pv 8) pa_nil))) rfl)
      (pss_one (ps_ret (pe_tup (pa_cons (pe_op op_sub (pe_callB call_len_seq (by rfl) z_len boot_len (pa_cons (pv 10) pa_nil)) (pv 11)) (pa_cons (pe_op op_sub (pe_callB KdNd.call_lenN (by rfl) z_len boot_len (pa_cons (pv 8) pa_nil)) (pv 11)) pa_nil))))))))))), ?_⟩
    refine ⟨_, rfl, r, _, rfl, SqT.of hr2, rfl, _, _, rfl, _, _, rfl, rfl, ?_⟩
    refine sl_eq (σ' := [some (.ref x), some (.ref r), some (.str t.1), some (.str t.2), none, none, none, none, none, none, none, none]) rfl ?_
    refine ⟨_, rfl, x, C, dx, _, _, rfl, hx, TX.cl, TX.nN, th_num p kd nb _, nb, rfl, .inr ⟨_, .inl hnb⟩, _, rfl, by show 0 ≤ sizeLine; decide, fun l0 n0 => ?_⟩
    generalize e0 : upd H l0 _ = H0
    obtain ⟨s0, el0⟩ := new_of n0 e0
    refine ⟨_, DGet.t (k := thK t) (s0 _ _ hnb) (s0 _ _ hr2), ?_⟩
    -- the old versions
    obtain ⟨lo, xs, elo, hlo, plo⟩ : ∃ lo xs, (valV (ts.nums.map fun e => (thK e.1, V.ref (na e.1))) (thK t)).getD (.ref l0) = .ref lo ∧ H0 lo = some (.lst xs) ∧ Paired (VerAt K H0) xs (ts.vs t) := by
      rw [val_map (r := fun t => V.ref (na t)) thK_inj]
      unfold Ts.vs
      cases e : lk ts.nums t with
      | none => exact ⟨l0, [], rfl, el0, .nil⟩
      | some vers =>
        obtain ⟨_, xs, a1, a2⟩ := h7 (t, vers) (lk_mem e)
        exact ⟨na t, xs, rfl, s0 _ _ a1, PySem.Paired.mono (fun _ _ => VerAt.same s0) a2⟩
    rw [elo]
    have lxo : xs.length = (ts.vs t).length := plo.length
    have ok1 := ok.vn
    refine ⟨lo, rfl, ⟨_, SqL.of hlo⟩, fun D nD => ?_⟩
    refine KdDn.dcg_it (O0 := fun D => KdNd.NdO P w D []) (Put := KdDn.PutN P w) (walk_list (K := K) (a := lo) (xs := xs)) (fun i R => R D = some (KdNd.NdO P w D (oldK (oldOf ((ts.vs t).take i)))) ∧ Same H0 (cd D R)) ⟨upd_same, by rw [cd_upd, cd_free nD]; exact Same.refl _⟩ (fun i R _ z => SqL.of (cd_sub _ _ (z.2 _ _ hlo))) ?_ ?_
    · rintro i y R R' hi ⟨hD, sm⟩ ⟨rfl, hy⟩
      obtain ⟨ver, hver, q, yv, rfl, hq, dq, nl⟩ := paired_at plo hy
      refine ⟨q, _, rfl, SqT.of (cd_sub _ _ (sm _ _ hq)), rfl, _, _, rfl, _, _, rfl, _, _, rfl, _, _, rfl, rfl, rfl, yes ?_⟩
      refine ⟨_, rfl, _, rfl, _, ⟨_, nk ver.b, nkV_nk _, hD, ?_, rfl⟩, ?_, ?_⟩
      · unfold oldK oldOf
        rw [List.length_map, List.length_map, List.length_take]
        exact Nat.lt_of_le_of_lt (by omega : _ ≤ 4000) (by decide)
      · rw [upd_same]
        congr 1
        rw [putK_new _ (by rw [val_oldK, old_none hver ok.nd]; rfl)]
        obtain ⟨g1, g2⟩ := List.getElem?_eq_some_iff.mp hver
        rw [List.take_succ_eq_append_getElem g1, g2, oldK_snoc]
      · rw [cd_upd]
        exact sm
    · rintro H1 ⟨hD1, sm1⟩
      rw [lxo, List.take_length] at hD1
      have s01 : Same H H1 := s0.trans (sm1.trans cd_sub)
      refine set_sl (σ' := [some (.ref x), some (.ref r), some (.str t.1), some (.str t.2), none, none, none, none, some (.ref D), none, none, none]) rfl ?_
      refine ⟨_, rfl, x, C, dx, _, _, rfl, s01 _ _ hx, TX.cl, TX.nK, th_kinds p kd nb _, kd, rfl, .inr ⟨_, .inl (s01 _ _ hkd)⟩, _, rfl, fun d0 nd0 => ?_⟩
      generalize e2 : upd H1 d0 _ = H2
      obtain ⟨s12, ed0⟩ := new_of nd0 e2
      have s02 := s01.trans s12
      refine ⟨_, DGet.t (k := thK t) (s02 _ _ hkd) (s02 _ _ hr2), ?_⟩
      obtain ⟨di, kvs, edi, hdi, pdi⟩ : ∃ di kvs, (valV (ts.kinds.map fun e => (thK e.1, V.ref (ka e.1))) (thK t)).getD (.ref d0) = .ref di ∧ H2 di = some (.dK kvs) ∧ Paired (KvAt K H2) kvs (ts.ks t) := by
        rw [val_map (r := fun t => V.ref (ka t)) thK_inj]
        unfold Ts.ks
        cases e : lk ts.kinds t with
        | none => exact ⟨d0, [], rfl, ed0, .nil⟩
        | some ks =>
          obtain ⟨_, kvs, a1, a2⟩ := h5 (t, ks) (lk_mem e)
          exact ⟨ka t, kvs, rfl, s02 _ _ a1, PySem.Paired.mono (fun _ _ => KvAt.keep (M := no) (Keep.of s02)) a2⟩
      rw [edi]
      refine ⟨di, kvs, rfl, hdi, fun H3 l3 tss s23 _ _ _ hl3 pt3 => ?_⟩
      have hk3 : KindsAt K H3 l3 (ts.ks t) := ⟨_, SqL.of hl3, kinds_items s23 pt3 pdi⟩
      have s03 : Same H H3 := s02.trans s23
      have hD3 : H3 D = some (KdNd.NdO P w D (oldK (oldOf (ts.vs t)))) := (s12.trans s23) _ _ hD1
      refine set_sl (σ' := [some (.ref x), some (.ref r), some (.str t.1), some (.str t.2), none, none, none, none, some (.ref D), some (.ref l3), none, none]) rfl ?_
      refine ⟨_, rfl, x, C, dx, _, _, rfl, s03 _ _ hx, TX.cl, TX.nP, th_plan p kd nb _, _, rfl, _, rfl, p, l3, t.1, ds, ms, d, ts.ks t, rfl, (hP.keep (Keep.of s03)).at, ok.fd, hk3, ok.kl, ok.d5, ok.kn, hT.ext s03, fun rv H4 eN T4 ner yex => ?_⟩
      obtain ⟨ys, hys, lys, dys⟩ := yex
      have f04 : Fr (tbS Pt) no H H4 := (Fr.of s03).trans (Fr.ext eN T4)
      have hD4 : H4 D = some (KdNd.NdO P w D (oldK (oldOf (ts.vs t)))) := eN _ _ hD3 (fun _ z => nomatch z)
      rw [strL_sv] at dys
      generalize hss : sv (d.2.map (·.2)) (ts.ks t) = ss at dys
      have lss : ss.length ≤ 201 := by rw [← hss]; have := sv_le (d.2.map (·.2)) (ts.ks t); have := ok.kn; omega
      have lyy : ys.length = ss.length := by rw [DpAll.len dys, List.length_map]
      refine set_sl (σ' := [some (.ref x), some (.ref r), some (.str t.1), some (.str t.2), none, none, none, none, some (.ref D), some (.ref l3), some (.ref rv), none]) rfl ?_
      refine ⟨_, rfl, rv, rfl, ⟨_, SqL.of hys⟩, fun DL nDL => ?_⟩
      refine lc_build (walk_list (K := K) (a := rv) (xs := ys)) nDL (fun i zs R => R = H4 ∧ zs.length = (stayed (oldOf (ts.vs t)) (ss.take i)).length) ⟨rfl, rfl⟩ (fun _ _ _ _ z => SqL.of (cd_is0 z.1 _ _ hys)) ?_ ?_
      · rintro i zs y R R' hi e ly ⟨ec, ez⟩ ⟨rfl, hy⟩
        obtain ⟨dv, hdv, dpv⟩ := DpAll.at_ dys hy
        rw [List.getElem?_map] at hdv
        obtain ⟨sI, hsI, rfl⟩ := Option.map_eq_some_iff.mp hdv
        obtain ⟨q, yv, rfl, hq, dyv⟩ := sv_item dpv
        refine ⟨q, _, rfl, Same.seqT (cd_is0 ec) hq, rfl, _, _, rfl, _, _, rfl, _, _, rfl, rfl, rfl, _, rfl, _, rfl, D, _, nk sI.1, rfl, nkV_nk _, cd_is0 ec _ _ hD4, _, rfl, ?_⟩
        rw [val_oldK]
        have est := stayed_snoc (oldOf (ts.vs t)) hsI
        cases hlk : lk (oldOf (ts.vs t)) sI.1 with
        | some n =>
          refine iteT ⟨_, rfl, LcNx.add e ly (by omega) ⟨ec, ?_⟩⟩
          rw [est, hlk, List.length_append, List.length_append, ez]
          rfl
        | none =>
          refine iteF (LcNx.skip e ly ⟨ec, ?_⟩)
          rw [est, hlk, if_neg (by decide), List.append_nil]
          exact ez
      · rintro zs H5 e5 ly ⟨ec, ez⟩
        rw [lyy, List.take_length] at ez
        have s45 : Same H4 H5 := cd_is0 ec
        have f05 : Fr (tbS Pt) no H H5 := f04.trans (Fr.of s45)
        have k05 : Keep M H H5 := f05.keep fun _ _ z => z
        refine ⟨DL, zs, rfl, .inl (SqL.of e5), ?_⟩
        refine set_sl (σ' := [some (.ref x), some (.ref r), some (.str t.1), some (.str t.2), none, none, none, none, some (.ref D), some (.ref l3), some (.ref rv), some (.int zs.length)]) rfl ?_
        have hx5 := k05.at hx trivial m1
        refine ⟨_, rfl, x, dx, _, rfl, hx5, th_no (by decide +kernel) (by decide +kernel) (by decide +kernel) (by decide +kernel), _, rfl, _, rfl, x, dx, p, kd, nb, rv, D, ts.given, ys, ss, oldOf (ts.vs t), rfl, hx5, s45 _ _ hys, DpAll.same s45 _ _ dys, by omega, fun s hs => ?_, s45 _ _ hD4, fun H6 rr yv nrr hrr prr hx6 f6 => ?_⟩
        · rw [← hss] at hs
          exact sv_nol hs
        have k56 : Keep (fun b => b ≠ x) H5 H6 := f6.keep fun _ z => z
        have nnx : nb ≠ x := ne_of hnb hx (fun z => nomatch z)
        have hnb6 := k56.at (k05.at hnb trivial m3) trivial nnx
        have hr6 := k56.tup (k05.tup hr2)
        have ln : (ts.nums.map fun e => (thK e.1, V.ref (na e.1))).length < sizeLine := by rw [List.length_map]; exact Nat.lt_of_le_of_lt ok.nn (by decide)
        refine ⟨_, rfl, x, C, dx, _, _, rfl, hx6, TX.cl, TX.nN, th_num _ _ _ _, _, rfl, nb, _, rfl, DPut.t (k := thK t) hnb6 hr6 ln, ?_⟩
        generalize e7 : upd H6 nb _ = H7
        obtain ⟨f7, en7, o7⟩ := put_of (T := tbS Pt) (N := M) hnb6 trivial m3 e7
        have hrv5 := s45 _ _ hys
        have nrx : rv ≠ x := ne_of hrv5 hx5 (fun z => nomatch z)
        have nrn : rv ≠ nb := ne_of hrv5 (k05.at hnb trivial m3) (fun z => nomatch z)
        have hD5 := s45 _ _ hD4
        have nDx : D ≠ x := ne_of hD5 hx5 (fun z => nomatch z)
        have nDn : D ≠ nb := ne_of hD5 (k05.at hnb trivial m3) (fun z => nomatch z)
        have hrv7 : H7 rv = some (.lst ys) := by rw [o7 rv nrn]; exact k56.at hrv5 trivial nrx
        have hD7 : H7 D = some (KdNd.NdO P w D (oldK (oldOf (ts.vs t)))) := by rw [o7 D nDn]; exact k56 _ _ hD5 (fun _ z => nomatch z) (.inr nDx)
        refine ⟨_, rfl, rv, ys, rfl, .inl (SqL.of hrv7), _, rfl, _, _, rfl, rfl, _, rfl, D, _, rfl, hD7, _, rfl, _, _, rfl, rfl, by show 2 ≤ sizeLine; decide, fun q nq => ?_⟩
        generalize e8 : upd H7 q _ = H8
        obtain ⟨s8, eq8⟩ := new_of nq e8
        have f06 : Fr (tbS Pt) M H H6 := (f05.mono (fun _ z => z.elim)).trans (f6.mono (fun b z => by rw [z]; exact m1))
        have f07 := f06.trans f7
        have nrr2 : rr ≠ nb := fun z => by rw [z, k05.at hnb trivial m3] at nrr; cases nrr
        have nrr3 : rr ≠ x := fun z => by rw [z, hx5] at nrr; cases nrr
        have k07 : Keep (fun b => M b ∧ b ≠ x ∧ b ≠ nb) H H7 := ((k05.mono fun _ z => z.1).trans (k56.mono fun _ z => z.2.1)).trans fun b o e tb c => by
          by_cases z : b = nb
          · exact f7.st b o e tb (c.imp id fun q => absurd z q.2.2)
          · rw [o7 b z]; exact e
        refine k H8 (fun b => M b ∨ b = rr) _ q (f07.trans (Fr.of s8)) (fun b hb => hb.imp id fun z => ?_) ?_ rfl ?_
        · rw [z]
          exact (Fresh.of nrr).back f05 id
        · refine ThO.same ⟨?_, dx, kd, nb, ka, fun t' => if t' = t then rr else na t', ?_, ?_, ?_, nkn, .inl m1, .inl m2, .inl m3, fun e he => ?_, h6, fun e he => ?_⟩ s8
          · rintro b (hb | rfl)
            · by_cases z1 : b = x
              · rw [z1, o7 x nnx.symm]; exact ⟨_, hx6, trivial⟩
              · by_cases z2 : b = nb
                · rw [z2]; exact ⟨_, en7, trivial⟩
                · obtain ⟨o, e, c⟩ := hO.live b hb
                  exact ⟨o, k07.at e c ⟨hb, z1, z2⟩, c⟩
            · exact ⟨.lst yv, by rw [o7 _ nrr2]; exact hrr, trivial⟩
          · rw [o7 x nnx.symm, hx6]
            unfold Ts.anew
            rw [hss]
          · exact k07.at hkd trivial ⟨m2, ne_of hkd hx (fun z => nomatch z), nkn⟩
          · rw [en7]
            congr 2
            show _ = (pt ts.nums t _).map fun e => (thK e.1, V.ref (if e.1 = t then rr else na e.1))
            rw [map_pt (r := fun t => V.ref (na t)) (r' := fun t' => V.ref (if t' = t then rr else na t')) thK_inj (fun t' h => by rw [if_neg h])]
            rw [if_pos rfl]
          · obtain ⟨a1, kvs1, a2, a3⟩ := h5 e he
            have a4 : M (ka e.1) ∧ ka e.1 ≠ x ∧ ka e.1 ≠ nb := ⟨a1, ne_of a2 hx (fun z => nomatch z), ne_of a2 hnb (fun z => nomatch z)⟩
            exact ⟨.inl a1, InnerAt.keep (M := fun b => M b ∧ b ≠ x ∧ b ≠ nb) a4 k07 ⟨kvs1, a2, a3⟩⟩
          · rcases mem_pt he with rfl | ⟨he, ne⟩
            · show (M (if t = t then rr else na t) ∨ (if t = t then rr else na t) = rr) ∧ VersAt K H7 (if t = t then rr else na t) _
              rw [if_pos rfl]
              refine ⟨.inr rfl, yv, by rw [o7 _ nrr2]; exact hrr, ?_⟩
              rw [hss]
              exact vers_keep f7.keep0 prr
            · show (M (if e.1 = t then rr else na e.1) ∨ _) ∧ VersAt K H7 (if e.1 = t then rr else na e.1) _
              rw [if_neg ne]
              obtain ⟨a1, xs1, a2, a3⟩ := h7 e he
              have a4 : M (na e.1) ∧ na e.1 ≠ x ∧ na e.1 ≠ nb := ⟨a1, ne_of a2 hx (fun z => nomatch z), ne_of a2 hnb (fun z => nomatch z)⟩
              exact ⟨.inl a1, VersAt.keep (M := fun b => M b ∧ b ≠ x ∧ b ≠ nb) a4 k07 ⟨xs1, a2, a3⟩⟩
        · rw [eq8]
          unfold Ts.came Ts.went
          rw [hss, ← ez, ← lyy]
          have eo : (oldK (oldOf (ts.vs t))).length = (ts.vs t).length := by unfold oldK oldOf; rw [List.length_map, List.length_map]
          rw [eo]
end
end Kd

namespace Kd
open PySem PySem.Spec PyProof.Rows L2 LamX
/-! ### tables put -/
theorem paired_any {α β κ : Type} [DecidableEq α] [DecidableEq κ] {g : α → κ} (gi : ∀ a b, g a = g b → a = b) {R : V → β → Prop} {k : α} : ∀ {kvs : List (κ × V)} {ms : List (α × β)}, Paired (fun kv m => kv.1 = g m.1 ∧ R kv.2 m.2) kvs ms → (kvs.any fun kv => decide (kv.1 = g k)) = ms.any fun m => decide (m.1 = k)
  | _, _, .nil => rfl
  | _, _, .cons (b := m) h t => by
    rw [List.any_cons, List.any_cons, paired_any gi t, h.1]
    congr 1
    by_cases q : m.1 = k
    · rw [decide_eq_true q, q, decide_eq_true rfl]
    · rw [decide_eq_false q, decide_eq_false (fun z => q (gi _ _ z))]
theorem paired_repl {α β κ : Type} [DecidableEq α] [DecidableEq κ] {g : α → κ} (gi : ∀ a b, g a = g b → a = b) {R : V → β → Prop} {k : α} {v : V} {b : β} (r : R v b) : ∀ {kvs : List (κ × V)} {ms : List (α × β)}, Paired (fun kv m => kv.1 = g m.1 ∧ R kv.2 m.2) kvs ms →
    Paired (fun kv m => kv.1 = g m.1 ∧ R kv.2 m.2) (kvs.map fun kv => if kv.1 = g k then (kv.1, v) else kv) (ms.map fun m => if m.1 = k then (m.1, b) else m)
  | _, _, .nil => .nil
  | _, _, .cons (a := kv) (b := m) h t => by
    refine .cons ?_ (paired_repl gi r t)
    dsimp only
    by_cases q : m.1 = k
    · rw [if_pos q, if_pos (by rw [h.1, q])]
      exact ⟨h.1, r⟩
    · rw [if_neg q, if_neg (fun z => q (gi _ _ (h.1.symm.trans z)))]
      exact h
theorem paired_put {α β κ : Type} [DecidableEq α] [DecidableEq κ] {g : α → κ} (gi : ∀ a b, g a = g b → a = b) {R : V → β → Prop} {k : α} {v : V} {b : β} (r : R v b) {kvs : List (κ × V)} {ms : List (α × β)} (h : Paired (fun kv m => kv.1 = g m.1 ∧ R kv.2 m.2) kvs ms) :
    Paired (fun kv m => kv.1 = g m.1 ∧ R kv.2 m.2) (putK kvs (g k) v) (pt ms k b) := by
  unfold putK pt
  rw [paired_any gi h]
  split
  · exact paired_repl gi r h
  · exact PySem.Paired.snoc h ⟨rfl, r⟩
theorem pt_pt_new {α β : Type} [DecidableEq α] {ms : List (α × β)} {k : α} {b c : β} (h : lk ms k = none) : pt (pt ms k b) k c = pt ms k c := by
  have e : lk (pt ms k b) k = some b := by rw [lk_pt, if_pos rfl]
  rw [pt_old e, pt_new h, pt_new h, List.map_append]
  congr 1
  · conv => rhs; rw [← List.map_id ms]
    apply List.map_congr_left
    intro m hm
    rw [if_neg (lk_none.mp h m hm)]
    rfl
  · show [if k = k then (k, c) else (k, b)] = _
    rw [if_pos rfl]
section
variable {P : Program} {w : World} {K : PySem.W.Frag} {mg : Str → Option Value} {base : Heap} {f : Addr} {fd : FuncData}
/-! ### things, their addresses told -/
structure ThX (K : PySem.W.Frag) (C : Addr) (H : Hp) (M : Addr → Prop) (th p : Addr) (ts : Ts) (dx kd nb : Addr) (ka na : Th → Addr) : Prop where
  live : Live M H
  hx : H th = some (.ins C dx (thF p kd nb ts.given))
  hk : H kd = some (.dT (ts.kinds.map fun e => (thK e.1, .ref (ka e.1))))
  hn : H nb = some (.dT (ts.nums.map fun e => (thK e.1, .ref (na e.1))))
  ne : kd ≠ nb
  mx : M th
  md : M kd
  mn : M nb
  ki : ∀ e ∈ ts.kinds, M (ka e.1) ∧ InnerAt K H (ka e.1) e.2
  inj : ∀ e ∈ ts.kinds, ∀ e' ∈ ts.kinds, ka e.1 = ka e'.1 → e.1 = e'.1
  vi : ∀ e ∈ ts.nums, M (na e.1) ∧ VersAt K H (na e.1) e.2
theorem ThO.x {C th p : Addr} {H : Hp} {M : Addr → Prop} {ts : Ts} (h : ThO K C H M th p ts) : ∃ dx kd nb ka na, ThX K C H M th p ts dx kd nb ka na := by
  obtain ⟨dx, kd, nb, ka, na, h1, h2, h3, h4, m1, m2, m3, h5, h6, h7⟩ := h.ex
  exact ⟨dx, kd, nb, ka, na, h.live, h1, h2, h3, h4, m1, m2, m3, h5, h6, h7⟩
theorem ThX.o {C th p dx kd nb : Addr} {H : Hp} {M : Addr → Prop} {ts : Ts} {ka na : Th → Addr} (h : ThX K C H M th p ts dx kd nb ka na) : ThO K C H M th p ts := ⟨h.live, dx, kd, nb, ka, na, h.hx, h.hk, h.hn, h.ne, h.mx, h.md, h.mn, h.ki, h.inj, h.vi⟩
theorem ThX.same {C th p dx kd nb : Addr} {H H' : Hp} {M : Addr → Prop} {ts : Ts} {ka na : Th → Addr} (h : ThX K C H M th p ts dx kd nb ka na) (s : Same H H') : ThX K C H' M th p ts dx kd nb ka na :=
  ⟨h.live.same s, s _ _ h.hx, s _ _ h.hk, s _ _ h.hn, h.ne, h.mx, h.md, h.mn, fun e he => ⟨(h.ki e he).1, (h.ki e he).2.keep (h.ki e he).1 (Keep.of s)⟩, h.inj, fun e he => ⟨(h.vi e he).1, (h.vi e he).2.keep (h.vi e he).1 (Keep.of s)⟩⟩
/-- a new thing, no kinds yet -/
theorem ThX.new_kind {C th p dx kd nb d0 : Addr} {H H' : Hp} {M : Addr → Prop} {ts : Ts} {ka na : Th → Addr} {t : Th} (h : ThX K C H M th p ts dx kd nb ka na) (e : lk ts.kinds t = none) (hd : H d0 = some (.dK [])) (nm : ¬ M d0)
    (eH : upd H kd (.dT (putK (ts.kinds.map fun e => (thK e.1, V.ref (ka e.1))) (thK t) (.ref d0))) = H') : ThX K C H' (fun b => M b ∨ b = d0) th p { ts with kinds := pt ts.kinds t [] } dx kd nb (fun t' => if t' = t then d0 else ka t') na := by
  have o : ∀ b, b ≠ kd → H' b = H b := fun b hb => by rw [← eH]; exact upd_ne hb
  have kk : Keep (fun b => b ≠ kd) H H' := fun b u eb tb c => by
    by_cases z : b = kd
    · rw [z, h.hk] at eb
      cases eb
      exact c.elim (fun q => absurd q (Chg.notT trivial)) fun q => absurd z q
    · rw [o b z]; exact eb
  have nd : d0 ≠ kd := fun z => nm (by rw [z]; exact h.md)
  refine ⟨?_, kk.at h.hx trivial (ne_of h.hx h.hk (fun z => nomatch z)), ?_, kk.at h.hn trivial h.ne.symm, h.ne, .inl h.mx, .inl h.md, .inl h.mn, fun x hx => ?_, fun x hx y hy => ?_, fun x hx => ?_⟩
  · rintro b (hb | rfl)
    · by_cases z : b = kd
      · rw [z, ← eH]; exact ⟨_, upd_same, trivial⟩
      · obtain ⟨u, e1, e2⟩ := h.live b hb
        exact ⟨u, kk.at e1 e2 z, e2⟩
    · exact ⟨_, kk.at hd trivial nd, trivial⟩
  · rw [← eH, upd_same]
    congr 2
    rw [map_pt (r := fun t => V.ref (ka t)) (r' := fun t' => V.ref (if t' = t then d0 else ka t')) thK_inj (fun t' h => by rw [if_neg h]), if_pos rfl]
  · rcases mem_pt hx with rfl | ⟨hx, ne⟩
    · show (M (if t = t then d0 else ka t) ∨ (if t = t then d0 else ka t) = d0) ∧ InnerAt K H' (if t = t then d0 else ka t) _
      rw [if_pos rfl]
      exact ⟨.inr rfl, [], kk.at hd trivial nd, .nil⟩
    · show (M (if x.1 = t then d0 else ka x.1) ∨ _) ∧ InnerAt K H' (if x.1 = t then d0 else ka x.1) _
      rw [if_neg ne]
      obtain ⟨a1, kvs, a2, a3⟩ := h.ki x hx
      exact ⟨.inl a1, InnerAt.keep (M := fun b => b ≠ kd) (ne_of a2 h.hk (fun z => nomatch z)) kk ⟨kvs, a2, a3⟩⟩
  · show (if x.1 = t then d0 else ka x.1) = (if y.1 = t then d0 else ka y.1) → x.1 = y.1
    have nk : ∀ m ∈ ts.kinds, ka m.1 ≠ d0 := fun m hm z => nm (by rw [← z]; exact (h.ki m hm).1)
    rcases mem_pt hx with rfl | ⟨hx, ne⟩
    · rcases mem_pt hy with rfl | ⟨hy, ne2⟩
      · intro _; rfl
      · rw [if_pos rfl, if_neg ne2]
        exact fun z => absurd z.symm (nk y hy)
    · rcases mem_pt hy with rfl | ⟨hy, ne2⟩
      · rw [if_pos rfl, if_neg ne]
        exact fun z => absurd z (nk x hx)
      · rw [if_neg ne, if_neg ne2]
        exact h.inj x hx y hy
  · obtain ⟨a1, xs, a2, a3⟩ := h.vi x hx
    exact ⟨.inl a1, VersAt.keep (M := fun b => b ≠ kd) (ne_of a2 h.hk (fun z => nomatch z)) kk ⟨xs, a2, a3⟩⟩
/-- a kind put -/
theorem ThX.put_kind {C th p dx kd nb q : Addr} {H H' : Hp} {M : Addr → Prop} {ts : Ts} {ka na : Th → Addr} {t : Th} {ks : List Kind} {ivs : List (L2.Key × V)} {day : Int} {vals : List Fv} (h : ThX K C H M th p ts dx kd nb ka na) (e : lk ts.kinds t = some ks) (hd : H (ka t) = some (.dK ivs)) (pi : Paired (KvAt K H) ivs ks) (hq : SqT K H q (vals.map Fv.v))
    (eH : upd H (ka t) (.dK (putK ivs (Sum.inl day) (.ref q))) = H') : ThX K C H' M th p { ts with kinds := pt ts.kinds t (pt ks day vals) } dx kd nb ka na := by
  have o : ∀ b, b ≠ ka t → H' b = H b := fun b hb => by rw [← eH]; exact upd_ne hb
  have kk : Keep (fun b => b ≠ ka t) H H' := fun b u eb tb c => by
    by_cases z : b = ka t
    · rw [z, hd] at eb
      cases eb
      exact c.elim (fun q => absurd q (Chg.notT trivial)) fun q => absurd z q
    · rw [o b z]; exact eb
  refine ⟨?_, kk.at h.hx trivial (ne_of h.hx hd (fun z => nomatch z)), ?_, kk.at h.hn trivial (ne_of h.hn hd (fun z => nomatch z)), h.ne, h.mx, h.md, h.mn, fun x hx => ?_, fun x hx y hy => ?_, fun x hx => ?_⟩
  · intro b hb
    by_cases z : b = ka t
    · rw [z, ← eH]; exact ⟨_, upd_same, trivial⟩
    · obtain ⟨u, e1, e2⟩ := h.live b hb
      exact ⟨u, kk.at e1 e2 z, e2⟩
  · rw [map_pt_old (r := fun t => V.ref (ka t)) e]
    exact kk.at h.hk trivial (ne_of h.hk hd (fun z => nomatch z))
  · rcases mem_pt hx with rfl | ⟨hx, ne⟩
    · refine ⟨(h.ki _ (lk_mem e)).1, _, by rw [← eH]; exact upd_same, ?_⟩
      exact paired_put (g := Sum.inl) (fun a b z => Sum.inl.inj z) (R := fun v (b : List Fv) => ∃ q, v = .ref q ∧ SqT K H' q (b.map Fv.v)) ⟨q, rfl, kk.seqT hq⟩ (PySem.Paired.mono (fun _ _ => KvAt.keep kk) pi)
    · obtain ⟨a1, kvs, a2, a3⟩ := h.ki x hx
      refine ⟨a1, InnerAt.keep (M := fun b => b ≠ ka t) (fun z => ne ?_) kk ⟨kvs, a2, a3⟩⟩
      exact h.inj x hx (t, ks) (lk_mem e) z
  · intro z
    rcases mem_pt hx with rfl | ⟨hx, ne⟩
    · rcases mem_pt hy with rfl | ⟨hy, ne2⟩
      · rfl
      · exact h.inj (t, ks) (lk_mem e) y hy z
    · rcases mem_pt hy with rfl | ⟨hy, ne2⟩
      · exact h.inj x hx (t, ks) (lk_mem e) z
      · exact h.inj x hx y hy z
  · obtain ⟨a1, xs, a2, a3⟩ := h.vi x hx
    exact ⟨a1, VersAt.keep (M := fun b => b ≠ ka t) (ne_of a2 hd (fun z => nomatch z)) kk ⟨xs, a2, a3⟩⟩
/-! ### Things.take_kind -/
def spTakeK (K : PySem.W.Frag) (Pt C CP : Addr) : Sp := fun vs H Q _ => ∃ (x p r q : Addr) (M MP : Addr → Prop) (ts : Ts) (ds : Dims) (ms : List Str) (t : Th) (d : Str × List (Str × Str)) (day : Int) (vals : List Fv), vs = [.ref x, .ref r, .int day, .ref q] ∧ ThO K C H M x p ts ∧ PlanO K CP H MP p ds ms ∧ (∀ b, MP b → ¬ M b) ∧ H r = some (.tup [.str t.1, .str t.2]) ∧
  SqT K H q (vals.map Fv.v) ∧ NumOk ds (ts.kept t day vals) t d ∧ ts.kinds.length ≤ 4000 ∧ (ts.ks t).length ≤ 4000 ∧ Tabs (tbS Pt) H ∧
  ∀ H' M' v q, Fr (tbS Pt) M H H' → Nw M M' H → ThO K C H' M' x p ((ts.kept t day vals).anew (d.2.map (·.2)) t) → v = .ref q → H' q = some (.tup [.int ((ts.kept t day vals).came (d.2.map (·.2)) t), .int ((ts.kept t day vals).went (d.2.map (·.2)) t)]) → Q v H'
abbrev N_Things_take_kind : List Str := ["self", "thing", "day", "values", "kinds"]
theorem sc_Things_take_kind : FnScope N_Things_take_kind ["self", "thing", "day", "values"] (defScope s_Things_take_kind) := ⟨rfl, rfl, rfl, by decide +kernel, rfl, by decide +kernel, by decide +kernel⟩
/-! slots: 0 self 1 thing 2 day 3 values 4 kinds; cells:  -/
theorem ok_takeK {Pt C CP fA : Addr} {fdA : FuncData} (F : FnP K "take_kind" "Things.take_kind" s_Things_take_kind f fd) (TX : ThTxt K C) (mA : MFun P w K mg base C "number_anew" 5 ["self", "thing"] (spAnew K Pt C CP) fA fdA) : FnOk P w K mg base CX0 6 f fd ["self", "thing", "day", "values"] (spTakeK K Pt C CP) := by
  refine F.ok sc_Things_take_kind (fun vs H Q E h => ?_) (fun cdv A outer s H vs Q E hr h => ?_)
  · obtain ⟨x, p, r, q, M, MP, ts, ds, ms, t, d, day, vals, rfl, _⟩ := h
    rfl
  · obtain ⟨x, p, r, q, M, MP, ts, ds, ms, t, d, day, vals, rfl, hO, hP, dj, hr2, hq, ok, lk1, lk2, hT, k⟩ := h
    obtain ⟨dx, kd, nb, ka, na, X⟩ := hO.x
    have nd := sc_Things_take_kind.nd
    have hu := hr.units
    have hu1 : (A.deeper (envOfC "Things.take_kind" (defScope s_Things_take_kind) s.heap.objs.size f cdv)).units + 1 < cLine := by omega
    refine ⟨_, PSs.nox (pss_cons (ps_set (i := 4) nd rfl (Or.inl rfl) (pe_bm PySem.F.plainAttrs_dict PySem.F.slot_dict_setdefault PySem.F.type_dict_setdefault (KdDt.mt_setdT hu1) (pe_fld (pv 0) rfl) (pa_cons (pv 1) (pa_cons pe_dnewK pa_nil))))
      (pss_cons (ps_dput hu1 (pv 4) (pv 2) (pv 3) rfl)
      (pss_one (ps_ret (pe_meth (pv 0) mA.cl mA.m mA.G (hr.mono (by decide)) mA.b .nil pass0 (pa_cons (pv 1) pa_nil)))))), ?_⟩
    refine ⟨_, rfl, x, C, dx, _, _, rfl, X.hx, TX.cl, TX.nK, th_kinds p kd nb _, .inr (.inr (.inl ⟨rfl, .inr ⟨_, X.hk⟩⟩)), _, rfl, fun d0 n0 => ?_⟩
    generalize e0 : upd H d0 _ = H0
    obtain ⟨s0, ed0⟩ := new_of n0 e0
    have X0 := X.same s0
    have ln : (ts.kinds.map fun e => (thK e.1, V.ref (ka e.1))).length < sizeLine := by rw [List.length_map]; exact Nat.lt_of_le_of_lt lk1 (by decide)
    -- from the inner dict on
    have go : ∀ (ka2 : Th → Addr) (M2 : Addr → Prop) (H2 : Hp) (ts2 : Ts), ThX K C H2 M2 x p ts2 dx kd nb ka2 na → Fr (tbS Pt) M H H2 → Nw M M2 H → lk ts2.kinds t = some (ts.ks t) → { ts2 with kinds := pt ts2.kinds t (pt (ts.ks t) day vals) } = ts.kept t day vals →
        tSeq (sDPut (tVar 4) (tVar 2) (tVar 3)) (tRet (tMeth C "number_anew" (spAnew K Pt C CP) [] E0 (tVar 0) (tCons (tVar 1) tNil))) { nx := fun _ H' => Q .non H', rt := Q } [some (.ref x), some (.ref r), some (.int day), some (.ref q), some (.ref (ka2 t))] H2 := by
      intro ka2 M2 H2 ts2 X2 f2 nw2 e2 ek
      obtain ⟨mi, ivs, hi, pi⟩ := X2.ki (t, ts.ks t) (lk_mem e2)
      have li : ivs.length < sizeLine := by rw [pi.length]; exact Nat.lt_of_le_of_lt lk2 (by decide)
      refine ⟨_, rfl, _, rfl, _, rfl, ka2 t, _, rfl, DPut.k (k := Sum.inl day) hi li, ?_⟩
      generalize e3 : upd H2 (ka2 t) _ = H3
      obtain ⟨f3, _, _⟩ := put_of (T := tbS Pt) (N := M2) hi trivial mi e3
      have X3 := X2.put_kind e2 hi pi (f2.seqT hq) e3
      rw [ek] at X3
      have dj2 := nw2.apart hP.1 dj
      have f03 := f2.transN nw2 f3
      refine ⟨_, rfl, x, dx, _, rfl, X3.hx, th_no (by decide +kernel) (by decide +kernel) (by decide +kernel) (by decide +kernel), _, rfl, x, p, r, M2, MP, _, ds, ms, t, d, rfl, X3.o, (hP.keep (f2.keep dj)).keep (f3.keep dj2), dj2, f03.tup hr2, ok, f03.tb hT, fun H4 M4 v q4 f4 nw4 O4 ev hq4 => ?_⟩
      exact k H4 M4 v q4 (f03.transN nw2 f4) (fun b hb => (nw4 b hb).elim (nw2 b) fun z => (Classical.em (M b)).imp id fun n => z.back f03 n) O4 ev hq4
    refine ⟨kd, r, _, thK t, .ref d0, rfl, rfl, X0.hk, s0 _ _ hr2, ln, fun v hv => ?_, fun hv => ?_⟩
    · rw [val_map (r := fun t => V.ref (ka t)) thK_inj] at hv
      obtain ⟨ks, e1, e2⟩ := Option.map_eq_some_iff.mp hv
      subst e2
      have ek : ts.ks t = ks := by unfold Ts.ks; rw [e1]; rfl
      exact set_sl (σ' := [some (.ref x), some (.ref r), some (.int day), some (.ref q), some (.ref (ka t))]) rfl (go ka M H0 ts X0 (Fr.of s0) Nw.refl (by rw [ek]; exact e1) rfl)
    · rw [val_map (r := fun t => V.ref (ka t)) thK_inj] at hv
      have e1 : lk ts.kinds t = none := Option.map_eq_none_iff.mp hv
      have ek : ts.ks t = [] := by unfold Ts.ks; rw [e1]; rfl
      generalize e2 : upd H0 kd _ = H2
      have nm : ¬ M d0 := X.live.notN n0
      have X2 := X0.new_kind e1 ed0 nm e2
      have q1 : (fun t' : Th => if t' = t then d0 else ka t') t = d0 := if_pos rfl
      have g := go _ _ H2 _ X2 ((Fr.of s0).trans (put_of X0.hk trivial X0.md e2).1) (fun b hb => hb.imp id fun z => by rw [z]; exact Fresh.of n0) (by rw [lk_pt, if_pos rfl, ek]) (by
        show ({ ts with kinds := pt (pt ts.kinds t []) t (pt (ts.ks t) day vals) } : Ts) = _
        rw [pt_pt_new e1]
        rfl)
      rw [if_pos (rfl : t = t)] at g
      exact set_sl (σ' := [some (.ref x), some (.ref r), some (.int day), some (.ref q), some (.ref d0)]) rfl g
end
end Kd

namespace Kd
open PySem PySem.Spec PyProof.Rows L2 LamX
def Ts.meet (ws : List Str) (ts : Ts) (t : Th) : Ts := if (lk ts.nums t).isSome then ts else ts.anew ws t
def Ts.meetN (ws : List Str) (ts : Ts) (t : Th) : Int := if (lk ts.nums t).isSome then 0 else ts.came ws t
def Ts.gone (ts : Ts) (t : Th) : Ts := { ts with nums := dp ts.nums t }
section
variable {P : Program} {w : World} {K : PySem.W.Frag} {mg : Str → Option Value} {base : Heap} {f : Addr} {fd : FuncData}
/-! ### Things.meet -/
def spMeet (K : PySem.W.Frag) (Pt C CP : Addr) : Sp := fun vs H Q _ => ∃ (x p r : Addr) (M MP : Addr → Prop) (ts : Ts) (ds : Dims) (ms : List Str) (t : Th) (d : Str × List (Str × Str)), vs = [.ref x, .ref r] ∧ ThO K C H M x p ts ∧ PlanO K CP H MP p ds ms ∧ (∀ b, MP b → ¬ M b) ∧ H r = some (.tup [.str t.1, .str t.2]) ∧
  NumOk ds ts t d ∧ Tabs (tbS Pt) H ∧ ∀ H' M', Fr (tbS Pt) M H H' → Nw M M' H → ThO K C H' M' x p (ts.meet (d.2.map (·.2)) t) → Q (.int (ts.meetN (d.2.map (·.2)) t)) H'
abbrev N_Things_meet : List Str := ["self", "thing", "came", "went"]
theorem sc_Things_meet : FnScope N_Things_meet ["self", "thing"] (defScope s_Things_meet) := ⟨rfl, rfl, rfl, by decide +kernel, rfl, by decide +kernel, by decide +kernel⟩
/-! slots: 0 self 1 thing 2 came 3 went; cells:  -/
theorem ok_meet {Pt C CP fA fK : Addr} {fdA fdK : FuncData} (F : FnP K "meet" "Things.meet" s_Things_meet f fd) (mA : MFun P w K mg base C "number_anew" 5 ["self", "thing"] (spAnew K Pt C CP) fA fdA) (mK : MFun P w K mg base C "knows" 1 ["self", "thing"] (spKnows C) fK fdK) : FnOk P w K mg base CX0 6 f fd ["self", "thing"] (spMeet K Pt C CP) := by
  refine F.ok sc_Things_meet (fun vs H Q E h => ?_) (fun cdv A outer s H vs Q E hr h => ?_)
  · obtain ⟨x, p, r, M, MP, ts, ds, ms, t, d, rfl, _⟩ := h
    rfl
  · obtain ⟨x, p, r, M, MP, ts, ds, ms, t, d, rfl, hO, hP, dj, hr2, ok, hT, k⟩ := h
    obtain ⟨dx, kd, nb, ka, na, X⟩ := hO.x
    have nd := sc_Things_meet.nd
    refine ⟨_, PSs.nox (pss_cons (ps_if (pt_val (pe_meth (pv 0) mK.cl mK.m mK.G (hr.mono (by decide)) mK.b .nil pass0 (pa_cons (pv 1) pa_nil)))
        (pss_one (ps_ret pe_int))
        pss_nil)
      (pss_cons (ps_asg (pe_meth (pv 0) mA.cl mA.m mA.G (hr.mono (by decide)) mA.b .nil pass0 (pa_cons (pv 1) pa_nil)) (pg_tup rfl (pgs_cons (pg_name (i := 2) nd rfl (Or.inl rfl)) (pgs_cons (pg_name (i := 3) nd rfl (Or.inl rfl)) pgs_nil))))
      (pss_one (ps_ret (pv 2))))), ?_⟩
    refine ⟨_, rfl, x, dx, _, rfl, X.hx, th_no (by decide +kernel) (by decide +kernel) (by decide +kernel) (by decide +kernel), _, rfl, x, dx, p, kd, nb, r, ts.given, t, _, rfl, X.hx, hr2, X.hn, ?_⟩
    rw [val_map (r := fun t => V.ref (na t)) thK_inj]
    refine ⟨_, rfl, ?_⟩
    unfold Ts.meet Ts.meetN at k
    cases e : lk ts.nums t with
    | some vers =>
      rw [e] at k
      exact iteT (k H M Fr.refl Nw.refl hO)
    | none =>
      rw [e] at k
      refine iteF ?_
      refine ⟨_, rfl, x, dx, _, rfl, X.hx, th_no (by decide +kernel) (by decide +kernel) (by decide +kernel) (by decide +kernel), _, rfl, x, p, r, M, MP, ts, ds, ms, t, d, rfl, hO, hP, dj, hr2, ok, hT, fun H' M' v q f' nw O' ev hq => ?_⟩
      subst ev
      exact ⟨q, _, rfl, SqT.of hq, rfl, _, _, rfl, _, _, rfl, rfl, _, rfl, k H' M' f' nw O'⟩
/-! ### Things.part -/
theorem ThX.drop {C th p dx kd nb : Addr} {H H' : Hp} {M : Addr → Prop} {ts : Ts} {ka na : Th → Addr} {t : Th} (h : ThX K C H M th p ts dx kd nb ka na) (eH : upd H nb (.dT (dropK (ts.nums.map fun e => (thK e.1, V.ref (na e.1))) (thK t))) = H') : ThX K C H' M th p (ts.gone t) dx kd nb ka na := by
  have o : ∀ b, b ≠ nb → H' b = H b := fun b hb => by rw [← eH]; exact upd_ne hb
  have kk : Keep (fun b => b ≠ nb) H H' := fun b u eb tb c => by
    by_cases z : b = nb
    · rw [z, h.hn] at eb
      cases eb
      exact c.elim (fun q => absurd q (Chg.notT trivial)) fun q => absurd z q
    · rw [o b z]; exact eb
  refine ⟨?_, kk.at h.hx trivial (ne_of h.hx h.hn (fun z => nomatch z)), kk.at h.hk trivial h.ne, ?_, h.ne, h.mx, h.md, h.mn, fun x hx => ?_, h.inj, fun x hx => ?_⟩
  · intro b hb
    by_cases z : b = nb
    · rw [z, ← eH]; exact ⟨_, upd_same, trivial⟩
    · obtain ⟨u, e1, e2⟩ := h.live b hb
      exact ⟨u, kk.at e1 e2 z, e2⟩
  · rw [← eH, upd_same]
    congr 2
    exact (map_dp (r := fun t => V.ref (na t)) thK_inj).symm
  · obtain ⟨a1, kvs, a2, a3⟩ := h.ki x hx
    exact ⟨a1, InnerAt.keep (M := fun b => b ≠ nb) (ne_of a2 h.hn (fun z => nomatch z)) kk ⟨kvs, a2, a3⟩⟩
  · obtain ⟨a1, xs, a2, a3⟩ := h.vi x (mem_dp.mp hx).1
    exact ⟨a1, VersAt.keep (M := fun b => b ≠ nb) (ne_of a2 h.hn (fun z => nomatch z)) kk ⟨xs, a2, a3⟩⟩
def spPart (K : PySem.W.Frag) (T : TB) (C : Addr) : Sp := fun vs H Q _ => ∃ (x p r : Addr) (M : Addr → Prop) (ts : Ts) (t : Th) (vers : List Ver), vs = [.ref x, .ref r] ∧ ThO K C H M x p ts ∧ H r = some (.tup [.str t.1, .str t.2]) ∧ lk ts.nums t = some vers ∧
  ∀ H', Fr T M H H' → ThO K C H' M x p (ts.gone t) → Q (.int vers.length) H'
abbrev N_Things_part : List Str := ["self", "thing"]
theorem sc_Things_part : FnScope N_Things_part ["self", "thing"] (defScope s_Things_part) := ⟨rfl, rfl, rfl, by decide +kernel, rfl, by decide +kernel, by decide +kernel⟩
/-! slots: 0 self 1 thing; cells:  -/
theorem ok_part {T : TB} {C : Addr} (F : FnP K "part" "Things.part" s_Things_part f fd) (TX : ThTxt K C) (z_len : mg "len" = none) : FnOk P w K mg base CX0 1 f fd ["self", "thing"] (spPart K T C) := by
  refine F.ok sc_Things_part (fun vs H Q E h => ?_) (fun cdv A outer s H vs Q E hr h => ?_)
  · obtain ⟨x, p, r, M, ts, t, vers, rfl, _⟩ := h
    rfl
  · obtain ⟨x, p, r, M, ts, t, vers, rfl, hO, hr2, hlk, k⟩ := h
    obtain ⟨dx, kd, nb, ka, na, X⟩ := hO.x
    have hu := hr.units
    have hu1 : (A.deeper (envOfC "Things.part" (defScope s_Things_part) s.heap.objs.size f cdv)).units + 1 < cLine := by omega
    refine ⟨_, PSs.nox (pss_one (ps_ret (pe_callB call_len_seq (by rfl) z_len boot_len (pa_cons (pe_bm PySem.F.plainAttrs_dict PySem.F.slot_dict_pop PySem.F.type_dict_pop (KdDt.mt_pop1T hu1) (pe_fld (pv 0) rfl) (pa_cons (pv 1) pa_nil)) pa_nil)))), ?_⟩
    have hv : valV (ts.nums.map fun e => (thK e.1, V.ref (na e.1))) (thK t) = some (.ref (na t)) := by
      rw [val_map (r := fun t => V.ref (na t)) thK_inj, hlk]
      rfl
    obtain ⟨_, xs, a2, a3⟩ := X.vi (t, vers) (lk_mem hlk)
    refine ⟨_, rfl, x, C, dx, _, _, rfl, X.hx, TX.cl, TX.nN, th_num p kd nb _, .inr (.inr (.inl ⟨rfl, .inr ⟨_, X.hn⟩⟩)), _, rfl, nb, r, _, thK t, _, rfl, rfl, X.hn, hr2, hv, ?_⟩
    generalize e7 : upd H nb _ = H7
    obtain ⟨f7, en7, o7⟩ := put_of (T := T) (N := M) X.hn trivial X.mn e7
    have hl7 : H7 (na t) = some (.lst xs) := by rw [o7 _ (ne_of a2 X.hn (fun z => nomatch z))]; exact a2
    have lx : xs.length = vers.length := a3.length
    refine ⟨na t, xs, rfl, .inl (SqL.of hl7), ?_⟩
    rw [lx]
    exact k H7 f7 (X.drop e7).o
end
end Kd

namespace Kd
open PySem PySem.Spec PyProof.Rows L2
/-- by strictly rising days -/
def Rise (ks : List Kind) : Prop := ks.Pairwise fun a b => a.1 < b.1
theorem srt_le (ks : List Kind) : (srt ks).Pairwise fun a b => a.1 ≤ b.1 :=
  (List.pairwise_mergeSort (le := fun a b : Kind => decide (a.1 ≤ b.1)) (fun a b c h1 h2 => decide_eq_true (Int.le_trans (of_decide_eq_true h1) (of_decide_eq_true h2))) (fun a b => by
    simp only [Bool.or_eq_true, decide_eq_true_iff]
    omega) ks).imp fun {a b} h => of_decide_eq_true h
theorem srt_perm (ks : List Kind) : (srt ks).Perm ks := List.mergeSort_perm ks _
/-- the order of kinds is nothing -/
theorem srt_of_perm {ks ms : List Kind} (h : Rise ms) (p : ks.Perm ms) : srt ks = ms := by
  refine List.Perm.eq_of_pairwise (le := fun a b : Kind => a.1 ≤ b.1) (fun a b ha hb h1 h2 => ?_) (srt_le ks) (h.imp fun {a b} q => Int.le_of_lt q) ((srt_perm ks).trans p)
  have ha2 : a ∈ ms := ((srt_perm ks).trans p).mem_iff.mp ha
  have e : a.1 = b.1 := Int.le_antisymm h1 h2
  obtain ⟨i, hi, ei⟩ := List.mem_iff_getElem.mp ha2
  obtain ⟨j, hj, ej⟩ := List.mem_iff_getElem.mp hb
  rcases Nat.lt_trichotomy i j with q | q | q
  · have z := List.pairwise_iff_getElem.mp h i j hi hj q
    rw [ei, ej] at z
    omega
  · subst q
    exact ei.symm.trans ej
  · have z := List.pairwise_iff_getElem.mp h j i hj hi q
    rw [ei, ej] at z
    omega
/-- b is a without some kinds that have the values of the one ahead -/
inductive Thin : List Kind → List Kind → Prop where
  | nil : Thin [] []
  | keep {a b : List Kind} (k : Kind) : Thin a b → Thin (a ++ [k]) (b ++ [k])
  | drop {a b : List Kind} (k : Kind) : Thin a b → (∃ p, a.getLast? = some p ∧ p.2 = k.2) → Thin (a ++ [k]) b
theorem Thin.last {a b : List Kind} (h : Thin a b) : a.getLast?.map (·.2) = b.getLast?.map (·.2) := by
  induction h with
  | nil => rfl
  | keep k h ih => simp
  | drop k h q ih =>
    obtain ⟨p, q1, q2⟩ := q
    rw [q1] at ih
    rw [← ih]
    simp [q2]
theorem Thin.sub {a b : List Kind} (h : Thin a b) : b.Sublist a := by
  induction h with
  | nil => exact List.Sublist.refl _
  | keep k h ih => exact List.Sublist.append ih (List.Sublist.refl _)
  | drop k h q ih => exact ih.trans (List.sublist_append_left _ _)
theorem zip_snoc (k : Kind) : ∀ (l : List Kind) (p : Kind), l.getLast? = some p → (l ++ [k]).zip ((l ++ [k]).drop 1) = l.zip (l.drop 1) ++ [(p, k)]
  | [], p, h => by cases h
  | [x], p, h => by
    cases h
    rfl
  | x :: y :: r, p, h => by
    have ih := zip_snoc k (y :: r) p (by rw [← h]; rfl)
    show (x, y) :: ((y :: r) ++ [k]).zip (((y :: r) ++ [k]).drop 1) = (x, y) :: ((y :: r).zip ((y :: r).drop 1) ++ [(p, k)])
    rw [ih]
theorem opn_snoc {ws : List Str} (k : Kind) {l : List Kind} {p : Kind} (h : l.getLast? = some p) : opn ws (l ++ [k]) = opn ws l ++ if chg ws p.2 k.2 = true then [k] else [] := by
  unfold opn
  rw [zip_snoc k l p h, List.filter_append, List.map_append]
  have e : (l ++ [k]).take 1 = l.take 1 := by
    cases l with
    | nil => cases h
    | cons x r => rfl
  rw [e, List.append_assoc]
  congr 2
  unfold nxt
  by_cases c : chg ws p.2 k.2 = true
  · rw [if_pos c]
    simp [c]
  · rw [if_neg c]
    simp [c]
theorem opn_one {ws : List Str} (k : Kind) : opn ws [k] = [k] := rfl
theorem chg_self (ws : List Str) (o : List Fv) : chg ws o o = false := by
  unfold chg
  rw [List.any_eq_false]
  intro j _
  unfold dif
  simp
theorem Thin.opn {ws : List Str} {a b : List Kind} (h : Thin a b) : opn ws a = opn ws b := by
  induction h with
  | nil => rfl
  | @keep a b k h ih =>
    have hl := h.last
    cases ea : a.getLast? with
    | none =>
      rw [ea] at hl
      cases eb : b.getLast? with
      | none =>
        rw [List.getLast?_eq_none_iff] at ea eb
        rw [ea, eb]
      | some q => rw [eb] at hl; cases hl
    | some p =>
      rw [ea] at hl
      cases eb : b.getLast? with
      | none => rw [eb] at hl; cases hl
      | some q =>
        rw [eb] at hl
        have e : p.2 = q.2 := Option.some.inj hl
        rw [opn_snoc k ea, opn_snoc k eb, ih, e]
  | drop k h q ih =>
    obtain ⟨p, q1, q2⟩ := q
    rw [opn_snoc k q1, q2, chg_self, ih]
    simp
theorem col_snoc (i : Nat) (a : List Kind) (k : Kind) : col i (a ++ [k]) = col i a ++ [k.2.getD i (.i 0)] := by
  unfold col
  rw [List.map_append]
  rfl
theorem Thin.head {a b : List Kind} (h : Thin a b) (i : Nat) : (col i a).head? = (col i b).head? := by
  induction h with
  | nil => rfl
  | keep k h ih =>
    rw [col_snoc, col_snoc, List.head?_append, List.head?_append, ih]
  | drop k h q ih =>
    obtain ⟨p, q1, q2⟩ := q
    rw [col_snoc, List.head?_append, ih]
    have ne : (col i _).head? ≠ none := fun z => by
      rw [← ih, List.head?_eq_none_iff] at z
      unfold col at z
      rw [List.map_eq_nil_iff] at z
      rw [z] at q1
      cases q1
    cases hb : (col i _).head? with
    | none => exact absurd hb ne
    | some v => rfl
theorem Thin.colLast {a b : List Kind} (h : Thin a b) (i : Nat) : (col i a).getLast? = (col i b).getLast? := by
  have e := h.last
  unfold col
  rw [List.getLast?_map, List.getLast?_map]
  have e2 := congrArg (Option.map fun v : List Fv => v.getD i (.i 0)) e
  rw [Option.map_map, Option.map_map] at e2
  exact e2
theorem Thin.flt {a b : List Kind} (h : Thin a b) (i : Nat) (l : Fv) : ((col i a).filter fun c => !decide (c = l)).getLast? = ((col i b).filter fun c => !decide (c = l)).getLast? := by
  induction h with
  | nil => rfl
  | keep k h ih => rw [col_snoc, col_snoc, List.filter_append, List.filter_append, List.getLast?_append, List.getLast?_append, ih]
  | @drop a b k h q ih =>
    obtain ⟨p, q1, q2⟩ := q
    rw [col_snoc, List.filter_append, List.getLast?_append, ← ih]
    obtain ⟨a0, rfl⟩ : ∃ a0, a = a0 ++ [p] := by
      rcases List.eq_nil_or_concat a with e | ⟨a0, x, e⟩
      · rw [e] at q1
        cases q1
      · rw [List.concat_eq_append] at e
        rw [e, List.getLast?_append] at q1
        cases q1
        exact ⟨a0, e⟩
    rw [col_snoc, List.filter_append, List.getLast?_append, q2]
    cases ([k.2.getD i (.i 0)].filter fun c => !decide (c = l)).getLast? <;> rfl
theorem Thin.unl {a b : List Kind} (h : Thin a b) (i : Nat) : unl (col i a) = unl (col i b) := by
  have e := h.colLast i
  unfold Kd.unl
  rw [← e]
  cases (col i a).getLast? with
  | none => rfl
  | some l =>
    show (some l, _) = (some l, _)
    rw [h.flt i l]
theorem Thin.wv {a b : List Kind} (h : Thin a b) (way : Str) (i : Nat) (op : Option (List Fv)) : wvD way i a op = wvD way i b op := by
  unfold wvD
  rw [h.unl i, h.head i, h.colLast i]
theorem Thin.ver {a b : List Kind} (h : Thin a b) (ws : List Str) (ops : List Kind) (j : Nat) : verD ws a ops j = verD ws b ops j := by
  unfold verD vvD
  have e : (fun j_1 => wvD (ws.getD j_1 Str.empty) j_1 a (opv ops j)) = fun j_1 => wvD (ws.getD j_1 Str.empty) j_1 b (opv ops j) := by
    funext i
    rw [h.wv]
  rw [e]
theorem Thin.refl : ∀ (a : List Kind), Thin a a := fun a => by
  have h : ∀ n, n ≤ a.length → Thin (a.take n) (a.take n) := fun n => by
    induction n with
    | zero => intro _; exact .nil
    | succ n ih =>
      intro hn
      rw [List.take_succ_eq_append_getElem hn]
      exact .keep _ (ih (by omega))
  have h2 := h a.length (Nat.le_refl _)
  rw [List.take_length] at h2
  exact h2
end Kd

namespace Kd
open PySem PySem.Spec PyProof.Rows L2
/-! ### begins are unlike -/
theorem snoc_indl {α : Type} {p : List α → Prop} (h0 : p []) (h1 : ∀ l a, p l → p (l ++ [a])) (l : List α) : p l := by
  have h : ∀ m : List α, p m.reverse := fun m => by
    induction m with
    | nil => exact h0
    | cons a m ih =>
      rw [List.reverse_cons]
      exact h1 _ _ ih
  have := h l.reverse
  rwa [List.reverse_reverse] at this
/-- the last opener has the values of the way day of the last kind; neighbours are unlike in one such value -/
theorem opn_subl (ws : List Str) (S : List Kind) : (opn ws S).Sublist S := by
  refine snoc_indl (p := fun S => (opn ws S).Sublist S) (.refl _) (fun l k ih => ?_) S
  cases e : l.getLast? with
  | none =>
    have e0 : l = [] := List.getLast?_eq_none_iff.mp e
    subst e0
    exact .refl _
  | some p =>
    rw [opn_snoc k e]
    split
    · exact List.Sublist.append ih (.refl _)
    · rw [List.append_nil]
      exact ih.trans (List.sublist_append_left ..)
/-- the openers up to a kind's day are those of the kinds up to it -/
theorem sv_begins (ws : List Str) (ks : List Kind) : (sv ws ks).map (·.1) = none :: (opn ws (srt ks)).map fun k => some k.1 := by
  unfold sv
  rw [List.map_map, List.range_succ_eq_map, List.map_cons]
  congr 1
  rw [List.map_map]
  apply List.ext_getElem
  · rw [List.length_map, List.length_map, List.length_range]
  · intro i h1 h2
    rw [List.length_map, List.length_range] at h1
    simp [svOf, bO, List.getElem?_eq_getElem h1]
theorem sv_nodup {ws : List Str} {ks : List Kind} (h : (ks.map (·.1)).Nodup) : ((sv ws ks).map (·.1)).Nodup := by
  rw [sv_begins, List.nodup_cons]
  refine ⟨fun z => ?_, ?_⟩
  · obtain ⟨k, _, e⟩ := List.mem_map.mp z
    cases e
  · have h1 : ((srt ks).map (·.1)).Nodup := ((List.mergeSort_perm ks _).map (·.1)).nodup_iff.mpr h
    have h2 : ((opn ws (srt ks)).map (·.1)).Nodup := h1.sublist (List.Sublist.map _ (opn_subl ws (srt ks)))
    have e : (opn ws (srt ks)).map (fun k => some k.1) = ((opn ws (srt ks)).map (·.1)).map some := by rw [List.map_map]; rfl
    rw [e]
    exact List.Pairwise.map some (fun a b ne z => ne (Option.some.inj z)) h2
/-! ### what holds of the things of a house -/
def inD (ds : Dims) (t : Th) (d : Str × List (Str × Str)) : Prop := ds.find? (fun d => decide (d.1 = t.1)) = some d
structure TsOk (ds : Dims) (ts : Ts) (n m : Nat) : Prop where
  d5 : ∀ d ∈ ds, d.2.length ≤ 5
  kn : (ts.kinds.map (·.1)).Nodup
  nn : (ts.nums.map (·.1)).Nodup
  kk : ∀ e ∈ ts.kinds, ∃ d, inD ds e.1 d ∧ ∀ k ∈ e.2, k.2.length = d.2.length
  kd : ∀ e ∈ ts.kinds, (e.2.map (·.1)).Nodup
  vv : ∀ e ∈ ts.nums, e.2.map Ver.s = sv (wsOf ds e.1.1) (ts.ks e.1)
  vd : ∀ e ∈ ts.nums, ∃ d, inD ds e.1 d
  kl : ts.kinds.length ≤ n
  ki : ∀ e ∈ ts.kinds, e.2.length ≤ n
  nl : ts.nums.length ≤ m
theorem TsOk.ks_nodup {ds : Dims} {ts : Ts} {n m : Nat} (h : TsOk ds ts n m) (t : Th) : ((ts.ks t).map (·.1)).Nodup := by
  unfold Ts.ks
  cases e : lk ts.kinds t with
  | none => exact List.nodup_nil
  | some ks => exact h.kd _ (lk_mem e)
theorem TsOk.ks_le {ds : Dims} {ts : Ts} {n m : Nat} (h : TsOk ds ts n m) (t : Th) : (ts.ks t).length ≤ n := by
  unfold Ts.ks
  cases e : lk ts.kinds t with
  | none => exact Nat.zero_le _
  | some ks => exact h.ki _ (lk_mem e)
theorem TsOk.ks_len {ds : Dims} {ts : Ts} {n m : Nat} (h : TsOk ds ts n m) {t : Th} {d : Str × List (Str × Str)} (hd : inD ds t d) : ∀ k ∈ ts.ks t, k.2.length = d.2.length := by
  unfold Ts.ks
  cases e : lk ts.kinds t with
  | none => intro k hk; cases hk
  | some ks =>
    obtain ⟨d', h1, h2⟩ := h.kk _ (lk_mem e)
    have e1 : d' = d := Option.some.inj (h1.symm.trans hd)
    rw [e1] at h2
    exact h2
theorem TsOk.vs_of {ds : Dims} {ts : Ts} {n m : Nat} (h : TsOk ds ts n m) {t : Th} {vs : List Ver} (e : lk ts.nums t = some vs) : vs.map Ver.s = sv (wsOf ds t.1) (ts.ks t) := h.vv _ (lk_mem e)
theorem TsOk.vs_nodup {ds : Dims} {ts : Ts} {n m : Nat} (h : TsOk ds ts n m) (t : Th) : ((ts.vs t).map (·.b)).Nodup := by
  unfold Ts.vs
  cases e : lk ts.nums t with
  | none => exact List.nodup_nil
  | some vs =>
    have h1 := congrArg (List.map (·.1)) (h.vs_of e)
    rw [List.map_map] at h1
    have h2 : vs.map (fun r => r.b) = (sv (wsOf ds t.1) (ts.ks t)).map (·.1) := h1
    show (vs.map fun r => r.b).Nodup
    rw [h2]
    exact sv_nodup (h.ks_nodup t)
theorem TsOk.vs_le {ds : Dims} {ts : Ts} {n m : Nat} (h : TsOk ds ts n m) (t : Th) : (ts.vs t).length ≤ n + 1 := by
  unfold Ts.vs
  cases e : lk ts.nums t with
  | none => exact Nat.zero_le _
  | some vs =>
    have h1 := congrArg List.length (h.vs_of e)
    rw [List.length_map] at h1
    have h2 := sv_le (wsOf ds t.1) (ts.ks t)
    have h3 := h.ks_le t
    show vs.length ≤ n + 1
    omega
theorem TsOk.num {ds : Dims} {ts : Ts} {n m : Nat} (h : TsOk ds ts n m) (hn : n ≤ 200) (hm : m ≤ 4000) {t : Th} {d : Str × List (Str × Str)} (hd : inD ds t d) : NumOk ds ts t d where
  fd := hd
  kl := h.ks_len hd
  d5 := h.d5 d (List.mem_of_find?_eq_some hd)
  kn := Nat.le_trans (h.ks_le t) hn
  vn := by have := h.vs_le t; omega
  nd := h.vs_nodup t
  nn := Nat.le_trans h.nl hm
/-- numbered anew -/
theorem TsOk.anew {ds : Dims} {ts : Ts} {n m : Nat} (h : TsOk ds ts n m) {t : Th} {d : Str × List (Str × Str)} (hd : inD ds t d) : TsOk ds (ts.anew (d.2.map (·.2)) t) n (m + 1) := by
  have ew : wsOf ds t.1 = d.2.map (·.2) := wsOf_some hd
  refine ⟨h.d5, h.kn, pt_nodup h.nn, h.kk, h.kd, fun e he => ?_, fun e he => ?_, h.kl, h.ki, ?_⟩
  · rcases mem_pt he with rfl | ⟨he, ne⟩
    · show (numS _ _ _).1.map Ver.s = sv (wsOf ds t.1) (ts.ks t)
      rw [numS_map, ew]
    · exact h.vv e he
  · rcases mem_pt he with rfl | ⟨he, ne⟩
    · exact ⟨d, hd⟩
    · exact h.vd e he
  · have h1 := pt_length ts.nums t (numS (oldOf (ts.vs t)) ts.given (sv (d.2.map (·.2)) (ts.ks t))).1
    have h2 := h.nl
    show (pt ts.nums t _).length ≤ m + 1
    omega
theorem TsOk.mono {ds : Dims} {ts : Ts} {n m n' m' : Nat} (h : TsOk ds ts n m) (hn : n ≤ n') (hm : m ≤ m') : TsOk ds ts n' m' :=
  ⟨h.d5, h.kn, h.nn, h.kk, h.kd, h.vv, h.vd, Nat.le_trans h.kl hn, fun e he => Nat.le_trans (h.ki e he) hn, Nat.le_trans h.nl hm⟩
theorem ks_kept (ts : Ts) (t t' : Th) (day : Int) (vals : List Fv) : (ts.kept t day vals).ks t' = if t' = t then pt (ts.ks t) day vals else ts.ks t' := by
  unfold Ts.kept Ts.ks
  show (lk (pt ts.kinds t _) t').getD [] = _
  rw [lk_pt]
  by_cases e : t' = t
  · rw [if_pos e, if_pos e]; rfl
  · rw [if_neg e, if_neg e]
/-- a kind kept: what a numbering asks, and what holds behind it -/
theorem TsOk.kept_num {ds : Dims} {ts : Ts} {n m : Nat} (h : TsOk ds ts n m) (hn : n < 200) (hm : m ≤ 4000) {t : Th} {d : Str × List (Str × Str)} (hd : inD ds t d) {day : Int} {vals : List Fv} (hv : vals.length = d.2.length) : NumOk ds (ts.kept t day vals) t d where
  fd := hd
  kl := fun k hk => by
    rw [ks_kept, if_pos rfl] at hk
    rcases mem_pt hk with rfl | ⟨hk, _⟩
    · exact hv
    · exact h.ks_len hd k hk
  d5 := h.d5 d (List.mem_of_find?_eq_some hd)
  kn := by
    rw [ks_kept, if_pos rfl]
    have h1 := pt_length (ts.ks t) day vals
    have h2 := h.ks_le t
    omega
  vn := by have := h.vs_le t; show (ts.vs t).length ≤ 300; omega
  nd := h.vs_nodup t
  nn := Nat.le_trans h.nl hm
theorem TsOk.taken {ds : Dims} {ts : Ts} {n m : Nat} (h : TsOk ds ts n m) {t : Th} {d : Str × List (Str × Str)} (hd : inD ds t d) {day : Int} {vals : List Fv} (hv : vals.length = d.2.length) : TsOk ds ((ts.kept t day vals).anew (d.2.map (·.2)) t) (n + 1) (m + 1) := by
  have ew : wsOf ds t.1 = d.2.map (·.2) := wsOf_some hd
  refine ⟨h.d5, pt_nodup h.kn, pt_nodup h.nn, fun e he => ?_, fun e he => ?_, fun e he => ?_, fun e he => ?_, ?_, fun e he => ?_, ?_⟩
  · rcases mem_pt he with rfl | ⟨he, ne⟩
    · refine ⟨d, hd, fun k hk => ?_⟩
      rcases mem_pt hk with rfl | ⟨hk, _⟩
      · exact hv
      · exact h.ks_len hd k hk
    · exact h.kk e he
  · rcases mem_pt he with rfl | ⟨he, ne⟩
    · exact pt_nodup (h.ks_nodup t)
    · exact h.kd e he
  · rcases mem_pt he with rfl | ⟨he, ne⟩
    · show (numS _ _ _).1.map Ver.s = sv (wsOf ds t.1) ((ts.kept t day vals).ks t)
      rw [numS_map, ew]
    · show e.2.map Ver.s = sv (wsOf ds e.1.1) ((ts.kept t day vals).ks e.1)
      rw [ks_kept, if_neg ne]
      exact h.vv e he
  · rcases mem_pt he with rfl | ⟨he, ne⟩
    · exact ⟨d, hd⟩
    · exact h.vd e he
  · have h1 := pt_length ts.kinds t (pt (ts.ks t) day vals)
    have h2 := h.kl
    show (pt ts.kinds t _).length ≤ n + 1
    omega
  · rcases mem_pt he with rfl | ⟨he, ne⟩
    · have h1 := pt_length (ts.ks t) day vals
      have h2 := h.ks_le t
      show (pt (ts.ks t) day vals).length ≤ n + 1
      omega
    · have := h.ki e he
      omega
  · exact Nat.le_trans (pt_length _ _ _) (Nat.succ_le_succ h.nl)
theorem TsOk.meet {ds : Dims} {ts : Ts} {n m : Nat} (h : TsOk ds ts n m) {t : Th} {d : Str × List (Str × Str)} (hd : inD ds t d) : TsOk ds (ts.meet (d.2.map (·.2)) t) n (m + 1) := by
  unfold Ts.meet
  split
  · exact h.mono (Nat.le_refl _) (Nat.le_succ _)
  · exact h.anew hd
theorem TsOk.gone {ds : Dims} {ts : Ts} {n m : Nat} (h : TsOk ds ts n m) (t : Th) : TsOk ds (ts.gone t) n m := by
  refine ⟨h.d5, h.kn, dp_nodup h.nn, h.kk, h.kd, fun e he => h.vv e (mem_dp.mp he).1, fun e he => h.vd e (mem_dp.mp he).1, h.kl, h.ki, ?_⟩
  have := dp_length ts.nums t
  have := h.nl
  show (dp ts.nums t).length ≤ m
  omega
/-- each known thing has a version of each day -/
theorem TsOk.on {ds : Dims} {ts : Ts} {n m : Nat} (h : TsOk ds ts n m) {t : Th} {vs : List Ver} (e : lk ts.nums t = some vs) (day : Int) : ∃ v, verOn vs day = some v := by
  obtain ⟨s, r, e1, e2⟩ := sv_head (wsOf ds t.1) (ts.ks t)
  have h1 := h.vs_of e
  rw [e1] at h1
  cases vs with
  | nil => cases h1
  | cons v vr =>
    rw [List.map_cons] at h1
    have hb : v.b = none := by
      have := (List.cons.inj h1).1
      rw [← this] at e2
      exact e2
    unfold verOn
    rw [List.filter_cons_of_pos (by unfold begB; rw [hb])]
    exact ⟨_, List.getLast?_eq_some_getLast (List.cons_ne_nil _ _)⟩
end Kd

namespace Kd
open PySem PySem.Spec PyProof.Rows L2 LamX
/-! ### a house -/
structure Fct where
  day : Int
  keys : List Str
  nums : List Int
  deriving DecidableEq
structure Wt where
  groups : List (Str × Str)
  measure : Option Str
  ahead : Int
structure Hs where
  ts : Ts
  facts : List (Str × Fct)
  rows : List Rw
  wts : List (Str × Wt)
/-- the classes, and the table of stretches -/
structure Cn where
  CT : Addr
  CP : Addr
  CH : Addr
  CW : Addr
  Pt : Addr
def hsF (p th kf tr wd : Addr) : List (Str × V) := [("plan", .ref p), ("things", .ref th), ("kept_facts", .ref kf), ("told_rows", .ref tr), ("watchers", .ref wd)]
structure HsTxt (K : PySem.W.Frag) (C : Addr) : Prop where
  cl : Cls K C
  nP : NoAttr K C "plan"
  nT : NoAttr K C "things"
  nF : NoAttr K C "kept_facts"
  nR : NoAttr K C "told_rows"
  nW : NoAttr K C "watchers"
theorem hs_plan (p th kf tr wd : Addr) : (hsF p th kf tr wd).lookup ("plan" : Str) = some (.ref p) := by simp [hsF, List.lookup]
theorem hs_things (p th kf tr wd : Addr) : (hsF p th kf tr wd).lookup ("things" : Str) = some (.ref th) := by
  simp [hsF, List.lookup, show (("things" : Str) == "plan") = false by decide +kernel]
theorem hs_facts (p th kf tr wd : Addr) : (hsF p th kf tr wd).lookup ("kept_facts" : Str) = some (.ref kf) := by
  simp [hsF, List.lookup, show (("kept_facts" : Str) == "plan") = false by decide +kernel, show (("kept_facts" : Str) == "things") = false by decide +kernel]
theorem hs_rows (p th kf tr wd : Addr) : (hsF p th kf tr wd).lookup ("told_rows" : Str) = some (.ref tr) := by
  simp [hsF, List.lookup, show (("told_rows" : Str) == "plan") = false by decide +kernel, show (("told_rows" : Str) == "things") = false by decide +kernel, show (("told_rows" : Str) == "kept_facts") = false by decide +kernel]
theorem hs_no {p th kf tr wd : Addr} {m : Str} (h : ((m == ("plan" : Str)) || (m == ("things" : Str)) || (m == ("kept_facts" : Str)) || (m == ("told_rows" : Str)) || (m == ("watchers" : Str))) = false) : (hsF p th kf tr wd).lookup m = none := by
  simp only [Bool.or_eq_false_iff] at h
  simp [hsF, List.lookup, h.1.1.1.1, h.1.1.1.2, h.1.1.2, h.1.2, h.2]
section
variable {P : Program} {w : World} {K : PySem.W.Frag} {mg : Str → Option Value} {base : Heap} {f : Addr} {fd : FuncData} {M : Addr → Prop} {H H' : Hp} {T : TB}
def FctAt (K : PySem.W.Frag) (H : Hp) (a : Addr) (f : Fct) : Prop := ∃ q1 q2, SqT K H a [.int f.day, .ref q1, .ref q2] ∧ SqT K H q1 (f.keys.map V.str) ∧ SqT K H q2 (f.nums.map V.int)
theorem FctAt.keep {a : Addr} {f : Fct} (k : Keep M H H') : FctAt K H a f → FctAt K H' a f := fun ⟨q1, q2, h1, h2, h3⟩ => ⟨q1, q2, k.seqT h1, k.seqT h2, k.seqT h3⟩
def osV : Option Str → V
  | none => .non
  | some z => .str z
def wtF (g : Addr) (m : Option Str) (n : Int) : List (Str × V) := [("groups", .ref g), ("measure", osV m), ("rows_ahead", .int n)]
def WtAt (K : PySem.W.Frag) (C : Addr) (H : Hp) (a : Addr) (w : Wt) : Prop := ∃ dx g ys, H a = some (.ins C dx (wtF g w.measure w.ahead)) ∧ SqT K H g ys ∧ Paired (AttAt K H) ys w.groups
theorem WtAt.keep {C a : Addr} {w : Wt} (m : M a) (k : Keep M H H') : WtAt K C H a w → WtAt K C H' a w := fun ⟨dx, g, ys, h1, h2, h3⟩ => ⟨dx, g, ys, k.at h1 trivial m, k.seqT h2, PySem.Paired.mono (fun _ _ ⟨r, e1, e2⟩ => ⟨r, e1, k.seqT e2⟩) h3⟩
def RwRef (K : PySem.W.Frag) (H : Hp) (v : V) (r : Rw) : Prop := ∃ p, v = .ref p ∧ r.at K H p
theorem RwRef.keep {v : V} {r : Rw} (k : Keep M H H') : RwRef K H v r → RwRef K H' v r := fun ⟨p, e, h⟩ => ⟨p, e, k.rw_at h⟩
def hoM (MT MS : Addr → Prop) (kf tr wd : Addr) : Addr → Prop := fun b => MT b ∨ MS b ∨ b = kf ∨ b = tr ∨ b = wd
structure HoX (K : PySem.W.Frag) (c : Cn) (H : Hp) (MT MS : Addr → Prop) (x : Addr) (ds : Dims) (ms : List Str) (S : Hs) (dx p th kf tr wd : Addr) (fa wa : Str → Addr) (rs : List V) : Prop where
  hx : H x = some (.ins c.CH dx (hsF p th kf tr wd))
  sx : MS x
  pl : PlanO K c.CP H MS p ds ms
  th : ThO K c.CT H MT th p S.ts
  hf : H kf = some (.dK (S.facts.map fun e => (Sum.inr e.1, .ref (fa e.1))))
  fi : ∀ e ∈ S.facts, FctAt K H (fa e.1) e.2
  hr : H tr = some (.lst rs)
  ri : Paired (RwRef K H) rs S.rows
  hw : H wd = some (.dK (S.wts.map fun e => (Sum.inr e.1, .ref (wa e.1))))
  wi : ∀ e ∈ S.wts, MS (wa e.1) ∧ WtAt K c.CW H (wa e.1) e.2
  d1 : ∀ b, MS b → ¬ MT b
  f1 : ¬ MT kf
  f2 : ¬ MS kf
  r1 : ¬ MT tr
  r2 : ¬ MS tr
  w1 : ¬ MT wd
  w2 : ¬ MS wd
  fw : kf ≠ wd
def HoO (K : PySem.W.Frag) (c : Cn) (H : Hp) (M : Addr → Prop) (x : Addr) (ds : Dims) (ms : List Str) (S : Hs) : Prop := ∃ MT MS dx p th kf tr wd fa wa rs, M = hoM MT MS kf tr wd ∧ HoX K c H MT MS x ds ms S dx p th kf tr wd fa wa rs
variable {c : Cn} {MT MS : Addr → Prop} {x dx p th kf tr wd : Addr} {ds : Dims} {ms : List Str} {S : Hs} {fa wa : Str → Addr} {rs : List V}
theorem HoX.live (h : HoX K c H MT MS x ds ms S dx p th kf tr wd fa wa rs) : Live (hoM MT MS kf tr wd) H := by
  rintro b (hb | hb | rfl | rfl | rfl)
  · exact h.th.live b hb
  · exact h.pl.1 b hb
  · exact ⟨_, h.hf, trivial⟩
  · exact ⟨_, h.hr, trivial⟩
  · exact ⟨_, h.hw, trivial⟩
theorem HoX.keep (h : HoX K c H MT MS x ds ms S dx p th kf tr wd fa wa rs) (k : Keep (hoM MT MS kf tr wd) H H') : HoX K c H' MT MS x ds ms S dx p th kf tr wd fa wa rs where
  hx := k.at h.hx trivial (.inr (.inl h.sx))
  sx := h.sx
  pl := h.pl.keep (k.mono fun _ z => .inr (.inl z))
  th := h.th.keep (k.mono fun _ z => .inl z)
  hf := k.at h.hf trivial (.inr (.inr (.inl rfl)))
  fi := fun e he => (h.fi e he).keep k
  hr := k.at h.hr trivial (.inr (.inr (.inr (.inl rfl))))
  ri := PySem.Paired.mono (fun _ _ => RwRef.keep k) h.ri
  hw := k.at h.hw trivial (.inr (.inr (.inr (.inr rfl))))
  wi := fun e he => ⟨(h.wi e he).1, (h.wi e he).2.keep (M := hoM MT MS kf tr wd) (.inr (.inl (h.wi e he).1)) k⟩
  d1 := h.d1
  f1 := h.f1
  f2 := h.f2
  r1 := h.r1
  r2 := h.r2
  w1 := h.w1
  w2 := h.w2
  fw := h.fw
theorem HoX.same (h : HoX K c H MT MS x ds ms S dx p th kf tr wd fa wa rs) (s : Same H H') : HoX K c H' MT MS x ds ms S dx p th kf tr wd fa wa rs := h.keep (Keep.of s)
theorem HoO.keep (h : HoO K c H M x ds ms S) (k : Keep M H H') : HoO K c H' M x ds ms S := by
  obtain ⟨MT, MS, dx, p, th, kf, tr, wd, fa, wa, rs, rfl, X⟩ := h
  exact ⟨MT, MS, dx, p, th, kf, tr, wd, fa, wa, rs, rfl, X.keep k⟩
theorem HoO.live (h : HoO K c H M x ds ms S) : Live M H := by
  obtain ⟨MT, MS, dx, p, th, kf, tr, wd, fa, wa, rs, rfl, X⟩ := h
  exact X.live
theorem HoO.same (h : HoO K c H M x ds ms S) (s : Same H H') : HoO K c H' M x ds ms S := h.keep (Keep.of s)
theorem HoX.o (h : HoX K c H MT MS x ds ms S dx p th kf tr wd fa wa rs) : HoO K c H (hoM MT MS kf tr wd) x ds ms S := ⟨MT, MS, dx, p, th, kf, tr, wd, fa, wa, rs, rfl, h⟩
theorem inr_inj : ∀ a b : Str, (Sum.inr a : L2.Key) = Sum.inr b → a = b := fun _ _ z => Sum.inr.inj z
/-- the heap without a list that is not of M -/
theorem keep_cd {D : Addr} {L : List V} (hD : H D = some (.lst L)) (n : ¬ M D) : Keep M H (cd D H) := fun b o e t c => cd_of e fun z => by
  rw [z, hD] at e
  cases e
  exact c.elim (Chg.notT (o := .lst L) trivial) (fun q => n (by rw [← z]; exact q))
theorem tabs_cdl {D : Addr} {L : List V} (hD : H D = some (.lst L)) (h : Tabs T H) : Tabs T (cd D H) := fun p hp => by
  obtain ⟨ps, h1, h2, h3⟩ := h p hp
  refine ⟨ps, cd_of h1 (ne_of h1 hD (fun z => nomatch z)), h2, fun pos cv hc => ?_⟩
  obtain ⟨c, e1, e2⟩ := h3 pos cv hc
  exact ⟨c, e1, cd_of e2 (ne_of e2 hD (fun z => nomatch z))⟩
theorem Fr.cd {D : Addr} {L : List V} (f : Fr T M H H') (hD : H' D = some (.lst L)) : Fr T M (Kd.cd D H) (Kd.cd D H') :=
  ⟨fun b o e t c => cd_of (f.st b o (cd_sub _ _ e) t c) (ct_ne e).1, fun t => tabs_cdl hD (f.tb (t.ext cd_sub))⟩
/-! ### the mirror of a house -/
def fdays (ds : Dims) (fs : List (Str × Fct)) (t : Th) : List Int := (fs.filter fun e => decide (t ∈ thOf ds e.2.keys)).map fun e => e.2.day
def Ts.numOn (ts : Ts) (t : Th) (day : Int) : Int := ((verOn (ts.vs t) day).map (·.n)).getD 0
def Ts.begOn (ts : Ts) (t : Th) (day : Int) : Option Int := ((verOn (ts.vs t) day).map (·.b)).getD none
end
end Kd

namespace Kd
open PySem PySem.Spec PyProof.Rows L2 LamX
theorem u65 {A : Around} {k : Nat} (hr : Room k A) : A.units + 65 < cLine := by
  have := hr.units
  have := hr.un
  omega
def thD (t : Th) : PyData := .tuple [.str t.1, .str t.2]
theorem thD_eqv (a b : Th) : PyData.eqv (thD a) (thD b) = decide (a = b) := by
  obtain ⟨a1, a2⟩ := a
  obtain ⟨b1, b2⟩ := b
  simp [thD, PyData.eqv, PyData.eqvAll, Prod.mk.injEq, Bool.decide_and]
  rfl
theorem th_lay {t : Th} (h1 : Tx t.1) (h2 : Tx t.2) : (thD t).canLay0 = true ∧ (thD t).depth = 1 := by
  simp [thD, PyData.canLay0, PyData.canLayAll0, PyData.depth, PyData.depthAll, h1.sok, h2.sok]
theorem th_shaped {t : Th} (h1 : Tx t.1) (h2 : Tx t.2) : SeqAt.shaped (thD t) = true := by
  obtain ⟨a, b⟩ := th_lay h1 h2
  simp [SeqAt.shaped, a, b]
theorem ths_lay : ∀ (l : List Th), (∀ t ∈ l, Tx t.1 ∧ Tx t.2) → PyData.canLayAll0 (l.map thD) = true ∧ PyData.depthAll (l.map thD) ≤ 1
  | [], _ => ⟨rfl, Nat.zero_le _⟩
  | t :: l, h => by
    obtain ⟨a, b⟩ := th_lay (h t (List.mem_cons_self ..)).1 (h t (List.mem_cons_self ..)).2
    obtain ⟨c, d⟩ := ths_lay l fun x hx => h x (List.mem_cons_of_mem _ hx)
    rw [List.map_cons]
    refine ⟨by simp [PyData.canLayAll0, a, c], ?_⟩
    show max (thD t).depth (PyData.depthAll (l.map thD)) ≤ 1
    rw [b]
    omega
theorem ths_shaped {l : List Th} (h : ∀ t ∈ l, Tx t.1 ∧ Tx t.2) : SeqAt.shaped (.list (l.map thD)) = true := by
  obtain ⟨a, b⟩ := ths_lay l h
  simp [SeqAt.shaped, PyData.canLay0, PyData.depth, a]
  omega
theorem any_th (t : Th) : ∀ l : List Th, ((l.map thD).any fun z => PyData.eqv z (thD t)) = decide (t ∈ l)
  | [] => rfl
  | x :: l => by
    rw [List.map_cons, List.any_cons, any_th t l, thD_eqv]
    by_cases e : x = t
    · rw [e]; simp
    · simp [e, Ne.symm e]
/-- what is asked of plan and facts -/
structure FOk (ds : Dims) (fs : List (Str × Fct)) : Prop where
  d4 : ds.length ≤ 4
  dx : ∀ d ∈ ds, Tx d.1
  fx : ∀ e ∈ fs, ∀ z ∈ e.2.keys, Tx z
  fl : fs.length ≤ 200
theorem thOf_mem {ds : Dims} {keys : List Str} {t : Th} (h : t ∈ thOf ds keys) : (∃ d ∈ ds, d.1 = t.1) ∧ t.2 ∈ keys := by
  unfold thOf at h
  obtain ⟨t1, t2⟩ := t
  have := List.of_mem_zip h
  obtain ⟨d, hd, e⟩ := List.mem_map.mp this.1
  exact ⟨⟨d, hd, e⟩, this.2⟩
theorem thOf_tx {ds : Dims} {keys : List Str} (h1 : ∀ d ∈ ds, Tx d.1) (h2 : ∀ z ∈ keys, Tx z) : ∀ t ∈ thOf ds keys, Tx t.1 ∧ Tx t.2 := fun t ht => by
  obtain ⟨⟨d, hd, e⟩, h3⟩ := thOf_mem ht
  exact ⟨by rw [← e]; exact h1 d hd, h2 _ h3⟩
section
variable {P : Program} {w : World} {K : PySem.W.Frag} {mg : Str → Option Value} {base : Heap} {f : Addr} {fd : FuncData}
theorem ThAt.dp {H : Hp} {v : V} {t : Th} : ThAt H v t → Dp K H v (thD t) := fun ⟨r, e, h⟩ => by
  rw [e]
  exact .tup (SqT.of h) (.cons (.str _) (.cons (.str _) .nil))
theorem ThAt.dpall {H : Hp} : ∀ {vs : List V} {l : List Th}, Paired (ThAt H) vs l → DpAll K H vs (l.map thD)
  | _, _, .nil => .nil
  | _, _, .cons h t => .cons h.dp (ThAt.dpall t)
/-! ### House.fact_days -/
def spFdays (K : PySem.W.Frag) (c : Cn) : Sp := fun vs H Q _ => ∃ (x r : Addr) (M : Addr → Prop) (ds : Dims) (ms : List Str) (S : Hs) (t : Th), vs = [.ref x, .ref r] ∧ HoO K c H M x ds ms S ∧ H r = some (.tup [.str t.1, .str t.2]) ∧ FOk ds S.facts ∧ Tx t.1 ∧ Tx t.2 ∧
  ∀ l H', Same H H' → H l = none → H' l = some (.lst ((fdays ds S.facts t).map V.int)) → Q (.ref l) H'
abbrev N_House_fact_days : List Str := ["self", "thing", "facts", "day", "keys", "numbers"]
theorem sc_House_fact_days : FnScope N_House_fact_days ["self", "thing"] (defScope s_House_fact_days) := ⟨rfl, rfl, rfl, by decide +kernel, rfl, by decide +kernel, by decide +kernel⟩
/-! slots: 0 self 1 thing 2 facts 3 day 4 keys 5 numbers; cells: self thing -/
theorem ok_fdays {c : Cn} {fN : Addr} {fdN : FuncData} (F : FnP K "fact_days" "House.fact_days" s_House_fact_days f fd) (TX : HsTxt K c.CH) (c_things_named : Fun P w K mg base "things_named" 2 ["plan", "keys"] (spNamed K c.CP) fN fdN) (z_list : mg "list" = none) : FnOk P w K mg base CX0 3 f fd ["self", "thing"] (spFdays K c) := by
  refine F.ok sc_House_fact_days (fun vs H Q E h => ?_) (fun cdv A outer s H vs Q E hr h => ?_)
  · obtain ⟨x, r, M, ds, ms, S, t, rfl, _⟩ := h
    rfl
  · obtain ⟨x, r, M, ds, ms, S, t, rfl, ⟨MT, MS, dx, p, th, kf, tr, wd, fa, wa, rs, rfl, X⟩, hr2, ok, t1, t2, k⟩ := h
    have nd := sc_House_fact_days.nd
    refine ⟨_, PSs.nox (pss_cons (ps_set (i := 2) nd rfl (Or.inl rfl) (KdDt.pe_listVals rfl (pe_fld (pv 0) rfl) rfl z_list (by decide +kernel)))
      (pss_one (ps_ret (pe_lc (own := [("day", 3), ("keys", 4), ("numbers", 5)]) (g := gTup K 3 (gCons (gName 3) (gCons (gName 4) (gCons (gName 5) gNil)))) (tt := tTest (tOp (rInD K) (tVar 1) (tCall (spNamed K c.CP) [] E0 (tCons (tFld K (tVar 0) "plan") (tCons (tVar 4) tNil))))) (te := tVar 3) rfl nd (pi_list (pv 2)) (blkOk_by (own := [("day", 3), ("keys", 4), ("numbers", 5)]) (N := N_House_fact_days) (sc := defScope s_House_fact_days) (by decide +kernel))
        (fun _ _ _ _ _ => pg_tup rfl (pgs_cons (pg_name (i := 3) nd rfl (Or.inl rfl)) (pgs_cons (pg_name (i := 4) nd rfl (Or.inl rfl)) (pgs_cons (pg_name (i := 5) nd rfl (Or.inl rfl)) pgs_nil)))) (fun _ _ _ _ _ => pts_one (pt_cmpR (op_inD (u65 hr)) (pv 1) (pe_call c_things_named.G (hr.mono (by decide)) rfl c_things_named.g c_things_named.k c_things_named.b .nil pass0 (pa_cons (pe_fld (pv 0) rfl) (pa_cons (pv 4) pa_nil))) (by rfl))) (fun _ _ _ _ _ => pv 3))))), ?_⟩
    refine ⟨_, rfl, x, c.CH, dx, _, _, rfl, X.hx, TX.cl, TX.nF, hs_facts p th kf tr wd, kf, _, rfl, X.hf, fun l0 n0 => ?_⟩
    generalize e0 : upd H l0 _ = H0
    obtain ⟨s0, el0⟩ := new_of n0 e0
    rw [List.map_map] at el0
    have X0 := X.same s0
    have lf := ok.fl
    refine set_sl (σ' := [some (.ref x), some (.ref r), some (.ref l0), none, none, none]) rfl ?_
    refine ⟨_, rfl, l0, rfl, ⟨_, SqL.of el0⟩, fun D nD => ?_⟩
    refine lc_build (walk_list (K := K) (a := l0)) nD (fun i ys R => Same H0 R ∧ ys = (fdays ds (S.facts.take i) t).map V.int) ⟨Same.refl _, rfl⟩ (fun _ _ _ _ z => SqL.of ((z.1.trans cd_sub) _ _ el0)) ?_ ?_
    · rintro i ys y R R' hi e ly ⟨sm, rfl⟩ ⟨rfl, hy⟩
      rw [List.length_map] at hi
      rw [List.getElem?_map] at hy
      obtain ⟨fe, hfe, rfl⟩ := Option.map_eq_some_iff.mp hy
      obtain ⟨q1, q2, h1, h2, h3⟩ := X0.fi fe (List.mem_of_getElem? hfe)
      have sR := sm.trans cd_sub
      have XR := X0.same sR
      refine ⟨fa fe.1, _, rfl, Same.seqT sR h1, rfl, _, _, rfl, _, _, rfl, _, _, rfl, rfl, rfl, _, rfl, _, rfl, x, c.CH, dx, _, _, rfl, XR.hx, TX.cl, TX.nP, hs_plan p th kf tr wd, _, rfl, p, q1, fe.2.keys, ds, ms, rfl, XR.pl.at, Same.seqT sR h2, ok.d4, fun ln xs H2 s2 nln eln pn => ?_⟩
      have tx := thOf_tx ok.dx (ok.fx fe (List.mem_of_getElem? hfe))
      refine ⟨thD t, _, ThAt.dp ⟨r, rfl, ((s0.trans sR).trans s2) _ _ hr2⟩, .lst (SqL.of eln) (ThAt.dpall pn), th_shaped t1 t2, ths_shaped tx, _, rfl, ?_⟩
      rw [any_th]
      have efl := flt_snoc (p := fun e : Str × Fct => decide (t ∈ thOf ds e.2.keys)) hfe
      have e2 := s2 _ _ e
      have lt : ((fdays ds (S.facts.take i) t).map V.int).length ≤ i := ly
      by_cases cin : t ∈ thOf ds fe.2.keys
      · rw [decide_eq_true cin]
        refine iteT ⟨_, rfl, LcNx.add e2 lt (by omega) ⟨sm.trans (cd_same s2), ?_⟩⟩
        unfold fdays
        rw [efl, if_pos (decide_eq_true cin), List.map_append, List.map_append]
        rfl
      · rw [decide_eq_false cin]
        refine iteF (LcNx.skip e2 lt ⟨sm.trans (cd_same s2), ?_⟩)
        unfold fdays
        rw [efl, if_neg (by rw [decide_eq_false cin]; decide), List.append_nil]
    · rintro ys H2 e ly ⟨sm, rfl⟩
      rw [List.length_map, List.take_length] at e
      exact k D H2 (s0.trans (sm.trans cd_sub)) (s0.free nD) e
end
end Kd

namespace Kd
open PySem PySem.Spec PyProof.Rows L2 LamX
/-- all things of these keys are known, with a version of the day -/
def Known (ts : Ts) (day : Int) (t : Th) : Prop := ∃ vers ver, lk ts.nums t = some vers ∧ vers.length ≤ 4000 ∧ verOn vers day = some ver
theorem numOn_of {ts : Ts} {t : Th} {day : Int} {vers : List Ver} {ver : Ver} (h1 : lk ts.nums t = some vers) (h2 : verOn vers day = some ver) : ts.numOn t day = ver.n := by
  unfold Ts.numOn Ts.vs
  rw [h1]
  show ((verOn vers day).map (·.n)).getD 0 = ver.n
  rw [h2]
  rfl
section
variable {P : Program} {w : World} {K : PySem.W.Frag} {mg : Str → Option Value} {base : Heap} {f : Addr} {fd : FuncData}
--@@LED
/-! ### House.led -/
def spLed (K : PySem.W.Frag) (c : Cn) : Sp := fun vs H Q _ => ∃ (x q : Addr) (M : Addr → Prop) (ds : Dims) (ms : List Str) (S : Hs) (day : Int) (keys : List Str), vs = [.ref x, .int day, .ref q] ∧ HoO K c H M x ds ms S ∧ SqT K H q (keys.map V.str) ∧ ds.length ≤ 4 ∧ (∀ t ∈ thOf ds keys, Known S.ts day t) ∧
  ∀ r H', Same H H' → H' r = some (.tup ((thOf ds keys).map fun t => V.int (S.ts.numOn t day))) → Q (.ref r) H'
abbrev N_House_led : List Str := ["self", "day", "keys", "thing"]
theorem sc_House_led : FnScope N_House_led ["self", "day", "keys"] (defScope s_House_led) := ⟨rfl, rfl, rfl, by decide +kernel, rfl, by decide +kernel, by decide +kernel⟩
/-! slots: 0 self 1 day 2 keys 3 thing; cells: day self -/
theorem ok_led {c : Cn} {fN fV : Addr} {fdN fdV : FuncData} (F : FnP K "led" "House.led" s_House_led f fd) (TX : HsTxt K c.CH) (c_things_named : Fun P w K mg base "things_named" 2 ["plan", "keys"] (spNamed K c.CP) fN fdN) (mV : MFun P w K mg base c.CT "version_on" 1 ["self", "thing", "day"] (spVerOn K c.CT) fV fdV) (z_tuple : mg "tuple" = none) : FnOk P w K mg base CX0 3 f fd ["self", "day", "keys"] (spLed K c) := by
  refine F.ok sc_House_led (fun vs H Q E h => ?_) (fun cdv A outer s H vs Q E hr h => ?_)
  · obtain ⟨x, q, M, ds, ms, S, day, keys, rfl, _⟩ := h
    rfl
  · obtain ⟨x, q, M, ds, ms, S, day, keys, rfl, ⟨MT, MS, dx, p, th, kf, tr, wd, fa, wa, rs, rfl, X⟩, hq, d4, kn, k⟩ := h
    have nd := sc_House_led.nd
    refine ⟨_, PSs.nox (pss_one (ps_ret (pe_callTy call_tuple_of (by rfl) z_tuple (by decide +kernel) (pa_cons (pe_lc (own := [("thing", 3)]) (g := gName 3) (tt := tYes) (te := tOp (rIxT K) (tMeth c.CT "version_on" (spVerOn K c.CT) [] E0 (tFld K (tVar 0) "things") (tCons (tVar 3) (tCons (tVar 1) tNil))) (tC (.int 0))) rfl nd (pi_list (pe_call c_things_named.G (hr.mono (by decide)) rfl c_things_named.g c_things_named.k c_things_named.b .nil pass0 (pa_cons (pe_fld (pv 0) rfl) (pa_cons (pv 2) pa_nil)))) (blkOk_by (own := [("thing", 3)]) (N := N_House_led) (sc := defScope s_House_led) (by decide +kernel))
        (fun _ _ _ _ _ => pg_name (i := 3) nd rfl (Or.inl rfl)) (fun _ _ _ _ _ => pts_nil) (fun _ _ _ _ _ => pe_ix ix_tup (pe_meth (pe_fld (pv 0) rfl) mV.cl mV.m mV.G (hr.mono (by decide)) mV.b .nil pass0 (pa_cons (pv 3) (pa_cons (pv 1) pa_nil))) pe_int (fun _ _ => rfl))) pa_nil)))), ?_⟩
    refine ⟨_, rfl, x, c.CH, dx, _, _, rfl, X.hx, TX.cl, TX.nP, hs_plan p th kf tr wd, _, rfl, p, q, keys, ds, ms, rfl, X.pl.at, hq, d4, fun ln xs H1 s1 nln eln pn => ?_⟩
    have X1 := X.same s1
    have lth : (thOf ds keys).length ≤ 4 := by
      unfold thOf
      rw [List.length_zip, List.length_map]
      omega
    have lxs : xs.length = (thOf ds keys).length := pn.length
    refine ⟨ln, rfl, ⟨_, SqL.of eln⟩, fun D nD => ?_⟩
    refine lc_build (walk_list (K := K) (a := ln)) nD (fun i ys R => Same H1 R ∧ ys = ((thOf ds keys).take i).map fun t => V.int (S.ts.numOn t day)) ⟨Same.refl _, rfl⟩ (fun _ _ _ _ z => SqL.of ((z.1.trans cd_sub) _ _ eln)) ?_ ?_
    · rintro i ys y R R' hi e ly ⟨sm, rfl⟩ ⟨rfl, hy⟩
      obtain ⟨t, ht, r, rfl, h1⟩ := paired_at pn hy
      obtain ⟨vers, ver, k1, k2, k3⟩ := kn t (List.mem_of_getElem? ht)
      have sR := sm.trans cd_sub
      have XR := X1.same sR
      obtain ⟨dxt, kd, nb, ka, na, XT⟩ := XR.th.x
      refine ⟨rfl, yes ?_⟩
      refine ⟨_, rfl, x, c.CH, dx, _, _, rfl, XR.hx, TX.cl, TX.nT, hs_things p th kf tr wd, th, dxt, _, rfl, XT.hx, th_no (by decide +kernel) (by decide +kernel) (by decide +kernel) (by decide +kernel), _, rfl, _, rfl, th, p, r, MT, day, t, S.ts, vers, ver, rfl, XR.th, sR _ _ h1, k1, k2, k3, fun v H2 s2 hv => ?_⟩
      obtain ⟨qv, yv, rfl, hqv, _, _⟩ := hv
      refine ⟨qv, _, _, _, rfl, rfl, SqT.of hqv, atI_nat (j := 0) rfl, LcNx.add (s2 _ _ e) ly (by omega) ⟨sm.trans (cd_same s2), ?_⟩⟩
      rw [← numOn_of k1 k3]
      exact take_snoc (g := fun t => V.int (S.ts.numOn t day)) ht
    · rintro ys H2 e ly ⟨sm, rfl⟩
      rw [lxs, List.take_length] at e
      refine ⟨D, _, rfl, .inl ⟨SqL.of e, fun r nr => ?_⟩⟩
      generalize e3 : upd H2 r _ = H3
      obtain ⟨s3, e4⟩ := new_of nr e3
      exact k r H3 (s1.trans ((sm.trans cd_sub).trans s3)) e4
--@@END
end
end Kd

namespace Kd
open PySem PySem.Spec PyProof.Rows L2 LamX
def tTruth (K : PySem.W.Frag) (ta : TE) : TT := fun σ H Q => ta σ H fun x H' => ∃ k, TruV K x H' k ∧ Q k H'
def Ts.parts (ts : Ts) (tl : List Th) : Ts := tl.foldl Ts.gone ts
def Ts.partsN (ts : Ts) (tl : List Th) : Int := (tl.map fun t => ((ts.vs t).length : Int)).sum
theorem parts_snoc (ts : Ts) (tl : List Th) (t : Th) : ts.parts (tl ++ [t]) = (ts.parts tl).gone t := by
  unfold Ts.parts
  rw [List.foldl_append]
  rfl
theorem parts_kinds : ∀ (tl : List Th) (ts : Ts), (ts.parts tl).kinds = ts.kinds
  | [], _ => rfl
  | t :: tl, ts => parts_kinds tl (ts.gone t)
theorem parts_lk : ∀ (tl : List Th) (ts : Ts) (t : Th), lk (ts.parts tl).nums t = if t ∈ tl then none else lk ts.nums t
  | [], ts, t => by rw [if_neg (List.not_mem_nil)]; rfl
  | a :: tl, ts, t => by
    show lk ((ts.gone a).parts tl).nums t = _
    rw [parts_lk tl (ts.gone a) t]
    show (if t ∈ tl then none else lk (dp ts.nums a) t) = _
    rw [lk_dp]
    by_cases h1 : t ∈ tl
    · rw [if_pos h1, if_pos (List.mem_cons_of_mem _ h1)]
    · rw [if_neg h1]
      by_cases h2 : t = a
      · rw [if_pos h2, if_pos (by rw [h2]; exact List.mem_cons_self ..)]
      · rw [if_neg h2, if_neg (fun z => (List.mem_cons.mp z).elim h2 h1)]
def goneB (ds : Dims) (S : Hs) (t : Th) : Bool := (lk S.ts.kinds t).isNone && (fdays ds S.facts t).isEmpty
section
variable {P : Program} {w : World} {K : PySem.W.Frag} {mg : Str → Option Value} {base : Heap} {f : Addr} {fd : FuncData}
/-- the things turned, no more than their own objects -/
theorem HoX.turn {c : Cn} {MT MT' MS : Addr → Prop} {x dx p th kf tr wd : Addr} {ds : Dims} {ms : List Str} {S : Hs} {fa wa : Str → Addr} {rs : List V} {T : TB} {H H' : Hp} {ts' : Ts} (h : HoX K c H MT MS x ds ms S dx p th kf tr wd fa wa rs) (fr : Fr T MT H H') (nw : Nw MT MT' H) (o : ThO K c.CT H' MT' th p ts') :
    HoX K c H' MT' MS x ds ms { S with ts := ts' } dx p th kf tr wd fa wa rs ∧ Fr T (hoM MT MS kf tr wd) H H' ∧ Nw (hoM MT MS kf tr wd) (hoM MT' MS kf tr wd) H := by
  have live := h.live
  have a1 : ∀ b, MS b → ¬ MT' b := nw.apart h.pl.1 h.d1
  have ks : Keep MS H H' := fr.keep h.d1
  have one : ∀ b o, H b = some o → Chg o → ¬ MT b → ¬ MT' b := fun b o e c n m => (nw b m).elim n fun z => z o e c.noTb
  refine ⟨⟨ks.at h.hx trivial h.sx, h.sx, h.pl.keep ks, o, fr.at h.hf trivial h.f1, fun e he => (h.fi e he).keep ks, fr.at h.hr trivial h.r1, PySem.Paired.mono (fun _ _ => RwRef.keep ks) h.ri, fr.at h.hw trivial h.w1, fun e he => ⟨(h.wi e he).1, (h.wi e he).2.keep (h.wi e he).1 ks⟩, a1, one _ _ h.hf trivial h.f1, h.f2, one _ _ h.hr trivial h.r1, h.r2, one _ _ h.hw trivial h.w1, h.w2, h.fw⟩, fr.mono fun _ z => .inl z, fun b hb => ?_⟩
  rcases hb with hb | hb
  · exact (nw b hb).imp .inl id
  · exact .inl (.inr hb)
/-! ### House.part_from -/
def spPartF (K : PySem.W.Frag) (c : Cn) : Sp := fun vs H Q _ => ∃ (x l : Addr) (M : Addr → Prop) (ds : Dims) (ms : List Str) (S : Hs) (xs : List V) (tl : List Th), vs = [.ref x, .ref l] ∧ HoO K c H M x ds ms S ∧ H l = some (.lst xs) ∧ ¬ M l ∧ Paired (ThAt H) xs tl ∧ tl.length ≤ 10 ∧ tl.Nodup ∧ (∀ t ∈ tl, Tx t.1 ∧ Tx t.2 ∧ ∃ vers, lk S.ts.nums t = some vers) ∧ FOk ds S.facts ∧
  ∀ H', Fr (tbS c.Pt) M H H' → HoO K c H' M x ds ms { S with ts := S.ts.parts (tl.filter (goneB ds S)) } → Q (.int (S.ts.partsN (tl.filter (goneB ds S)))) H'
abbrev N_House_part_from : List Str := ["self", "things", "thing", "gone"]
theorem sc_House_part_from : FnScope N_House_part_from ["self", "things"] (defScope s_House_part_from) := ⟨rfl, rfl, rfl, by decide +kernel, rfl, by decide +kernel, by decide +kernel⟩
/-! slots: 0 self 1 things 2 thing 3 gone; cells: self -/
theorem ok_partF {c : Cn} {fD fP : Addr} {fdD fdP : FuncData} (F : FnP K "part_from" "House.part_from" s_House_part_from f fd) (TX : HsTxt K c.CH) (TT : ThTxt K c.CT) (mD : MFun P w K mg base c.CH "fact_days" 3 ["self", "thing"] (spFdays K c) fD fdD) (mP : MFun P w K mg base c.CT "part" 1 ["self", "thing"] (spPart K (tbS c.Pt) c.CT) fP fdP) (z_sum : mg "sum" = none) : FnOk P w K mg base CX0 4 f fd ["self", "things"] (spPartF K c) := by
  refine F.ok sc_House_part_from (fun vs H Q E h => ?_) (fun cdv A outer s H vs Q E hr h => ?_)
  · obtain ⟨x, l, M, ds, ms, S, xs, tl, rfl, _⟩ := h
    rfl
  · obtain ⟨x, l, M, ds, ms, S, xs, tl, rfl, ⟨MT, MS, dx, p, th, kf, tr, wd, fa, wa, rs, rfl, X⟩, hl, nl, pl, l10, ndp, hk, ok, k⟩ := h
    have nd := sc_House_part_from.nd
    have hu := hr.units
    have hu1 : (A.deeper (envOfC "House.part_from" (defScope s_House_part_from) s.heap.objs.size f cdv)).units + 1 < cLine := by omega
    refine ⟨_, PSs.nox (pss_cons (ps_setLc (i := 3) (own := [("thing", 2)]) (g := gName 2) (tt := tAnd (tB (tDNotIn (tVar 2) (tFld K (tFld K (tVar 0) "things") "kinds"))) (tNot (tTruth K (tMeth c.CH "fact_days" (spFdays K c) [] E0 (tVar 0) (tCons (tVar 2) tNil))))) (te := tVar 2) rfl nd rfl rfl (sw_true rfl rfl rfl (by decide +kernel)) (pi_list (pv 1)) (blkOk_by (own := [("thing", 2)]) (N := N_House_part_from) (sc := defScope s_House_part_from) (by decide +kernel))
        (fun _ _ _ _ _ => pg_name (i := 2) nd rfl (Or.inl rfl)) (fun _ _ _ _ _ => pts_one (PW.pt (pw_and (pt_cmp (pc_dnotin hu1 (pv 2) (pe_fld (pe_fld (pv 0) rfl) rfl))) (pw_and1 (pt_not (pt_truth (pe_meth (pv 0) mD.cl mD.m mD.G (hr.mono (by decide)) mD.b .nil pass0 (pa_cons (pv 2) pa_nil)) (by intro _; rfl))))))) (fun _ _ _ _ _ => pv 2))
      (pss_one (ps_ret (pe_callB (cr_sum rfl) (by rfl) z_sum (by decide +kernel) (pa_cons (pe_lc (own := [("thing", 2)]) (g := gName 2) (tt := tYes) (te := tMeth c.CT "part" (spPart K (tbS c.Pt) c.CT) [] E0 (tFld K (tVar 0) "things") (tCons (tVar 2) tNil)) rfl nd (pi_list (pv 3)) (blkOk_by (own := [("thing", 2)]) (N := N_House_part_from) (sc := defScope s_House_part_from) (by decide +kernel))
        (fun _ _ _ _ _ => pg_name (i := 2) nd rfl (Or.inl rfl)) (fun _ _ _ _ _ => pts_nil) (fun _ _ _ _ _ => pe_meth (pe_fld (pv 0) rfl) mP.cl mP.m mP.G (hr.mono (by decide)) mP.b .nil pass0 (pa_cons (pv 2) pa_nil))) pa_nil))))), ?_⟩
    have lxs : xs.length = tl.length := pl.length
    refine ⟨_, rfl, l, rfl, ⟨_, SqL.of hl⟩, fun D nD => ?_⟩
    refine lc_build (walk_list (K := K) (a := l)) nD (fun i ys R => Same H R ∧ Paired (ThAt R) ys ((tl.take i).filter (goneB ds S))) ⟨Same.refl _, .nil⟩ (fun _ _ _ _ z => SqL.of ((z.1.trans cd_sub) _ _ hl)) ?_ ?_
    · rintro i ys y R R' hi e ly ⟨sm, pz⟩ ⟨rfl, hy⟩
      obtain ⟨t, ht, r, rfl, h1⟩ := paired_at pl hy
      obtain ⟨t1, t2, _⟩ := hk t (List.mem_of_getElem? ht)
      have sR := sm.trans cd_sub
      have XR := X.same sR
      obtain ⟨dxt, kd, nb, ka, na, XT⟩ := XR.th.x
      have efl := flt_snoc (p := goneB ds S) ht
      refine ⟨rfl, _, rfl, _, rfl, x, c.CH, dx, _, _, rfl, XR.hx, TX.cl, TX.nT, hs_things p th kf tr wd, th, c.CT, dxt, _, _, rfl, XT.hx, TT.cl, TT.nK, th_kinds p kd nb _, kd, _, rfl, DGet.t (k := thK t) XT.hk (sR _ _ h1), _, rfl, ?_⟩
      rw [val_map (r := fun t => V.ref (ka t)) thK_inj]
      have gb : goneB ds S t = ((lk S.ts.kinds t).isNone && (fdays ds S.facts t).isEmpty) := rfl
      cases hlk : lk S.ts.kinds t with
      | some ks =>
        refine iteF ?_
        refine iteF (LcNx.skip e ly ⟨sm, ?_⟩)
        rw [efl, gb, hlk]
        show Paired _ _ (_ ++ [])
        rw [List.append_nil]
        exact pz
      | none =>
        refine iteT ?_
        refine ⟨_, rfl, x, dx, _, rfl, XR.hx, hs_no (by decide +kernel), _, rfl, x, r, _, ds, ms, S, t, rfl, XR.o, sR _ _ h1, ok, t1, t2, fun lf H2 s2 nlf elf => ?_⟩
        refine ⟨_, .inl ⟨_, SqL.of elf, rfl⟩, ?_⟩
        have e2 := s2 _ _ e
        have pz2 := PySem.Paired.mono (fun _ _ => ThAt.same (cd_same (D := D) s2)) pz
        rw [List.isEmpty_map]
        cases hem : (fdays ds S.facts t).isEmpty with
        | false =>
          refine iteF (LcNx.skip e2 ly ⟨sm.trans (cd_same s2), ?_⟩)
          rw [efl, gb, hlk, hem]
          show Paired _ _ (_ ++ [])
          rw [List.append_nil]
          exact pz2
        | true =>
          refine iteT ⟨_, rfl, LcNx.add e2 ly (by omega) ⟨sm.trans (cd_same s2), ?_⟩⟩
          rw [efl, gb, hlk, hem]
          refine PySem.Paired.snoc pz2 ⟨r, rfl, cd_of ((sR.trans s2) _ _ h1) (fun z => ?_)⟩
          have h5 := (sR.trans s2) _ _ h1
          rw [z, e2] at h5
          cases h5
    · rintro gs H2 e ly ⟨sm, pz⟩
      rw [lxs, List.take_length] at pz
      have s2 : Same H H2 := sm.trans cd_sub
      have X2 := X.same s2
      have pg : Paired (ThAt H2) gs (tl.filter (goneB ds S)) := PySem.Paired.mono (fun _ _ => ThAt.same cd_sub) pz
      generalize hgl : tl.filter (goneB ds S) = gl at *
      have gsub : gl.Sublist tl := by rw [← hgl]; exact List.filter_sublist
      have gnd : gl.Nodup := ndp.sublist gsub
      have lgs : gs.length = gl.length := pg.length
      have lgl : gl.length ≤ 10 := Nat.le_trans gsub.length_le l10
      have nMD : ¬ MT D := fun m => X.live.notN nD (.inl m)
      refine set_sl (σ' := [some (.ref x), some (.ref l), none, some (.ref D)]) rfl ?_
      refine ⟨_, rfl, D, rfl, ⟨_, SqL.of e⟩, fun D2 nD2 => ?_⟩
      have nM2 : ¬ MT D2 := fun m => X2.live.notN nD2 (.inl m)
      have nDD : D ≠ D2 := fun z => by rw [← z, e] at nD2; cases nD2
      refine lc_build (walk_list (K := K) (a := D) (xs := gs)) nD2 (fun i ys R => ys = ((gl.take i).map fun t => V.int ((S.ts.vs t).length : Int)) ∧ ThO K c.CT R MT th p (S.ts.parts (gl.take i)) ∧ Fr (tbS c.Pt) MT H2 R) ⟨rfl, X2.th, Fr.refl⟩ (fun i ys R _ z => ?_) ?_ ?_
      · exact SqL.of (cd_sub _ _ (z.2.2.at e trivial nMD))
      · rintro i ys y R R' hi e3 ly3 ⟨rfl, hT3, fr3⟩ ⟨rfl, hy⟩
        obtain ⟨t, ht, r, rfl, h1⟩ := paired_at pg hy
        obtain ⟨_, _, vers, hv⟩ := hk t (gsub.subset (List.mem_of_getElem? ht))
        have hv2 : lk (S.ts.parts (gl.take i)).nums t = some vers := by
          rw [parts_lk, if_neg (fun z => ?_), hv]
          obtain ⟨j, hj, ej⟩ := List.mem_iff_getElem.mp z
          obtain ⟨g1, g2⟩ := List.getElem?_eq_some_iff.mp ht
          rw [List.length_take] at hj
          rw [List.getElem_take] at ej
          have := (List.getElem_inj gnd).mp (ej.trans g2.symm)
          omega
        have hxR : R' x = some (.ins c.CH dx (hsF p th kf tr wd)) := cd_sub _ _ (fr3.at X2.hx trivial (X.d1 x X.sx))
        obtain ⟨dxt, kd, nb, ka, na, XT⟩ := hT3.x
        refine ⟨rfl, yes ?_⟩
        refine ⟨_, rfl, x, c.CH, dx, _, _, rfl, hxR, TX.cl, TX.nT, hs_things p th kf tr wd, th, dxt, _, rfl, cd_sub _ _ XT.hx, th_no (by decide +kernel) (by decide +kernel) (by decide +kernel) (by decide +kernel), _, rfl, th, p, r, MT, _, t, vers, rfl, hT3.same cd_sub, cd_sub _ _ (fr3.tup h1), hv2, fun H5 f5 O5 => ?_⟩
        have e5 : H5 D2 = some (.lst (List.map (fun t => V.int ((S.ts.vs t).length : Int)) (gl.take i))) := f5.at e3 trivial nM2
        refine LcNx.add e5 ly3 (by omega) ⟨?_, ?_, fr3.trans (f5.cd e5)⟩
        · have ev : ((vers.length : Nat) : Int) = ((S.ts.vs t).length : Int) := by unfold Ts.vs; rw [hv]; rfl
          rw [ev]
          exact take_snoc (g := fun t => V.int ((S.ts.vs t).length : Int)) ht
        · obtain ⟨g1, g2⟩ := List.getElem?_eq_some_iff.mp ht
          rw [List.take_succ_eq_append_getElem g1, g2, parts_snoc]
          exact O5.keep (keep_cd e5 nM2)
      · rintro ys H3 e3 ly3 ⟨rfl, hT3, fr3⟩
        rw [lgs, List.take_length] at e3 hT3
        refine ⟨D2, gl.map fun t => ((S.ts.vs t).length : Int), rfl, SqL.of (by rw [List.map_map]; exact e3), ?_⟩
        have f3 : Fr (tbS c.Pt) MT H2 H3 := fr3.trans (Fr.of cd_sub)
        obtain ⟨X3, F3, _⟩ := X2.turn f3 Nw.refl (hT3.same cd_sub)
        exact k H3 ((Fr.of s2).trans F3) X3.o
end
end Kd

namespace Kd
open PySem PySem.Spec PyProof.Rows L2 LamX
def Ts.taken (ts : Ts) (ws : List Str) (t : Th) (day : Int) (vals : List Fv) : Ts := (ts.kept t day vals).anew ws t
def ledN (ds : Dims) (S : Hs) (ts' : Ts) (t : Th) : Nat := ((((fdays ds S.facts t).map fun y => ts'.numOn t y).zip ((fdays ds S.facts t).map fun y => S.ts.numOn t y)).filter fun p => !decide (p.1 = p.2)).length
/-- the things of the facts are known -/
def FKn (ds : Dims) (S : Hs) : Prop := ∀ e ∈ S.facts, ∀ t ∈ thOf ds e.2.keys, ∃ vers, lk S.ts.nums t = some vers
theorem fdays_mem {ds : Dims} {fs : List (Str × Fct)} {t : Th} {y : Int} (h : y ∈ fdays ds fs t) : ∃ e ∈ fs, t ∈ thOf ds e.2.keys := by
  unfold fdays at h
  obtain ⟨e, he, _⟩ := List.mem_map.mp h
  obtain ⟨h1, h2⟩ := List.mem_filter.mp he
  exact ⟨e, h1, of_decide_eq_true h2⟩
theorem fdays_len (ds : Dims) (fs : List (Str × Fct)) (t : Th) : (fdays ds fs t).length ≤ fs.length := by
  unfold fdays
  rw [List.length_map]
  exact List.length_filter_le _ _
theorem TsOk.known {ds : Dims} {ts : Ts} {n m : Nat} (h : TsOk ds ts n m) (hn : n ≤ 3000) {t : Th} {vers : List Ver} (e : lk ts.nums t = some vers) (day : Int) : Known ts day t := by
  obtain ⟨ver, hv⟩ := h.on e day
  have h1 := h.vs_le t
  unfold Ts.vs at h1
  rw [e] at h1
  have h2 : vers.length ≤ n + 1 := h1
  exact ⟨vers, ver, e, by omega, hv⟩
theorem anew_lk (ts : Ts) (ws : List Str) (t : Th) : lk (ts.anew ws t).nums t = some (numS (oldOf (ts.vs t)) ts.given (sv ws (ts.ks t))).1 := by
  unfold Ts.anew
  show lk (pt ts.nums t _) t = _
  rw [lk_pt, if_pos rfl]
theorem ints_of {xs : List Int} {i : Nat} {x : V} (h : (xs.map V.int)[i]? = some x) : ∃ z, x = .int z ∧ xs[i]? = some z := by
  rw [List.getElem?_map] at h
  obtain ⟨z, h1, h2⟩ := Option.map_eq_some_iff.mp h
  exact ⟨z, h2.symm, h1⟩
section
variable {P : Program} {w : World} {K : PySem.W.Frag} {mg : Str → Option Value} {base : Heap} {f : Addr} {fd : FuncData}
/-! ### House.take_kind -/
def spHKind (K : PySem.W.Frag) (c : Cn) : Sp := fun vs H Q _ => ∃ (x r q : Addr) (M : Addr → Prop) (ds : Dims) (ms : List Str) (S : Hs) (t : Th) (d : Str × List (Str × Str)) (day : Int) (vals : List Fv) (n m : Nat), vs = [.ref x, .ref r, .int day, .ref q] ∧ HoO K c H M x ds ms S ∧ H r = some (.tup [.str t.1, .str t.2]) ∧ SqT K H q (vals.map Fv.v) ∧
  FOk ds S.facts ∧ Tx t.1 ∧ Tx t.2 ∧ inD ds t d ∧ vals.length = d.2.length ∧ TsOk ds S.ts n m ∧ n < 199 ∧ m < 3999 ∧ FKn ds S ∧ Tabs (tbS c.Pt) H ∧
  ∀ H' M' r', Fr (tbS c.Pt) M H H' → Nw M M' H → HoO K c H' M' x ds ms { S with ts := S.ts.taken (d.2.map (·.2)) t day vals } → H' r' = some (.tup [.str "kind", .int ((S.ts.kept t day vals).came (d.2.map (·.2)) t), .int ((S.ts.kept t day vals).went (d.2.map (·.2)) t), .int (ledN ds S (S.ts.taken (d.2.map (·.2)) t day vals) t)]) → Q (.ref r') H'
abbrev N_House_take_kind : List Str := ["self", "thing", "day", "values", "days", "fact_day", "ahead", "came", "went", "behind", "number", "old", "led"]
theorem sc_House_take_kind : FnScope N_House_take_kind ["self", "thing", "day", "values"] (defScope s_House_take_kind) := ⟨rfl, rfl, rfl, by decide +kernel, rfl, by decide +kernel, by decide +kernel⟩
/-! slots: 0 self 1 thing 2 day 3 values 4 days 5 fact_day 6 ahead 7 came 8 went 9 behind 10 number 11 old 12 led; cells: self thing -/
theorem ok_hkind {c : Cn} {fD fV fT : Addr} {fdD fdV fdT : FuncData} (F : FnP K "take_kind" "House.take_kind" s_House_take_kind f fd) (TX : HsTxt K c.CH) (mD : MFun P w K mg base c.CH "fact_days" 3 ["self", "thing"] (spFdays K c) fD fdD) (mV : MFun P w K mg base c.CT "version_on" 1 ["self", "thing", "day"] (spVerOn K c.CT) fV fdV) (mT : MFun P w K mg base c.CT "take_kind" 6 ["self", "thing", "day", "values"] (spTakeK K c.Pt c.CT c.CP) fT fdT)
    (z_len : mg "len" = none) (z_zip : mg "zip" = none) : FnOk P w K mg base CX0 7 f fd ["self", "thing", "day", "values"] (spHKind K c) := by
  refine F.ok sc_House_take_kind (fun vs H Q E h => ?_) (fun cdv A outer s H vs Q E hr h => ?_)
  · obtain ⟨x, r, q, M, ds, ms, S, t, d, day, vals, n, m, rfl, _⟩ := h
    rfl
  · obtain ⟨x, r, q, M, ds, ms, S, t, d, day, vals, n, m, rfl, ⟨MT, MS, dx, p, th, kf, tr, wd, fa, wa, rs, rfl, X⟩, hr2, hq, ok, t1, t2, hd, hv, tok, hn, hm, fkn, hT, k⟩ := h
    have nd := sc_House_take_kind.nd
    generalize hcm : (S.ts.kept t day vals).came (d.2.map (·.2)) t = cm at k
    generalize hwn : (S.ts.kept t day vals).went (d.2.map (·.2)) t = wn at k
    refine ⟨_, PSs.nox (pss_cons (ps_set (i := 4) nd rfl (Or.inl rfl) (pe_meth (pv 0) mD.cl mD.m mD.G (hr.mono (by decide)) mD.b .nil pass0 (pa_cons (pv 1) pa_nil)))
      (pss_cons (ps_setLc (i := 6) (own := [("fact_day", 5)]) (g := gName 5) (tt := tYes) (te := tOp (rIxT K) (tMeth c.CT "version_on" (spVerOn K c.CT) [] E0 (tFld K (tVar 0) "things") (tCons (tVar 1) (tCons (tVar 5) tNil))) (tC (.int 0))) rfl nd rfl rfl (sw_true rfl rfl rfl (by decide +kernel)) (pi_list (pv 4)) (blkOk_by (own := [("fact_day", 5)]) (N := N_House_take_kind) (sc := defScope s_House_take_kind) (by decide +kernel))
        (fun _ _ _ _ _ => pg_name (i := 5) nd rfl (Or.inl rfl)) (fun _ _ _ _ _ => pts_nil) (fun _ _ _ _ _ => pe_ix ix_tup (pe_meth (pe_fld (pv 0) rfl) mV.cl mV.m mV.G (hr.mono (by decide)) mV.b .nil pass0 (pa_cons (pv 1) (pa_cons (pv 5) pa_nil))) pe_int (fun _ _ => rfl)))
      (pss_cons (ps_asg (pe_meth (pe_fld (pv 0) rfl) mT.cl mT.m mT.G (hr.mono (by decide)) mT.b .nil pass0 (pa_cons (pv 1) (pa_cons (pv 2) (pa_cons (pv 3) pa_nil)))) (pg_tup rfl (pgs_cons (pg_name (i := 7) nd rfl (Or.inl rfl)) (pgs_cons (pg_name (i := 8) nd rfl (Or.inl rfl)) pgs_nil))))
      (pss_cons (ps_setLc (i := 9) (own := [("fact_day", 5)]) (g := gName 5) (tt := tYes) (te := tOp (rIxT K) (tMeth c.CT "version_on" (spVerOn K c.CT) [] E0 (tFld K (tVar 0) "things") (tCons (tVar 1) (tCons (tVar 5) tNil))) (tC (.int 0))) rfl nd rfl rfl (sw_true rfl rfl rfl (by decide +kernel)) (pi_list (pv 4)) (blkOk_by (own := [("fact_day", 5)]) (N := N_House_take_kind) (sc := defScope s_House_take_kind) (by decide +kernel))
        (fun _ _ _ _ _ => pg_name (i := 5) nd rfl (Or.inl rfl)) (fun _ _ _ _ _ => pts_nil) (fun _ _ _ _ _ => pe_ix ix_tup (pe_meth (pe_fld (pv 0) rfl) mV.cl mV.m mV.G (hr.mono (by decide)) mV.b .nil pass0 (pa_cons (pv 1) (pa_cons (pv 5) pa_nil))) pe_int (fun _ _ => rfl)))
      (pss_cons (ps_set (i := 12) nd rfl (Or.inl rfl) (pe_callB call_len_seq (by rfl) z_len boot_len (pa_cons (pe_lc (own := [("number", 10), ("old", 11)]) (g := gTup K 2 (gCons (gName 10) (gCons (gName 11) gNil))) (tt := tTest (tOp rNe (tVar 10) (tVar 11))) (te := tVar 10) rfl nd (pi_zip rfl z_zip (pa_cons (pv 9) (pa_cons (pv 6) pa_nil))) (blkOk_by (own := [("number", 10), ("old", 11)]) (N := N_House_take_kind) (sc := defScope s_House_take_kind) (by decide +kernel))
        (fun _ _ _ _ _ => pg_tup rfl (pgs_cons (pg_name (i := 10) nd rfl (Or.inl rfl)) (pgs_cons (pg_name (i := 11) nd rfl (Or.inl rfl)) pgs_nil))) (fun _ _ _ _ _ => pts_one (pt_cmpR op_ne (pv 10) (pv 11) (nomark _))) (fun _ _ _ _ _ => pv 10)) pa_nil)))
      (pss_one (ps_ret (pe_tup (pa_cons pe_str (pa_cons (pv 7) (pa_cons (pv 8) (pa_cons (pv 12) pa_nil)))))))))))), ?_⟩
    refine ⟨_, rfl, x, dx, _, rfl, X.hx, hs_no (by decide +kernel), _, rfl, x, r, _, ds, ms, S, t, rfl, X.o, hr2, ok, t1, t2, fun ld H1 s1 nld eld => ?_⟩
    have X1 := X.same s1
    have ldy : (fdays ds S.facts t).length ≤ 200 := Nat.le_trans (fdays_len _ _ _) ok.fl
    generalize hdy : fdays ds S.facts t = dys at *
    have nMl : ¬ MT ld := fun z => X.live.notN nld (.inl z)
    refine set_sl (σ' := [some (.ref x), some (.ref r), some (.int day), some (.ref q), some (.ref ld), none, none, none, none, none, none, none, none]) rfl ?_
    refine ⟨_, rfl, ld, rfl, ⟨_, SqL.of eld⟩, fun D nD => ?_⟩
    -- the numbers of these days in a heap that has the things
    have turn : ∀ (R0 : Hp) (MT0 : Addr → Prop) (ts : Ts) (D : Addr), (∀ y ∈ dys, Known ts y t) → R0 x = some (.ins c.CH dx (hsF p th kf tr wd)) → ThO K c.CT R0 MT0 th p ts → R0 r = some (.tup [.str t.1, .str t.2]) → ∀ (i : Nat) (zs : List V) (y : V) (R : Hp) (σ : L2.St), i < (dys.map V.int).length → R D = some (.lst zs) → zs.length ≤ i → Same R0 (cd D R) ∧ zs = ((dys.take i).map fun y => V.int (ts.numOn t y)) → (dys.map V.int)[i]? = some y → σ[0]? = some (some (.ref x)) → σ[1]? = some (some (.ref r)) → σ[5]? = some (some y) →
        tOp (rIxT K) (tMeth c.CT "version_on" (spVerOn K c.CT) [] E0 (tFld K (tVar 0) "things") (tCons (tVar 1) (tCons (tVar 5) tNil))) (tC (.int 0)) σ R fun z H4 => ∃ acc, H4 D = some (.lst acc) ∧ acc.length < sizeLine ∧ LcNx D (fun i ys R => Same R0 R ∧ ys = (dys.take i).map fun y => V.int (ts.numOn t y)) (i + 1) (upd H4 D (.lst (acc ++ [z]))) := by
      intro R0 MT0 ts D kn hx0 hO0 hr0 i zs y R σ hi e ly ⟨sm, ez⟩ hy σ0 σ1 σ5
      obtain ⟨yi, rfl, hyi⟩ := ints_of hy
      obtain ⟨vers, ver, k1, k2, k3⟩ := kn yi (List.mem_of_getElem? hyi)
      have sR := sm.trans cd_sub
      obtain ⟨dxt, kd, nb, ka, na, XT⟩ := (hO0.same sR).x
      refine ⟨_, σ0, x, c.CH, dx, _, _, rfl, sR _ _ hx0, TX.cl, TX.nT, hs_things p th kf tr wd, th, dxt, _, rfl, XT.hx, th_no (by decide +kernel) (by decide +kernel) (by decide +kernel) (by decide +kernel), _, σ1, _, σ5, th, p, r, MT0, yi, t, ts, vers, ver, rfl, XT.o, sR _ _ hr0, k1, k2, k3, fun v H2 s2 hv => ?_⟩
      obtain ⟨qv, yv, rfl, hqv, _, _⟩ := hv
      rw [List.length_map] at hi
      refine ⟨qv, _, _, _, rfl, rfl, SqT.of hqv, atI_nat (j := 0) rfl, LcNx.add (s2 _ _ e) ly (by omega) ⟨sm.trans (cd_same s2), ?_⟩⟩
      rw [ez, ← numOn_of k1 k3]
      exact take_snoc (g := fun y => V.int (ts.numOn t y)) hyi
    have kn1 : ∀ y ∈ dys, Known S.ts y t := fun y hy => by
      obtain ⟨e, he, ht⟩ := fdays_mem (by rw [hdy]; exact hy)
      obtain ⟨vers, hvv⟩ := fkn e he t ht
      exact tok.known (by omega) hvv y
    refine lc_build (walk_list (K := K) (a := ld) (xs := dys.map V.int)) nD (fun i ys R => Same H1 R ∧ ys = (dys.take i).map fun y => V.int (S.ts.numOn t y)) ⟨Same.refl _, rfl⟩ (fun _ _ _ _ z => SqL.of ((z.1.trans cd_sub) _ _ eld)) ?_ ?_
    · rintro i zs y R R' hi e ly hP ⟨rfl, hy⟩
      exact ⟨rfl, yes (turn H1 MT S.ts D kn1 X1.hx X1.th (s1 _ _ hr2) i zs y R' _ hi e ly hP hy rfl rfl rfl)⟩
    · rintro zs H2 e2 ly ⟨sm, rfl⟩
      rw [List.length_map, List.take_length] at e2
      have s12 : Same H1 H2 := sm.trans cd_sub
      have s02 := s1.trans s12
      have X2 := X.same s02
      have nMD : ¬ MT D := fun z => X1.live.notN nD (.inl z)
      refine set_sl (σ' := [some (.ref x), some (.ref r), some (.int day), some (.ref q), some (.ref ld), none, some (.ref D), none, none, none, none, none, none]) rfl ?_
      obtain ⟨dxt, kd, nb, ka, na, XT⟩ := X2.th.x
      refine ⟨_, rfl, x, c.CH, dx, _, _, rfl, X2.hx, TX.cl, TX.nT, hs_things p th kf tr wd, th, dxt, _, rfl, XT.hx, th_no (by decide +kernel) (by decide +kernel) (by decide +kernel) (by decide +kernel), _, rfl, _, rfl, _, rfl, th, p, r, q, MT, MS, S.ts, ds, ms, t, d, day, vals, rfl, X2.th, X2.pl, X.d1, s02 _ _ hr2, Same.seqT s02 hq, tok.kept_num (by omega) (by omega) hd hv, ?_, ?_, hT.ext s02, fun H3 MT3 v3 q3 f3 nw3 O3 ev3 hq3 => ?_⟩
      · have := tok.kl; omega
      · have := tok.ks_le t; omega
      subst ev3
      rw [hcm, hwn] at hq3
      obtain ⟨X3, F3, NW3⟩ := X2.turn f3 nw3 O3
      refine ⟨q3, _, rfl, SqT.of hq3, rfl, _, _, rfl, _, _, rfl, rfl, ?_⟩
      generalize hts : ({ S with ts := (S.ts.kept t day vals).anew (d.2.map (·.2)) t } : Hs) = S3 at X3
      have ets : S3.ts = S.ts.taken (d.2.map (·.2)) t day vals := by rw [← hts]; rfl
      have eld3 : H3 ld = some (.lst (dys.map V.int)) := f3.at (s12 _ _ eld) trivial nMl
      have eD3 : H3 D = some (.lst (dys.map fun y => V.int (S.ts.numOn t y))) := f3.at e2 trivial nMD
      refine sl_eq (σ' := [some (.ref x), some (.ref r), some (.int day), some (.ref q), some (.ref ld), none, some (.ref D), some (.int cm), some (.int wn), none, none, none, none]) rfl ?_
      refine ⟨_, rfl, ld, rfl, ⟨_, SqL.of eld3⟩, fun D4 nD4 => ?_⟩
      have kn3 : ∀ y ∈ dys, Known S3.ts y t := fun y hy => by
        rw [ets]
        exact (tok.taken hd hv).known (by omega) (anew_lk _ _ _) y
      refine lc_build (walk_list (K := K) (a := ld) (xs := dys.map V.int)) nD4 (fun i ys R => Same H3 R ∧ ys = (dys.take i).map fun y => V.int (S3.ts.numOn t y)) ⟨Same.refl _, rfl⟩ (fun _ _ _ _ z => SqL.of ((z.1.trans cd_sub) _ _ eld3)) ?_ ?_
      · rintro i zs y R R' hi e ly hP ⟨rfl, hy⟩
        exact ⟨rfl, yes (turn H3 MT3 S3.ts D4 kn3 X3.hx X3.th (f3.tup (s02 _ _ hr2)) i zs y R' _ hi e ly hP hy rfl rfl rfl)⟩
      · rintro zs H4 e4 ly4 ⟨sm4, rfl⟩
        rw [List.length_map, List.take_length] at e4
        have s34 : Same H3 H4 := sm4.trans cd_sub
        refine set_sl (σ' := [some (.ref x), some (.ref r), some (.int day), some (.ref q), some (.ref ld), none, some (.ref D), some (.int cm), some (.int wn), some (.ref D4), none, none, none]) rfl ?_
        refine ⟨_, rfl, _, rfl, D4, D, _, _, rfl, SqL.of e4, SqL.of (s34 _ _ eD3), fun D5 nD5 => ?_⟩
        refine lc_build (walk_zip (K := K) (a := D4) (b := D) (xs := dys.map fun y => V.int (S3.ts.numOn t y)) (ys := dys.map fun y => V.int (S.ts.numOn t y)) rfl) nD5 (fun i ys R => Same H4 R ∧ ys.length = ((((dys.map fun y => S3.ts.numOn t y).zip (dys.map fun y => S.ts.numOn t y)).take i).filter fun p => !decide (p.1 = p.2)).length) ⟨Same.refl _, rfl⟩ (fun _ _ _ _ z => ⟨SqL.of ((z.1.trans cd_sub) _ _ e4), SqL.of ((z.1.trans cd_sub) _ _ (s34 _ _ eD3))⟩) ?_ ?_
        · rintro i zs y R R' hi e ly ⟨sm5, ez⟩ ⟨T0, a, b, rfl, nT, rfl, ga, gb⟩
          have ga : (dys.map fun y => V.int (S3.ts.numOn t y))[i]? = some a := ga
          have gb : (dys.map fun y => V.int (S.ts.numOn t y))[i]? = some b := gb
          rw [List.getElem?_map] at ga gb
          obtain ⟨yi, h1, rfl⟩ := Option.map_eq_some_iff.mp ga
          obtain ⟨yj, h2, rfl⟩ := Option.map_eq_some_iff.mp gb
          rw [h1] at h2
          cases h2
          generalize eT : upd R T0 _ = R1
          obtain ⟨sT, eT0⟩ := new_of nT eT
          have e5 := sT _ _ e
          have hz : (((dys.map fun y => S3.ts.numOn t y).zip (dys.map fun y => S.ts.numOn t y)))[i]? = some (S3.ts.numOn t yi, S.ts.numOn t yi) := by
            rw [List.getElem?_zip_eq_some]
            exact ⟨by rw [List.getElem?_map, h1]; rfl, by rw [List.getElem?_map, h1]; rfl⟩
          have efl := flt_snoc (p := fun p : Int × Int => !decide (p.1 = p.2)) hz
          refine ⟨T0, _, rfl, SqT.of eT0, rfl, _, _, rfl, _, _, rfl, rfl, rfl, _, rfl, _, rfl, rfl, _, rfl, ?_⟩
          have li : i < 4000 := by
            rw [List.length_map, List.length_map] at hi
            omega
          by_cases ce : S3.ts.numOn t yi = S.ts.numOn t yi
          · rw [ce, decide_eq_true rfl]
            refine iteF (LcNx.skip e5 ly ⟨sm5.trans (cd_same sT), ?_⟩)
            rw [efl, if_neg (by simp [ce]), List.append_nil]
            exact ez
          · have ce2 : ¬ V.int (S3.ts.numOn t yi) = V.int (S.ts.numOn t yi) := fun z => ce (V.int.inj z)
            rw [decide_eq_false ce2]
            refine iteT ⟨_, rfl, LcNx.add e5 ly li ⟨sm5.trans (cd_same sT), ?_⟩⟩
            rw [efl, if_pos (by simp [ce]), List.length_append, List.length_append, ez]
            rfl
        · rintro zs H5 e5 ly5 ⟨sm5, ez⟩
          have s45 : Same H4 H5 := sm5.trans cd_sub
          refine ⟨D5, zs, rfl, .inl (SqL.of e5), ?_⟩
          refine set_sl (σ' := [some (.ref x), some (.ref r), some (.int day), some (.ref q), some (.ref ld), none, some (.ref D), some (.int cm), some (.int wn), some (.ref D4), none, none, some (.int zs.length)]) rfl ?_
          refine ⟨_, rfl, _, rfl, _, rfl, by show 4 ≤ sizeLine; decide, fun r' nr' => ?_⟩
          generalize e6 : upd H5 r' _ = H6
          obtain ⟨s6, er6⟩ := new_of nr' e6
          have s36 := (s34.trans s45).trans s6
          have el : zs.length = ledN ds S (S.ts.taken (d.2.map (·.2)) t day vals) t := by
            rw [ez]
            unfold ledN
            rw [hdy, ← ets]
            rw [List.take_of_length_le (by simp [List.length_zip])]
          rw [el] at er6
          refine k H6 (hoM MT3 MS kf tr wd) r' (((Fr.of s02).trans F3).trans (Fr.of s36)) (fun b hb => (NW3 b hb).imp id fun z o e nt => z o (s02 _ _ e) nt) ?_ er6
          have X6 := (X3.same s36).o
          rw [← hts] at X6
          exact X6
end
end Kd

namespace Kd
open PySem PySem.Spec PyProof.Rows L2 LamX
/-! ### things met -/
def meetStep (ds : Dims) (acc : Ts × List Int) (t : Th) : Ts × List Int := (acc.1.meet (wsOf ds t.1) t, acc.2 ++ [acc.1.meetN (wsOf ds t.1) t])
def Ts.meetF (ds : Dims) (ts : Ts) (tl : List Th) : Ts × List Int := tl.foldl (meetStep ds) (ts, [])
theorem meetF_take {ds : Dims} {ts : Ts} {tl : List Th} {i : Nat} {t : Th} (h : tl[i]? = some t) : ts.meetF ds (tl.take (i + 1)) = meetStep ds (ts.meetF ds (tl.take i)) t := by
  obtain ⟨h1, h2⟩ := List.getElem?_eq_some_iff.mp h
  unfold Ts.meetF
  rw [List.take_succ_eq_append_getElem h1, List.foldl_append, h2]
  rfl
theorem meet_known {ts : Ts} {ws : List Str} {t t' : Th} (h : (lk ts.nums t').isSome = true ∨ t' = t) : (lk (ts.meet ws t).nums t').isSome = true := by
  unfold Ts.meet
  split
  · rename_i h2
    rcases h with h | rfl
    · exact h
    · exact h2
  · by_cases e : t' = t
    · rw [e, anew_lk]; rfl
    · show (lk (pt ts.nums t _) t').isSome = true
      rw [lk_pt, if_neg e]
      exact h.resolve_right e
theorem meetG_known {ds : Dims} {t' : Th} : ∀ (tl : List Th) (acc : Ts × List Int), (lk acc.1.nums t').isSome = true ∨ t' ∈ tl → (lk (tl.foldl (meetStep ds) acc).1.nums t').isSome = true
  | [], acc, h => h.resolve_right List.not_mem_nil
  | t :: tl, acc, h => by
    rw [List.foldl_cons]
    refine meetG_known tl _ ?_
    rcases h with h | h
    · exact .inl (meet_known (.inl h))
    · rcases List.mem_cons.mp h with h | h
      · exact .inl (meet_known (.inr h))
      · exact .inr h
theorem meetF_known {ds : Dims} {ts : Ts} {tl : List Th} {t' : Th} (h : (lk ts.nums t').isSome = true ∨ t' ∈ tl) : (lk (ts.meetF ds tl).1.nums t').isSome = true := meetG_known tl (ts, []) h
theorem meetF_ok {ds : Dims} {ts : Ts} {n m : Nat} (h : TsOk ds ts n m) {tl : List Th} (hd : ∀ t ∈ tl, ∃ d, inD ds t d) : ∀ i, i ≤ tl.length → TsOk ds (ts.meetF ds (tl.take i)).1 n (m + i)
  | 0, _ => h
  | i + 1, hi => by
    have g1 : i < tl.length := by omega
    have e : tl[i]? = some tl[i] := List.getElem?_eq_getElem g1
    rw [meetF_take e]
    obtain ⟨d, h2⟩ := hd tl[i] (List.getElem_mem g1)
    show TsOk ds (Ts.meet (wsOf ds tl[i].1) _ tl[i]) n (m + (i + 1))
    rw [wsOf_some h2]
    exact (meetF_ok h hd i (by omega)).meet h2
def oldTh (ds : Dims) (S : Hs) (name : Str) : List Th := match lk S.facts name with
  | some fc => thOf ds fc.keys
  | none => []
theorem zip_fst_sub {α β : Type} : ∀ (l : List α) (k : List β), ((l.zip k).map (·.1)).Sublist l
  | [], _ => by simp
  | a :: l, [] => by simp
  | a :: l, b :: k => by
    rw [List.zip_cons_cons, List.map_cons]
    exact (zip_fst_sub l k).cons_cons a
theorem thOf_nodup {ds : Dims} (h : (ds.map (·.1)).Nodup) (keys : List Str) : (thOf ds keys).Nodup := by
  have e : ((thOf ds keys).map (·.1)).Nodup := by
    exact h.sublist (zip_fst_sub _ _)
  exact List.Pairwise.of_map (·.1) (fun a b h z => h (by rw [z])) e
theorem find_dim {ds : Dims} (h : (ds.map (·.1)).Nodup) {d : Str × List (Str × Str)} (hd : d ∈ ds) : ds.find? (fun e => decide (e.1 = d.1)) = some d := by
  induction ds with
  | nil => cases hd
  | cons a l ih =>
    rw [List.map_cons, List.nodup_cons] at h
    rcases List.mem_cons.mp hd with rfl | hd
    · rw [List.find?_cons_of_pos (by simp)]
    · have ne : ¬ a.1 = d.1 := fun z => h.1 (by rw [z]; exact List.mem_map_of_mem (f := (·.1)) hd)
      rw [List.find?_cons_of_neg (by simp [ne])]
      exact ih h.2 hd
theorem thOf_in {ds : Dims} (h : (ds.map (·.1)).Nodup) {keys : List Str} {t : Th} (ht : t ∈ thOf ds keys) : ∃ d, inD ds t d := by
  obtain ⟨⟨d, hd, e⟩, _⟩ := thOf_mem ht
  refine ⟨d, ?_⟩
  unfold inD
  rw [← e]
  exact find_dim h hd
theorem thOf_len (ds : Dims) (keys : List Str) : (thOf ds keys).length ≤ ds.length := by
  unfold thOf
  rw [List.length_zip, List.length_map]
  omega
section
variable {P : Program} {w : World} {K : PySem.W.Frag} {mg : Str → Option Value} {base : Heap} {f : Addr} {fd : FuncData}
theorem HoX.keepF {c : Cn} {MT MS : Addr → Prop} {x dx p th kf tr wd : Addr} {ds : Dims} {ms : List Str} {S : Hs} {fa wa : Str → Addr} {rs : List V} {H : Hp} (h : HoX K c H MT MS x ds ms S dx p th kf tr wd fa wa rs) (o : HO) : Keep (fun b => b ≠ kf) H (upd H kf o) := fun b u eb tb q => by
  by_cases z : b = kf
  · rw [z, h.hf] at eb
    cases eb
    exact q.elim (fun q => absurd q (Chg.notT trivial)) fun q => absurd z q
  · rw [upd_ne z]; exact eb
/-- the facts turned -/
theorem HoX.facts {c : Cn} {MT MS : Addr → Prop} {x dx p th kf tr wd : Addr} {ds : Dims} {ms : List Str} {S : Hs} {fa fa' wa : Str → Addr} {rs : List V} {H H' : Hp} {fs : List (Str × Fct)} (h : HoX K c H MT MS x ds ms S dx p th kf tr wd fa wa rs) (eH : upd H kf (.dK (fs.map fun e => (Sum.inr e.1, .ref (fa' e.1)))) = H')
    (hf : ∀ e ∈ fs, FctAt K H (fa' e.1) e.2) : HoX K c H' MT MS x ds ms { S with facts := fs } dx p th kf tr wd fa' wa rs := by
  have kk := h.keepF (.dK (fs.map fun e => (Sum.inr e.1, .ref (fa' e.1))))
  rw [eH] at kk
  have ks : Keep MS H H' := kk.mono fun b m z => h.f2 (by rw [← z]; exact m)
  have kt : Keep MT H H' := kk.mono fun b m z => h.f1 (by rw [← z]; exact m)
  exact ⟨ks.at h.hx trivial h.sx, h.sx, h.pl.keep ks, h.th.keep kt, by rw [← eH]; exact upd_same, fun e he => (hf e he).keep kk, kk.at h.hr trivial (ne_of h.hr h.hf (fun z => nomatch z)), PySem.Paired.mono (fun _ _ => RwRef.keep kk) h.ri, kk.at h.hw trivial h.fw.symm, fun e he => ⟨(h.wi e he).1, (h.wi e he).2.keep (h.wi e he).1 ks⟩, h.d1, h.f1, h.f2, h.r1, h.r2, h.w1, h.w2, h.fw⟩
end
end Kd

namespace Kd
open PySem PySem.Spec PyProof.Rows L2 LamX
def Hs.fact1 (S : Hs) (ds : Dims) (name : Str) (fc : Fct) : Hs := { S with facts := pt S.facts name fc, ts := (S.ts.meetF ds (thOf ds fc.keys)).1 }
def Hs.fgone (S : Hs) (ds : Dims) (name : Str) (fc : Fct) : List Th := (oldTh ds S name).filter (goneB ds (S.fact1 ds name fc))
def Hs.factS (S : Hs) (ds : Dims) (name : Str) (fc : Fct) : Hs := { S.fact1 ds name fc with ts := (S.fact1 ds name fc).ts.parts (S.fgone ds name fc) }
/-- what a fact asks -/
structure FactOk (ds : Dims) (S : Hs) (fc : Fct) (n m : Nat) : Prop where
  ok : FOk ds S.facts
  fl : S.facts.length < 200
  kx : ∀ z ∈ fc.keys, Tx z
  dn : (ds.map (·.1)).Nodup
  tok : TsOk ds S.ts n m
  hn : n < 199
  hm : m < 3990
  fkn : FKn ds S
theorem FactOk.f1 {ds : Dims} {S : Hs} {fc : Fct} {n m : Nat} (h : FactOk ds S fc n m) (name : Str) : FOk ds (S.fact1 ds name fc).facts := by
  refine ⟨h.ok.d4, h.ok.dx, fun e he => ?_, ?_⟩
  · rcases mem_pt he with rfl | ⟨he, _⟩
    · exact h.kx
    · exact h.ok.fx e he
  · have := pt_length S.facts name fc
    have := h.fl
    show (pt S.facts name fc).length ≤ 200
    omega
theorem old_known {ds : Dims} {S : Hs} (h : FKn ds S) (name : Str) : ∀ t ∈ oldTh ds S name, ∃ vers, lk S.ts.nums t = some vers := fun t ht => by
  unfold oldTh at ht
  cases e : lk S.facts name with
  | none => rw [e] at ht; cases ht
  | some fc => rw [e] at ht; exact h (name, fc) (lk_mem e) t ht
theorem old_tx {ds : Dims} {S : Hs} (h : FOk ds S.facts) (name : Str) : ∀ t ∈ oldTh ds S name, Tx t.1 ∧ Tx t.2 := fun t ht => by
  unfold oldTh at ht
  cases e : lk S.facts name with
  | none => rw [e] at ht; cases ht
  | some fc => rw [e] at ht; exact thOf_tx h.dx (h.fx (name, fc) (lk_mem e)) t ht
theorem old_nodup {ds : Dims} {S : Hs} (h : (ds.map (·.1)).Nodup) (name : Str) : (oldTh ds S name).Nodup := by
  unfold oldTh
  split
  · exact thOf_nodup h _
  · exact List.nodup_nil
theorem old_len {ds : Dims} {S : Hs} (name : Str) : (oldTh ds S name).length ≤ ds.length := by
  unfold oldTh
  split
  · exact thOf_len _ _
  · exact Nat.zero_le _
theorem isSome_ex {α : Type} {o : Option α} (h : o.isSome = true) : ∃ a, o = some a := Option.isSome_iff_exists.mp h
/-- a thing that a kept fact names is not let go -/
theorem not_gone {ds : Dims} {S : Hs} {e : Str × Fct} (he : e ∈ S.facts) {t : Th} (ht : t ∈ thOf ds e.2.keys) : goneB ds S t = false := by
  unfold goneB
  have : fdays ds S.facts t ≠ [] := fun z => by
    have hm : e.2.day ∈ fdays ds S.facts t := List.mem_map.mpr ⟨e, List.mem_filter.mpr ⟨he, decide_eq_true ht⟩, rfl⟩
    rw [z] at hm
    cases hm
  rw [List.isEmpty_eq_false_iff.mpr this, Bool.and_false]
theorem new_known {ds : Dims} {S : Hs} {name : Str} {fc : Fct} : ∀ t ∈ thOf ds fc.keys, ∃ vers, lk (S.factS ds name fc).ts.nums t = some vers := fun t ht => by
  obtain ⟨v, hv⟩ := isSome_ex (meetF_known (ds := ds) (ts := S.ts) (tl := thOf ds fc.keys) (.inr ht))
  refine ⟨v, ?_⟩
  show lk (Ts.parts _ (S.fgone ds name fc)).nums t = some v
  rw [parts_lk, if_neg]
  · exact hv
  · intro z
    have g := (List.mem_filter.mp z).2
    have hm : (name, fc) ∈ (S.fact1 ds name fc).facts := lk_mem (by
      show lk (pt S.facts name fc) name = some fc
      rw [lk_pt, if_pos rfl])
    rw [not_gone hm ht] at g
    cases g
theorem TsOk.parts {ds : Dims} {n m : Nat} : ∀ (tl : List Th) {ts : Ts}, TsOk ds ts n m → TsOk ds (ts.parts tl) n m
  | [], _, h => h
  | t :: tl, _, h => TsOk.parts tl (h.gone t)
section
variable {P : Program} {w : World} {K : PySem.W.Frag} {mg : Str → Option Value} {base : Heap} {f : Addr} {fd : FuncData}
/-! ### House.take_fact -/
def spHFact (K : PySem.W.Frag) (c : Cn) : Sp := fun vs H Q _ => ∃ (x q1 q2 : Addr) (M : Addr → Prop) (ds : Dims) (ms : List Str) (S : Hs) (name : Str) (fc : Fct) (n m : Nat), vs = [.ref x, .str name, .int fc.day, .ref q1, .ref q2] ∧ HoO K c H M x ds ms S ∧ SqT K H q1 (fc.keys.map V.str) ∧ SqT K H q2 (fc.nums.map V.int) ∧ FactOk ds S fc n m ∧ Tabs (tbS c.Pt) H ∧
  ∀ H' M' r' q, Fr (tbS c.Pt) M H H' → Nw M M' H → HoO K c H' M' x ds ms (S.factS ds name fc) → H' r' = some (.tup [.str "fact", .int (S.ts.meetF ds (thOf ds fc.keys)).2.sum, .int ((S.fact1 ds name fc).ts.partsN (S.fgone ds name fc)), .ref q]) → H' q = some (.tup ((thOf ds fc.keys).map fun t => V.int ((S.factS ds name fc).ts.numOn t fc.day))) → Q (.ref r') H'
abbrev N_House_take_fact : List Str := ["self", "name", "day", "keys", "numbers", "replaced", "thing", "came", "went"]
theorem sc_House_take_fact : FnScope N_House_take_fact ["self", "name", "day", "keys", "numbers"] (defScope s_House_take_fact) := ⟨rfl, rfl, rfl, by decide +kernel, rfl, by decide +kernel, by decide +kernel⟩
/-! slots: 0 self 1 name 2 day 3 keys 4 numbers 5 replaced 6 thing 7 came 8 went; cells: self -/
theorem ok_hfact {c : Cn} {fN fM fF fL : Addr} {fdN fdM fdF fdL : FuncData} (F : FnP K "take_fact" "House.take_fact" s_House_take_fact f fd) (TX : HsTxt K c.CH) (c_things_named : Fun P w K mg base "things_named" 2 ["plan", "keys"] (spNamed K c.CP) fN fdN) (mM : MFun P w K mg base c.CT "meet" 6 ["self", "thing"] (spMeet K c.Pt c.CT c.CP) fM fdM) (mF : MFun P w K mg base c.CH "part_from" 4 ["self", "things"] (spPartF K c) fF fdF) (mL : MFun P w K mg base c.CH "led" 3 ["self", "day", "keys"] (spLed K c) fL fdL)
    (z_sum : mg "sum" = none) : FnOk P w K mg base CX0 7 f fd ["self", "name", "day", "keys", "numbers"] (spHFact K c) := by
  refine F.ok sc_House_take_fact (fun vs H Q E h => ?_) (fun cdv A outer s H vs Q E hr h => ?_)
  · obtain ⟨x, q1, q2, M, ds, ms, S, name, fc, n, m, rfl, _⟩ := h
    rfl
  · obtain ⟨x, q1, q2, M, ds, ms, S, name, fc, n, m, rfl, ⟨MT, MS, dx, p, th, kf, tr, wd, fa, wa, rs, rfl, X⟩, hq1, hq2, ok, hT, k⟩ := h
    have nd := sc_House_take_fact.nd
    have hu := hr.units
    have hu1 : (A.deeper (envOfC "House.take_fact" (defScope s_House_take_fact) s.heap.objs.size f cdv)).units + 1 < cLine := by omega
    generalize hcm : (S.ts.meetF ds (thOf ds fc.keys)).2.sum = cm at k
    generalize hwn : (S.fact1 ds name fc).ts.partsN (S.fgone ds name fc) = wn at k
    refine ⟨_, PSs.nox (pss_cons (ps_set (i := 5) nd rfl (Or.inl rfl) (pe_lst pa_nil))
      (pss_cons (ps_if (pt_cmp (pc_din hu1 (pv 1) (pe_fld (pv 0) rfl)))
        (pss_one (ps_set (i := 5) nd rfl (Or.inl rfl) (pe_call c_things_named.G (hr.mono (by decide)) rfl c_things_named.g c_things_named.k c_things_named.b .nil pass0 (pa_cons (pe_fld (pv 0) rfl) (pa_cons (pe_ix ix_tup (pe_dget hu1 (pe_fld (pv 0) rfl) (pv 1) (fun _ _ => rfl)) pe_int (fun _ _ => rfl)) pa_nil)))))
        pss_nil)
      (pss_cons (ps_dput hu1 (pe_fld (pv 0) rfl) (pv 1) (pe_tup (pa_cons (pv 2) (pa_cons (pv 3) (pa_cons (pv 4) pa_nil)))) rfl)
      (pss_cons (ps_set (i := 7) nd rfl (Or.inl rfl) (pe_callB (cr_sum rfl) (by rfl) z_sum (by decide +kernel) (pa_cons (pe_lc (own := [("thing", 6)]) (g := gName 6) (tt := tYes) (te := tMeth c.CT "meet" (spMeet K c.Pt c.CT c.CP) [] E0 (tFld K (tVar 0) "things") (tCons (tVar 6) tNil)) rfl nd (pi_list (pe_call c_things_named.G (hr.mono (by decide)) rfl c_things_named.g c_things_named.k c_things_named.b .nil pass0 (pa_cons (pe_fld (pv 0) rfl) (pa_cons (pv 3) pa_nil)))) (blkOk_by (own := [("thing", 6)]) (N := N_House_take_fact) (sc := defScope s_House_take_fact) (by decide +kernel))
        (fun _ _ _ _ _ => pg_name (i := 6) nd rfl (Or.inl rfl)) (fun _ _ _ _ _ => pts_nil) (fun _ _ _ _ _ => pe_meth (pe_fld (pv 0) rfl) mM.cl mM.m mM.G (hr.mono (by decide)) mM.b .nil pass0 (pa_cons (pv 6) pa_nil))) pa_nil)))
      (pss_cons (ps_set (i := 8) nd rfl (Or.inl rfl) (pe_meth (pv 0) mF.cl mF.m mF.G (hr.mono (by decide)) mF.b .nil pass0 (pa_cons (pv 5) pa_nil)))
      (pss_one (ps_ret (pe_tup (pa_cons pe_str (pa_cons (pv 7) (pa_cons (pv 8) (pa_cons (pe_meth (pv 0) mL.cl mL.m mL.G (hr.mono (by decide)) mL.b .nil pass0 (pa_cons (pv 2) (pa_cons (pv 3) pa_nil))) pa_nil)))))))))))), ?_⟩
    refine ⟨by show 0 ≤ sizeLine; decide, fun l0 n0 => ?_⟩
    generalize e0 : upd H l0 _ = H0
    obtain ⟨s0, el0⟩ := new_of n0 e0
    refine set_sl (σ' := [some (.ref x), some (.str name), some (.int fc.day), some (.ref q1), some (.ref q2), some (.ref l0), none, none, none]) rfl ?_
    dsimp only [tSeq]
    refine join_if (fun σ R => ∃ lr xs, σ = [some (.ref x), some (.str name), some (.int fc.day), some (.ref q1), some (.ref q2), some (.ref lr), none, none, none] ∧ Same H R ∧ R lr = some (.lst xs) ∧ H lr = none ∧ Paired (ThAt R) xs (oldTh ds S name)) ?_ ?_
    · rintro σ1 H1 ⟨lr, xr, rfl, s1, elr, nlr, pxr⟩
      have X1 := X.same s1
      refine ⟨_, rfl, _, rfl, _, rfl, by show 3 ≤ sizeLine; decide, fun tq ntq => ?_⟩
      generalize e2 : upd H1 tq _ = H2
      obtain ⟨s2, etq⟩ := new_of ntq e2
      have X2 := X1.same s2
      have s02 := s1.trans s2
      have lf : (S.facts.map fun e => ((Sum.inr e.1 : L2.Key), V.ref (fa e.1))).length < sizeLine := by rw [List.length_map]; exact Nat.lt_trans ok.fl (by decide)
      refine ⟨_, rfl, x, c.CH, dx, _, _, rfl, X2.hx, TX.cl, TX.nF, hs_facts p th kf tr wd, _, rfl, kf, _, rfl, DPut.k (k := Sum.inr name) X2.hf lf, ?_⟩
      generalize e3 : upd H2 kf _ = H3
      obtain ⟨f3, _, o3⟩ := put_of (T := tbS c.Pt) (N := hoM MT MS kf tr wd) X2.hf trivial (.inr (.inr (.inl rfl))) e3
      have em := map_pt (g := fun n : Str => (Sum.inr n : L2.Key)) (r := fun n => V.ref (fa n)) (r' := fun n => V.ref (if n = name then tq else fa n)) inr_inj (k := name) (b := fc) (fun t h => by rw [if_neg h]) (ms := S.facts)
      rw [if_pos rfl] at em
      have X3 := X2.facts (H' := H3) (fa' := fun n => if n = name then tq else fa n) (fs := pt S.facts name fc) (by rw [em]; exact e3) (fun e he => by
        rcases mem_pt he with rfl | ⟨he, ne⟩
        · show FctAt K H2 (if name = name then tq else fa name) fc
          rw [if_pos rfl]
          exact ⟨q1, q2, SqT.of etq, Same.seqT s02 hq1, Same.seqT s02 hq2⟩
        · show FctAt K H2 (if e.1 = name then tq else fa e.1) e.2
          rw [if_neg ne]
          exact X2.fi e he)
      refine ⟨_, rfl, x, c.CH, dx, _, _, rfl, X3.hx, TX.cl, TX.nP, hs_plan p th kf tr wd, _, rfl, p, q1, fc.keys, ds, ms, rfl, X3.pl.at, f3.seqT (Same.seqT s02 hq1), ok.ok.d4, fun ln xs H4 s4 nln eln pn => ?_⟩
      have X4 := X3.same s4
      have f04 : Fr (tbS c.Pt) (hoM MT MS kf tr wd) H H4 := ((Fr.of s02).trans f3).trans (Fr.of s4)
      have lth : (thOf ds fc.keys).length ≤ 4 := Nat.le_trans (thOf_len _ _) ok.ok.d4
      have hin : ∀ t ∈ thOf ds fc.keys, ∃ d, inD ds t d := fun t ht => thOf_in ok.dn ht
      have lxs : xs.length = (thOf ds fc.keys).length := pn.length
      have nMl : ¬ MT ln := fun z => X3.live.notN nln (.inl z)
      have T4 : Tabs (tbS c.Pt) H4 := f04.tb hT
      refine ⟨ln, rfl, ⟨_, SqL.of eln⟩, fun D nD => ?_⟩
      have nMD : ¬ MT D := fun z => X4.live.notN nD (.inl z)
      refine lc_build (walk_list (K := K) (a := ln) (xs := xs)) nD (fun i ys R => ∃ MTi : Addr → Prop, ys = (S.ts.meetF ds ((thOf ds fc.keys).take i)).2.map V.int ∧ ThO K c.CT R MTi th p (S.ts.meetF ds ((thOf ds fc.keys).take i)).1 ∧ Fr (tbS c.Pt) MT H4 R ∧ Nw MT MTi H4 ∧ ¬ MTi D) ⟨MT, rfl, X4.th, Fr.refl, Nw.refl, nMD⟩ (fun i ys R _ z => ?_) ?_ ?_
      · obtain ⟨MTi, _, _, fr, _, _⟩ := z
        exact SqL.of (cd_sub _ _ (fr.at eln trivial nMl))
      · rintro i ys y R R' hi e5 ly ⟨MTi, rfl, hTi, fr, nw, nDi⟩ ⟨rfl, hy⟩
        obtain ⟨t, ht, r, rfl, h1⟩ := paired_at pn hy
        obtain ⟨d, hd⟩ := hin t (List.mem_of_getElem? ht)
        have tki := meetF_ok ok.tok hin i (by omega)
        have emt := meetF_take (ds := ds) (ts := S.ts) ht
        have ew : wsOf ds t.1 = d.2.map (·.2) := wsOf_some hd
        generalize hacc : S.ts.meetF ds ((thOf ds fc.keys).take i) = acc at *
        have hxR : R' x = some (.ins c.CH dx (hsF p th kf tr wd)) := cd_sub _ _ (fr.at X4.hx trivial (X.d1 x X.sx))
        obtain ⟨dxt, kd, nb, ka, na, XT⟩ := hTi.x
        have apt : ∀ b, MS b → ¬ MTi b := nw.apart X4.pl.1 X.d1
        refine ⟨rfl, yes ?_⟩
        refine ⟨_, rfl, x, c.CH, dx, _, _, rfl, hxR, TX.cl, TX.nT, hs_things p th kf tr wd, th, dxt, _, rfl, cd_sub _ _ XT.hx, th_no (by decide +kernel) (by decide +kernel) (by decide +kernel) (by decide +kernel), _, rfl, th, p, r, MTi, MS, acc.1, ds, ms, t, d, rfl, hTi.same cd_sub, (X4.pl.keep (fr.keep X.d1)).keep (Keep.of cd_sub), apt, cd_sub _ _ (fr.tup h1), tki.num (by have := ok.hn; omega) (by have := ok.hm; omega) hd, (fr.tb T4).ext cd_sub, fun H5 MT5 f5 nw5 O5 => ?_⟩
        have e6 := f5.at e5 trivial nDi
        have nD5 : ¬ MT5 D := fun z => (nw5 D z).elim nDi fun q => q _ e5 (Chg.noTb trivial)
        refine LcNx.add e6 ly (by omega) ⟨MT5, ?_, ?_, fr.transN nw (f5.cd e6), fun b hb => ?_, nD5⟩
        · rw [emt]
          unfold meetStep
          rw [List.map_append, ew]
          rfl
        · rw [emt]
          unfold meetStep
          rw [ew]
          exact O5.keep (keep_cd e6 nD5)
        · rcases nw5 b hb with z | z
          · exact nw b z
          · by_cases mb : MT b
            · exact .inl mb
            · exact .inr (z.back (fr.trans (Fr.of cd_sub)) mb)
      · rintro ys H6 e6 ly ⟨MT6, rfl, hT6, fr6, nw6, nD6⟩
        rw [lxs, List.take_length] at e6 hT6
        refine ⟨D, _, rfl, SqL.of e6, ?_⟩
        rw [hcm]
        refine set_sl (σ' := [some (.ref x), some (.str name), some (.int fc.day), some (.ref q1), some (.ref q2), some (.ref lr), none, some (.int cm), none]) rfl ?_
        have f46 : Fr (tbS c.Pt) MT H4 H6 := fr6.trans (Fr.of cd_sub)
        obtain ⟨X6, F6, NW6⟩ := X4.turn f46 nw6 (hT6.same cd_sub)
        have X6 : HoX K c H6 MT6 MS x ds ms (S.fact1 ds name fc) dx p th kf tr wd _ wa rs := X6
        have nlM : ¬ hoM MT MS kf tr wd lr := X.live.notN nlr
        have elr2 : H2 lr = some (.lst xr) := s2 _ _ elr
        have nlk : lr ≠ kf := ne_of elr2 X2.hf (fun z => nomatch z)
        have elr4 : H4 lr = some (.lst xr) := s4 _ _ (by rw [o3 lr nlk]; exact elr2)
        have elr6 : H6 lr = some (.lst xr) := f46.at elr4 trivial fun z => nlM (.inl z)
        have nlM6 : ¬ hoM MT6 MS kf tr wd lr := fun z => (NW6 lr z).elim nlM fun q => q _ elr4 (Chg.noTb trivial)
        have kp16 : Keep no H1 H6 := (((Fr.of s2).trans f3).trans (Fr.of s4)).keep0.trans f46.keep0
        have pxr6 : Paired (ThAt H6) xr (oldTh ds S name) := PySem.Paired.mono (fun _ _ ⟨r, e, h⟩ => ⟨r, e, kp16.tup h⟩) pxr
        have okn : ∀ t ∈ oldTh ds S name, Tx t.1 ∧ Tx t.2 ∧ ∃ vers, lk (S.fact1 ds name fc).ts.nums t = some vers := fun t ht => by
          obtain ⟨v, hv⟩ := old_known ok.fkn name t ht
          refine ⟨(old_tx ok.ok name t ht).1, (old_tx ok.ok name t ht).2, isSome_ex (meetF_known (.inl ?_))⟩
          rw [hv]
          rfl
        refine ⟨_, rfl, x, dx, _, rfl, X6.hx, hs_no (by decide +kernel), _, rfl, x, lr, _, ds, ms, S.fact1 ds name fc, xr, oldTh ds S name, rfl, X6.o, elr6, nlM6, pxr6, by have := old_len (ds := ds) (S := S) name; have := ok.ok.d4; omega, old_nodup ok.dn name, okn, ok.f1 name, fun H7 f7 O7 => ?_⟩
        show gName _ (.int ((S.fact1 ds name fc).ts.partsN (S.fgone ds name fc))) _ _ _
        rw [hwn]
        refine set_sl (σ' := [some (.ref x), some (.str name), some (.int fc.day), some (.ref q1), some (.ref q2), some (.ref lr), none, some (.int cm), some (.int wn)]) rfl ?_
        have O7 : HoO K c H7 (hoM MT6 MS kf tr wd) x ds ms (S.factS ds name fc) := O7
        have tok6 : TsOk ds (S.fact1 ds name fc).ts n (m + (thOf ds fc.keys).length) := by
          have := meetF_ok ok.tok hin (thOf ds fc.keys).length (Nat.le_refl _)
          rw [List.take_length] at this
          exact this
        have f06 := f04.trans F6
        have nw06 : Nw (hoM MT MS kf tr wd) (hoM MT6 MS kf tr wd) H := fun b hb => (NW6 b hb).elim .inl fun z => (Classical.em (hoM MT MS kf tr wd b)).imp id fun nb => z.back f04 nb
        have f07 := f06.transN nw06 f7
        have hkn : ∀ t ∈ thOf ds fc.keys, Known (S.factS ds name fc).ts fc.day t := fun t ht => by
          obtain ⟨v, hv⟩ := new_known (S := S) (name := name) t ht
          exact (TsOk.parts _ tok6).known (by have := ok.hn; omega) hv fc.day
        obtain ⟨MT7, MS7, dx7, p7, th7, kf7, tr7, wd7, fa7, wa7, rs7, eM7, X7⟩ := id O7
        refine ⟨_, rfl, _, rfl, _, rfl, x, dx7, _, rfl, X7.hx, hs_no (by decide +kernel), _, rfl, _, rfl, x, q1, _, ds, ms, _, fc.day, fc.keys, rfl, O7, f07.seqT hq1, ok.ok.d4, hkn, fun rl H8 s8 hrl => ?_⟩
        refine ⟨by show 4 ≤ sizeLine; decide, fun r' nr' => ?_⟩
        generalize e9 : upd H8 r' _ = H9
        obtain ⟨s9, er9⟩ := new_of nr' e9
        exact k H9 (hoM MT6 MS kf tr wd) r' rl (f07.trans (Fr.of (s8.trans s9))) nw06 (O7.same (s8.trans s9)) er9 (s9 _ _ hrl)
    · intro go
      have X0 := X.same s0
      refine ⟨_, rfl, _, rfl, x, c.CH, dx, _, _, rfl, X0.hx, TX.cl, TX.nF, hs_facts p th kf tr wd, kf, _, rfl, DGet.k (k := Sum.inr name) X0.hf, _, rfl, ?_⟩
      have ev := val_map (r := fun n => V.ref (fa n)) (g := fun n : Str => (Sum.inr n : L2.Key)) inr_inj (k := name) (ms := S.facts)
      rw [ev]
      cases e : lk S.facts name with
      | none => exact iteF (go _ _ ⟨l0, [], rfl, s0, el0, n0, by unfold oldTh; rw [e]; exact .nil⟩)
      | some f0 =>
        refine iteT ?_
        rw [e] at ev
        obtain ⟨p1, p2, a1, a2, a3⟩ := X0.fi (name, f0) (lk_mem e)
        refine ⟨_, rfl, x, c.CH, dx, _, _, rfl, X0.hx, TX.cl, TX.nP, hs_plan p th kf tr wd, _, rfl, x, c.CH, dx, _, _, rfl, X0.hx, TX.cl, TX.nF, hs_facts p th kf tr wd, _, rfl, kf, _, rfl, .inl ⟨_, Sum.inr name, .inl X0.hf, rfl, ev.symm⟩, fa name, _, _, _, rfl, rfl, a1, atI_nat (j := 1) rfl, p, p1, f0.keys, ds, ms, rfl, X0.pl.at, a2, ok.ok.d4, fun ln xs H1 s1 nln eln pn => ?_⟩
        refine set_sl (σ' := [some (.ref x), some (.str name), some (.int fc.day), some (.ref q1), some (.ref q2), some (.ref ln), none, none, none]) rfl ?_
        exact go _ _ ⟨ln, xs, rfl, s0.trans s1, eln, s0.free nln, by unfold oldTh; rw [e]; exact pn⟩
end
end Kd

namespace Kd
open PySem PySem.Spec PyProof.Rows L2 LamX
def Hs.drop1 (S : Hs) (name : Str) : Hs := { S with facts := dp S.facts name }
def Hs.dgone (S : Hs) (ds : Dims) (name : Str) (fc : Fct) : List Th := (thOf ds fc.keys).filter (goneB ds (S.drop1 name))
def Hs.forgetS (S : Hs) (ds : Dims) (name : Str) (fc : Fct) : Hs := { S.drop1 name with ts := S.ts.parts (S.dgone ds name fc) }
theorem FOk.drop {ds : Dims} {fs : List (Str × Fct)} (h : FOk ds fs) (name : Str) : FOk ds (dp fs name) :=
  ⟨h.d4, h.dx, fun e he => h.fx e (mem_dp.mp he).1, Nat.le_trans (dp_length _ _) h.fl⟩
section
variable {P : Program} {w : World} {K : PySem.W.Frag} {mg : Str → Option Value} {base : Heap} {f : Addr} {fd : FuncData}
/-! ### House.take_forget -/
def spHForget (K : PySem.W.Frag) (c : Cn) : Sp := fun vs H Q _ => ∃ (x : Addr) (M : Addr → Prop) (ds : Dims) (ms : List Str) (S : Hs) (name : Str) (fc : Fct), vs = [.ref x, .str name] ∧ HoO K c H M x ds ms S ∧ lk S.facts name = some fc ∧ FOk ds S.facts ∧ (ds.map (·.1)).Nodup ∧ FKn ds S ∧
  ∀ H' r', Fr (tbS c.Pt) M H H' → HoO K c H' M x ds ms (S.forgetS ds name fc) → H' r' = some (.tup [.str "forget", .int (S.ts.partsN (S.dgone ds name fc))]) → Q (.ref r') H'
abbrev N_House_take_forget : List Str := ["self", "name", "day", "keys", "numbers"]
theorem sc_House_take_forget : FnScope N_House_take_forget ["self", "name"] (defScope s_House_take_forget) := ⟨rfl, rfl, rfl, by decide +kernel, rfl, by decide +kernel, by decide +kernel⟩
/-! slots: 0 self 1 name 2 day 3 keys 4 numbers; cells:  -/
theorem ok_hforget {c : Cn} {fN fF : Addr} {fdN fdF : FuncData} (F : FnP K "take_forget" "House.take_forget" s_House_take_forget f fd) (TX : HsTxt K c.CH) (c_things_named : Fun P w K mg base "things_named" 2 ["plan", "keys"] (spNamed K c.CP) fN fdN) (mF : MFun P w K mg base c.CH "part_from" 4 ["self", "things"] (spPartF K c) fF fdF) : FnOk P w K mg base CX0 5 f fd ["self", "name"] (spHForget K c) := by
  refine F.ok sc_House_take_forget (fun vs H Q E h => ?_) (fun cdv A outer s H vs Q E hr h => ?_)
  · obtain ⟨x, M, ds, ms, S, name, fc, rfl, _⟩ := h
    rfl
  · obtain ⟨x, M, ds, ms, S, name, fc, rfl, ⟨MT, MS, dx, p, th, kf, tr, wd, fa, wa, rs, rfl, X⟩, hlk, ok, dn, fkn, k⟩ := h
    have nd := sc_House_take_forget.nd
    generalize hwn : S.ts.partsN (S.dgone ds name fc) = wn at k
    refine ⟨_, PSs.nox (pss_cons (ps_asg (pe_dpop1 (pe_fld (pv 0) rfl) (pv 1) ⟨rfl, rfl, rfl, rfl⟩) (pg_tup rfl (pgs_cons (pg_name (i := 2) nd rfl (Or.inl rfl)) (pgs_cons (pg_name (i := 3) nd rfl (Or.inl rfl)) (pgs_cons (pg_name (i := 4) nd rfl (Or.inl rfl)) pgs_nil)))))
      (pss_one (ps_ret (pe_tup (pa_cons pe_str (pa_cons (pe_meth (pv 0) mF.cl mF.m mF.G (hr.mono (by decide)) mF.b .nil pass0 (pa_cons (pe_call c_things_named.G (hr.mono (by decide)) rfl c_things_named.g c_things_named.k c_things_named.b .nil pass0 (pa_cons (pe_fld (pv 0) rfl) (pa_cons (pv 3) pa_nil))) pa_nil)) pa_nil)))))), ?_⟩
    have ev := val_map (r := fun n => V.ref (fa n)) (g := fun n : Str => (Sum.inr n : L2.Key)) inr_inj (k := name) (ms := S.facts)
    rw [hlk] at ev
    obtain ⟨p1, p2, a1, a2, a3⟩ := X.fi (name, fc) (lk_mem hlk)
    refine ⟨_, rfl, x, c.CH, dx, _, _, rfl, X.hx, TX.cl, TX.nF, hs_facts p th kf tr wd, kf, rfl, .inl ⟨_, .inl X.hf⟩, _, rfl, _, Sum.inr name, _, X.hf, rfl, ev, ?_⟩
    generalize e1 : upd H kf _ = H1
    obtain ⟨f1, _, o1⟩ := put_of (T := tbS c.Pt) (N := hoM MT MS kf tr wd) X.hf trivial (.inr (.inr (.inl rfl))) e1
    have em := map_dp (g := fun n : Str => (Sum.inr n : L2.Key)) (r := fun n => V.ref (fa n)) inr_inj (k := name) (ms := S.facts)
    have X1 := X.facts (H' := H1) (fa' := fa) (fs := dp S.facts name) (by rw [em]; exact e1) (fun e he => X.fi e (mem_dp.mp he).1)
    have X1 : HoX K c H1 MT MS x ds ms (S.drop1 name) dx p th kf tr wd fa wa rs := X1
    refine ⟨fa name, _, rfl, f1.seqT a1, rfl, _, _, rfl, _, _, rfl, _, _, rfl, rfl, ?_⟩
    refine sl_eq (σ' := [some (.ref x), some (.str name), some (.int fc.day), some (.ref p1), some (.ref p2)]) rfl ?_
    refine ⟨_, rfl, x, dx, _, rfl, X1.hx, hs_no (by decide +kernel), _, rfl, x, c.CH, dx, _, _, rfl, X1.hx, TX.cl, TX.nP, hs_plan p th kf tr wd, _, rfl, p, p1, fc.keys, ds, ms, rfl, X1.pl.at, f1.seqT a2, ok.d4, fun ln xs H2 s2 nln eln pn => ?_⟩
    have X2 := X1.same s2
    have tx := thOf_tx ok.dx (ok.fx (name, fc) (lk_mem hlk))
    refine ⟨x, ln, _, ds, ms, S.drop1 name, xs, thOf ds fc.keys, rfl, X2.o, eln, X1.live.notN nln, pn, by have := thOf_len ds fc.keys; have := ok.d4; omega, thOf_nodup dn _, fun t ht => ⟨(tx t ht).1, (tx t ht).2, fkn (name, fc) (lk_mem hlk) t ht⟩, ok.drop name, fun H3 f3 O3 => ?_⟩
    refine ⟨by show 2 ≤ sizeLine; decide, fun r' nr' => ?_⟩
    generalize e4 : upd H3 r' _ = H4
    obtain ⟨s4, er⟩ := new_of nr' e4
    have er2 : H4 r' = some (.tup [.str "forget", .int (S.ts.partsN (S.dgone ds name fc))]) := er
    rw [hwn] at er2
    exact k H4 r' (((f1.trans (Fr.of s2)).trans f3).trans (Fr.of s4)) (O3.same s4) er2
end
end Kd

namespace KdXc
open PySem PySem.Spec PyProof.Rows L2
/-! ### C(e, ..) in a try's body, where C's __init__ may raise -/
section
variable {X : Cx} {CX : CXT} {k : Nat} {f C : Addr} {fd : FuncData} {ps : List Str} {sp : Sp} {dvs : List V} {ds : List Value} {E : L2.St → XK} {x : Str} {p pos : Pos} {e : Expr} {es : List Expr} {t : TA}
end
/-! ### what the head says of a refusal's class -/
def oexB (K : PySem.W.Frag) (C : Addr) : Bool := match K.lookup C with
  | some ⟨.type c, _, .cls cd, sl⟩ => decide (c = "type") && (match cd.mro, sl.toList with
    | .ref D :: bm, [_, _, _, _, some (.builtin n), _] => decide (D = C) && (decide (n = "ValueError.__new__") && (!cd.hasDel && (cd.hasDict && PySem.HandSPX.refsVE bm)))
    | _, _ => false)
  | _ => false
theorem oexB_ok {K : PySem.W.Frag} {C : Addr} (h : oexB K C = true) : ∃ nm q N bs bm sn sub ab col dd k0 k1 k2 k3 k5, K.lookup C = some (excClassObj nm q C N bs bm true sn sub ab col dd k0 k1 k2 k3 k5 "ValueError.__new__") ∧ PySem.HandSPX.refsVE bm = true := by
  unfold oexB at h
  split at h
  · rename_i c dd cd sl ho
    obtain ⟨hc, h⟩ := He.ba h
    have hc : c = "type" := of_decide_eq_true hc
    split at h
    · rename_i D bm k0 k1 k2 k3 n k5 hm hs
      obtain ⟨h1, h⟩ := He.ba h
      obtain ⟨h2, h⟩ := He.ba h
      obtain ⟨h3, h⟩ := He.ba h
      obtain ⟨h4, h5⟩ := He.ba h
      have e1 : D = C := of_decide_eq_true h1
      have e2 : n = "ValueError.__new__" := of_decide_eq_true h2
      have e3 : cd.hasDel = false := by simpa using h3
      obtain ⟨nm, bs, mro, ns, qn, hd, sn, sub, ab, col, del⟩ := cd
      dsimp only at hm e3 h4
      subst hc e1 e2 e3 h4 hm
      have hsl : sl = #[k0, k1, k2, k3, some (.builtin "ValueError.__new__"), k5] := by
        obtain ⟨l⟩ := sl
        simp only at hs
        rw [hs]
      subst hsl
      exact ⟨nm, qn, ns, bs, bm, sn, sub, ab, col, dd, k0, k1, k2, k3, k5, ho, h5⟩
    · cases h
  · cases h
structure ErrC (K : PySem.W.Frag) (C fI : Addr) : Prop where
  o : OexC K C
  iC : PySem.W.findIn K (.ref C) "__init__" = some (some (.ref fI))
  tI : PySem.W.typeIn K (.ref fI) = some (.type "function")
  nW : PySem.W.findIn K (.ref C) "what" = some none
  nN : PySem.W.findIn K (.ref C) "name" = some none
  x : XfC K C
  em : PySem.W.exmOne K (.ref C) (.ref C) = some true
  ca : PySem.W.findIn K (.ref C) "__class__" = some (some (.builtin "object.__class__"))
  cn : PySem.W.specialIn K (.builtin "object.__class__") "__get__" = some (some (.builtin "getset_descriptor.__get__"))
  ct : PySem.W.takesIn K (.builtin "object.__class__") = some true
  cm : PySem.W.mroIn K C (.type "object") = some true
  cs : (PySem.W.clsIn K C).isSome = true
def errB (K : PySem.W.Frag) (C fI : Addr) : Bool := oexB K C && (He.eqO (PySem.W.findIn K (.ref C) "__setattr__") (some (some (.builtin "object.__setattr__"))) && (decide (PySem.W.subIn K (.ref C) (.type "BaseException") = some true) && (decide (PySem.W.typeIn K (.ref C) = some (.type "type")) &&
  (PySem.W.keepIn K (.ref C) && (He.eqO (PySem.W.findIn K (.ref C) "__init__") (some (some (.ref fI))) && (decide (PySem.W.typeIn K (.ref fI) = some (.type "function")) && (He.eqO (PySem.W.findIn K (.ref C) "what") (some none) && (He.eqO (PySem.W.findIn K (.ref C) "name") (some none) &&
  (xfB K C && (decide (PySem.W.exmOne K (.ref C) (.ref C) = some true) && (He.eqO (PySem.W.findIn K (.ref C) "__class__") (some (some (.builtin "object.__class__"))) && (He.eqO (PySem.W.specialIn K (.builtin "object.__class__") "__get__") (some (some (.builtin "getset_descriptor.__get__"))) &&
  (decide (PySem.W.takesIn K (.builtin "object.__class__") = some true) && (decide (PySem.W.mroIn K C (.type "object") = some true) && (PySem.W.clsIn K C).isSome))))))))))))))
theorem errB_ok {K : PySem.W.Frag} {C fI : Addr} (h : errB K C fI = true) : ErrC K C fI := by
  obtain ⟨h1, h⟩ := He.ba h
  obtain ⟨h2, h⟩ := He.ba h
  obtain ⟨h3, h⟩ := He.ba h
  obtain ⟨h4, h⟩ := He.ba h
  obtain ⟨h5, h⟩ := He.ba h
  obtain ⟨h6, h⟩ := He.ba h
  obtain ⟨h7, h⟩ := He.ba h
  obtain ⟨h8, h⟩ := He.ba h
  obtain ⟨h9, h⟩ := He.ba h
  obtain ⟨h10, h⟩ := He.ba h
  obtain ⟨h11, h⟩ := He.ba h
  obtain ⟨h12, h⟩ := He.ba h
  obtain ⟨h13, h⟩ := He.ba h
  obtain ⟨h14, h⟩ := He.ba h
  obtain ⟨h15, h16⟩ := He.ba h
  exact ⟨⟨oexB_ok h1, He.eqO_ok h2, of_decide_eq_true h3, of_decide_eq_true h4, h5⟩, He.eqO_ok h6, of_decide_eq_true h7, He.eqO_ok h8, He.eqO_ok h9, xfB_ok h10, of_decide_eq_true h11, He.eqO_ok h12, He.eqO_ok h13, of_decide_eq_true h14, of_decide_eq_true h15, h16⟩
/-- DayError.__init__ as an attribute of its class, and ValueError's -/
def valB (o : Option PySem.W.CFound) (v : Value) : Bool := match o with
  | some (.val u) => decide (u = v)
  | _ => false
theorem valB_ok {o : Option PySem.W.CFound} {v : Value} (h : valB o v = true) : o = some (.val v) := by
  unfold valB at h
  split at h
  · rw [of_decide_eq_true h]
  · cases h
def cfnB (K : PySem.W.Frag) (C f : Addr) (m : Str) : Bool := He.eqO (PySem.W.specialIn K (.ref C) "__getattribute__") (some (some (.builtin "type.__getattribute__"))) && (PySem.W.readsIn K C (.type "type") && (valB (PySem.W.findCls K (.ref C) (.type "type") m) (.ref f) && PySem.W.keepIn K (.ref f)))
theorem cfnB_ok {K : PySem.W.Frag} {C f : Addr} {m : Str} (h : cfnB K C f m = true) : KdEx.ClsFn K C f m := by
  obtain ⟨h1, h⟩ := He.ba h
  obtain ⟨h2, h⟩ := He.ba h
  obtain ⟨h3, h4⟩ := He.ba h
  exact ⟨He.eqO_ok h1, h2, valB_ok h3, h4⟩
def veB (K : PySem.W.Frag) : Bool := valB (PySem.W.findCls K (.type "ValueError") (.type "type") "__init__") (.builtin "ValueError.__init__")
/-! ### isinstance of a caught refusal -/
/-! ### a refusal is made -/
/-- C(e), C's own __init__ keeping the promise of a refusal: its dict is new and holds fs -/
def spErr (K : PySem.W.Frag) (C : Addr) (fs : V → List (Str × V)) (Ok : V → Hp → Prop) : Sp := fun vs H Q _ => ∃ (a : Addr) (v : V), vs = [.ref a, v] ∧ H a = some (exo a C none) ∧ Ok v H ∧
  ∀ (d : Addr) (H' : Hp), H d = none → d ≠ a → H' a = some (exo a C (some d)) → H' d = some (exd d (fs v)) → (∀ b, b ≠ a → b ≠ d → H' b = H b) → Q .non H'
theorem err_ok {K : PySem.W.Frag} {C : Addr} {fs : V → List (Str × V)} {Ok : V → Hp → Prop} {H1 : Hp} {v : V} {Q : XK} (ok : ∀ a, H1 a = none → Ok v (upd H1 a (exo a C none))) (k : ∀ d, H1 d = none → Q (.ref C) (some d) (upd H1 d (.xd (fs v)))) :
    [v].length ≤ 1000 ∧ ∀ a, H1 a = none → spErr K C fs Ok (.ref a :: ([v] ++ [])) (upd H1 a (exo a C none))
      (fun u H2 => u = .non ∧ ∃ (d : Addr) (gs : List (Str × V)), H2 a = some (exo a C (some d)) ∧ H2 d = some (exd d gs) ∧ H1 d = none ∧ Q (.ref C) (some d) (upd (del H2 a) d (.xd gs))) (fun _ _ _ => False) := by
  refine ⟨by show 1 ≤ 1000; decide, fun a ha => ⟨a, v, rfl, upd_same, ok a ha, fun d H' hd nd e1 e2 rest => ⟨rfl, d, fs v, e1, e2, ?_, ?_⟩⟩⟩
  · rw [upd_ne nd] at hd
    exact hd
  · have hd1 : H1 d = none := by
      rw [upd_ne nd] at hd
      exact hd
    have eq : upd (del H' a) d (.xd (fs v)) = upd H1 d (.xd (fs v)) := by
      funext b
      by_cases hb : b = d
      · rw [hb, upd_same, upd_same]
      · rw [upd_ne hb, upd_ne hb]
        by_cases hba : b = a
        · rw [hba, del_same, ha]
        · rw [del_ne hba, rest b hba hb, upd_ne hba]
    rw [eq]
    exact k d hd1
/-- raise C(e): its making -/
theorem pmk_err {X : Cx} {x : Str} {C fI : Addr} {k : Nat} {fd : FuncData} {ps : List Str} {fs : V → List (Str × V)} {Ok : V → Hp → Prop} {e : Expr} {te : TE} {p pos : Pos} (T : ErrC X.K C fI)
    (G : FnOk X.prog X.w X.K X.mg X.base CX0 k fI fd ps (spErr X.K C fs Ok)) (hr : Room (k + 1) X.A) (hb : Binds X.K fd ps []) (hg : Gl X x) (hm : X.mg x = some (.ref C)) (he : PE X e te)
    (hdb : (x == ("__debug__" : Str)) = false := by decide) (hs : starEach [e] X.env = (false, eval e X.env) :: starEach [] X.env := by rfl) (hpl : (backTo pos (starEach [] X.env)).any (·.1) = false := by rfl) :
    PMk X (.Call (.Name x p) [e] [] pos) (tMkO C (spErr X.K C fs Ok) [] (tCons te tNil)) :=
  pmk_oex T.o T.iC T.tI G hr hb .nil pass0 hg hm (pa_cons he pa_nil hs) hdb hs hpl
/-! ### x in [y], by an own == -/
section
variable {X : Cx} {CX : CXT} {n : Nat} {C f : Addr} {fd : FuncData} {ps : List Str} {sp : Sp} {E : XK}
open MeetsSeq MeetsSeq2 MeetsSeq3 SeqRoads2 in
end
end KdXc

set_option maxHeartbeats 4000000
namespace KdXv
open PySem PySem.W PySem.Calls PyProof.Rows PySem.HandSPX
open Builtin Builtin.ObjectAttr
/-! ### C(k = v), C an own class over ValueError with an __init__ -/
section
variable {M : Model} {prog : Program} {w : World} {A : Around} {E : Value → Shared → Prop} {R : Result → Shared → Prop} {h : Heap} {g : Array GenState} {d : Drawn} {t : Nat} {os : OsState} {kw : List (Str × Value)}
variable {nm q : Str} {C N : Addr} {bs bm bmB : List Value} {hdct : Bool} {sn : List Str} {sub : List Value} {ab : Bool} {col : Option Bool} {dd : Option Addr} {k0 k1 k2 k3 k5 : Option Value} {B newId initId : String}
end
end KdXv
namespace KdXv
open PySem PySem.Spec PyProof.Rows L2 KdXc
/-! ### a refusal's field, as it is made -/
end KdXv

namespace Kd
open PySem PySem.Spec PyProof.Rows L2 KdXc
section
variable {P : Program} {w : World} {K : PySem.W.Frag} {mg : Str → Option Value} {base : Heap} {f : Addr} {fd : FuncData}
/-! ### a refusal's __init__ -/
def dayF (v : V) : List (Str × V) := [("name", .str "DayError"), ("what", v)]
def noF (nm : Str) (v : V) : List (Str × V) := ("name", .str nm) :: dayF v
abbrev RepOk (K : PySem.W.Frag) (v : V) (H : Hp) : Prop := KdRp.Rep2 K v H
theorem sc_DayError : FnScope ["self", "what"] ["self", "what"] (defScope s_DayError_init) := ⟨rfl, rfl, rfl, by decide +kernel, rfl, by decide +kernel, by decide +kernel⟩
theorem ok_DayError {C fI : Addr} (F : FnP K "__init__" "DayError.__init__" s_DayError_init f fd) (T : ErrC K C fI) (z_ValueError : mg "ValueError" = none) (vV : PySem.W.findCls K (.type "ValueError") (.type "type") "__init__" = some (.val (.builtin "ValueError.__init__"))) (z_repr : mg "repr" = none) :
    FnOk P w K mg base CX0 1 f fd ["self", "what"] (spErr K C dayF (RepOk K)) := by
  refine F.ok sc_DayError (fun vs H Q E h => ?_) (fun cdv A outer s H vs Q E hr h => ?_)
  · obtain ⟨a, v, rfl, _⟩ := h
    rfl
  · obtain ⟨a, v, rfl, ha, hv, k⟩ := h
    have nd := sc_DayError.nd
    refine ⟨_, PSs.nox (pss_cons (ps_expr (pe_veinit rfl z_ValueError vV (pa_cons (pv 0) (pa_cons (pe_callB (KdRp.cr_rep2 hr.units) (by rfl) z_repr (by decide +kernel) (pa_cons (pv 1) pa_nil)) pa_nil))))
      (pss_cons (ps_ost (pv 0) (pv 1)) (pss_one (ps_ost (pv 0) pe_str)))), ?_⟩
    refine ⟨_, rfl, _, rfl, v, rfl, hv, fun m => ⟨a, C, [.str m], rfl, by show 1 ≤ 1000; decide, T.o, ha, ?_⟩⟩
    refine ⟨_, rfl, _, rfl, a, C, rfl, T.o, T.nW, .inl ⟨ha, fun d hd nda => ?_⟩⟩
    refine ⟨_, rfl, a, C, rfl, T.o, T.nN, .inr ⟨d, _, upd_same, by rw [upd_ne nda]; exact upd_same, by show 1 ≤ 900; decide, ?_⟩⟩
    refine k d _ hd nda (by rw [upd_ne nda.symm]; exact upd_same) upd_same fun b hba hbd => ?_
    rw [upd_ne hbd, upd_ne hba, upd_ne hbd]
theorem sc_NoRow : FnScope ["self", "what"] ["self", "what"] (defScope s_NoRow_init) := ⟨rfl, rfl, rfl, by decide +kernel, rfl, by decide +kernel, by decide +kernel⟩
theorem ok_NoRow {C fI D fD : Addr} {fdD : FuncData} (F : FnP K "__init__" "NoRow.__init__" s_NoRow_init f fd) (T : ErrC K C fI) (GD : FnOk P w K mg base CX0 1 fD fdD ["self", "what"] (spErr K C dayF (RepOk K))) (cD : KdEx.ClsFn K D fD "__init__") (bD : Binds K fdD ["self", "what"] []) (gD : mg "DayError" = some (.ref D)) :
    FnOk P w K mg base CX0 2 f fd ["self", "what"] (spErr K C (noF "NoRow") (RepOk K)) := by
  refine F.ok sc_NoRow (fun vs H Q E h => ?_) (fun cdv A outer s H vs Q E hr h => ?_)
  · obtain ⟨a, v, rfl, _⟩ := h
    rfl
  · obtain ⟨a, v, rfl, ha, hv, k⟩ := h
    refine ⟨_, PSs.nox (pss_cons (ps_expr (KdEx.pe_clsfn rfl gD cD GD hr bD .nil pass0 (pa_cons (pv 0) (pa_cons (pv 1) pa_nil)))) (pss_one (ps_ost (pv 0) pe_str))), ?_⟩
    refine ⟨_, rfl, _, rfl, a, v, rfl, ha, hv, fun d H' hd nda e1 e2 rest => ?_⟩
    refine ⟨_, rfl, a, C, rfl, T.o, T.nN, .inr ⟨d, _, e1, e2, by show 2 ≤ 900; decide, ?_⟩⟩
    refine k d _ hd nda (by rw [upd_ne nda.symm]; exact e1) upd_same fun b hba hbd => ?_
    rw [upd_ne hbd]
    exact rest b hba hbd
theorem sc_NoFact : FnScope ["self", "what"] ["self", "what"] (defScope s_NoFact_init) := ⟨rfl, rfl, rfl, by decide +kernel, rfl, by decide +kernel, by decide +kernel⟩
theorem ok_NoFact {C fI D fD : Addr} {fdD : FuncData} (F : FnP K "__init__" "NoFact.__init__" s_NoFact_init f fd) (T : ErrC K C fI) (GD : FnOk P w K mg base CX0 1 fD fdD ["self", "what"] (spErr K C dayF (RepOk K))) (cD : KdEx.ClsFn K D fD "__init__") (bD : Binds K fdD ["self", "what"] []) (gD : mg "DayError" = some (.ref D)) :
    FnOk P w K mg base CX0 2 f fd ["self", "what"] (spErr K C (noF "NoFact") (RepOk K)) := by
  refine F.ok sc_NoFact (fun vs H Q E h => ?_) (fun cdv A outer s H vs Q E hr h => ?_)
  · obtain ⟨a, v, rfl, _⟩ := h
    rfl
  · obtain ⟨a, v, rfl, ha, hv, k⟩ := h
    refine ⟨_, PSs.nox (pss_cons (ps_expr (KdEx.pe_clsfn rfl gD cD GD hr bD .nil pass0 (pa_cons (pv 0) (pa_cons (pv 1) pa_nil)))) (pss_one (ps_ost (pv 0) pe_str))), ?_⟩
    refine ⟨_, rfl, _, rfl, a, v, rfl, ha, hv, fun d H' hd nda e1 e2 rest => ?_⟩
    refine ⟨_, rfl, a, C, rfl, T.o, T.nN, .inr ⟨d, _, e1, e2, by show 2 ≤ 900; decide, ?_⟩⟩
    refine k d _ hd nda (by rw [upd_ne nda.symm]; exact e1) upd_same fun b hba hbd => ?_
    rw [upd_ne hbd]
    exact rest b hba hbd
theorem sc_NoThing : FnScope ["self", "what"] ["self", "what"] (defScope s_NoThing_init) := ⟨rfl, rfl, rfl, by decide +kernel, rfl, by decide +kernel, by decide +kernel⟩
theorem ok_NoThing {C fI D fD : Addr} {fdD : FuncData} (F : FnP K "__init__" "NoThing.__init__" s_NoThing_init f fd) (T : ErrC K C fI) (GD : FnOk P w K mg base CX0 1 fD fdD ["self", "what"] (spErr K C dayF (RepOk K))) (cD : KdEx.ClsFn K D fD "__init__") (bD : Binds K fdD ["self", "what"] []) (gD : mg "DayError" = some (.ref D)) :
    FnOk P w K mg base CX0 2 f fd ["self", "what"] (spErr K C (noF "NoThing") (RepOk K)) := by
  refine F.ok sc_NoThing (fun vs H Q E h => ?_) (fun cdv A outer s H vs Q E hr h => ?_)
  · obtain ⟨a, v, rfl, _⟩ := h
    rfl
  · obtain ⟨a, v, rfl, ha, hv, k⟩ := h
    refine ⟨_, PSs.nox (pss_cons (ps_expr (KdEx.pe_clsfn rfl gD cD GD hr bD .nil pass0 (pa_cons (pv 0) (pa_cons (pv 1) pa_nil)))) (pss_one (ps_ost (pv 0) pe_str))), ?_⟩
    refine ⟨_, rfl, _, rfl, a, v, rfl, ha, hv, fun d H' hd nda e1 e2 rest => ?_⟩
    refine ⟨_, rfl, a, C, rfl, T.o, T.nN, .inr ⟨d, _, e1, e2, by show 2 ≤ 900; decide, ?_⟩⟩
    refine k d _ hd nda (by rw [upd_ne nda.symm]; exact e1) upd_same fun b hba hbd => ?_
    rw [upd_ne hbd]
    exact rest b hba hbd
theorem sc_NoGroup : FnScope ["self", "what"] ["self", "what"] (defScope s_NoGroup_init) := ⟨rfl, rfl, rfl, by decide +kernel, rfl, by decide +kernel, by decide +kernel⟩
theorem ok_NoGroup {C fI D fD : Addr} {fdD : FuncData} (F : FnP K "__init__" "NoGroup.__init__" s_NoGroup_init f fd) (T : ErrC K C fI) (GD : FnOk P w K mg base CX0 1 fD fdD ["self", "what"] (spErr K C dayF (RepOk K))) (cD : KdEx.ClsFn K D fD "__init__") (bD : Binds K fdD ["self", "what"] []) (gD : mg "DayError" = some (.ref D)) :
    FnOk P w K mg base CX0 2 f fd ["self", "what"] (spErr K C (noF "NoGroup") (RepOk K)) := by
  refine F.ok sc_NoGroup (fun vs H Q E h => ?_) (fun cdv A outer s H vs Q E hr h => ?_)
  · obtain ⟨a, v, rfl, _⟩ := h
    rfl
  · obtain ⟨a, v, rfl, ha, hv, k⟩ := h
    refine ⟨_, PSs.nox (pss_cons (ps_expr (KdEx.pe_clsfn rfl gD cD GD hr bD .nil pass0 (pa_cons (pv 0) (pa_cons (pv 1) pa_nil)))) (pss_one (ps_ost (pv 0) pe_str))), ?_⟩
    refine ⟨_, rfl, _, rfl, a, v, rfl, ha, hv, fun d H' hd nda e1 e2 rest => ?_⟩
    refine ⟨_, rfl, a, C, rfl, T.o, T.nN, .inr ⟨d, _, e1, e2, by show 2 ≤ 900; decide, ?_⟩⟩
    refine k d _ hd nda (by rw [upd_ne nda.symm]; exact e1) upd_same fun b hba hbd => ?_
    rw [upd_ne hbd]
    exact rest b hba hbd
end
end Kd

namespace Kd
open PySem PySem.Spec PyProof.Rows L2 KdXc
section
variable {P : Program} {w : World} {K : PySem.W.Frag} {mg : Str → Option Value} {base : Heap} {f : Addr} {fd : FuncData}
/-- a class of refusals, and how one is made -/
structure ErrM (P : Program) (w : World) (K : PySem.W.Frag) (mg : Str → Option Value) (base : Heap) (x : Str) (C fI : Addr) (fdI : FuncData) : Prop where
  T : ErrC K C fI
  G : FnOk P w K mg base CX0 2 fI fdI ["self", "what"] (spErr K C (noF x) (RepOk K))
  b : Binds K fdI ["self", "what"] []
  g : mg x = some (.ref C)
/-! ### Plan.__init__ of faulty lists -/
end
end Kd

namespace Kd
open PySem PySem.Spec PyProof.Rows L2 KdXc
theorem iteF0 {c : Prop} [Decidable c] {A B : Prop} (h : ¬ c) (b : B) : if c then A else B := by
  rw [if_neg h]
  exact b
theorem iteT0 {c : Prop} [Decidable c] {A B : Prop} (h : c) (b : A) : if c then A else B := by
  rw [if_pos h]
  exact b
def kfits (ds : List Dm) (d : Str) (n : Nat) : Bool := match ds.find? (fun e => decide (e.1 = d)) with
  | some e => decide (n = e.2.length)
  | none => false
def ffits (ds : List Dm) (ms : List Str) (k n : Nat) : Bool := decide (k = ds.length) && decide (n = ms.length)
def Rw.fits (ds : List Dm) (ms : List Str) : Rw → Bool
  | .kind d _ _ vals => kfits ds d vals.length
  | .fact _ _ keys nums => ffits ds ms keys.length nums.length
  | .forget _ => true
theorem natEq (a b : Nat) : decide (V.int (a : Int) = V.int (b : Int)) = decide (a = b) := by
  by_cases h : a = b
  · rw [h]
    simp
  · rw [decide_eq_false h]
    exact decide_eq_false fun q => h (by have := V.int.inj q; omega)
section
variable {P : Program} {w : World} {K : PySem.W.Frag} {mg : Str → Option Value} {base : Heap} {f : Addr} {fd : FuncData}
/-! ### kind_fits -/
abbrev N_kind_fits : List Str := ["plan", "dimension", "values", "attributes"]
theorem sc_kind_fits : FnScope N_kind_fits ["plan", "dimension", "values"] (defScope s_kind_fits) := ⟨rfl, rfl, rfl, by decide +kernel, rfl, by decide +kernel, by decide +kernel⟩
/-! slots: 0 plan 1 dimension 2 values 3 attributes; cells:  -/
def spKf (K : PySem.W.Frag) (C : Addr) : Sp := fun vs H Q _ => ∃ (x q : Addr) (d : Str) (ys : List V) (ds : List Dm) (ms : List Str), vs = [.ref x, .str d, .ref q] ∧ PlanAt K C H x ds ms ∧ SqT K H q ys ∧ ∀ H', Same H H' → Q (.bl (kfits ds d ys.length)) H'
theorem ok_kf {C fA : Addr} {fdA : FuncData} (F : FnP K "kind_fits" "kind_fits" s_kind_fits f fd) (c_attributes_of : Fun P w K mg base "attributes_of" 2 ["plan", "dimension"] (spAttr K C) fA fdA) (z_len : mg "len" = none) : FnOk P w K mg base CX0 3 f fd ["plan", "dimension", "values"] (spKf K C) := by
  refine F.ok sc_kind_fits (fun vs H Q E h => ?_) (fun cdv A outer s H vs Q E hr h => ?_)
  · obtain ⟨x, q, d, ys, ds, ms, rfl, _⟩ := h
    rfl
  · obtain ⟨x, q, d, ys, ds, ms, rfl, hx, hq, k⟩ := h
    have nd := sc_kind_fits.nd
    refine ⟨_, PSs.nox (pss_cons (ps_set (i := 3) nd rfl (Or.inl rfl) (pe_call c_attributes_of.G (hr.mono (by decide)) rfl c_attributes_of.g c_attributes_of.k c_attributes_of.b .nil pass0 (pa_cons (pv 0) (pa_cons (pv 1) pa_nil))))
      (pss_one (ps_ret (pe_and (pe_cmp (pc_notN (pv 3)) rfl) (pe_one (pe_cmpR op_eq (pe_callB call_len_seq (by rfl) z_len boot_len (pa_cons (pv 2) pa_nil)) (pe_callB call_len_seq (by rfl) z_len boot_len (pa_cons (pv 3) pa_nil)) (nomark _))))))), ?_⟩
    refine ⟨_, rfl, _, rfl, x, d, ds, ms, rfl, hx, fun e qa H1 he ha s1 => ?_, fun he H1 s1 => ?_⟩
    · have ek : kfits ds d ys.length = decide (ys.length = e.2.length) := by unfold kfits; rw [he]
      rw [ek] at k
      obtain ⟨zs, a1, a2⟩ := ha
      refine ⟨_, rfl, _, rfl, iteT ⟨_, rfl, q, _, rfl, .inr (Same.seqT s1 hq), _, rfl, qa, _, rfl, .inr a1, rfl, ?_⟩⟩
      rw [natEq, a2.length]
      exact k H1 s1
    · have ek : kfits ds d ys.length = false := by unfold kfits; rw [he]
      rw [ek] at k
      exact ⟨_, rfl, _, rfl, iteF (k H1 s1)⟩
/-! ### fact_fits -/
abbrev N_fact_fits : List Str := ["plan", "keys", "numbers"]
theorem sc_fact_fits : FnScope N_fact_fits ["plan", "keys", "numbers"] (defScope s_fact_fits) := ⟨rfl, rfl, rfl, by decide +kernel, rfl, by decide +kernel, by decide +kernel⟩
/-! slots: 0 plan 1 keys 2 numbers; cells:  -/
def spFf (K : PySem.W.Frag) (C : Addr) : Sp := fun vs H Q _ => ∃ (x q1 q2 : Addr) (ys zs : List V) (ds : List Dm) (ms : List Str), vs = [.ref x, .ref q1, .ref q2] ∧ PlanAt K C H x ds ms ∧ SqT K H q1 ys ∧ SqT K H q2 zs ∧ ∀ H', Same H H' → Q (.bl (ffits ds ms ys.length zs.length)) H'
theorem ok_ff {C fD fM : Addr} {fdD fdM : FuncData} (F : FnP K "fact_fits" "fact_fits" s_fact_fits f fd) (T : PlTxt K C) (GD : FnOk P w K mg base CX0 1 fD fdD ["self"] (spDims K C)) (bD : Binds K fdD ["self"] []) (mD : Meth K C "dimensions" fD) (GM : FnOk P w K mg base CX0 1 fM fdM ["self"] (spMeas K C)) (bM : Binds K fdM ["self"] []) (mM : Meth K C "measures" fM)
    (z_len : mg "len" = none) : FnOk P w K mg base CX0 2 f fd ["plan", "keys", "numbers"] (spFf K C) := by
  refine F.ok sc_fact_fits (fun vs H Q E h => ?_) (fun cdv A outer s H vs Q E hr h => ?_)
  · obtain ⟨x, q1, q2, ys, zs, ds, ms, rfl, _⟩ := h
    rfl
  · obtain ⟨x, q1, q2, ys, zs, ds, ms, rfl, hx, h1, h2, k⟩ := h
    have nd := sc_fact_fits.nd
    refine ⟨_, PSs.nox (pss_one (ps_ret (pe_and (pe_cmpR op_eq (pe_callB call_len_seq (by rfl) z_len boot_len (pa_cons (pv 1) pa_nil)) (pe_callB call_len_seq (by rfl) z_len boot_len (pa_cons (pe_meth0 (pv 0) T.cl mD GD (hr.mono (by decide)) bD .nil pass0) pa_nil)) (nomark _)) (pe_one (pe_cmpR op_eq (pe_callB call_len_seq (by rfl) z_len boot_len (pa_cons (pv 2) pa_nil)) (pe_callB call_len_seq (by rfl) z_len boot_len (pa_cons (pe_meth0 (pv 0) T.cl mM GM (hr.mono (by decide)) bM .nil pass0) pa_nil)) (nomark _)))))), ?_⟩
    obtain ⟨dx, pa, pb, px, e1, e2, e3, e4⟩ := id hx.ex
    refine ⟨_, rfl, q1, _, rfl, .inr h1, _, rfl, x, dx, _, rfl, e1, pl_no0 (by decide +kernel) (by decide +kernel), x, ds, ms, rfl, hx, fun l xs nl pl => ?_⟩
    have s1 : Same H (upd H l (.lst xs)) := same_new nl
    refine ⟨l, _, rfl, .inl (SqL.of upd_same), rfl, _, rfl, ?_⟩
    rw [natEq, pl.length]
    by_cases c : ys.length = ds.length
    · rw [decide_eq_true c]
      refine iteT ⟨_, rfl, q2, _, rfl, .inr (Same.seqT s1 h2), _, rfl, x, dx, _, rfl, s1 _ _ e1, pl_no0 (by decide +kernel) (by decide +kernel), x, ds, ms, rfl, hx.same s1, fun l2 nl2 => ?_⟩
      refine ⟨l2, _, rfl, .inl (SqL.of upd_same), rfl, ?_⟩
      rw [natEq, List.length_map]
      have ek : ffits ds ms ys.length zs.length = decide (zs.length = ms.length) := by unfold ffits; rw [decide_eq_true c, Bool.true_and]
      rw [ek] at k
      exact k _ (s1.trans (same_new nl2))
    · rw [decide_eq_false c]
      have ek : ffits ds ms ys.length zs.length = false := by unfold ffits; rw [decide_eq_false c, Bool.false_and]
      rw [ek] at k
      exact iteF (k _ s1)
/-! ### has_form -/
abbrev N_has_form : List Str := ["plan", "row"]
theorem sc_has_form : FnScope N_has_form ["plan", "row"] (defScope s_has_form) := ⟨rfl, rfl, rfl, by decide +kernel, rfl, by decide +kernel, by decide +kernel⟩
/-! slots: 0 plan 1 row; cells:  -/
def spForm (K : PySem.W.Frag) (C : Addr) : Sp := fun vs H Q _ => ∃ (x p : Addr) (r : Rw) (ds : List Dm) (ms : List Str), vs = [.ref x, .ref p] ∧ PlanAt K C H x ds ms ∧ r.at K H p ∧ ∀ H', Same H H' → Q (.bl (r.fits ds ms)) H'
theorem ok_form {C fK fF : Addr} {fdK fdF : FuncData} (F : FnP K "has_form" "has_form" s_has_form f fd) (c_kind_fits : Fun P w K mg base "kind_fits" 3 ["plan", "dimension", "values"] (spKf K C) fK fdK) (c_fact_fits : Fun P w K mg base "fact_fits" 2 ["plan", "keys", "numbers"] (spFf K C) fF fdF) : FnOk P w K mg base CX0 4 f fd ["plan", "row"] (spForm K C) := by
  refine F.ok sc_has_form (fun vs H Q E h => ?_) (fun cdv A outer s H vs Q E hr h => ?_)
  · obtain ⟨x, p, r, ds, ms, rfl, _⟩ := h
    rfl
  · obtain ⟨x, p, r, ds, ms, rfl, hx, hr', k⟩ := h
    have nd := sc_has_form.nd
    refine ⟨_, PSs.nox (pss_cons (ps_if (pt_cmpR op_eq (pe_ix ix_tup (pv 1) pe_int (fun _ _ => rfl)) pe_str (nomark _))
        (pss_one (ps_ret (pe_call c_kind_fits.G (hr.mono (by decide)) rfl c_kind_fits.g c_kind_fits.k c_kind_fits.b .nil pass0 (pa_cons (pv 0) (pa_cons (pe_ix ix_tup (pv 1) pe_int (fun _ _ => rfl)) (pa_cons (pe_ix ix_tup (pv 1) pe_int (fun _ _ => rfl)) pa_nil))))))
        pss_nil)
      (pss_cons (ps_if (pt_cmpR op_eq (pe_ix ix_tup (pv 1) pe_int (fun _ _ => rfl)) pe_str (nomark _))
        (pss_one (ps_ret (pe_call c_fact_fits.G (hr.mono (by decide)) rfl c_fact_fits.g c_fact_fits.k c_fact_fits.b .nil pass0 (pa_cons (pv 0) (pa_cons (pe_ix ix_tup (pv 1) pe_int (fun _ _ => rfl)) (pa_cons (pe_ix ix_tup (pv 1) pe_int (fun _ _ => rfl)) pa_nil))))))
        pss_nil)
      (pss_one (ps_ret (pe_cmpR op_eq (pe_ix ix_tup (pv 1) pe_int (fun _ _ => rfl)) pe_str (nomark _)))))), ?_⟩
    cases r with
    | kind d key day vals =>
      obtain ⟨q, h1, h2⟩ := hr'
      refine ⟨_, rfl, p, _, _, _, rfl, rfl, h1, atI_nat (j := 0) rfl, rfl, _, rfl, iteT0 (decide_eq_true rfl) ?_⟩
      refine ⟨_, rfl, _, rfl, p, _, _, _, rfl, rfl, h1, atI_nat (j := 1) rfl, _, rfl, p, _, _, _, rfl, rfl, h1, atI_nat (j := 4) rfl, x, q, d, _, ds, ms, rfl, hx, h2, fun H1 s1 => ?_⟩
      rw [List.length_map]
      exact k H1 s1
    | fact name day keys nums =>
      obtain ⟨q1, q2, h1, h2, h3⟩ := hr'
      refine ⟨_, rfl, p, _, _, _, rfl, rfl, h1, atI_nat (j := 0) rfl, rfl, _, rfl, iteF0 (by decide +kernel) ?_⟩
      refine ⟨_, rfl, p, _, _, _, rfl, rfl, h1, atI_nat (j := 0) rfl, rfl, _, rfl, iteT0 (decide_eq_true rfl) ?_⟩
      refine ⟨_, rfl, _, rfl, p, _, _, _, rfl, rfl, h1, atI_nat (j := 3) rfl, _, rfl, p, _, _, _, rfl, rfl, h1, atI_nat (j := 4) rfl, x, q1, q2, _, _, ds, ms, rfl, hx, h2, h3, fun H1 s1 => ?_⟩
      rw [List.length_map, List.length_map]
      exact k H1 s1
    | forget name =>
      refine ⟨_, rfl, p, _, _, _, rfl, rfl, hr', atI_nat (j := 0) rfl, rfl, _, rfl, iteF0 (by decide +kernel) ?_⟩
      refine ⟨_, rfl, p, _, _, _, rfl, rfl, hr', atI_nat (j := 0) rfl, rfl, _, rfl, iteF0 (by decide +kernel) ?_⟩
      refine ⟨_, rfl, p, _, _, _, rfl, rfl, hr', atI_nat (j := 0) rfl, rfl, ?_⟩
      have e : decide (V.str "forget" = V.str "forget") = true := decide_eq_true rfl
      rw [e]
      exact k H (Same.refl H)
/-! ### look -/
abbrev N_look : List Str := ["plan", "row"]
theorem sc_look : FnScope N_look ["plan", "row"] (defScope s_look) := ⟨rfl, rfl, rfl, by decide +kernel, rfl, by decide +kernel, by decide +kernel⟩
/-! slots: 0 plan 1 row; cells:  -/
def spLook (K : PySem.W.Frag) (C N : Addr) : Sp := fun vs H Q E => ∃ (x p : Addr) (r : Rw) (ds : List Dm) (ms : List Str), vs = [.ref x, .ref p] ∧ PlanAt K C H x ds ms ∧ r.at K H p ∧ r.ok ∧ (r.fits ds ms = true → ∀ H', Same H H' → Q .non H') ∧
  (r.fits ds ms = false → ∀ d H', Same H H' → H d = none → H' d = some (.xd (noF "NoRow" (.ref p))) → E (.ref N) (some d) H')
theorem ok_look {C fH N fN : Addr} {fdH fdN : FuncData} (F : FnP K "look" "look" s_look f fd) (c_has_form : Fun P w K mg base "has_form" 4 ["plan", "row"] (spForm K C) fH fdH) (M : ErrM P w K mg base "NoRow" N fN fdN) : FnOk P w K mg base (L2.CX P w) 5 f fd ["plan", "row"] (spLook K C N) := by
  refine F.ok sc_look (fun vs H Q E h => ?_) (fun cdv A outer s H vs Q E hr h => ?_)
  · obtain ⟨x, p, r, ds, ms, rfl, _⟩ := h
    rfl
  · obtain ⟨x, p, r, ds, ms, rfl, hx, hp, ok, k1, k2⟩ := h
    have nd := sc_look.nd
    refine ⟨_, pss_one (ps_if (pt_not (pt_val (pe_call c_has_form.G (hr.mono (by decide)) rfl c_has_form.g c_has_form.k c_has_form.b .nil pass0 (pa_cons (pv 0) (pa_cons (pv 1) pa_nil)))))
      (pss_one (ps_raise rfl (takes_of rfl rfl rfl rfl) (pmk_err M.T M.G (hr.mono (by decide)) M.b rfl M.g (pv 1)))) pss_nil), ?_⟩
    refine ⟨_, rfl, _, rfl, x, p, r, ds, ms, rfl, hx, hp, fun H1 s1 => ⟨_, rfl, ?_⟩⟩
    cases c : r.fits ds ms with
    | true => exact iteF (k1 c H1 s1)
    | false =>
      refine iteT ⟨_, rfl, err_ok (fun a ha => Rw.rep (Rw.same (s1.trans (same_new ha)) hp) ok) fun d hd => ?_⟩
      exact k2 c d _ (s1.trans (same_new hd)) (s1.free hd) upd_same
end
end Kd

namespace Kd
open PySem PySem.Spec PyProof.Rows L2
/-! ### a row told -/
def Hs.told (S : Hs) (r : Rw) : Hs := { S with rows := S.rows ++ [r] }
def Hs.tell (S : Hs) (ds : Dims) (r : Rw) : Hs := match r with
  | .kind d key day vals => { S.told r with ts := S.ts.taken (wsOf ds d) (d, key) day vals }
  | .fact name day keys nums => (S.told r).factS ds name ⟨day, keys, nums⟩
  | .forget name => match lk S.facts name with
    | some fc => (S.told r).forgetS ds name fc
    | none => S
def Hs.tellD (S : Hs) (ds : Dims) (r : Rw) : PyData := match r with
  | .kind d key day vals => .tuple [.str "kind", .int ((S.ts.kept (d, key) day vals).came (wsOf ds d) (d, key)), .int ((S.ts.kept (d, key) day vals).went (wsOf ds d) (d, key)), .int (ledN ds S (S.ts.taken (wsOf ds d) (d, key) day vals) (d, key))]
  | .fact name day keys nums => .tuple [.str "fact", .int (S.ts.meetF ds (thOf ds keys)).2.sum, .int ((S.fact1 ds name ⟨day, keys, nums⟩).ts.partsN (S.fgone ds name ⟨day, keys, nums⟩)), .tuple ((thOf ds keys).map fun t => PyData.int ((S.factS ds name ⟨day, keys, nums⟩).ts.numOn t day))]
  | .forget name => match lk S.facts name with
    | some fc => .tuple [.str "forget", .int (S.ts.partsN (S.dgone ds name fc))]
    | none => .none
/-- it is told, not refused -/
def Hs.takes (S : Hs) (ds : Dims) (ms : List Str) (r : Rw) : Bool := r.fits ds ms && match r with
  | .forget name => (lk S.facts name).isSome
  | _ => true
def Ts.dimN (ts : Ts) (z : Str) : Nat := (ts.nums.filter fun e => decide (e.1.1 = z)).length
structure HsOk (ds : Dims) (ms : List Str) (S : Hs) : Prop where
  d4 : ds.length ≤ 4
  dx : ∀ d ∈ ds, Tx d.1
  dn : (ds.map (·.1)).Nodup
  tok : TsOk ds S.ts S.rows.length (5 * S.rows.length)
  fl : S.facts.length ≤ S.rows.length
  fn : (S.facts.map (·.1)).Nodup
  fx : ∀ e ∈ S.facts, ∀ z ∈ e.2.keys, Tx z
  ff : ∀ e ∈ S.facts, e.2.keys.length = ds.length ∧ e.2.nums.length = ms.length
  fkn : FKn ds S
  kin : ∀ t, (lk S.ts.kinds t).isSome = true → (lk S.ts.nums t).isSome = true
  kno : ∀ t, (lk S.ts.nums t).isSome = true → goneB ds S t = false
  nx : ∀ e ∈ S.ts.nums, Tx e.1.1 ∧ Tx e.1.2
  nd : ∀ z, S.ts.dimN z ≤ S.rows.length
theorem HsOk.fo {ds : Dims} {ms : List Str} {S : Hs} (h : HsOk ds ms S) (hn : S.rows.length ≤ 200) : FOk ds S.facts := ⟨h.d4, h.dx, h.fx, Nat.le_trans h.fl hn⟩
theorem kfits_in {ds : Dims} {d : Str} {n : Nat} (h : kfits ds d n = true) : ∃ e, ds.find? (fun e => decide (e.1 = d)) = some e ∧ n = e.2.length := by
  unfold kfits at h
  split at h
  · rename_i e he
    exact ⟨e, he, of_decide_eq_true h⟩
  · cases h
/-! counts of a dimension's things -/
theorem filter_put {α β : Type} [DecidableEq α] (p : α → Bool) (ms : List (α × β)) (k : α) (b : β) : ((pt ms k b).filter fun e => p e.1).length ≤ (ms.filter fun e => p e.1).length + (if p k = true then 1 else 0) := by
  cases e : lk ms k with
  | some c =>
    rw [pt_old e, List.filter_map, List.length_map]
    have : (ms.filter ((fun e => p e.1) ∘ fun m => if m.1 = k then (m.1, b) else m)) = ms.filter fun e => p e.1 := by
      apply List.filter_congr
      intro m _
      show p (if m.1 = k then (m.1, b) else m).1 = p m.1
      split <;> rfl
    rw [this]
    omega
  | none =>
    rw [pt_new e, List.filter_append, List.length_append]
    by_cases q : p k = true
    · rw [if_pos q, List.filter_cons_of_pos (by exact q)]
      exact Nat.le_refl _
    · rw [if_neg q, List.filter_cons_of_neg (by exact q)]
      exact Nat.le_refl _
theorem anew_dimN (ts : Ts) (ws : List Str) (t : Th) (z : Str) : (ts.anew ws t).dimN z ≤ ts.dimN z + (if t.1 = z then 1 else 0) := by
  have h := filter_put (fun u : Th => decide (u.1 = z)) ts.nums t (numS (oldOf (ts.vs t)) ts.given (sv ws (ts.ks t))).1
  simp only [decide_eq_true_iff] at h
  exact h
theorem meet_dimN (ts : Ts) (ws : List Str) (t : Th) (z : Str) : (ts.meet ws t).dimN z ≤ ts.dimN z + (if t.1 = z then 1 else 0) := by
  unfold Ts.meet
  split
  · omega
  · exact anew_dimN ts ws t z
theorem meetG_dimN {ds : Dims} (z : Str) : ∀ (tl : List Th) (acc : Ts × List Int), (tl.foldl (meetStep ds) acc).1.dimN z ≤ acc.1.dimN z + (tl.filter fun t => decide (t.1 = z)).length
  | [], acc => Nat.le_refl _
  | t :: tl, acc => by
    rw [List.foldl_cons]
    have h1 := meetG_dimN (ds := ds) z tl (meetStep ds acc t)
    have h2 := meet_dimN acc.1 (wsOf ds t.1) t z
    have h3 : (meetStep ds acc t).1.dimN z ≤ acc.1.dimN z + (if t.1 = z then 1 else 0) := h2
    by_cases q : t.1 = z
    · rw [List.filter_cons_of_pos (by simp [q]), List.length_cons]
      rw [if_pos q] at h3
      omega
    · rw [List.filter_cons_of_neg (by simp [q])]
      rw [if_neg q] at h3
      omega
theorem count_dim {ds : Dims} (h : (ds.map (·.1)).Nodup) (keys : List Str) (z : Str) : ((thOf ds keys).filter fun t => decide (t.1 = z)).length ≤ 1 := by
  have e : ((thOf ds keys).filter fun t => decide (t.1 = z)).length = (((thOf ds keys).map (·.1)).filter fun y => decide (y = z)).length := by
    rw [List.filter_map, List.length_map]
    rfl
  rw [e]
  have hn : ((thOf ds keys).map (·.1)).Nodup := h.sublist (zip_fst_sub _ _)
  generalize (thOf ds keys).map (·.1) = l at hn
  have hn2 : (l.filter fun y => decide (y = z)).Nodup := hn.sublist List.filter_sublist
  match hl : l.filter fun y => decide (y = z), hn2 with
  | [], _ => exact Nat.zero_le _
  | [a], _ => exact Nat.le_refl _
  | a :: b :: r, hn2 =>
    have ha : a = z := of_decide_eq_true (List.mem_filter.mp (show a ∈ l.filter fun y => decide (y = z) by rw [hl]; exact List.mem_cons_self ..)).2
    have hb : b = z := of_decide_eq_true (List.mem_filter.mp (show b ∈ l.filter fun y => decide (y = z) by rw [hl]; exact List.mem_cons_of_mem _ (List.mem_cons_self ..))).2
    rw [ha, hb] at hn2
    exact absurd (List.mem_cons_self ..) (List.nodup_cons.mp hn2).1
theorem parts_dimN (z : Str) : ∀ (tl : List Th) (ts : Ts), (ts.parts tl).dimN z ≤ ts.dimN z
  | [], _ => Nat.le_refl _
  | t :: tl, ts => Nat.le_trans (parts_dimN z tl (ts.gone t)) (by
      unfold Ts.dimN Ts.gone dp
      exact (List.Sublist.filter _ List.filter_sublist).length_le)
/-! kinds are untouched by facts -/
theorem meet_kinds (ts : Ts) (ws : List Str) (t : Th) : (ts.meet ws t).kinds = ts.kinds := by
  unfold Ts.meet
  split <;> rfl
theorem meetG_kinds {ds : Dims} : ∀ (tl : List Th) (acc : Ts × List Int), (tl.foldl (meetStep ds) acc).1.kinds = acc.1.kinds
  | [], _ => rfl
  | t :: tl, acc => by
    rw [List.foldl_cons, meetG_kinds tl]
    exact meet_kinds _ _ _
theorem meetF_kinds (ds : Dims) (ts : Ts) (tl : List Th) : (ts.meetF ds tl).1.kinds = ts.kinds := meetG_kinds tl (ts, [])
theorem meet_mem {ts : Ts} {ws : List Str} {t : Th} {e : Th × List Ver} (h : e ∈ (ts.meet ws t).nums) : e ∈ ts.nums ∨ e.1 = t := by
  unfold Ts.meet at h
  split at h
  · exact .inl h
  · rcases mem_pt h with rfl | ⟨h, _⟩
    · exact .inr rfl
    · exact .inl h
theorem meetG_mem {ds : Dims} {e : Th × List Ver} : ∀ (tl : List Th) (acc : Ts × List Int), e ∈ (tl.foldl (meetStep ds) acc).1.nums → e ∈ acc.1.nums ∨ e.1 ∈ tl
  | [], _, h => .inl h
  | t :: tl, acc, h => by
    rw [List.foldl_cons] at h
    rcases meetG_mem tl _ h with h | h
    · rcases meet_mem h with h | h
      · exact .inl h
      · exact .inr (by rw [h]; exact List.mem_cons_self ..)
    · exact .inr (List.mem_cons_of_mem _ h)
theorem meetF_mem {ds : Dims} {ts : Ts} {tl : List Th} {e : Th × List Ver} (h : e ∈ (ts.meetF ds tl).1.nums) : e ∈ ts.nums ∨ e.1 ∈ tl := meetG_mem tl (ts, []) h
theorem parts_mem {e : Th × List Ver} : ∀ (tl : List Th) {ts : Ts}, e ∈ (ts.parts tl).nums → e ∈ ts.nums
  | [], _, h => h
  | t :: tl, _, h => (mem_dp.mp (parts_mem tl h)).1
theorem parts_isSome {ts : Ts} {tl : List Th} {t : Th} (h : (lk (ts.parts tl).nums t).isSome = true) : (lk ts.nums t).isSome = true ∧ t ∉ tl := by
  rw [parts_lk] at h
  by_cases q : t ∈ tl
  · rw [if_pos q] at h; cases h
  · rw [if_neg q] at h; exact ⟨h, q⟩
theorem parts_keeps {ts : Ts} {tl : List Th} {t : Th} (h : (lk ts.nums t).isSome = true) (n : t ∉ tl) : (lk (ts.parts tl).nums t).isSome = true := by
  rw [parts_lk, if_neg n]
  exact h
theorem isSome_of {α : Type} {o : Option α} {a : α} (h : o = some a) : o.isSome = true := by rw [h]; rfl
/-- what is not let go: it has kinds, or a fact names it -/
theorem goneB_false {ds : Dims} {S : Hs} {t : Th} (h : goneB ds S t = false) : (lk S.ts.kinds t).isSome = true ∨ ∃ e ∈ S.facts, t ∈ thOf ds e.2.keys := by
  unfold goneB at h
  cases e : lk S.ts.kinds t with
  | some ks => exact .inl rfl
  | none =>
    rw [e] at h
    have h2 : (fdays ds S.facts t).isEmpty = false := h
    cases q : fdays ds S.facts t with
    | nil => rw [q] at h2; cases h2
    | cons y r => exact .inr (fdays_mem (y := y) (by rw [q]; exact List.mem_cons_self ..))
theorem goneB_kinds {ds : Dims} {S : Hs} {t : Th} (h : (lk S.ts.kinds t).isSome = true) : goneB ds S t = false := by
  obtain ⟨ks, e⟩ := isSome_ex h
  unfold goneB
  rw [e]
  rfl
theorem HsOk.kind {ds : Dims} {ms : List Str} {S : Hs} (h : HsOk ds ms S) {t : Th} {d : Str × List (Str × Str)} {day : Int} {vals : List Fv} {r : Rw} (hd : inD ds t d) (hv : vals.length = d.2.length) (t1 : Tx t.1) (t2 : Tx t.2) : HsOk ds ms { S.told r with ts := S.ts.taken (d.2.map (·.2)) t day vals } := by
  have el : (S.told r).rows.length = S.rows.length + 1 := by unfold Hs.told; rw [List.length_append]; rfl
  have lkn : ∀ t', lk (S.ts.taken (d.2.map (·.2)) t day vals).nums t' = if t' = t then some (numS (oldOf (S.ts.vs t)) S.ts.given (sv (d.2.map (·.2)) ((S.ts.kept t day vals).ks t))).1 else lk S.ts.nums t' := fun t' => lk_pt
  have lkk : ∀ t', lk (S.ts.taken (d.2.map (·.2)) t day vals).kinds t' = if t' = t then some (pt (S.ts.ks t) day vals) else lk S.ts.kinds t' := fun t' => lk_pt
  refine ⟨h.d4, h.dx, h.dn, ?_, ?_, h.fn, h.fx, h.ff, fun e he t' ht => ?_, fun t' ht => ?_, fun t' ht => ?_, fun e he => ?_, fun z => ?_⟩
  · show TsOk ds _ (S.told r).rows.length (5 * (S.told r).rows.length)
    rw [el]
    exact (h.tok.taken hd hv).mono (Nat.le_refl _) (by omega)
  · show S.facts.length ≤ (S.told r).rows.length
    rw [el]
    exact Nat.le_succ_of_le h.fl
  · show ∃ vers, lk (S.ts.taken (d.2.map (·.2)) t day vals).nums t' = some vers
    rw [lkn]
    by_cases e : t' = t
    · rw [if_pos e]; exact ⟨_, rfl⟩
    · rw [if_neg e]; exact h.fkn _ he t' ht
  · show (lk (S.ts.taken (d.2.map (·.2)) t day vals).nums t').isSome = true
    have ht : (lk (S.ts.taken (d.2.map (·.2)) t day vals).kinds t').isSome = true := ht
    rw [lkk] at ht
    rw [lkn]
    by_cases e : t' = t
    · rw [if_pos e]; rfl
    · rw [if_neg e] at ht ⊢; exact h.kin t' ht
  · have ht : (lk (S.ts.taken (d.2.map (·.2)) t day vals).nums t').isSome = true := ht
    rw [lkn] at ht
    by_cases e : t' = t
    · refine goneB_kinds ?_
      show (lk (S.ts.taken (d.2.map (·.2)) t day vals).kinds t').isSome = true
      rw [lkk, if_pos e]
      rfl
    · rw [if_neg e] at ht
      have := h.kno t' ht
      unfold goneB at this ⊢
      show ((lk (S.ts.taken (d.2.map (·.2)) t day vals).kinds t').isNone && _) = false
      rw [lkk, if_neg e]
      exact this
  · have he : e ∈ pt S.ts.nums t _ := he
    rcases mem_pt he with rfl | ⟨he, _⟩
    · exact ⟨t1, t2⟩
    · exact h.nx e he
  · show (S.ts.taken (d.2.map (·.2)) t day vals).dimN z ≤ (S.told r).rows.length
    rw [el]
    have h1 := anew_dimN (S.ts.kept t day vals) (d.2.map (·.2)) t z
    have h2 : (S.ts.kept t day vals).dimN z = S.ts.dimN z := rfl
    have h3 := h.nd z
    unfold Ts.taken
    split at h1 <;> omega
theorem HsOk.fact {ds : Dims} {ms : List Str} {S : Hs} (h : HsOk ds ms S) {name : Str} {fc : Fct} {r : Rw} (hk : fc.keys.length = ds.length ∧ fc.nums.length = ms.length) (kx : ∀ z ∈ fc.keys, Tx z) : HsOk ds ms ((S.told r).factS ds name fc) := by
  have el : (S.told r).rows.length = S.rows.length + 1 := by unfold Hs.told; rw [List.length_append]; rfl
  have hin : ∀ t ∈ thOf ds fc.keys, ∃ d, inD ds t d := fun t ht => thOf_in h.dn ht
  have tok1 := meetF_ok h.tok hin (thOf ds fc.keys).length (Nat.le_refl _)
  rw [List.take_length] at tok1
  have lth := Nat.le_trans (thOf_len ds fc.keys) h.d4
  have gq : ∀ t, goneB ds ((S.told r).factS ds name fc) t = goneB ds ((S.told r).fact1 ds name fc) t := fun t => by
    unfold goneB
    show ((lk (Ts.parts _ _).kinds t).isNone && _) = _
    rw [parts_kinds]
    rfl
  have kq : ((S.told r).fact1 ds name fc).ts.kinds = S.ts.kinds := meetF_kinds ds S.ts _
  have kq2 : ((S.told r).factS ds name fc).ts.kinds = S.ts.kinds := by
    show (Ts.parts _ _).kinds = _
    rw [parts_kinds]
    exact kq
  refine ⟨h.d4, h.dx, h.dn, ?_, ?_, pt_nodup h.fn, fun e he => ?_, fun e he => ?_, fun e he t ht => ?_, fun t ht => ?_, fun t ht => ?_, fun e he => ?_, fun z => ?_⟩
  · show TsOk ds _ (S.told r).rows.length (5 * (S.told r).rows.length)
    rw [el]
    exact (TsOk.parts _ tok1).mono (Nat.le_succ _) (by omega)
  · show (pt S.facts name fc).length ≤ (S.told r).rows.length
    rw [el]
    exact Nat.le_trans (pt_length _ _ _) (Nat.succ_le_succ h.fl)
  · rcases mem_pt he with rfl | ⟨he, _⟩
    · exact kx
    · exact h.fx e he
  · rcases mem_pt he with rfl | ⟨he, _⟩
    · exact hk
    · exact h.ff e he
  · have he : e ∈ pt S.facts name fc := he
    rcases mem_pt he with rfl | ⟨he2, ne⟩
    · exact new_known t ht
    · obtain ⟨v, hv⟩ := h.fkn e he2 t ht
      refine isSome_ex (parts_keeps (meetF_known (.inl (isSome_of hv))) fun z => ?_)
      have g := (List.mem_filter.mp z).2
      rw [not_gone (S := (S.told r).fact1 ds name fc) he ht] at g
      cases g
  · rw [kq2] at ht
    refine parts_keeps (meetF_known (.inl (h.kin t ht))) fun z => ?_
    have g := (List.mem_filter.mp z).2
    rw [goneB_kinds (by rw [kq]; exact ht)] at g
    cases g
  · rw [gq]
    obtain ⟨h1, h2⟩ := parts_isSome ht
    obtain ⟨v, hv⟩ := isSome_ex h1
    have hm : (name, fc) ∈ ((S.told r).fact1 ds name fc).facts := lk_mem (by
      show lk (pt S.facts name fc) name = some fc
      rw [lk_pt, if_pos rfl])
    rcases meetF_mem (lk_mem hv) with h3 | h3
    · have h4 : (lk S.ts.nums t).isSome = true := by
        obtain ⟨b, hb⟩ := lk_some_key (List.mem_map_of_mem (f := (·.1)) h3)
        exact isSome_of hb
      rcases goneB_false (h.kno t h4) with h5 | ⟨e, he, ht2⟩
      · exact goneB_kinds (by rw [kq]; exact h5)
      · by_cases q : e.1 = name
        · have ho : t ∈ oldTh ds (S.told r) name := by
            unfold oldTh
            have : lk (S.told r).facts name = some e.2 := by
              show lk S.facts name = some e.2
              rw [← q]
              exact lk_of_mem h.fn he
            rw [this]
            exact ht2
          cases g : goneB ds ((S.told r).fact1 ds name fc) t with
          | false => rfl
          | true => exact absurd (List.mem_filter.mpr ⟨ho, g⟩) h2
        · refine not_gone (e := e) ?_ ht2
          show e ∈ pt S.facts name fc
          have : lk (pt S.facts name fc) e.1 = some e.2 := by rw [lk_pt, if_neg q]; exact lk_of_mem h.fn he
          exact lk_mem this
    · exact not_gone hm h3
  · rcases meetF_mem (parts_mem _ he) with h1 | h1
    · exact h.nx e h1
    · exact thOf_tx h.dx kx _ h1
  · show (Ts.parts _ _).dimN z ≤ (S.told r).rows.length
    rw [el]
    have h1 := parts_dimN z ((S.told r).fgone ds name fc) ((S.told r).fact1 ds name fc).ts
    have h2 : ((S.told r).fact1 ds name fc).ts.dimN z ≤ S.ts.dimN z + ((thOf ds fc.keys).filter fun t => decide (t.1 = z)).length := meetG_dimN z (thOf ds fc.keys) (S.ts, [])
    have h3 := count_dim h.dn fc.keys z
    have h4 := h.nd z
    omega
theorem HsOk.forget {ds : Dims} {ms : List Str} {S : Hs} (h : HsOk ds ms S) {name : Str} {fc : Fct} {r : Rw} (hlk : lk S.facts name = some fc) : HsOk ds ms ((S.told r).forgetS ds name fc) := by
  have el : (S.told r).rows.length = S.rows.length + 1 := by unfold Hs.told; rw [List.length_append]; rfl
  have gq : ∀ t, goneB ds ((S.told r).forgetS ds name fc) t = goneB ds ((S.told r).drop1 name) t := fun t => by
    unfold goneB
    show ((lk (Ts.parts _ _).kinds t).isNone && _) = _
    rw [parts_kinds]
    rfl
  have kq2 : ((S.told r).forgetS ds name fc).ts.kinds = S.ts.kinds := by
    show (Ts.parts _ _).kinds = _
    rw [parts_kinds]
    rfl
  have fm : ∀ e ∈ S.facts, e.1 ≠ name → e ∈ ((S.told r).drop1 name).facts := fun e he ne => mem_dp.mpr ⟨he, ne⟩
  refine ⟨h.d4, h.dx, h.dn, ?_, ?_, dp_nodup h.fn, fun e he => h.fx e (mem_dp.mp he).1, fun e he => h.ff e (mem_dp.mp he).1, fun e he t ht => ?_, fun t ht => ?_, fun t ht => ?_, fun e he => h.nx e (parts_mem _ he), fun z => ?_⟩
  · show TsOk ds _ (S.told r).rows.length (5 * (S.told r).rows.length)
    rw [el]
    exact (TsOk.parts _ h.tok).mono (Nat.le_succ _) (by omega)
  · show (dp S.facts name).length ≤ (S.told r).rows.length
    rw [el]
    exact Nat.le_trans (dp_length _ _) (Nat.le_succ_of_le h.fl)
  · obtain ⟨he1, ne⟩ := mem_dp.mp he
    obtain ⟨v, hv⟩ := h.fkn e he1 t ht
    refine isSome_ex (parts_keeps (isSome_of hv) fun z => ?_)
    have g := (List.mem_filter.mp z).2
    rw [not_gone (S := (S.told r).drop1 name) he ht] at g
    cases g
  · rw [kq2] at ht
    refine parts_keeps (h.kin t ht) fun z => ?_
    have g := (List.mem_filter.mp z).2
    rw [goneB_kinds (S := (S.told r).drop1 name) ht] at g
    cases g
  · rw [gq]
    obtain ⟨h1, h2⟩ := parts_isSome ht
    rcases goneB_false (h.kno t h1) with h5 | ⟨e, he, ht2⟩
    · exact goneB_kinds (S := (S.told r).drop1 name) h5
    · by_cases q : e.1 = name
      · have e2 : e.2 = fc := by
          have := lk_of_mem h.fn he
          rw [q, hlk] at this
          exact (Option.some.inj this).symm
        rw [e2] at ht2
        cases g : goneB ds ((S.told r).drop1 name) t with
        | false => rfl
        | true => exact absurd (List.mem_filter.mpr ⟨ht2, g⟩) h2
      · exact not_gone (fm e he q) ht2
  · show (Ts.parts _ _).dimN z ≤ (S.told r).rows.length
    rw [el]
    have h1 := parts_dimN z ((S.told r).dgone ds name fc) S.ts
    have h4 := h.nd z
    exact Nat.le_trans h1 (by omega)
theorem HsOk.tell {ds : Dims} {ms : List Str} {S : Hs} (h : HsOk ds ms S) {r : Rw} (ok : r.ok) (ht : S.takes ds ms r = true) : HsOk ds ms (S.tell ds r) ∧ (S.tell ds r).rows = S.rows ++ [r] := by
  unfold Hs.takes at ht
  rw [Bool.and_eq_true] at ht
  obtain ⟨h1, h2⟩ := ht
  cases r with
  | kind d key day vals =>
    obtain ⟨e, he, hl⟩ := kfits_in h1
    have := h.kind (r := .kind d key day vals) (t := (d, key)) (day := day) (vals := vals) (d := e) he hl ok.1 ok.2.1
    rw [← wsOf_some he] at this
    exact ⟨this, rfl⟩
  | fact name day keys nums =>
    have hf : (decide (keys.length = ds.length) && decide (nums.length = ms.length)) = true := h1
    rw [Bool.and_eq_true] at hf
    exact ⟨h.fact ⟨of_decide_eq_true hf.1, of_decide_eq_true hf.2⟩ ok.2.2.1.2, rfl⟩
  | forget name =>
    obtain ⟨fc, hlk⟩ := isSome_ex h2
    have e : S.tell ds (.forget name) = (S.told (.forget name)).forgetS ds name fc := by unfold Hs.tell; simp only [hlk]
    rw [e]
    exact ⟨h.forget hlk, rfl⟩
end Kd

namespace Kd
open PySem PySem.Spec PyProof.Rows L2 LamX KdXc
/-- a def of the module that may raise -/
structure FunX (P : Program) (w : World) (K : PySem.W.Frag) (mg : Str → Option Value) (base : Heap) (x : Str) (n : Nat) (ps : List Str) (sp : Sp) (f : Addr) (fd : FuncData) : Prop where
  G : FnOk P w K mg base (L2.CX P w) n f fd ps sp
  k : PySem.W.keepIn K (.ref f) = true
  b : Binds K fd ps []
  g : mg x = some (.ref f)
section
variable {P : Program} {w : World} {K : PySem.W.Frag} {mg : Str → Option Value} {base : Heap} {f : Addr} {fd : FuncData}
/-- a row appended -/
theorem HoX.row {c : Cn} {MT MS : Addr → Prop} {x dx p th kf tr wd pr : Addr} {ds : Dims} {ms : List Str} {S : Hs} {fa wa : Str → Addr} {rs : List V} {H H' : Hp} {r : Rw} (h : HoX K c H MT MS x ds ms S dx p th kf tr wd fa wa rs) (hr : r.at K H pr) (eH : upd H tr (.lst (rs ++ [.ref pr])) = H') : HoX K c H' MT MS x ds ms (S.told r) dx p th kf tr wd fa wa (rs ++ [.ref pr]) := by
  have kk : Keep (fun b => b ≠ tr) H H' := fun b u eb tb q => by
    rw [← eH]
    by_cases z : b = tr
    · rw [z, h.hr] at eb
      cases eb
      exact q.elim (fun q => absurd q (Chg.notT trivial)) fun q => absurd z q
    · rw [upd_ne z]; exact eb
  have ks : Keep MS H H' := kk.mono fun b m z => h.r2 (by rw [← z]; exact m)
  have kt : Keep MT H H' := kk.mono fun b m z => h.r1 (by rw [← z]; exact m)
  exact ⟨ks.at h.hx trivial h.sx, h.sx, h.pl.keep ks, h.th.keep kt, kk.at h.hf trivial (ne_of h.hf h.hr (fun z => nomatch z)), fun e he => (h.fi e he).keep kk, by rw [← eH]; exact upd_same, PySem.Paired.snoc (PySem.Paired.mono (fun _ _ => RwRef.keep kk) h.ri) ⟨pr, rfl, kk.rw_at hr⟩, kk.at h.hw trivial (ne_of h.hw h.hr (fun z => nomatch z)), fun e he => ⟨(h.wi e he).1, (h.wi e he).2.keep (h.wi e he).1 ks⟩, h.d1, h.f1, h.f2, h.r1, h.r2, h.w1, h.w2, h.fw⟩
theorem ints_dp {H : Hp} : ∀ (xs : List Int), DpAll K H (xs.map V.int) (xs.map PyData.int)
  | [] => .nil
  | x :: xs => .cons (.int x) (ints_dp xs)
theorem fints_dp {α : Type} {H : Hp} (g : α → Int) : ∀ (l : List α), DpAll K H (l.map fun t => V.int (g t)) (l.map fun t => PyData.int (g t))
  | [] => .nil
  | x :: xs => .cons (.int _) (fints_dp g xs)
/-! ### House.tell -/
def spTell (K : PySem.W.Frag) (c : Cn) (NR NF : Addr) : Sp := fun vs H Q E => ∃ (x pr : Addr) (M : Addr → Prop) (ds : Dims) (ms : List Str) (S : Hs) (r : Rw), vs = [.ref x, .ref pr] ∧ HoO K c H M x ds ms S ∧ r.at K H pr ∧ r.ok ∧ HsOk ds ms S ∧ S.rows.length < 190 ∧ Tabs (tbS c.Pt) H ∧
  (r.fits ds ms = false → ∀ d H', Same H H' → H d = none → H' d = some (.xd (noF "NoRow" (.ref pr))) → E (.ref NR) (some d) H') ∧
  (∀ name, r = .forget name → lk S.facts name = none → ∀ d H', Same H H' → H d = none → H' d = some (.xd (noF "NoFact" (.str name))) → E (.ref NF) (some d) H') ∧
  (S.takes ds ms r = true → ∀ H' M' v, Fr (tbS c.Pt) M H H' → Nw M M' H → HoO K c H' M' x ds ms (S.tell ds r) → Dp K H' v (S.tellD ds r) → Q v H')
abbrev N_House_tell : List Str := ["self", "row"]
theorem sc_House_tell : FnScope N_House_tell ["self", "row"] (defScope s_House_tell) := ⟨rfl, rfl, rfl, by decide +kernel, rfl, by decide +kernel, by decide +kernel⟩
/-! slots: 0 self 1 row; cells:  -/
theorem ok_tell {c : Cn} {NR NF fL fE f1 f2 f3 : Addr} {fdL fdE fd1 fd2 fd3 : FuncData} (F : FnP K "tell" "House.tell" s_House_tell f fd) (TX : HsTxt K c.CH) (c_look : FunX P w K mg base "look" 5 ["plan", "row"] (spLook K c.CP NR) fL fdL) (EF : ErrM P w K mg base "NoFact" NF fE fdE) (mk1 : MFun P w K mg base c.CH "take_kind" 7 ["self", "thing", "day", "values"] (spHKind K c) f1 fd1)
    (mk2 : MFun P w K mg base c.CH "take_fact" 7 ["self", "name", "day", "keys", "numbers"] (spHFact K c) f2 fd2) (mk3 : MFun P w K mg base c.CH "take_forget" 5 ["self", "name"] (spHForget K c) f3 fd3) : FnOk P w K mg base (L2.CX P w) 8 f fd ["self", "row"] (spTell K c NR NF) := by
  refine F.ok sc_House_tell (fun vs H Q E h => ?_) (fun cdv A outer s H vs Q E hr h => ?_)
  · obtain ⟨x, pr, M, ds, ms, S, r, rfl, _⟩ := h
    rfl
  · obtain ⟨x, pr, M, ds, ms, S, r, rfl, ⟨MT, MS, dx, p, th, kf, tr, wd, fa, wa, rs, rfl, X⟩, hpr, ok, hS, hn, hT, kR, kF, k⟩ := h
    have nd := sc_House_tell.nd
    have hu := hr.units
    have hu1 : (A.deeper (envOfC "House.tell" (defScope s_House_tell) s.heap.objs.size f cdv)).units + 1 < cLine := by omega
    refine ⟨_, (pss_cons (ps_expr (pe_call c_look.G (hr.mono (by decide)) rfl c_look.g c_look.k c_look.b .nil (passes_call (takes_of rfl rfl rfl rfl) (fun _ _ _ _ h => h)) (pa_cons (pe_fld (pv 0) rfl) (pa_cons (pv 1) pa_nil))))
      (pss_cons (ps_if (PW.pt (pw_and (pt_cmpR op_eq (pe_ix ix_tup (pv 1) pe_int (fun _ _ => rfl)) pe_str (nomark _)) (pw_and1 (pt_cmp (pc_dnotin hu1 (pe_ix ix_tup (pv 1) pe_int (fun _ _ => rfl)) (pe_fld (pv 0) rfl))))))
        (pss_one (ps_raise rfl (takes_of rfl rfl rfl rfl) (pmk_err EF.T EF.G (hr.mono (by decide)) EF.b rfl EF.g (pe_ix ix_tup (pv 1) pe_int (fun _ _ => rfl)))))
        pss_nil)
      (pss_cons (ps_expr (pe_bm PySem.F.plainAttrs_list PySem.F.slot_list_append PySem.F.type_list_append mt_append (pe_fld (pv 0) rfl) (pa_cons (pv 1) pa_nil)))
      (pss_cons (ps_if (pt_cmpR op_eq (pe_ix ix_tup (pv 1) pe_int (fun _ _ => rfl)) pe_str (nomark _))
        (pss_one (ps_ret (pe_meth (pv 0) mk1.cl mk1.m mk1.G (hr.mono (by decide)) mk1.b .nil pass0 (pa_cons (pe_tup (pa_cons (pe_ix ix_tup (pv 1) pe_int (fun _ _ => rfl)) (pa_cons (pe_ix ix_tup (pv 1) pe_int (fun _ _ => rfl)) pa_nil))) (pa_cons (pe_ix ix_tup (pv 1) pe_int (fun _ _ => rfl)) (pa_cons (pe_ix ix_tup (pv 1) pe_int (fun _ _ => rfl)) pa_nil))))))
        pss_nil)
      (pss_cons (ps_if (pt_cmpR op_eq (pe_ix ix_tup (pv 1) pe_int (fun _ _ => rfl)) pe_str (nomark _))
        (pss_one (ps_ret (pe_meth (pv 0) mk2.cl mk2.m mk2.G (hr.mono (by decide)) mk2.b .nil pass0 (pa_cons (pe_ix ix_tup (pv 1) pe_int (fun _ _ => rfl)) (pa_cons (pe_ix ix_tup (pv 1) pe_int (fun _ _ => rfl)) (pa_cons (pe_ix ix_tup (pv 1) pe_int (fun _ _ => rfl)) (pa_cons (pe_ix ix_tup (pv 1) pe_int (fun _ _ => rfl)) pa_nil)))))))
        pss_nil)
      (pss_one (ps_ret (pe_meth (pv 0) mk3.cl mk3.m mk3.G (hr.mono (by decide)) mk3.b .nil pass0 (pa_cons (pe_ix ix_tup (pv 1) pe_int (fun _ _ => rfl)) pa_nil))))))))), ?_⟩
    refine ⟨_, rfl, x, c.CH, dx, _, _, rfl, X.hx, TX.cl, TX.nP, hs_plan p th kf tr wd, _, rfl, p, pr, r, ds, ms, rfl, X.pl.at, hpr, ok, fun hfit H1 s1 => ?_, kR⟩
    have X1 := X.same s1
    have lrs : rs.length < sizeLine := by
      rw [X.ri.length]
      exact Nat.lt_trans hn (by decide)
    have wk : ¬ decide (V.str ("kind" : Str) = V.str "forget") = true := by decide +kernel
    have wf : ¬ decide (V.str ("fact" : Str) = V.str "forget") = true := by decide +kernel
    have wfk : ¬ decide (V.str ("fact" : Str) = V.str "kind") = true := by decide +kernel
    have wok : ¬ decide (V.str ("forget" : Str) = V.str "kind") = true := by decide +kernel
    have wof : ¬ decide (V.str ("forget" : Str) = V.str "fact") = true := by decide +kernel
    have back : ∀ {H3 : Hp} {M4 : Addr → Prop}, Fr (tbS c.Pt) (hoM MT MS kf tr wd) H H3 → Nw (hoM MT MS kf tr wd) M4 H3 → Nw (hoM MT MS kf tr wd) M4 H := fun f nw b hb => (nw b hb).elim .inl fun z => (Classical.em (hoM MT MS kf tr wd b)).imp id fun q => z.back f q
    cases r with
    | kind d key day vals =>
      obtain ⟨q, h1, h2⟩ := Rw.same s1 hpr
      have ht : S.takes ds ms (.kind d key day vals) = true := by unfold Hs.takes; rw [hfit]; rfl
      obtain ⟨e, he, hl⟩ := kfits_in hfit
      refine ⟨_, rfl, pr, _, _, _, rfl, rfl, h1, atI_nat (j := 0) rfl, rfl, _, rfl, iteF0 wk (iteF ?_)⟩
      refine ⟨_, rfl, x, c.CH, dx, _, _, rfl, X1.hx, TX.cl, TX.nR, hs_rows p th kf tr wd, .inl ⟨rfl, _, SqL.of X1.hr⟩, _, rfl, tr, rs, _, rfl, rfl, X1.hr, lrs, ?_⟩
      generalize e2 : upd H1 tr _ = H2
      obtain ⟨f2, _, _⟩ := put_of (T := tbS c.Pt) (N := hoM MT MS kf tr wd) X1.hr trivial (.inr (.inr (.inr (.inl rfl)))) e2
      have X2 := X1.row (r := .kind d key day vals) ⟨q, h1, h2⟩ e2
      have h12 := f2.seqT h1
      refine ⟨_, rfl, pr, _, _, _, rfl, rfl, h12, atI_nat (j := 0) rfl, rfl, _, rfl, iteT0 (decide_eq_true rfl) ?_⟩
      refine ⟨_, rfl, x, dx, _, rfl, X2.hx, hs_no (by decide +kernel), _, rfl, pr, _, _, _, rfl, rfl, h12, atI_nat (j := 1) rfl, _, rfl, pr, _, _, _, rfl, rfl, h12, atI_nat (j := 2) rfl, by show 2 ≤ sizeLine; decide, fun t nt => ?_⟩
      generalize e3 : upd H2 t _ = H3
      obtain ⟨s3, et⟩ := new_of nt e3
      have h13 := Same.seqT s3 h12
      have f03 : Fr (tbS c.Pt) (hoM MT MS kf tr wd) H H3 := ((Fr.of s1).trans f2).trans (Fr.of s3)
      have hS0 := hS.tok
      refine ⟨_, rfl, pr, _, _, _, rfl, rfl, h13, atI_nat (j := 3) rfl, _, rfl, pr, _, _, _, rfl, rfl, h13, atI_nat (j := 4) rfl, x, t, q, _, ds, ms, _, (d, key), e, day, vals, S.rows.length, 5 * S.rows.length, rfl, (X2.same s3).o, et, Same.seqT s3 (f2.seqT h2), hS.fo (by omega), ok.1, ok.2.1, he, hl, hS.tok, by omega, by omega, hS.fkn, f03.tb hT, fun H4 M4 r' f4 nw4 O4 hr' => ?_⟩
      have ew : wsOf ds d = e.2.map (·.2) := wsOf_some he
      refine k ht H4 M4 (.ref r') (f03.trans f4) (back f03 nw4) ?_ ?_
      · unfold Hs.tell
        simp only [ew]
        exact O4
      · unfold Hs.tellD
        simp only [ew]
        exact .tup (SqT.of hr') (.cons (.str _) (.cons (.int _) (.cons (.int _) (.cons (.int _) .nil))))
    | fact name day keys nums =>
      obtain ⟨q1, q2, h1, h2, h3⟩ := Rw.same s1 hpr
      have ht : S.takes ds ms (.fact name day keys nums) = true := by unfold Hs.takes; rw [hfit]; rfl
      refine ⟨_, rfl, pr, _, _, _, rfl, rfl, h1, atI_nat (j := 0) rfl, rfl, _, rfl, iteF0 wf (iteF ?_)⟩
      refine ⟨_, rfl, x, c.CH, dx, _, _, rfl, X1.hx, TX.cl, TX.nR, hs_rows p th kf tr wd, .inl ⟨rfl, _, SqL.of X1.hr⟩, _, rfl, tr, rs, _, rfl, rfl, X1.hr, lrs, ?_⟩
      generalize e2 : upd H1 tr _ = H2
      obtain ⟨f2, _, _⟩ := put_of (T := tbS c.Pt) (N := hoM MT MS kf tr wd) X1.hr trivial (.inr (.inr (.inr (.inl rfl)))) e2
      have X2 := X1.row (r := .fact name day keys nums) ⟨q1, q2, h1, h2, h3⟩ e2
      have h12 := f2.seqT h1
      have f02 : Fr (tbS c.Pt) (hoM MT MS kf tr wd) H H2 := (Fr.of s1).trans f2
      refine ⟨_, rfl, pr, _, _, _, rfl, rfl, h12, atI_nat (j := 0) rfl, rfl, _, rfl, iteF0 wfk ?_⟩
      refine ⟨_, rfl, pr, _, _, _, rfl, rfl, h12, atI_nat (j := 0) rfl, rfl, _, rfl, iteT0 (decide_eq_true rfl) ?_⟩
      refine ⟨_, rfl, x, dx, _, rfl, X2.hx, hs_no (by decide +kernel), _, rfl, pr, _, _, _, rfl, rfl, h12, atI_nat (j := 1) rfl, _, rfl, pr, _, _, _, rfl, rfl, h12, atI_nat (j := 2) rfl, _, rfl, pr, _, _, _, rfl, rfl, h12, atI_nat (j := 3) rfl, _, rfl, pr, _, _, _, rfl, rfl, h12, atI_nat (j := 4) rfl,
        x, q1, q2, _, ds, ms, _, name, ⟨day, keys, nums⟩, S.rows.length, 5 * S.rows.length, rfl, X2.o, f2.seqT h2, f2.seqT h3, ⟨hS.fo (by omega), by have := hS.fl; show S.facts.length < 200; omega, ok.2.2.1.2, hS.dn, hS.tok, by omega, by omega, hS.fkn⟩, f02.tb hT, fun H4 M4 r' q f4 nw4 O4 hr' hq => ?_⟩
      refine k ht H4 M4 (.ref r') (f02.trans f4) (back f02 nw4) O4 ?_
      refine .tup (SqT.of hr') (.cons (.str _) (.cons (.int _) (.cons (.int _) (.cons (.tup (SqT.of hq) ?_) .nil))))
      exact fints_dp (fun t => (S.factS ds name ⟨day, keys, nums⟩).ts.numOn t day) (thOf ds keys)
    | forget name =>
      have h1 : SqT K H1 pr [.str "forget", .str name] := Rw.same s1 hpr
      have ev := val_map (r := fun n => V.ref (fa n)) (g := fun n : Str => (Sum.inr n : L2.Key)) inr_inj (k := name) (ms := S.facts)
      refine ⟨_, rfl, pr, _, _, _, rfl, rfl, h1, atI_nat (j := 0) rfl, rfl, _, rfl, iteT0 (decide_eq_true rfl) ?_⟩
      refine ⟨_, rfl, pr, _, _, _, rfl, rfl, h1, atI_nat (j := 1) rfl, _, rfl, x, c.CH, dx, _, _, rfl, X1.hx, TX.cl, TX.nF, hs_facts p th kf tr wd, kf, _, rfl, DGet.k (k := Sum.inr name) X1.hf, _, rfl, ?_⟩
      rw [ev]
      cases hlk : lk S.facts name with
      | none =>
        refine iteT ⟨_, rfl, pr, _, _, _, rfl, rfl, h1, atI_nat (j := 1) rfl, err_ok (fun a ha => .inl ⟨name, rfl, ?_⟩) fun d hd => ?_⟩
        · exact ⟨fun c hc => Nat.lt_of_lt_of_le (Tx.ok ok c hc) (by decide), by have := Tx.le ok; omega⟩
        · exact kF name rfl hlk d _ (s1.trans (same_new hd)) (s1.free hd) upd_same
      | some fc =>
        have ht : S.takes ds ms (.forget name) = true := by
          unfold Hs.takes
          rw [hfit]
          show (true && (lk S.facts name).isSome) = true
          rw [hlk]
          rfl
        refine iteF ?_
        refine ⟨_, rfl, x, c.CH, dx, _, _, rfl, X1.hx, TX.cl, TX.nR, hs_rows p th kf tr wd, .inl ⟨rfl, _, SqL.of X1.hr⟩, _, rfl, tr, rs, _, rfl, rfl, X1.hr, lrs, ?_⟩
        generalize e2 : upd H1 tr _ = H2
        obtain ⟨f2, _, _⟩ := put_of (T := tbS c.Pt) (N := hoM MT MS kf tr wd) X1.hr trivial (.inr (.inr (.inr (.inl rfl)))) e2
        have X2 := X1.row (r := .forget name) h1 e2
        have h12 := f2.seqT h1
        have f02 : Fr (tbS c.Pt) (hoM MT MS kf tr wd) H H2 := (Fr.of s1).trans f2
        refine ⟨_, rfl, pr, _, _, _, rfl, rfl, h12, atI_nat (j := 0) rfl, rfl, _, rfl, iteF0 wok ?_⟩
        refine ⟨_, rfl, pr, _, _, _, rfl, rfl, h12, atI_nat (j := 0) rfl, rfl, _, rfl, iteF0 wof ?_⟩
        refine ⟨_, rfl, x, dx, _, rfl, X2.hx, hs_no (by decide +kernel), _, rfl, pr, _, _, _, rfl, rfl, h12, atI_nat (j := 1) rfl, x, _, ds, ms, _, name, fc, rfl, X2.o, hlk, hS.fo (by omega), hS.dn, hS.fkn, fun H4 r' f4 O4 hr' => ?_⟩
        refine k ht H4 _ (.ref r') (f02.trans f4) Nw.refl ?_ ?_
        · unfold Hs.tell
          simp only [hlk]
          exact O4
        · unfold Hs.tellD
          simp only [hlk]
          exact .tup (SqT.of hr') (.cons (.str _) (.cons (.int _) .nil))
end
end Kd

/-! texts sorted -/
namespace Kd
open PySem PySem.Spec PyProof.Rows L2
def leS (a b : Str) : Bool := !ltCps b.cps.toList a.cps.toList
def srtS (l : List Str) : List Str := l.mergeSort leS
theorem leS_iff (a b : Str) : leS a b = true ↔ a.cps.toList ≤ b.cps.toList := by
  unfold leS
  rw [ltCps_eq, Bool.not_eq_true', decide_eq_false_iff_not]
  exact List.not_lt
theorem str_ext {a b : Str} (h : a.cps.toList = b.cps.toList) : a = b := by
  cases a; cases b
  congr 1
  exact Array.toList_inj.mp h
theorem leS_trans (a b c : Str) (h1 : leS a b = true) (h2 : leS b c = true) : leS a c = true := by
  rw [leS_iff] at *
  exact List.le_trans h1 h2
theorem leS_total (a b : Str) : (leS a b || leS b a) = true := by
  rw [Bool.or_eq_true, leS_iff, leS_iff]
  exact List.le_total _ _
theorem leS_anti {a b : Str} (h1 : leS a b = true) (h2 : leS b a = true) : a = b := by
  rw [leS_iff] at *
  exact str_ext (List.le_antisymm h1 h2)
theorem rising_pw : ∀ (p : Str) (l : List Str), risingS p l = true → (p :: l).Pairwise fun a b => leS a b = true
  | p, [], _ => List.pairwise_singleton _ _
  | p, x :: r, h => by
    have h : (!ltCps x.cps.toList p.cps.toList && risingS x r) = true := h
    rw [Bool.and_eq_true] at h
    have ih := rising_pw x r h.2
    refine List.pairwise_cons.mpr ⟨fun y hy => ?_, ih⟩
    rcases List.mem_cons.mp hy with rfl | hy
    · exact h.1
    · exact leS_trans _ _ _ h.1 (List.rel_of_pairwise_cons ih hy)
theorem sorted_pw {l : List Str} (h : sortedS l = true) : l.Pairwise fun a b => leS a b = true := by
  cases l with
  | nil => exact List.Pairwise.nil
  | cons x r => exact rising_pw x r h
theorem sorted_eq {ys l : List Str} (hp : ys.Perm l) (h : sortedS ys = true) : ys = srtS l := by
  refine List.Perm.eq_of_pairwise (le := fun a b => leS a b = true) (fun a b _ _ h1 h2 => leS_anti h1 h2) (sorted_pw h) ?_ (hp.trans (List.mergeSort_perm l _).symm)
  exact List.pairwise_mergeSort leS_trans leS_total l
theorem srtS_perm (l : List Str) : (srtS l).Perm l := List.mergeSort_perm l _
/-- the order of what is sorted is nothing to it -/
theorem srtS_of_perm {a b : List Str} (h : a.Perm b) : srtS a = srtS b := by
  refine List.Perm.eq_of_pairwise (le := fun a b => leS a b = true) (fun a b _ _ h1 h2 => leS_anti h1 h2) (List.pairwise_mergeSort leS_trans leS_total a) (List.pairwise_mergeSort leS_trans leS_total b) ((srtS_perm a).trans (h.trans (srtS_perm b).symm))
end Kd

/-! len(o) of an own class -/
namespace KdLn
open PySem PySem.Spec PyProof.Rows L2
section
variable {X : Cx} {CX : CXT} {n : Nat} {C f : Addr} {fd : FuncData} {ps : List Str} {sp : Sp} {E : XK}
end
end KdLn

namespace Kd
open PySem PySem.Spec PyProof.Rows L2 LamX
def Hs.names (S : Hs) : List Str := srtS (S.facts.map (·.1))
def Ts.keysL (ts : Ts) (z : Str) : List Str := (ts.nums.filter fun e => decide (e.1.1 = z)).map fun e => e.1.2
def Hs.keysOf (S : Hs) (z : Str) : List Str := srtS (S.ts.keysL z)
section
variable {P : Program} {w : World} {K : PySem.W.Frag} {mg : Str → Option Value} {base : Heap} {f : Addr} {fd : FuncData}
/-! ### House.rows -/
def spRowsH (K : PySem.W.Frag) (c : Cn) : Sp := fun vs H Q _ => ∃ (x : Addr) (M : Addr → Prop) (ds : Dims) (ms : List Str) (S : Hs), vs = [.ref x] ∧ HoO K c H M x ds ms S ∧ ∀ l rs, H l = none → Paired (RwRef K H) rs S.rows → Q (.ref l) (upd H l (.lst rs))
abbrev N_House_rows : List Str := ["self"]
theorem sc_House_rows : FnScope N_House_rows ["self"] (defScope s_House_rows) := ⟨rfl, rfl, rfl, by decide +kernel, rfl, by decide +kernel, by decide +kernel⟩
/-! slots: 0 self; cells:  -/
theorem ok_rowsH {c : Cn} (F : FnP K "rows" "House.rows" s_House_rows f fd) (TX : HsTxt K c.CH) (z_list : mg "list" = none) : FnOk P w K mg base CX0 1 f fd ["self"] (spRowsH K c) := by
  refine F.ok sc_House_rows (fun vs H Q E h => ?_) (fun cdv A outer s H vs Q E hr h => ?_)
  · obtain ⟨x, M, ds, ms, S, rfl, _⟩ := h
    rfl
  · obtain ⟨x, M, ds, ms, S, rfl, ⟨MT, MS, dx, p, th, kf, tr, wd, fa, wa, rs, rfl, X⟩, k⟩ := h
    refine ⟨_, PSs.nox (pss_one (ps_ret (pe_callTy call_list_of (by rfl) z_list (by decide +kernel) (pa_cons (pe_fld (pv 0) rfl) pa_nil)))), ?_⟩
    exact ⟨_, rfl, x, c.CH, dx, _, _, rfl, X.hx, TX.cl, TX.nR, hs_rows p th kf tr wd, tr, rs, rfl, .inl (SqL.of X.hr), fun l hl => k l rs hl X.ri⟩
/-! ### House.__len__ -/
/-! slots: 0 self; cells:  -/
/-! ### House.facts -/
/-! slots: 0 self 1 told 2 name 3 day 4 keys 5 numbers; cells:  -/
end
end Kd

namespace Kd
open PySem PySem.Spec PyProof.Rows L2 LamX
section
variable {P : Program} {w : World} {K : PySem.W.Frag} {mg : Str → Option Value} {base : Heap} {f : Addr} {fd : FuncData}
/-! ### House.__init__ -/
theorem hs_put (p th kf tr wd : Addr) : putF "watchers" (.ref wd) (putF "told_rows" (.ref tr) (putF "kept_facts" (.ref kf) (putF "things" (.ref th) (putF "plan" (.ref p) [])))) = hsF p th kf tr wd := by
  have a1 : ("things" : Str) ≠ "plan" := by decide +kernel
  have a2 : ("kept_facts" : Str) ≠ "plan" := by decide +kernel
  have a3 : ("kept_facts" : Str) ≠ "things" := by decide +kernel
  have a4 : ("told_rows" : Str) ≠ "plan" := by decide +kernel
  have a5 : ("told_rows" : Str) ≠ "things" := by decide +kernel
  have a6 : ("told_rows" : Str) ≠ "kept_facts" := by decide +kernel
  have a7 : ("watchers" : Str) ≠ "plan" := by decide +kernel
  have a8 : ("watchers" : Str) ≠ "things" := by decide +kernel
  have a9 : ("watchers" : Str) ≠ "kept_facts" := by decide +kernel
  have a0 : ("watchers" : Str) ≠ "told_rows" := by decide +kernel
  simp [putF, hsF, a1, a2, a3, a4, a5, a6, a7, a8, a9, a0, a1.symm, a2.symm, a3.symm, a4.symm, a5.symm, a6.symm, a7.symm, a8.symm, a9.symm, a0.symm]
def Hs.none : Hs := ⟨⟨[], [], 0⟩, [], [], []⟩
theorem HsOk.start {ds : Dims} {ms : List Str} (d4 : ds.length ≤ 4) (d5 : ∀ d ∈ ds, d.2.length ≤ 5) (dx : ∀ d ∈ ds, Tx d.1) (dn : (ds.map (·.1)).Nodup) : HsOk ds ms Hs.none :=
  ⟨d4, dx, dn, ⟨d5, List.nodup_nil, List.nodup_nil, fun e he => (by cases he), fun e he => (by cases he), fun e he => (by cases he), fun e he => (by cases he), Nat.zero_le _, fun e he => (by cases he), Nat.zero_le _⟩, Nat.zero_le _, List.nodup_nil, fun e he => (by cases he), fun e he => (by cases he), fun e he => (by cases he), fun t h => (by cases h), fun t h => (by cases h), fun e he => (by cases he), fun z => Nat.zero_le _⟩
end
end Kd

namespace Kd
open PySem PySem.Spec PyProof.Rows L2 LamX
section
variable {P : Program} {w : World} {K : PySem.W.Frag} {mg : Str → Option Value} {base : Heap} {f : Addr} {fd : FuncData}
abbrev InitD (K : PySem.W.Frag) (e f : Addr) (fd : FuncData) : Prop := FunD K "__init__" "Plan.__init__" (defArgs s_Plan_init) (defBody s_Plan_init) (defScope s_Plan_init) [.ref e] [] f fd
theorem init_b3 {e : Addr} (F : InitD K e f fd) : ∃ ds, Vals [] ds ∧ Binds K fd ["self", "dimensions", "measures"] ds :=
  F.binds1 (ps := ["self", "dimensions", "measures"]) 3 1 (by simp) rfl fun T kV doc pm an cdv ct us its h1 h2 => match us, its, h1, h2 with
    | [_, _, _], [_], _, _ => ⟨_, rfl, rfl⟩
/-- the class Plan, and how it is called -/
structure PlanC (P : Program) (w : World) (K : PySem.W.Frag) (mg : Str → Option Value) (base : Heap) (C e fI : Addr) (fdI : FuncData) : Prop where
  T : PlTxt K C
  M : Mk K C fI
  GI : FnOk P w K mg base CX0 5 fI fdI ["self", "dimensions", "measures"] (spInit K C)
  gC : mg "Plan" = some (.ref C)
  I : InitD K e fI fdI
  E : ∀ H, SqT K H e []
/-- a class with an __init__ -/
structure ClsC (P : Program) (w : World) (K : PySem.W.Frag) (mg : Str → Option Value) (base : Heap) (x : Str) (n : Nat) (ps : List Str) (sp : Sp) (C fI : Addr) (fdI : FuncData) : Prop where
  M : Mk K C fI
  G : FnOk P w K mg base CX0 n fI fdI ps sp
  b : Binds K fdI ps []
  g : mg x = some (.ref C)
/-! ### House.__init__ -/
def spHInit (K : PySem.W.Frag) (c : Cn) : Sp := fun vs H Q _ => ∃ (x dx p0 : Addr) (ds : Dims) (ms : List Str), vs = [.ref x, .ref p0] ∧ H x = some (.ins c.CH dx []) ∧ PlanAt K c.CP H p0 ds ms ∧ Szd ds ms ∧ ffV ds ms = .non ∧
  ∀ H' M, Fr (tbS c.Pt) (fun b => b = x) H H' → (∀ b, M b → b = x ∨ Fresh H b) → HoO K c H' M x ds ms Hs.none → Q .non H'
theorem sc_hinit : FnScope ["self", "plan"] ["self", "plan"] (defScope s_House_init) := ⟨rfl, rfl, rfl, by decide +kernel, rfl, by decide +kernel, by decide +kernel⟩
theorem ok_hinit {c : Cn} {e fI fT fD fM : Addr} {fdI fdT fdD fdM : FuncData} (F : FnP K "__init__" "House.__init__" s_House_init f fd) (TX : HsTxt K c.CH) (PC : PlanC P w K mg base c.CP e fI fdI) (TC : ClsC P w K mg base "Things" 1 ["self", "plan"] (spThings K c.CT) c.CT fT fdT)
    (GD : FnOk P w K mg base CX0 1 fD fdD ["self"] (spDims K c.CP)) (bD : Binds K fdD ["self"] []) (mD : Meth K c.CP "dimensions" fD) (GM : FnOk P w K mg base CX0 1 fM fdM ["self"] (spMeas K c.CP)) (bM : Binds K fdM ["self"] []) (mM : Meth K c.CP "measures" fM) : FnOk P w K mg base CX0 7 f fd ["self", "plan"] (spHInit K c) := by
  refine F.ok sc_hinit (fun vs H Q E h => ?_) (fun cdv A outer s H vs Q E hr h => ?_)
  · obtain ⟨x, dx, p0, ds, ms, rfl, _⟩ := h
    rfl
  · obtain ⟨x, dx, p0, ds, ms, rfl, hx, hp, sz, ff, k⟩ := h
    obtain ⟨b3s, v3, b3⟩ := init_b3 PC.I
    refine ⟨_, PSs.nox (pss_cons (ps_fld (pv 0) (pe_make PC.M PC.GI (hr.mono (by decide)) rfl PC.gC b3 v3 pass0 (pa_cons (pe_meth0 (pv 1) PC.T.cl mD GD (hr.mono (by decide)) bD .nil pass0) (pa_cons (pe_meth0 (pv 1) PC.T.cl mM GM (hr.mono (by decide)) bM .nil pass0) pa_nil))) rfl)
      (pss_cons (ps_fld (pv 0) (pe_make TC.M TC.G (hr.mono (by decide)) rfl TC.g TC.b .nil pass0 (pa_cons (pe_fld (pv 0) rfl) pa_nil)) rfl)
      (pss_cons (ps_fld (pv 0) pe_dnewK rfl) (pss_cons (ps_fld (pv 0) (pe_lst pa_nil) rfl) (pss_one (ps_fld (pv 0) pe_dnewK rfl)))))), ?_⟩
    obtain ⟨dxp, pa, pb, px, h1, h2, h3, h4⟩ := id hp.ex
    refine ⟨_, rfl, p0, dxp, _, rfl, h1, pl_no0 (by decide +kernel) (by decide +kernel), p0, ds, ms, rfl, hp, fun l xs nl pl => ?_⟩
    generalize e1 : upd H l _ = H1
    obtain ⟨s1, el⟩ := new_of nl e1
    refine ⟨_, rfl, p0, dxp, _, rfl, s1 _ _ h1, pl_no0 (by decide +kernel) (by decide +kernel), p0, ds, ms, rfl, hp.same s1, fun m nm => ?_⟩
    generalize e2 : upd H1 m _ = H2
    obtain ⟨s2, em⟩ := new_of nm e2
    have s02 := s1.trans s2
    intro y dy ny ndy ney
    have sx : Same H2 (upd (upd H2 dy (.own y)) y (.ins c.CP dy [])) := fun b o q => by rw [upd_ne (ne_of_none q ny), upd_ne (ne_of_none q ndy)]; exact q
    refine ⟨y, dy, l, m, ds, ms, rfl, upd_same, ⟨xs, SqL.of (sx _ _ (s2 _ _ el)), PySem.Paired.mono (fun _ _ => DimAt.same (s02.trans sx)) pl⟩, .inl (SqL.of (sx _ _ em)), sz, ff, fun H3 a b zs na nb e1 e2 e3 e4 s3 => ⟨rfl, ?_⟩⟩
    have s23 : Same H2 H3 := fun b o e => cd_sub _ _ (s3 b o (cd_of (sx b o e) (ne_of_none e ny)))
    have s03 := s02.trans s23
    have fr0 : ∀ b, H3 b ≠ none → (∀ o, H b = some o → H3 b = some o) := fun b _ o e => s03 _ _ e
    have hx3 := s03 _ _ hx
    have nya : y ≠ a := fun z => by rw [← z, upd_same] at na; cases na
    have nyb : y ≠ b := fun z => by rw [← z, upd_same] at nb; cases nb
    have n2a : H2 a = none := sx.free na
    have n2b : H2 b = none := sx.free nb
    have hx2 := s02 _ _ hx
    have nxy : y ≠ x := fun z => by rw [z, hx2] at ny; cases ny
    have nxa : a ≠ x := fun z => by rw [z, hx2] at n2a; cases n2a
    have nxb : b ≠ x := fun z => by rw [z, hx2] at n2b; cases n2b
    refine ⟨_, rfl, x, c.CH, dx, _, rfl, hx3, TX.cl, TX.nP, (by show 0 < 1000; decide), ?_⟩
    generalize e5 : upd H3 x _ = H4
    obtain ⟨f4, ex4, o4⟩ := put_of (T := tbS c.Pt) (N := fun b => b = x) hx3 trivial rfl e5
    have k34 : Keep (fun b => b ≠ x) H3 H4 := f4.keep fun _ z => z
    refine ⟨_, rfl, x, c.CH, dx, _, _, rfl, ex4, TX.cl, TX.nP, (show (putF "plan" (V.ref y) []).lookup ("plan" : Str) = some (V.ref y) by simp [putF, List.lookup]), ?_⟩
    intro th dt nth ndt net
    have st : Same H4 (upd (upd H4 dt (.own th)) th (.ins c.CT dt [])) := fun b o q => by rw [upd_ne (ne_of_none q nth), upd_ne (ne_of_none q ndt)]; exact q
    refine ⟨th, dt, y, rfl, upd_same, fun H5 kd nbn nkd nnb nkn t1 t2 t3 s5 => ⟨rfl, ?_⟩⟩
    have s45 : Same H4 H5 := fun b o e => cd_sub _ _ (s5 b o (cd_of (st b o e) (ne_of_none e nth)))
    have n4k : H4 kd = none := st.free nkd
    have n4n : H4 nbn = none := st.free nnb
    have nxth : th ≠ x := fun z => by rw [z, ex4] at nth; cases nth
    have nxkd : kd ≠ x := fun z => by rw [z, ex4] at n4k; cases n4k
    have nxnb : nbn ≠ x := fun z => by rw [z, ex4] at n4n; cases n4n
    have hx5 := s45 _ _ ex4
    refine ⟨_, rfl, x, c.CH, dx, _, rfl, hx5, TX.cl, TX.nT, (by show 1 < 1000; decide), ?_⟩
    generalize e6 : upd H5 x _ = H6
    obtain ⟨f6, ex6, o6⟩ := put_of (T := tbS c.Pt) (N := fun b => b = x) hx5 trivial rfl e6
    have k56 : Keep (fun b => b ≠ x) H5 H6 := f6.keep fun _ z => z
    intro kf nkf
    generalize e7 : upd H6 kf _ = H7
    obtain ⟨s7, ekf⟩ := new_of nkf e7
    have nxkf : kf ≠ x := fun z => by rw [z, ex6] at nkf; cases nkf
    refine ⟨_, rfl, x, c.CH, dx, _, rfl, s7 _ _ ex6, TX.cl, TX.nF, (by show 2 < 1000; decide), ?_⟩
    generalize e8 : upd H7 x _ = H8
    obtain ⟨f8, ex8, o8⟩ := put_of (T := tbS c.Pt) (N := fun b => b = x) (s7 _ _ ex6) trivial rfl e8
    have k78 : Keep (fun b => b ≠ x) H7 H8 := f8.keep fun _ z => z
    refine ⟨by show 0 ≤ sizeLine; decide, fun tr ntr => ?_⟩
    generalize e9 : upd H8 tr _ = H9
    obtain ⟨s9, etr⟩ := new_of ntr e9
    have nxtr : tr ≠ x := fun z => by rw [z, ex8] at ntr; cases ntr
    refine ⟨_, rfl, x, c.CH, dx, _, rfl, s9 _ _ ex8, TX.cl, TX.nR, (by show 3 < 1000; decide), ?_⟩
    generalize e10 : upd H9 x _ = Ha
    obtain ⟨fa, exa, oa⟩ := put_of (T := tbS c.Pt) (N := fun b => b = x) (s9 _ _ ex8) trivial rfl e10
    have k9a : Keep (fun b => b ≠ x) H9 Ha := fa.keep fun _ z => z
    intro wd nwd
    generalize e11 : upd Ha wd _ = Hb
    obtain ⟨sb, ewd⟩ := new_of nwd e11
    have nxwd : wd ≠ x := fun z => by rw [z, exa] at nwd; cases nwd
    refine ⟨_, rfl, x, c.CH, dx, _, rfl, sb _ _ exa, TX.cl, TX.nW, (by show 4 < 1000; decide), ?_⟩
    rw [hs_put]
    generalize e12 : upd Hb x _ = Hc
    obtain ⟨fc, exc, oc⟩ := put_of (T := tbS c.Pt) (N := fun b => b = x) (sb _ _ exa) trivial rfl e12
    have kbc : Keep (fun b => b ≠ x) Hb Hc := fc.keep fun _ z => z
    -- what stands at the end
    have k5c : Keep (fun b => b ≠ x) H5 Hc := ((((k56.trans (Keep.of s7)).trans k78).trans (Keep.of s9)).trans ((k9a.trans (Keep.of sb)).trans kbc))
    have k3c : Keep (fun b => b ≠ x) H3 Hc := (k34.trans (Keep.of s45)).trans k5c
    have k7c : Keep (fun b => b ≠ x) H7 Hc := (k78.trans (Keep.of s9)).trans ((k9a.trans (Keep.of sb)).trans kbc)
    have f0c : Fr (tbS c.Pt) (fun b => b = x) H Hc := (((((Fr.of s03).trans f4).trans (Fr.of s45)).trans f6).trans ((Fr.of s7).trans f8)).trans (((Fr.of s9).trans fa).trans ((Fr.of sb).trans fc))
    have f04 : Fr (tbS c.Pt) (fun b => b = x) H H4 := (Fr.of s03).trans f4
    have f06 : Fr (tbS c.Pt) (fun b => b = x) H H6 := (f04.trans (Fr.of s45)).trans f6
    have f08 : Fr (tbS c.Pt) (fun b => b = x) H H8 := f06.trans ((Fr.of s7).trans f8)
    have f0a : Fr (tbS c.Pt) (fun b => b = x) H Ha := f08.trans ((Fr.of s9).trans fa)
    have pc1 := k3c.at e1 trivial nxy
    have pc2 := k3c.at e2 trivial nxa
    have pc4 := k3c.at e4 trivial nxb
    have pc3 : Paired (DimAt K Hc) zs ds := PySem.Paired.mono (fun _ _ => keep_dim k3c) e3
    have tc1 := k5c.at t1 trivial nxth
    have tc2 := k5c.at t2 trivial nxkd
    have tc3 := k5c.at t3 trivial nxnb
    have kfc := k7c.at ekf trivial nxkf
    have trc := (k9a.trans (Keep.of sb)).trans kbc |>.at etr trivial nxtr
    have wdc := kbc.at ewd trivial nxwd
    -- the new things stand apart of the plan's objects
    have n4 : ∀ u o, H4 u = some o → u ≠ th ∧ u ≠ kd ∧ u ≠ nbn := fun u o e => ⟨ne_of_none e nth, ne_of_none e n4k, ne_of_none e n4n⟩
    have ay := n4 y _ (k34.at e1 trivial nxy)
    have aa := n4 a _ (k34.at e2 trivial nxa)
    have ab := n4 b _ (k34.at e4 trivial nxb)
    have ax := n4 x _ ex4
    have n6 : ∀ u o, H6 u = some o → u ≠ kf := fun u o e => ne_of_none e nkf
    have n8 : ∀ u o, H8 u = some o → u ≠ tr := fun u o e => ne_of_none e ntr
    have na : ∀ u o, Ha u = some o → u ≠ wd := fun u o e => ne_of_none e nwd
    have k36 := (k34.trans (Keep.of s45)).trans k56
    have k68 : Keep (fun b => b ≠ x) H6 H8 := (Keep.of s7).trans k78
    have k8a : Keep (fun b => b ≠ x) H8 Ha := (Keep.of s9).trans k9a
    have hkf8 := k78.at ekf trivial nxkf
    have hkfa := k8a.at hkf8 trivial nxkf
    have htra := k9a.at etr trivial nxtr
    have py6 := k36.at e1 trivial nxy
    have pa6 := k36.at e2 trivial nxa
    have pb6 := k36.at e4 trivial nxb
    have pt6 := k56.at t1 trivial nxth
    have pk6 := k56.at t2 trivial nxkd
    have pn6 := k56.at t3 trivial nxnb
    have PO : PlanO K c.CP Hc (fun u => u = x ∨ u = y ∨ u = a ∨ u = b) y ds ms := by
      obtain ⟨lv, pl0⟩ := PlanO.mk (K := K) (C := c.CP) pc1 pc2 pc3 pc4
      refine ⟨?_, fun H' kp => pl0 H' (kp.mono fun u hu => .inr hu)⟩
      rintro u (rfl | hu)
      · exact ⟨_, exc, trivial⟩
      · exact lv u hu
    have X : HoX K c Hc (fun u => u = th ∨ u = kd ∨ u = nbn) (fun u => u = x ∨ u = y ∨ u = a ∨ u = b) x ds ms Hs.none dx y th kf tr wd (fun _ => x) (fun _ => x) [] := by
      refine ⟨exc, .inl rfl, PO, ⟨?_, dt, kd, nbn, fun _ => x, fun _ => x, tc1, tc2, tc3, nkn, .inl rfl, .inr (.inl rfl), .inr (.inr rfl), fun e he => (by cases he), fun e he => (by cases he), fun e he => (by cases he)⟩, kfc, fun e he => (by cases he), trc, .nil, wdc, fun e he => (by cases he), ?_, ?_, ?_, ?_, ?_, ?_, ?_, ?_⟩
      · rintro u (rfl | rfl | rfl)
        · exact ⟨_, tc1, trivial⟩
        · exact ⟨_, tc2, trivial⟩
        · exact ⟨_, tc3, trivial⟩
      · rintro u (rfl | rfl | rfl | rfl) (q | q | q)
        · exact ax.1 q
        · exact ax.2.1 q
        · exact ax.2.2 q
        · exact ay.1 q
        · exact ay.2.1 q
        · exact ay.2.2 q
        · exact aa.1 q
        · exact aa.2.1 q
        · exact aa.2.2 q
        · exact ab.1 q
        · exact ab.2.1 q
        · exact ab.2.2 q
      · rintro (q | q | q)
        · exact n6 th _ pt6 q.symm
        · exact n6 kd _ pk6 q.symm
        · exact n6 nbn _ pn6 q.symm
      · rintro (q | q | q | q)
        · exact nxkf q
        · exact n6 y _ py6 q.symm
        · exact n6 a _ pa6 q.symm
        · exact n6 b _ pb6 q.symm
      · rintro (q | q | q)
        · exact n8 th _ (k68.at pt6 trivial nxth) q.symm
        · exact n8 kd _ (k68.at pk6 trivial nxkd) q.symm
        · exact n8 nbn _ (k68.at pn6 trivial nxnb) q.symm
      · rintro (q | q | q | q)
        · exact nxtr q
        · exact n8 y _ (k68.at py6 trivial nxy) q.symm
        · exact n8 a _ (k68.at pa6 trivial nxa) q.symm
        · exact n8 b _ (k68.at pb6 trivial nxb) q.symm
      · rintro (q | q | q)
        · exact na th _ (k8a.at (k68.at pt6 trivial nxth) trivial nxth) q.symm
        · exact na kd _ (k8a.at (k68.at pk6 trivial nxkd) trivial nxkd) q.symm
        · exact na nbn _ (k8a.at (k68.at pn6 trivial nxnb) trivial nxnb) q.symm
      · rintro (q | q | q | q)
        · exact nxwd q
        · exact na y _ (k8a.at (k68.at py6 trivial nxy) trivial nxy) q.symm
        · exact na a _ (k8a.at (k68.at pa6 trivial nxa) trivial nxa) q.symm
        · exact na b _ (k8a.at (k68.at pb6 trivial nxb) trivial nxb) q.symm
      · exact na kf _ hkfa
    refine k Hc _ f0c (fun u hu => ?_) X.o
    rcases hu with (rfl | rfl | rfl) | (rfl | rfl | rfl | rfl) | rfl | rfl | rfl
    · exact .inr ((Fresh.of nth).back f04 nxth)
    · exact .inr ((Fresh.of n4k).back f04 nxkd)
    · exact .inr ((Fresh.of n4n).back f04 nxnb)
    · exact .inl rfl
    · exact .inr (Fresh.of (s02.free ny))
    · exact .inr (Fresh.of (s02.free n2a))
    · exact .inr (Fresh.of (s02.free n2b))
    · exact .inr ((Fresh.of nkf).back f06 nxkf)
    · exact .inr ((Fresh.of ntr).back f08 nxtr)
    · exact .inr ((Fresh.of nwd).back f0a nxwd)
end
end Kd

namespace Kd
open PySem PySem.Spec PyProof.Rows L2 LamX
section
variable {P : Program} {w : World} {K : PySem.W.Frag} {mg : Str → Option Value} {base : Heap} {f : Addr} {fd : FuncData} {H H' : Hp} {a g l m x : Addr} {n : Nat} {T : TB} {M N : Addr → Prop} {ds : Dims} {ms : List Str} {c : Cn} {S : Hs}
theorem att_keep {y : V} {z : Str × Str} (k : Keep M H H') : AttAt K H y z → AttAt K H' y z := fun ⟨r, h1, h2⟩ => ⟨r, h1, k.seqT h2⟩
theorem atts_keep {q : Addr} {as : List (Str × Str)} (k : Keep M H H') : AttsAt K H q as → AttsAt K H' q as := fun ⟨ys, h1, h2⟩ => ⟨ys, k.seqT h1, PySem.Paired.mono (fun _ _ => att_keep k) h2⟩
theorem dim_keep {y : V} {d : Dm} (k : Keep M H H') : DimAt K H y d → DimAt K H' y d := fun ⟨p, q, h1, h2, h3⟩ => ⟨p, q, h1, k.seqT h2, atts_keep k h3⟩
theorem sql_keep {xs : List V} (k : Keep M H H') (hm : M l) (h : SqL K H l xs) : SqL K H' l xs := by
  rcases h with (q | ⟨o, q⟩) | q
  · exact .inl (.inl (k _ _ q (fun _ z => nomatch z) (.inr hm)))
  · exact .inl (.inr ⟨o, k _ _ q (fun _ z => nomatch z) (.inr hm)⟩)
  · exact .inr q
theorem dims_keep {l : Addr} (k : Keep M H H') (hm : M l) : DimsAt K H l ds → DimsAt K H' l ds := fun ⟨xs, h1, h2⟩ => ⟨xs, sql_keep k hm h1, PySem.Paired.mono (fun _ _ => dim_keep k) h2⟩
/-- own objects, told of later: not the deck's, not the lists' -/
theorem Nw.out {M' : Addr → Prop} {b : Addr} {o : HO} (nw : Nw M M' H) (e : H b = some o) (t : NoTb o) (h : ¬ M b) : ¬ M' b := fun z => (nw b z).elim h fun q => q o e t
end
end Kd

/-! a source of draws: two objects that change, at a and g; all else stays -/
namespace Kd
open PySem PySem.Spec PyProof.Rows L2 LamX
def dkM (a g : Addr) : Addr → Prop := fun b => b = a ∨ b = g
structure Two (H : Hp) (a g : Addr) : Prop where
  ex : ∃ oa og, H a = some oa ∧ H g = some og ∧ Chg oa ∧ Chg og
section
variable {P : Program} {w : World} {K : PySem.W.Frag} {mg : Str → Option Value} {base : Heap} {f : Addr} {fd : FuncData} {a g b l x p : Addr} {n : Nat} {H H' : Hp} {T : TB} {M N : Addr → Prop} {c : Cn} {ds : Dims} {ms : List Str} {S : Hs}
theorem ctkeepG (s : Same (ct a g H) (ct a g H')) {o : HO} (e : H b = some o) (ha : b ≠ a) (hg : b ≠ g) : H' b = some o := ct_sub _ _ (s b o (ct_of e ha hg))
theorem Two.live (t : Two H a g) : Live (dkM a g) H := by
  obtain ⟨A, G, h1, h2, c1, c2⟩ := t.ex
  rintro b (rfl | rfl)
  · exact ⟨_, h1, c1⟩
  · exact ⟨_, h2, c2⟩
theorem tabs_two (t : Two H a g) (h : Tabs T H) : Tabs T (ct a g H) := fun p hp => by
  obtain ⟨A, G, h1, h2, c1, c2⟩ := t.ex
  obtain ⟨ps, q1, q2, q3⟩ := h p hp
  have na : ∀ {ob : HO}, Chg ob → ob ≠ .tbl ps := fun h z => by rw [z] at h; exact h
  have nx : ∀ {b : Addr} {ob : HO}, H b = some ob → Chg ob → p.1 ≠ b := fun e h z => by
    rw [z, e] at q1
    exact na h (Option.some.inj q1)
  refine ⟨ps, ct_of q1 (nx h1 c1) (nx h2 c2), q2, fun pos cv hc => ?_⟩
  obtain ⟨c, e1, e2⟩ := q3 pos cv hc
  have nn : ∀ {b : Addr} {ob ox : HO}, H b = some ob → Chg ob → H c = some ox → ¬ Chg ox → c ≠ b := fun e h e3 h3 z => by
    rw [z, e] at e3
    exact h3 (by rw [← Option.some.inj e3]; exact h)
  exact ⟨c, e1, ct_of e2 (nn h1 c1 e2 (fun z => z)) (nn h2 c2 e2 (fun z => z))⟩
theorem tabs_drawG (t : Two H a g) (s : Same (ct a g H) (ct a g H')) (h : Tabs T H) : Tabs T H' := Tabs.ext (tabs_two t h) (s.trans ct_sub)
theorem Two.fr (t : Two H a g) (s : Same (ct a g H) (ct a g H')) : Fr T (dkM a g) H H' := by
  obtain ⟨A, G, h1, h2, c1, c2⟩ := t.ex
  refine ⟨fun b o e tb c => ?_, fun tt => tabs_drawG t s tt⟩
  have hb : ¬ dkM a g b := by
    rcases c with c | c
    · rintro (rfl | rfl)
      · rw [h1] at e; cases e; exact c1.notT c
      · rw [h2] at e; cases e; exact c2.notT c
    · exact c
  exact ctkeepG s e (fun z => hb (.inl z)) (fun z => hb (.inr z))
theorem Two.keepX (t : Two H a g) (s : Same (ct a g H) (ct a g H')) : Keep (fun b => ¬ dkM a g b) H H' := (t.fr (T := []) s).keep fun _ z => z
theorem Two.keep0 (t : Two H a g) (s : Same (ct a g H) (ct a g H')) : Keep no H H' := (t.fr (T := []) s).keep0
theorem Two.dims (t : Two H a g) (s : Same (ct a g H) (ct a g H')) (h1 : l ≠ a) (h2 : l ≠ g) (h : DimsAt K H l ds) : DimsAt K H' l ds := dims_keep (t.keepX s) (fun z => z.elim h1 h2) h
theorem Two.rw (t : Two H a g) (s : Same (ct a g H) (ct a g H')) {r : Rw} (h : r.at K H p) : r.at K H' p := (t.keep0 s).rw_at h
theorem Two.seqT (t : Two H a g) {xs : List V} (h : SqT K H p xs) : SqT K (ct a g H) p xs := by
  obtain ⟨A, G, h1, h2, c1, c2⟩ := t.ex
  have nx : ∀ {b : Addr} {ob ox : HO}, H b = some ob → Chg ob → H p = some ox → ¬ Chg ox → p ≠ b := fun e h e3 h3 z => by
    rw [z, e] at e3
    exact h3 (by rw [← Option.some.inj e3]; exact h)
  rcases h with (q | ⟨o, q⟩) | q
  · exact .inl (.inl (ct_of q (nx h1 c1 q (fun z => z)) (nx h2 c2 q (fun z => z))))
  · exact .inl (.inr ⟨o, ct_of q (nx h1 c1 q (fun z => z)) (nx h2 c2 q (fun z => z))⟩)
  · exact .inr q
end
end Kd

namespace Kd
open PySem PySem.Spec PyProof.Rows L2
/-- a statement by cases that goes on alike -/
theorem stm_cut {A B : TS} {D : Ends} {σ : L2.St} {H : Hp} (C : L2.St → Hp → Prop) (h2 : ∀ nx : L2.St → Hp → Prop, (∀ σ' H', C σ' H' → nx σ' H') → A { D with nx := nx } σ H) (h1 : ∀ σ' H', C σ' H' → B D σ' H') : tSeq A B D σ H := h2 _ h1
theorem nx_of {D : Ends} {σ : L2.St} {H : Hp} (h : D.nx σ H) : tNext D σ H := h
end Kd

/-! the bag of the laws k25 to k37: a list of great cells, their fold, a count -/
namespace Kd
open PySem PySem.Spec PyProof.Rows L2
structure Bag (H : Hp) (a g : Addr) (n : Nat) : Prop where
  ex : ∃ (f m : Int) (gs : List Int), H a = some (.lst [.ref g, .int f, .int m]) ∧ H g = some (.lst (gs.map V.int)) ∧ (0 ≤ f ∧ f < 2305843009213693951) ∧ 0 ≤ m ∧ m ≤ n
section
variable {H H' H1 H2 H3 : Hp} {a g p D b : Addr} {n m : Nat} {o : HO}
theorem Bag.same (s : Same H H') (t : Bag H a g n) : Bag H' a g n := by
  obtain ⟨f, k, gs, h1, h2, h3⟩ := t.ex
  exact ⟨f, k, gs, s _ _ h1, s _ _ h2, h3⟩
theorem Bag.new (t : Bag H a g n) (h : H p = Option.none) : Bag (upd H p o) a g n := t.same (same_new h)
theorem Bag.mono (t : Bag H a g n) (h : n ≤ m) : Bag H a g m := by
  obtain ⟨f, k, gs, h1, h2, h3, h4, h5⟩ := t.ex
  exact ⟨f, k, gs, h1, h2, h3, h4, by omega⟩
theorem Bag.na (t : Bag H a g n) (h : H p = Option.none) : p ≠ a ∧ p ≠ g := by
  obtain ⟨f, k, gs, h1, h2, _⟩ := t.ex
  exact ⟨(ne_of_none h1 h).symm, (ne_of_none h2 h).symm⟩
theorem Bag.cd (t : Bag H a g n) (ha : D ≠ a) (hg : D ≠ g) : Bag (cd D H) a g n := by
  obtain ⟨f, k, gs, h1, h2, h3⟩ := t.ex
  exact ⟨f, k, gs, cd_of h1 ha.symm, cd_of h2 hg.symm, h3⟩
theorem Bag.updo (t : Bag H a g n) (ha : D ≠ a) (hg : D ≠ g) : Bag (upd H D o) a g n := by
  obtain ⟨f, k, gs, h1, h2, h3⟩ := t.ex
  exact ⟨f, k, gs, by rw [upd_ne ha.symm]; exact h1, by rw [upd_ne hg.symm]; exact h2, h3⟩
theorem Bag.two (t : Bag H a g n) : Two H a g := by
  obtain ⟨f, k, gs, h1, h2, _⟩ := t.ex
  exact ⟨_, _, h1, h2, trivial, trivial⟩
theorem ctnew5 (h : H p = Option.none) : Same (ct a g H) (ct a g (upd H p o)) := ct_same (same_new h)
theorem ctcd5 (hD : H1 D = Option.none) (s1 : Same (ct a g H1) (ct a g (cd D H2))) (s2 : Same (ct a g H2) (ct a g H3)) : Same (ct a g H1) (ct a g (Kd.cd D H3)) := fun b o e => by
  obtain ⟨na, ng⟩ := ct_ne e
  have nD : b ≠ D := ne_of_none (ct_sub _ _ e) hD
  have e2 := ct_sub _ _ (s1 b o e)
  exact ct_of (cd_of (ct_sub _ _ (s2 b o (ct_of (cd_sub _ _ e2) na ng))) nD) na ng
theorem ctupd5 (s : Same (ct a g H) (ct a g H')) (hl : H D = Option.none) : Same (ct a g H) (ct a g (upd H' D o)) := fun b u e => by
  obtain ⟨na, ng⟩ := ct_ne e
  have nD : b ≠ D := ne_of_none (ct_sub _ _ e) hl
  exact ct_of (by rw [upd_ne nD]; exact ct_sub _ _ (s b u e)) na ng
theorem intsB_at {xs : List Int} {i : Nat} {x : V} (h : (xs.map V.int)[i]? = some x) : ∃ z, x = .int z ∧ xs[i]? = some z := by
  rw [List.getElem?_map] at h
  cases e : xs[i]? with
  | none => rw [e] at h; cases h
  | some z => rw [e] at h; exact ⟨z, (Option.some.inj h).symm, rfl⟩
theorem intsB_dp {K : PySem.W.Frag} {H : Hp} : ∀ (xs : List Int), DpAll K H (xs.map V.int) (xs.map PyData.int)
  | [] => .nil
  | x :: xs => .cons (.int x) (intsB_dp xs)
theorem shB_ints (xs : List Int) : SeqAt.shaped (.list (xs.map PyData.int)) = true := by
  obtain ⟨h1, h2⟩ := lay_intsA xs
  simp [SeqAt.shaped, PyData.canLay0, PyData.depth, h1, h2]
def lenB (g : Addr) (H : Hp) : Nat := match H g with
  | some (.lst xs) => xs.length
  | _ => 0
theorem lenB_of {g : Addr} {H : Hp} {xs : List V} (h : H g = some (.lst xs)) : lenB g H = xs.length := by unfold lenB; rw [h]
theorem bag_ne {H : Hp} {a g : Addr} {f m : Int} {gs : List Int} (h1 : H a = some (.lst [.ref g, .int f, .int m])) (h2 : H g = some (.lst (gs.map V.int))) : a ≠ g := ne_of h1 h2 (fun z => by
  have e : [V.ref g, V.int f, V.int m] = gs.map V.int := by injection z
  cases gs with
  | nil => cases e
  | cons x r => cases e)
theorem modP : ((2 : Int) ^ ((61 : Int).toNat) - 1) = 2305843009213693951 := by decide
theorem mix_ltP {x : Int} : (x % ((2 : Int) ^ ((61 : Int).toNat) - 1)).natAbs < 2 ^ 64 := by
  rw [modP]
  have h0 : 0 ≤ x % 2305843009213693951 := Int.emod_nonneg _ (by decide)
  have h1 : x % 2305843009213693951 < 2305843009213693951 := Int.emod_lt_of_pos _ (by decide)
  omega
end
section
variable {P : Program} {w : World} {K : PySem.W.Frag} {mg : Str → Option Value} {base : Heap} {f : Addr} {fd : FuncData}
theorem seq_cB {i : Nat} {σ σ' : L2.St} {v : V} {t : TS} {D : Ends} {H : Hp} (e : σ.set i (some v) = σ') (h : t D σ' H) : tSeq (tAsg (tC v) (gName i)) t D σ H := by
  show t D (σ.set i (some v)) H
  rw [e]
  exact h
/-! ### _law_bag -/
def spBag (K : PySem.W.Frag) : Sp := fun vs H Q _ => ∃ (l : Addr) (ns : List Int), vs = [.ref l] ∧ SqL K H l (ns.map V.int) ∧ ns.length ≤ 63 ∧ ∀ a g H', H a = none → H g = none → Bag H' a g 0 → Same H H' → Q (.ref a) H'
abbrev N_l_bag : List Str := ["script", "great", "fold", "cell"]
theorem sc_l_bag : FnScope N_l_bag ["script"] (defScope s_l_bag) := ⟨rfl, rfl, rfl, by decide +kernel, rfl, by decide +kernel, by decide +kernel⟩
/-! slots: 0 script 1 great 2 fold 3 cell; cells:  -/
theorem ok_bag (F : FnP K "_law_bag" "_law_bag" s_l_bag f fd) : FnOk P w K mg base CX0 1 f fd ["script"] (spBag K) := by
  refine F.ok sc_l_bag (fun vs H Q E h => ?_) (fun cdv A outer s H vs Q E hr h => ?_)
  · obtain ⟨l, ns, rfl, _⟩ := h
    rfl
  · obtain ⟨l, ns, rfl, hS, hn, k⟩ := h
    have nd := sc_l_bag.nd
    refine ⟨_, PSs.nox (pss_cons (ps_set (i := 1) nd rfl (Or.inl rfl) (pe_lst pa_nil))
      (pss_cons (ps_set (i := 2) nd rfl (Or.inl rfl) pe_int)
      (pss_cons (ps_for PassesOwn.never rfl (pi_list (pv 0)) (pg_name (i := 3) nd rfl (Or.inl rfl))
        (pss_cons (ps_if (pt_cmpR op_lt (pv 3) pe_int (nomark _))
          (pss_one (ps_set (i := 3) nd rfl (Or.inl rfl) (pe_op op_sub pe_int (pv 3))))
          pss_nil)
        (pss_cons (ps_set (i := 2) nd rfl (Or.inl rfl) (pe_op op_mod (pe_op op_add (pe_op op_add (pe_op op_mul (pv 2) pe_int) (pv 3)) pe_int) (pe_op op_sub (pe_op op_pow pe_int pe_int) pe_int)))
        (pss_one (ps_if (pt_cmpR op_ge (pv 3) (pe_op op_pow pe_int pe_int) (nomark _))
          (pss_one (ps_expr (pe_bm PySem.F.plainAttrs_list PySem.F.slot_list_append PySem.F.type_list_append mt_append (pv 1) (pa_cons (pe_op op_sub (pv 3) (pe_op op_pow pe_int pe_int)) pa_nil))))
          pss_nil)))))
      (pss_one (ps_ret (pe_lst (pa_cons (pv 1) (pa_cons (pv 2) (pa_cons pe_int pa_nil))))))))), ?_⟩
    refine ⟨by show 0 ≤ sizeLine; decide, fun g hg => ?_⟩
    refine ⟨_, rfl, l, rfl, ⟨_, (same_new hg).seq hS⟩, for_list (K := K) (a := l) (xs := ns.map V.int) (fun i σ H2 => ∃ (fo : Int) (gs : List Int) (u : Option V), σ = [some (.ref l), some (.ref g), some (.int fo), u] ∧ Same H H2 ∧ H2 g = some (.lst (gs.map V.int)) ∧ gs.length ≤ i ∧ 0 ≤ fo ∧ fo < 2305843009213693951)
      ⟨_, [], _, rfl, same_new hg, upd_same, Nat.le_refl _, by decide, by decide⟩ (fun i σ H2 _ ⟨_, _, _, _, s2, _⟩ => s2.seq hS) ?_ ?_⟩
    · rintro i x σ H2 hi ⟨fo, gs, u, rfl, s2, h2, l2, f0, f1⟩
      have hil : i < (ns.map V.int).length := (List.getElem?_eq_some_iff.mp hi).1
      rw [List.length_map] at hil
      obtain ⟨z, rfl, hz⟩ := intsB_at hi
      refine set_sl (σ' := [some (.ref l), some (.ref g), some (.int fo), some (.int z)]) rfl ?_
      refine stm_cut (fun σ' R => ∃ y : Int, σ' = [some (.ref l), some (.ref g), some (.int fo), some (.int y)] ∧ R = H2) (fun nx hnx => ?_) ?_
      · refine ⟨_, rfl, _, _, rfl, rfl, _, rfl, ?_⟩
        refine ite2 (fun _ => ?_) (fun _ => nx_of (hnx _ _ ⟨z, rfl, rfl⟩))
        exact ⟨_, rfl, _, _, rfl, rfl, hnx _ _ ⟨_, rfl, rfl⟩⟩
      · rintro σ' R ⟨y, rfl, rfl⟩
        refine ⟨_, rfl, _, _, rfl, rfl, .inl ⟨by omega, by omega⟩, _, rfl, _, _, rfl, rfl, _, _, rfl, rfl, _, _, rfl, rfl, ⟨by decide, by decide, by decide⟩, _, _, rfl, rfl, _, _, rfl, rfl, (by show (0 : Int) < 2 ^ 61 - 1; decide), ?_⟩
        have fb : ∀ x : Int, 0 ≤ x % ((2 : Int) ^ ((61 : Int).toNat) - 1) ∧ x % ((2 : Int) ^ ((61 : Int).toNat) - 1) < 2305843009213693951 := fun x => by
          rw [modP]
          exact ⟨Int.emod_nonneg _ (by decide), Int.emod_lt_of_pos _ (by decide)⟩
        have fb := fb (fo * 1000003 + y + 1)
        refine ⟨_, rfl, _, _, rfl, rfl, ⟨by decide, by decide, by decide⟩, _, _, rfl, rfl, _, rfl, ?_⟩
        refine ite2 (fun _ => ?_) (fun _ => ?_)
        · refine ⟨_, rfl, .inl ⟨rfl, _, SqL.of h2⟩, _, rfl, _, _, rfl, rfl, ⟨by decide, by decide, by decide⟩, _, _, rfl, rfl, ?_⟩
          refine ⟨g, _, _, rfl, rfl, h2, small1000 (by rw [List.length_map]; omega), ?_⟩
          exact ⟨_, gs ++ [y - 10 ^ ((18 : Int).toNat)], _, rfl, Same.upd s2 hg, by rw [upd_same, List.map_append]; rfl, by rw [List.length_append]; show _ + 1 ≤ _; omega, fb.1, fb.2⟩
        · exact ⟨_, gs, _, rfl, s2, h2, by omega, fb.1, fb.2⟩
    · rintro σ H2 ⟨fo, gs, u, rfl, s2, h2, l2, f0, f1⟩
      refine ⟨_, rfl, _, rfl, by show 3 ≤ sizeLine; decide, fun a ha => ?_⟩
      exact k a g _ (s2.free ha) hg ⟨fo, 0, gs, upd_same, by rw [upd_ne (ne_of_none h2 ha)]; exact h2, ⟨f0, f1⟩, by decide, by decide⟩ (Same.to_new s2 ha)
/-! ### _law_draw -/
def spDraw5 : Sp := fun vs H Q _ => ∃ (a g : Addr) (n : Nat) (many : Int), vs = [.ref a, .int many] ∧ Bag H a g n ∧ n ≤ 10000000 ∧ 0 < many ∧ many < 2 ^ 60 ∧ ∀ (r : Int) H', 0 ≤ r → r < many → Bag H' a g (n + 1) → Same (ct a g H) (ct a g H') → Q (.int r) H'
abbrev N_l_draw : List Str := ["bag", "many", "great", "one", "mixed"]
theorem sc_l_draw : FnScope N_l_draw ["bag", "many"] (defScope s_l_draw) := ⟨rfl, rfl, rfl, by decide +kernel, rfl, by decide +kernel, by decide +kernel⟩
/-! slots: 0 bag 1 many 2 great 3 one 4 mixed; cells:  -/
set_option maxHeartbeats 0 in
theorem ok_draw (F : FnP K "_law_draw" "_law_draw" s_l_draw f fd) : FnOk P w K mg base CX0 1 f fd ["bag", "many"] spDraw5 := by
  refine F.ok sc_l_draw (fun vs H Q E h => ?_) (fun cdv A outer s H vs Q E hr h => ?_)
  · obtain ⟨a, g, n, many, rfl, _⟩ := h
    rfl
  · obtain ⟨a, g, n, many, rfl, hT, hn, m0, m1, k⟩ := h
    have nd := sc_l_draw.nd
    refine ⟨_, PSs.nox (pss_cons (ps_asg (pe_op op_add (pe_ix ix_list (pv 0) pe_int (fun _ _ => rfl)) pe_int) (pg_sub (pv 0) pe_int set_list))
      (pss_cons (ps_set (i := 2) nd rfl (Or.inl rfl) (pe_ix ix_list (pv 0) pe_int (fun _ _ => rfl)))
      (pss_cons (ps_while PassesOwn.never (PW.pt (pw_and (pt_cmpR (op_neD hr.units) (pv 2) (pe_lst pa_nil) (nomark _)) (pw_and1 (pt_cmpR op_eq (pe_ix ix_list (pv 2) pe_int (fun _ _ => rfl)) pe_int (nomark _)))))
        (pss_one (ps_expr (pe_bm PySem.F.plainAttrs_list PySem.F.slot_list_pop PySem.F.type_list_pop mt_popAt (pv 2) (pa_cons pe_int pa_nil)))))
      (pss_cons (ps_if (pt_cmpR (op_neD hr.units) (pv 2) (pe_lst pa_nil) (nomark _))
        (pss_cons (ps_set (i := 3) nd rfl (Or.inl rfl) (pe_op op_mod (pe_ix ix_list (pv 2) pe_int (fun _ _ => rfl)) (pv 1)))
        (pss_cons (ps_asg (pe_op op_fdivW (pe_ix ix_list (pv 2) pe_int (fun _ _ => rfl)) (pv 1)) (pg_sub (pv 2) pe_int set_list))
        (pss_one (ps_ret (pv 3)))))
        pss_nil)
      (pss_cons (ps_set (i := 4) nd rfl (Or.inl rfl) (pe_op op_mod (pe_op op_add (pe_op op_mul (pe_op op_add (pe_ix ix_list (pv 0) pe_int (fun _ _ => rfl)) pe_int) (pe_op op_pow (pe_op op_add (pe_ix ix_list (pv 0) pe_int (fun _ _ => rfl)) pe_int) pe_int)) (pe_op op_mul pe_int (pe_ix ix_list (pv 0) pe_int (fun _ _ => rfl)))) (pe_op op_sub (pe_op op_pow pe_int pe_int) pe_int)))
      (pss_one (ps_ret (pe_op op_mod (pe_op op_fdiv (pe_op op_mod (pe_op op_pow (pv 4) pe_int) (pe_op op_add (pe_op op_pow pe_int pe_int) pe_int)) pe_int) (pv 1))))))))), ?_⟩
    obtain ⟨fo, m, gs0, h1, h2, hf, hm⟩ := hT.ex
    have nag := bag_ne h1 h2
    refine ⟨_, rfl, a, _, _, _, rfl, rfl, SqL.of h1, atI_nat (j := 2) rfl, _, _, rfl, rfl, _, rfl, a, _, _, 2, rfl, rfl, h1, rfl, ?_⟩
    generalize e1 : upd H a _ = H1
    have h11 : H1 a = some (.lst [.ref g, .int fo, .int (m + 1)]) := by rw [← e1, upd_same]; rfl
    have h12 : H1 g = some (.lst (gs0.map V.int)) := by rw [← e1, upd_ne nag.symm]; exact h2
    have s1 : Same (ct a g H) (ct a g H1) := by rw [← e1, ct_upda]; exact Same.refl _
    refine ⟨_, rfl, a, _, _, _, rfl, rfl, SqL.of h11, atI_nat (j := 0) rfl, ?_⟩
    refine set_sl (σ' := [some (.ref a), some (.int many), some (.ref g), none, none]) rfl ?_
    refine while_by (fun σ H2 => σ = [some (.ref a), some (.int many), some (.ref g), none, none] ∧ (∃ gs : List Int, H2 a = some (.lst [.ref g, .int fo, .int (m + 1)]) ∧ H2 g = some (.lst (gs.map V.int))) ∧ Same (ct a g H) (ct a g H2)) (fun _ H2 => lenB g H2) ⟨rfl, ⟨gs0, h11, h12⟩, s1⟩ ?_ ?_
    · rintro σ H2 ⟨rfl, ⟨gs, h1, h2⟩, s2⟩
      refine ⟨_, rfl, by show 0 ≤ sizeLine; decide, fun p hp => ?_⟩
      have npa : a ≠ p := ne_of_none h1 hp
      have npg : g ≠ p := ne_of_none h2 hp
      have h1p : upd H2 p (.lst []) a = some (.lst [.ref g, .int fo, .int (m + 1)]) := by rw [upd_ne npa]; exact h1
      have h2p : upd H2 p (.lst []) g = some (.lst (gs.map V.int)) := by rw [upd_ne npg]; exact h2
      have s3 : Same (ct a g H) (ct a g (upd H2 p (.lst []))) := s2.trans (ct_same (same_new hp))
      have hpp : upd H2 p (.lst []) p = some (.lst []) := upd_same
      generalize upd H2 p (.lst []) = H3 at h1p h2p s3 hpp ⊢
      refine ⟨.list (gs.map PyData.int), .list [], .lst (SqL.of h2p) (intsB_dp gs), .lst (SqL.of hpp) .nil, shB_ints gs, by decide, _, rfl, ?_⟩
      have q0 := hf.1
      have q1 := hf.2
      have q2 := hm.1
      have q3 := hm.2
      cases gs with
      | nil =>
        refine iteF (iteF ?_)
        refine ⟨_, rfl, by show 0 ≤ sizeLine; decide, fun p4 n4 => ?_⟩
        have s4 : Same (ct a g H) (ct a g (upd H3 p4 (.lst []))) := s3.trans (ct_same (same_new n4))
        have h2p := (same_new (o := .lst []) n4) _ _ h2p
        have h1p := (same_new (o := .lst []) n4) _ _ h1p
        have hp4 : upd H3 p4 (.lst []) p4 = some (.lst []) := upd_same
        generalize upd H3 p4 (.lst []) = H4 at h1p h2p s4 hp4 ⊢
        refine ⟨.list [], .list [], .lst (SqL.of h2p) .nil, .lst (SqL.of hp4) .nil, by decide, by decide, _, rfl, iteF (nx_of ?_)⟩
        refine ⟨_, rfl, a, _, _, _, rfl, rfl, SqL.of h1p, atI_nat (j := 1) rfl, _, _, rfl, rfl, _, rfl, a, _, _, _, rfl, rfl, SqL.of h1p, atI_nat (j := 2) rfl, _, _, rfl, rfl, _, _, rfl, rfl, ⟨by decide, by decide, by omega⟩, _, _, rfl, rfl, .inl ⟨by omega, by omega⟩, ?_⟩
        refine ⟨_, rfl, a, _, _, _, rfl, rfl, SqL.of h1p, atI_nat (j := 2) rfl, _, _, rfl, rfl, .inl ⟨by decide, by decide⟩, _, _, rfl, rfl, _, _, rfl, rfl, ⟨by decide, by decide, by decide⟩, _, _, rfl, rfl, _, _, rfl, rfl, (by show (0 : Int) < 2 ^ 61 - 1; decide), ?_⟩
        refine set_sl rfl ?_
        refine ⟨_, rfl, _, _, rfl, rfl, ⟨by decide, by decide, mix_ltP⟩, _, _, rfl, rfl, ⟨by decide, by decide, by decide⟩, _, _, rfl, rfl, _, _, rfl, rfl, (by show (0 : Int) < 10 ^ 18 + 9; decide), _, _, rfl, rfl, ⟨by decide, by decide⟩, _, rfl, _, _, rfl, rfl, m0, ?_⟩
        exact k _ _ (Int.emod_nonneg _ (by omega)) (Int.emod_lt_of_pos _ m0) ⟨fo, m + 1, [], h1p, h2p, hf, by omega, by omega⟩ s4
      | cons z zs =>
        refine iteT ⟨_, rfl, g, _, 0, _, rfl, rfl, SqL.of h2p, atI_nat (j := 0) rfl, rfl, _, rfl, ?_⟩
        refine ite2 (fun c1 => ?_) (fun c1 => ?_)
        · refine ⟨_, rfl, .inl ⟨rfl, _, SqL.of h2p⟩, g, _, 0, 0, .int z, rfl, rfl, h2p, by simp, by simp, by simp [seqIndex?], rfl, ?_⟩
          refine ⟨⟨rfl, ⟨zs, by rw [upd_ne nag]; exact h1p, by rw [upd_same]; rfl⟩, by rw [ct_updg]; exact s3⟩, ?_⟩
          show lenB g _ < lenB g H2
          rw [lenB_of h2, lenB_of (g := g) (xs := zs.map V.int) (by rw [upd_same]; rfl), List.length_map, List.length_map, List.length_cons]
          exact Nat.lt_succ_self _
        · refine ⟨_, rfl, by show 0 ≤ sizeLine; decide, fun p4 n4 => ?_⟩
          have s4 : Same (ct a g H) (ct a g (upd H3 p4 (.lst []))) := s3.trans (ct_same (same_new n4))
          have h2p := (same_new (o := .lst []) n4) _ _ h2p
          have h1p := (same_new (o := .lst []) n4) _ _ h1p
          have hp4 : upd H3 p4 (.lst []) p4 = some (.lst []) := upd_same
          generalize upd H3 p4 (.lst []) = H4 at h1p h2p s4 hp4 ⊢
          refine ⟨.list ((z :: zs).map PyData.int), .list [], .lst (SqL.of h2p) (intsB_dp _), .lst (SqL.of hp4) .nil, shB_ints _, by decide, _, rfl, ?_⟩
          refine iteT ⟨_, rfl, g, _, 0, _, rfl, rfl, SqL.of h2p, atI_nat (j := 0) rfl, _, rfl, _, _, rfl, rfl, m0, ?_⟩
          refine set_sl (σ' := [some (.ref a), some (.int many), some (.ref g), some (.int (z % many)), none]) rfl ?_
          refine ⟨_, rfl, g, _, 0, _, rfl, rfl, SqL.of h2p, atI_nat (j := 0) rfl, _, rfl, _, _, rfl, rfl, wide_div (b := 60) m0 (by omega) (by decide) (by decide), _, rfl, g, _, _, 0, rfl, rfl, h2p, by simp [ixN], ?_⟩
          exact ⟨_, rfl, k _ _ (Int.emod_nonneg _ (by omega)) (Int.emod_lt_of_pos _ m0) ⟨fo, m + 1, (z / many) :: zs, by rw [upd_ne nag]; exact h1p, by rw [upd_same]; rfl, hf, by omega, by omega⟩ (by rw [ct_updg]; exact s4)⟩
    · rintro σ H2 Q1 Q2 hQ ⟨v, e0, hl, hp⟩
      refine ⟨v, e0, hl, fun p np => ?_⟩
      obtain ⟨d, e, d1, d2, d3, d4, b, e6, q⟩ := hp p np
      refine ⟨d, e, d1, d2, d3, d4, b, e6, ?_⟩
      cases b with
      | false => exact iteF (hQ _ _ (by simpa using q))
      | true =>
        have q := (if_pos rfl : (if true = true then _ else _) = _).mp q
        obtain ⟨v, e0, p, xs, i, x, e1, e2, hs, ha, sc, b, e9, q⟩ := q
        exact iteT ⟨v, e0, p, xs, i, x, e1, e2, hs, ha, sc, b, e9, hQ _ _ q⟩
end
end Kd

namespace Kd
open PySem PySem.Spec PyProof.Rows L2
theorem nm_iff {z : Str} : nmB z = true ↔ IsNm z := by
  unfold nmB
  rw [Bool.and_eq_true, Bool.and_eq_true, decide_eq_true_iff, decide_eq_true_iff, List.all_eq_true]
  constructor
  · rintro ⟨h1, h2, h3⟩
    exact ⟨fun c hc => of_decide_eq_true (h3 c hc), h1, h2⟩
  · rintro ⟨h1, h2, h3⟩
    exact ⟨h2, h3, fun c hc => decide_eq_true (h1 c hc)⟩
/-- a name, or the empty text -/
structure Nm0 (z : Str) : Prop where
  low : Low z
  le8 : z.length ≤ 8
theorem Nm0.nm {z : Str} (h : Nm0 z) (ne : z ≠ Str.empty) : IsNm z := ⟨h.low, by
  rcases Nat.eq_zero_or_pos z.length with e | e
  · refine absurd (Str.ext' (Array.eq_empty_of_size_eq_zero e)) ne
  · exact e, h.le8⟩
theorem flat_len : ∀ (parts : List Str), (∀ z ∈ parts, z.length = 1) → ((parts.map fun z => z.cps.toList).flatten).length = parts.length
  | [], _ => rfl
  | z :: r, h => by
    have ih := flat_len r fun y hy => h y (List.mem_cons_of_mem _ hy)
    have h1 := h z (List.mem_cons_self ..)
    have h2 : z.cps.toList.length = 1 := by rw [Array.length_toList]; exact h1
    rw [List.map_cons, List.flatten_cons, List.length_append, ih, h2, List.length_cons]
    omega
theorem joined {y : Str} (hy : y.cps.toList = []) (parts : List Str) (h1 : ∀ z ∈ parts, z.length = 1) (h2 : ∀ z ∈ parts, Low z) : Low (Txt.join y parts) ∧ (Txt.join y parts).length = parts.length := by
  have e := join_list_eq y hy parts
  constructor
  · intro c hc
    rw [e] at hc
    obtain ⟨l, hl, hcl⟩ := List.mem_flatten.mp hc
    obtain ⟨z, hz, rfl⟩ := List.mem_map.mp hl
    exact h2 z hz c hcl
  · have e2 : (Txt.join y parts).length = (Txt.join y parts).cps.toList.length := by rw [Array.length_toList]; rfl
    rw [e2, e]
    exact flat_len parts h1
theorem sum_ones : ∀ (parts : List Str), (∀ z ∈ parts, z.length = 1) → (parts.map (·.length)).sum = parts.length
  | [], _ => rfl
  | z :: r, h => by
    have ih := sum_ones r fun y hy => h y (List.mem_cons_of_mem _ hy)
    rw [List.map_cons, List.sum_cons, ih, h z (List.mem_cons_self ..), List.length_cons]
    omega
theorem inV_strs (z : Str) : ∀ us : List Str, inV (.str z) (us.map V.str) = decide (z ∈ us)
  | [] => by simp [inV]
  | y :: us => by
    have ih := inV_strs z us
    unfold inV at ih ⊢
    rw [List.map_cons, List.any_cons, ih]
    have e : eqV (.str y) (.str z) = decide (z = y) := by
      show (y == z) = decide (z = y)
      by_cases q : z = y
      · simp [q]
      · have q2 : ¬ y = z := fun h => q h.symm
        simp [q, q2]
    rw [e]
    simp [List.mem_cons]
theorem flat_strs : ∀ us : List Str, (us.map V.str).all flatV = true
  | [] => rfl
  | _ :: us => by
    rw [List.map_cons, List.all_cons, flat_strs us]
    rfl
theorem free_letter {us : List Str} (h : us.length ≤ 20) : ∃ c, 97 ≤ c ∧ c ≤ 122 ∧ (⟨#[c]⟩ : Str) ∉ us := by
  apply Classical.byContradiction
  intro hn
  have h1 : ∀ z ∈ (List.range' 97 26).map (fun c => (⟨#[c]⟩ : Str)), z ∈ us := fun z hz => by
    obtain ⟨c, hc, rfl⟩ := List.mem_map.mp hz
    rw [List.mem_range'_1] at hc
    apply Classical.byContradiction
    intro hq
    exact hn ⟨c, by omega, by omega, hq⟩
  have h2 : ((List.range' 97 26).map (fun c => (⟨#[c]⟩ : Str))).Nodup := by decide +kernel
  have h3 := List.Nodup.length_le_of_subset h2 h1
  rw [List.length_map, List.length_range'] at h3
  omega
theorem Low.ok {z : Str} (h : Low z) : PyData.strOk z = true := by
  unfold PyData.strOk
  rw [Array.all_eq_true']
  intro c hc
  have := h c (Array.mem_toList_iff.mpr hc)
  exact decide_eq_true (by omega)
end Kd

namespace Kd
open PySem PySem.Spec PyProof.Rows L2
theorem natB {r : Int} (h : 0 ≤ r) : ∃ j : Nat, r = (j : Int) := ⟨r.toNat, by omega⟩
abbrev sgn5 : Str := "abcxyz0123456789"
theorem sgn5_len : sgn5.length = 16 := by decide +kernel
theorem sgn5_at {j : Nat} (h : j < 16) : ∃ c, sgn5.cps.toList[j]? = some c ∧ c < 128 := by
  have h1 : ∀ c ∈ sgn5.cps.toList, c < 128 := by decide +kernel
  have h2 : sgn5.cps.toList.length = 16 := by decide +kernel
  have h3 : j < sgn5.cps.toList.length := by omega
  exact ⟨sgn5.cps.toList[j], List.getElem?_eq_getElem h3, h1 _ (List.getElem_mem h3)⟩
theorem joinB {y : Str} (hy : y.cps.toList = []) (parts : List Str) (h1 : ∀ z ∈ parts, z.length = 1) (h2 : ∀ z ∈ parts, ∀ c ∈ z.cps.toList, c < 128) : (∀ c ∈ (Txt.join y parts).cps.toList, c < 128) ∧ (Txt.join y parts).length = parts.length := by
  have e := join_list_eq y hy parts
  constructor
  · intro c hc
    rw [e] at hc
    obtain ⟨l, hl, hcl⟩ := List.mem_flatten.mp hc
    obtain ⟨z, hz, rfl⟩ := List.mem_map.mp hl
    exact h2 z hz c hcl
  · have e2 : (Txt.join y parts).length = (Txt.join y parts).cps.toList.length := by rw [Array.length_toList]; rfl
    rw [e2, e]
    exact flat_len parts h1
theorem size5 {r8 : Int} {k : Int} {j : Nat} (hj : j < 4) (h0 : 0 ≤ r8) (h1 : r8 < k) (hk : 2 ≤ k) : ∃ s : Nat, ([V.int 1, V.int 1, V.int 2, V.int (1 + r8)] : List V)[j]? = some (.int s) ∧ 1 ≤ s ∧ (s : Int) ≤ k := by
  have : j = 0 ∨ j = 1 ∨ j = 2 ∨ j = 3 := by omega
  rcases this with rfl | rfl | rfl | rfl
  · exact ⟨1, rfl, by decide, by omega⟩
  · exact ⟨1, rfl, by decide, by omega⟩
  · exact ⟨2, rfl, by decide, by omega⟩
  · refine ⟨(1 + r8).toNat, ?_, by omega, by omega⟩
    show some (V.int (1 + r8)) = _
    congr 2
    omega
section
variable {P : Program} {w : World} {K : PySem.W.Frag} {mg : Str → Option Value} {base : Heap} {f : Addr} {fd : FuncData}
/-! ### _law_text -/
def spText5 : Sp := fun vs H Q _ => ∃ (a g : Addr) (n : Nat), vs = [.ref a] ∧ Bag H a g n ∧ n ≤ 9900000 ∧
  ∀ z H', Tx z → z.length ≤ 12 → Bag H' a g (n + 14) → Same (ct a g H) (ct a g H') → Q (.str z) H'
abbrev N_l_text : List Str := ["bag", "signs", "size", "k"]
theorem sc_l_text : FnScope N_l_text ["bag"] (defScope s_l_text) := ⟨rfl, rfl, rfl, by decide +kernel, rfl, by decide +kernel, by decide +kernel⟩
/-! slots: 0 bag 1 signs 2 size 3 k; cells: bag signs -/
set_option maxHeartbeats 0 in
theorem ok_text {f1 : Addr} {d1 : FuncData} (F : FnP K "_law_text" "_law_text" s_l_text f fd) (c_draw : Fun P w K mg base "_law_draw" 1 ["bag", "many"] spDraw5 f1 d1) (z_range : mg "range" = none) : FnOk P w K mg base CX0 2 f fd ["bag"] spText5 := by
  refine F.ok sc_l_text (fun vs H Q E h => ?_) (fun cdv A outer s H vs Q E hr h => ?_)
  · obtain ⟨a, g, n, rfl, _⟩ := h
    rfl
  · obtain ⟨a, g, n, rfl, hT, hn, k⟩ := h
    have nd := sc_l_text.nd
    refine ⟨_, PSs.nox (pss_cons (ps_set (i := 1) nd rfl (Or.inr rfl) pe_str)
      (pss_cons (ps_set (i := 2) nd rfl (Or.inl rfl) (pe_ix ix_list (pe_lst (pa_cons pe_int (pa_cons pe_int (pa_cons pe_int (pa_cons (pe_op op_add pe_int (pe_call c_draw.G (hr.mono (by decide)) rfl c_draw.g c_draw.k c_draw.b .nil pass0 (pa_cons (pv 0) (pa_cons pe_int pa_nil)))) pa_nil))))) (pe_call c_draw.G (hr.mono (by decide)) rfl c_draw.g c_draw.k c_draw.b .nil pass0 (pa_cons (pv 0) (pa_cons pe_int pa_nil))) (fun _ _ => rfl)))
      (pss_one (ps_ret (pe_join pe_str (pe_lc (own := [("k", 3)]) (g := gName 3) (tt := tYes) (te := tOp rIxS (tVar 1) (tCall spDraw5 [] E0 (tCons (tVar 0) (tCons (tC (.int 16)) tNil)))) rfl nd (pi_range1 rfl z_range (pa_cons (pv 2) pa_nil)) (blkOk_by (own := [("k", 3)]) (N := N_l_text) (sc := defScope s_l_text) (by decide +kernel))
        (fun _ _ _ _ _ => pg_name (i := 3) nd rfl (Or.inl rfl)) (fun _ _ _ _ _ => pts_nil) (fun _ _ _ _ _ => pe_ix ix_str (pv 1) (pe_call c_draw.G (hr.mono (by decide)) rfl c_draw.g c_draw.k c_draw.b .nil pass0 (pa_cons (pv 0) (pa_cons pe_int pa_nil))) (fun _ _ => rfl)))))))), ?_⟩
    refine seq_cB (σ' := [some (.ref a), some (.str sgn5), none, none]) rfl ?_
    refine ⟨_, rfl, a, g, n, 12, rfl, hT, by omega, by decide, by decide, fun r8 H1 r80 r81 T1 s1 => ?_⟩
    refine ⟨_, _, rfl, rfl, by show 4 ≤ sizeLine; decide, fun p4 n4 => ?_⟩
    obtain ⟨n4a, n4g⟩ := T1.na n4
    refine ⟨_, rfl, a, g, n + 1, 4, rfl, T1.new n4, by omega, by decide, by decide, fun r4 H2 r40 r41 T2 s2 => ?_⟩
    obtain ⟨j4, rfl⟩ := natB r40
    obtain ⟨sz, hl1, hl2, hl3⟩ := size5 (j := j4) (by omega) r80 r81 (by decide)
    refine ⟨p4, _, _, _, rfl, rfl, SqL.of (ctkeepG s2 upd_same n4a n4g), atI_nat hl1, ?_⟩
    refine set_sl (σ' := [some (.ref a), some (.str sgn5), some (.int sz), none]) rfl ?_
    have s02 : Same (ct a g H) (ct a g H2) := (s1.trans (ctnew5 n4)).trans s2
    refine ⟨⟨_, rfl⟩, _, rfl, _, rfl, by omega, by omega, fun D hD => ?_⟩
    obtain ⟨nDa, nDg⟩ := T2.na hD
    refine lc_build (walk_range (lo := 0)) hD (fun i ys R => ∃ parts : List Str, ys = parts.map V.str ∧ parts.length = i ∧ (∀ z ∈ parts, z.length = 1 ∧ ∀ c ∈ z.cps.toList, c < 128) ∧ Bag R a g (n + 2 + i) ∧ Same (ct a g H2) (ct a g R)) ⟨[], rfl, rfl, fun _ h => (nomatch h), T2.mono (by omega), Same.refl _⟩ (fun _ _ _ _ _ => trivial) ?_ ?_
    · rintro i ys x Ha Hb hi e l ⟨parts, rfl, lp, pz, Tp, sp⟩ ⟨rfl, rfl⟩
      refine ⟨rfl, yes ?_⟩
      refine ⟨_, rfl, _, rfl, a, g, n + 2 + i, 16, rfl, Tp.same cd_sub, by omega, by decide, by decide, fun ch Hc h0 h1 Tc sc => ?_⟩
      obtain ⟨jc, rfl⟩ := natB h0
      obtain ⟨c, hc1, hc2⟩ := sgn5_at (j := jc) (by omega)
      refine ⟨sgn5, _, _, rfl, rfl, le_line (by rw [sgn5_len]; decide), atI_nat hc1, LcNx.add (ctkeepG sc e nDa nDg) l (by omega) ⟨parts ++ [⟨#[c]⟩], by rw [List.map_append]; rfl, by rw [List.length_append]; show parts.length + 1 = i + 1; omega, fun z hz => ?_, (Tc.cd nDa nDg).mono (by omega), ctcd5 hD sp sc⟩⟩
      rcases List.mem_append.mp hz with hz | hz
      · exact pz z hz
      · rw [List.mem_singleton.mp hz]
        refine ⟨rfl, fun d hd => ?_⟩
        have hd : d ∈ [c] := hd
        rw [List.mem_singleton.mp hd]
        exact hc2
    · rintro ys H4 e l ⟨parts, rfl, lp, pz, Tp, sp⟩
      have en : ((sz : Int)).toNat = sz := by omega
      rw [en] at lp Tp
      obtain ⟨jlow, jlen⟩ := joinB (y := Str.ofString "") (by decide +kernel) parts (fun z hz => (pz z hz).1) fun z hz => (pz z hz).2
      refine ⟨_, D, parts, rfl, rfl, .inl (SqL.of e), ?_, ?_⟩
      · rw [sum_ones parts fun z hz => (pz z hz).1]
        have e0 : (Str.ofString "").length = 0 := by decide +kernel
        rw [e0]
        omega
      exact k _ H4 ⟨by omega, jlow⟩ (by omega) ((Tp.same cd_sub).mono (by omega)) (s02.trans (sp.trans (ct_same cd_sub)))
/-! ### _law_names -/
def spNames5 (K : PySem.W.Frag) : Sp := fun vs H Q _ => ∃ (a g : Addr) (n : Nat) (many : Nat), vs = [.ref a, .int many] ∧ Bag H a g n ∧ n ≤ 9900000 ∧ many ≤ 5 ∧
  ∀ (l : Addr) (zs : List Str) (H' : Hp), H l = none → H' l = some (.lst (zs.map V.str)) → zs.length = many → zs.Nodup → (∀ z ∈ zs, IsNm z) → Bag H' a g (n + 50) → Same (ct a g H) (ct a g H') → Q (.ref l) H'
abbrev N_l_names : List Str := ["bag", "many", "letters", "found", "k", "size", "j", "title", "letter"]
theorem sc_l_names : FnScope N_l_names ["bag", "many"] (defScope s_l_names) := ⟨rfl, rfl, rfl, by decide +kernel, rfl, by decide +kernel, by decide +kernel⟩
/-! slots: 0 bag 1 many 2 letters 3 found 4 k 5 size 6 j 7 title 8 letter; cells: bag found letters -/
set_option maxHeartbeats 0 in
theorem ok_names {f1 : Addr} {d1 : FuncData} (F : FnP K "_law_names" "_law_names" s_l_names f fd) (c_draw : Fun P w K mg base "_law_draw" 1 ["bag", "many"] spDraw5 f1 d1) (z_range : mg "range" = none) : FnOk P w K mg base CX0 2 f fd ["bag", "many"] (spNames5 K) := by
  refine F.ok sc_l_names (fun vs H Q E h => ?_) (fun cdv A outer s H vs Q E hr h => ?_)
  · obtain ⟨a, g, n, many, rfl, _⟩ := h
    rfl
  · obtain ⟨a, g, n, many, rfl, hT, hn, hm, k⟩ := h
    have nd := sc_l_names.nd
    refine ⟨_, PSs.nox (pss_cons (ps_set (i := 2) nd rfl (Or.inr rfl) pe_str)
      (pss_cons (ps_set (i := 3) nd rfl (Or.inr rfl) (pe_lst pa_nil))
      (pss_cons (ps_for PassesOwn.never rfl (pi_range1 rfl z_range (pa_cons (pv 1) pa_nil)) (pg_name (i := 4) nd rfl (Or.inl rfl))
        (pss_cons (ps_set (i := 5) nd rfl (Or.inl rfl) (pe_ix ix_list (pe_lst (pa_cons pe_int (pa_cons pe_int (pa_cons pe_int (pa_cons (pe_op op_add pe_int (pe_call c_draw.G (hr.mono (by decide)) rfl c_draw.g c_draw.k c_draw.b .nil pass0 (pa_cons (pv 0) (pa_cons pe_int pa_nil)))) pa_nil))))) (pe_call c_draw.G (hr.mono (by decide)) rfl c_draw.g c_draw.k c_draw.b .nil pass0 (pa_cons (pv 0) (pa_cons pe_int pa_nil))) (fun _ _ => rfl)))
        (pss_cons (ps_set (i := 7) nd rfl (Or.inl rfl) (pe_join pe_str (pe_lc (own := [("j", 6)]) (g := gName 6) (tt := tYes) (te := tOp rIxS (tVar 2) (tCall spDraw5 [] E0 (tCons (tVar 0) (tCons (tC (.int 26)) tNil)))) rfl nd (pi_range1 rfl z_range (pa_cons (pv 5) pa_nil)) (blkOk_by (own := [("j", 6)]) (N := N_l_names) (sc := defScope s_l_names) (by decide +kernel))
        (fun _ _ _ _ _ => pg_name (i := 6) nd rfl (Or.inl rfl)) (fun _ _ _ _ _ => pts_nil) (fun _ _ _ _ _ => pe_ix ix_str (pv 2) (pe_call c_draw.G (hr.mono (by decide)) rfl c_draw.g c_draw.k c_draw.b .nil pass0 (pa_cons (pv 0) (pa_cons pe_int pa_nil))) (fun _ _ => rfl)))))
        (pss_cons (ps_if (pt_cmpR op_in_seq (pv 7) (pv 3) (by rfl))
          (pss_one (ps_set (i := 7) nd rfl (Or.inl rfl) (pe_ix ix_list (pe_lc (own := [("letter", 8)]) (g := gName 8) (tt := tTest (tOp (rIn K true) (tVar 8) (tVar 3))) (te := tVar 8) rfl nd (pi_str (pv 2)) (blkOk_by (own := [("letter", 8)]) (N := N_l_names) (sc := defScope s_l_names) (by decide +kernel))
        (fun _ _ _ _ _ => pg_name (i := 8) nd rfl (Or.inl rfl)) (fun _ _ _ _ _ => pts_one (pt_cmpR op_notIn_seq (pv 8) (pv 3) (by rfl))) (fun _ _ _ _ _ => pv 8)) pe_int (fun _ _ => rfl))))
          pss_nil)
        (pss_one (ps_expr (pe_bm PySem.F.plainAttrs_list PySem.F.slot_list_append PySem.F.type_list_append mt_append (pv 3) (pa_cons (pv 7) pa_nil))))))))
      (pss_one (ps_ret (pv 3)))))), ?_⟩
    refine seq_cB (σ' := [some (.ref a), some (.int many), some (.str abc), none, none, none, none, none, none]) rfl ?_
    refine ⟨by show 0 ≤ sizeLine; decide, fun F nF => ?_⟩
    refine set_sl (σ' := [some (.ref a), some (.int many), some (.str abc), some (.ref F), none, none, none, none, none]) rfl ?_
    obtain ⟨Fa, Fg⟩ := hT.na nF
    refine ⟨_, rfl, _, rfl, by omega, by omega, ?_⟩
    refine for_range (lo := 0) (fun i σ R => ∃ (zs : List Str) (y4 y5 y6 y7 y8 : Option V), σ = [some (.ref a), some (.int many), some (.str abc), some (.ref F), y4, y5, y6, y7, y8] ∧ R F = some (.lst (zs.map V.str)) ∧ zs.length = i ∧ zs.Nodup ∧ (∀ z ∈ zs, IsNm z) ∧ Bag R a g (n + 10 * i) ∧ Same (ct a g H) (ct a g R))
      ⟨[], _, _, _, _, _, rfl, upd_same, rfl, List.nodup_nil, fun _ h => (nomatch h), (hT.new nF).mono (by omega), ctnew5 nF⟩ ?_ ?_
    · rintro i σ R hi ⟨zs, y4, y5, y6, y7, y8, rfl, hF, lz, ndz, okz, hB, sR⟩
      refine set_sl (σ' := [some (.ref a), some (.int many), some (.str abc), some (.ref F), some (.int (0 + (i : Int))), y5, y6, y7, y8]) rfl ?_
      refine ⟨_, rfl, a, g, _, 8, rfl, hB, by omega, by decide, by decide, fun r8 H1 r80 r81 T1 s1 => ?_⟩
      refine ⟨_, _, rfl, rfl, by show 4 ≤ sizeLine; decide, fun p4 n4 => ?_⟩
      obtain ⟨n4a, n4g⟩ := T1.na n4
      refine ⟨_, rfl, a, g, _, 4, rfl, T1.new n4, by omega, by decide, by decide, fun r4 H2 r40 r41 T2 s2 => ?_⟩
      obtain ⟨j4, rfl⟩ := natB r40
      obtain ⟨sz, hl1, hl2, hl3⟩ := size5 (j := j4) (by omega) r80 r81 (by decide)
      refine ⟨p4, _, _, _, rfl, rfl, SqL.of (ctkeepG s2 upd_same n4a n4g), atI_nat hl1, ?_⟩
      refine set_sl (σ' := [some (.ref a), some (.int many), some (.str abc), some (.ref F), some (.int (0 + (i : Int))), some (.int sz), y6, y7, y8]) rfl ?_
      have s02 : Same (ct a g R) (ct a g H2) := (s1.trans (ctnew5 n4)).trans s2
      have hF2 := ctkeepG s02 hF Fa Fg
      refine ⟨⟨_, rfl⟩, _, rfl, _, rfl, by omega, by omega, fun D hD => ?_⟩
      obtain ⟨nDa, nDg⟩ := T2.na hD
      have nDF : F ≠ D := ne_of_none hF2 hD
      refine lc_build (walk_range (lo := 0)) hD (fun i2 ys R => ∃ parts : List Str, ys = parts.map V.str ∧ parts.length = i2 ∧ (∀ z ∈ parts, z.length = 1 ∧ Low z) ∧ Bag R a g (n + 10 * i + 2 + i2) ∧ Same (ct a g H2) (ct a g R)) ⟨[], rfl, rfl, fun _ h => (nomatch h), T2.mono (by omega), Same.refl _⟩ (fun _ _ _ _ _ => trivial) ?_ ?_
      · rintro i2 ys x Ha Hb hi2 e l ⟨parts, rfl, lp, pz, Tp, sp⟩ ⟨rfl, rfl⟩
        refine ⟨rfl, yes ?_⟩
        refine ⟨_, rfl, _, rfl, a, g, _, 26, rfl, Tp.same cd_sub, by omega, by decide, by decide, fun ch Hc h0 h1 Tc sc => ?_⟩
        obtain ⟨jc, rfl⟩ := natB h0
        refine ⟨abc, _, _, rfl, rfl, le_line (by rw [abc_len]; decide), atI_nat (abc_at (by omega)), LcNx.add (ctkeepG sc e nDa nDg) l (by omega) ⟨parts ++ [⟨#[97 + jc]⟩], by rw [List.map_append]; rfl, by rw [List.length_append]; show parts.length + 1 = i2 + 1; omega, fun z hz => ?_, (Tc.cd nDa nDg).mono (by omega), ctcd5 hD sp sc⟩⟩
        rcases List.mem_append.mp hz with hz | hz
        · exact pz z hz
        · rw [List.mem_singleton.mp hz]
          exact ⟨rfl, Low.one (by omega)⟩
      · rintro ys H4 e l ⟨parts, rfl, lp, pz, Tp, sp⟩
        have en : ((sz : Int)).toNat = sz := by omega
        rw [en] at lp Tp
        obtain ⟨jlow, jlen⟩ := joined (y := Str.ofString "") (by decide +kernel) parts (fun z hz => (pz z hz).1) fun z hz => (pz z hz).2
        refine ⟨_, D, parts, rfl, rfl, .inl (SqL.of e), ?_, ?_⟩
        · rw [sum_ones parts fun z hz => (pz z hz).1]
          have e0 : (Str.ofString "").length = 0 := by decide +kernel
          rw [e0]
          omega
        have s24 : Same (ct a g H2) (ct a g H4) := sp.trans (ct_same cd_sub)
        have hF4 := ctkeepG s24 hF2 Fa Fg
        have hz4 : IsNm (Txt.join (Str.ofString "") parts) := ⟨jlow, by omega, by omega⟩
        have T4 : Bag H4 a g (n + 10 * i + 10) := (Tp.same cd_sub).mono (by omega)
        have s04 := (sR.trans s02).trans s24
        generalize Txt.join (Str.ofString "") parts = tt at hz4 ⊢
        refine set_sl (σ' := [some (.ref a), some (.int many), some (.str abc), some (.ref F), some (.int (0 + (i : Int))), some (.int sz), y6, some (.str tt), y8]) rfl ?_
        dsimp only
        refine stm_cut (fun σ' R' => ∃ (z : Str) (y8 : Option V), σ' = [some (.ref a), some (.int many), some (.str abc), some (.ref F), some (.int (0 + (i : Int))), some (.int sz), y6, some (.str z), y8] ∧ IsNm z ∧ z ∉ zs ∧ Bag R' a g (n + 10 * i + 10) ∧ Same (ct a g H4) (ct a g R')) (fun nx hnx => ?_) ?_
        · refine ⟨_, rfl, _, rfl, F, _, rfl, .inl (SqL.of hF4), rfl, flat_strs zs, _, rfl, ?_⟩
          rw [inV_strs]
          by_cases c1 : tt ∈ zs
          · rw [decide_eq_true c1]
            refine iteT ?_
            refine ⟨_, rfl, abc, rfl, fun D2 hD2 => lc_build walk_str hD2 (fun i ys R => R = H4 ∧ ys = (((abc.cps.toList.take i).map fun c => (⟨#[c]⟩ : Str)).filter fun y => !decide (y ∈ zs)).map V.str) ⟨rfl, rfl⟩ (fun _ _ _ _ _ => trivial) ?_ ?_⟩
            · rintro i ys x H2 H2' hi e l ⟨ec, rfl⟩ ⟨rfl, c, hc, rfl⟩
              have h3 : abc.cps.size = 26 := abc_len
              have hc2 : abc.cps.toList[i]? = some c := by rw [Array.getElem?_toList]; exact hc
              obtain ⟨g1, g2⟩ := List.getElem?_eq_some_iff.mp hc2
              have et : ((abc.cps.toList.take (i + 1)).map fun c => (⟨#[c]⟩ : Str)).filter (fun y => !decide (y ∈ zs)) = ((abc.cps.toList.take i).map fun c => (⟨#[c]⟩ : Str)).filter (fun y => !decide (y ∈ zs)) ++ [(⟨#[c]⟩ : Str)].filter (fun y => !decide (y ∈ zs)) := by
                rw [List.take_succ_eq_append_getElem g1, List.map_append, List.filter_append, g2]
                rfl
              refine ⟨rfl, _, rfl, _, rfl, F, _, rfl, .inl ((cd_is0 ec).seq (SqL.of hF4)), rfl, flat_strs zs, _, rfl, ?_⟩
              rw [inV_strs]
              by_cases c2 : (⟨#[c]⟩ : Str) ∈ zs
              · rw [decide_eq_true c2]
                refine iteF (LcNx.skip e l ⟨ec, ?_⟩)
                rw [et, List.filter_cons_of_neg (by simp [c2]), List.filter_nil, List.append_nil]
              · rw [decide_eq_false c2]
                refine iteT ⟨_, rfl, LcNx.add e l (by omega) ⟨ec, ?_⟩⟩
                rw [et, List.filter_cons_of_pos (by simp [c2]), List.filter_nil, List.map_append]
                rfl
            · rintro ys H5 e5 l5 ⟨ec, rfl⟩
              rw [List.take_of_length_le (by rw [Array.length_toList]; exact Nat.le_refl _)] at e5
              obtain ⟨c1, c2, c3, c4⟩ := free_letter (us := zs) (by omega)
              have hmem : (⟨#[c1]⟩ : Str) ∈ (abc.cps.toList.map fun c => (⟨#[c]⟩ : Str)).filter fun y => !decide (y ∈ zs) := List.mem_filter.mpr ⟨List.mem_map.mpr ⟨c1, mem_abc.mpr ⟨c2, c3⟩, rfl⟩, by simp [c4]⟩
              cases hf : (abc.cps.toList.map fun c => (⟨#[c]⟩ : Str)).filter fun y => !decide (y ∈ zs) with
              | nil => rw [hf] at hmem; cases hmem
              | cons y r =>
                rw [hf] at e5
                have hy : y ∈ (abc.cps.toList.map fun c => (⟨#[c]⟩ : Str)).filter fun y => !decide (y ∈ zs) := by rw [hf]; exact List.mem_cons_self ..
                obtain ⟨hy1, hy2⟩ := List.mem_filter.mp hy
                obtain ⟨cc, hcc, rfl⟩ := List.mem_map.mp hy1
                have s9 : Same H4 H5 := cd_is0 ec
                refine ⟨D2, _, _, _, rfl, rfl, SqL.of e5, atI_nat (j := 0) rfl, ?_⟩
                exact hnx _ _ ⟨⟨#[cc]⟩, _, rfl, IsNm.one (mem_abc.mp hcc), by simpa using hy2, T4.same s9, ct_same s9⟩
          · rw [decide_eq_false c1]
            exact iteF (nx_of (hnx _ _ ⟨tt, _, rfl, hz4, c1, T4, Same.refl _⟩))
        · rintro σ' R' ⟨z, y8, rfl, hz, nz, T5, s5⟩
          have hF5 := ctkeepG s5 hF4 Fa Fg
          refine ⟨_, rfl, .inl ⟨rfl, _, SqL.of hF5⟩, _, rfl, F, _, _, rfl, rfl, hF5, small1000 (by rw [List.length_map]; omega), ?_⟩
          refine ⟨zs ++ [z], _, _, _, _, _, rfl, by rw [upd_same, List.map_append]; rfl, by rw [List.length_append]; show zs.length + 1 = i + 1; omega, ?_, fun y hy => ?_, (T5.updo Fa Fg).mono (by omega), ctupd5 (s04.trans s5) nF⟩
          · rw [List.nodup_append]
            refine ⟨ndz, List.pairwise_singleton _ _, fun x hx y hy e => ?_⟩
            rw [List.mem_singleton.mp hy] at e
            exact nz (e ▸ hx)
          · rcases List.mem_append.mp hy with q | q
            · exact okz y q
            · rw [List.mem_singleton.mp q]; exact hz
    · rintro σ R ⟨zs, y4, y5, y6, y7, y8, rfl, hF, lz, ndz, okz, hB, sR⟩
      have en : ((many : Int)).toNat = many := by omega
      rw [en] at lz hB
      exact ⟨_, rfl, k F zs R nF hF lz ndz okz (hB.mono (by omega)) sR⟩
end
end Kd

namespace Kd
open PySem PySem.Spec PyProof.Rows L2
section
variable {P : Program} {w : World} {K : PySem.W.Frag} {mg : Str → Option Value} {base : Heap} {f : Addr} {fd : FuncData}
/-! ### _law_names -/
/-! ### _law_one_of -/
abbrev wayL : List Str := ["day", "day", "first", "last", "before"]
/-! ### what is drawn is a plan -/
structure Good (ds : List (Str × List (Str × Str))) (ms : List Str) : Prop where
  d1 : 1 ≤ ds.length
  d4 : ds.length ≤ 4
  dn : ∀ d ∈ ds, IsNm d.1
  du : (ds.map (·.1)).Nodup
  al : ∀ d ∈ ds, d.2.length ≤ 5
  an : ∀ d ∈ ds, ∀ a ∈ d.2, IsNm a.1 ∧ a.2 ∈ wayL
  au : ∀ d ∈ ds, (d.2.map (·.1)).Nodup
  m4 : ms.length ≤ 4
  mn : ∀ m ∈ ms, IsNm m
  mu : ms.Nodup
theorem flt_false {xs : List Str} {m : Int} (h1 : (xs.length : Int) ≤ m) (h2 : ∀ z ∈ xs, IsNm z) (h3 : xs.Nodup) : fltB xs m = false := by
  unfold fltB
  rw [KdS.dcn_nodup h3 xs.length (Nat.le_refl _), decide_eq_false (by omega), decide_eq_false (by omega), List.all_eq_true.mpr (fun z hz => nm_iff.mpr (h2 z hz))]
  rfl
theorem Good.ff {ds : List (Str × List (Str × Str))} {ms : List Str} (h : Good ds ms) : ffV ds ms = .non := by
  have e1 : ds.isEmpty = false := by
    cases ds with
    | nil => exact absurd h.d1 (by decide)
    | cons _ _ => rfl
  have e2 : fltB (ds.map (·.1)) 4 = false := flt_false (by rw [List.length_map]; have := h.d4; omega) (fun z hz => by
    obtain ⟨d, hd, rfl⟩ := List.mem_map.mp hz
    exact h.dn d hd) h.du
  have e3 : ds.any (fun d => fltB (d.2.map (·.1)) 5) = false := by
    rw [List.any_eq_false]
    intro d hd
    rw [flt_false (by rw [List.length_map]; have := h.al d hd; omega) (fun z hz => by
      obtain ⟨a, ha, rfl⟩ := List.mem_map.mp hz
      exact (h.an d hd a ha).1) (h.au d hd)]
    decide
  have e4 : fltB ms 4 = false := flt_false (by have := h.m4; omega) h.mn h.mu
  unfold ffV
  rw [e1, e2, e3, e4]
  rfl
theorem Good.szd {ds : List (Str × List (Str × Str))} {ms : List Str} (h : Good ds ms) : Szd ds ms where
  dl := by have := h.d4; omega
  dn := fun d hd => ⟨by have := (h.dn d hd).le8; omega, by have := h.al d hd; omega, fun a ha => by have := (h.an d hd a ha).1.le8; omega⟩
  ml := by have := h.m4; omega
  mn := fun m hm => by have := (h.mn m hm).le8; omega

/-! tuples do not lean on lists -/
/-! ### _law_plan -/
end
end Kd

namespace KdKw
open PySem PySem.Spec PyProof.Rows L2
section
variable {X : Cx} {CX : CXT} {k : Nat} {f : Addr} {fd : FuncData} {ps ks : List Str} {sp : Sp} {x : Str} {p pos : Pos} {kws : List Keyword} {tk : TA} {g : List Value → List Value → List Value} {gV : List V → List V → List V}
theorem run_fnkS {E : L2.St → XK} {pins : List (Addr × Obj)} {σ : L2.St} {H : Hp} {s : Shared} {Q : VK} {us ws : List Value} {vs zs : List V} (F : FnOk X.prog X.w X.K X.mg X.base CX k f fd ps sp) (hr : Room k X.A) (hb : KBinds X.K fd ps ks g gV) (hx : PassesAt CX X σ (E σ))
    (I : Inv X pins σ H s) (r : Vals vs us) (rz : Vals zs ws) (h : sp (gV vs zs) H Q (E σ)) : wpAny (model X.prog X.w) X.A (call (.ref f) us (ks.zip ws)) (EP X pins σ Q) X.xe s := by
  have r2 := hb.rel r rz
  have hl : (g us ws).length = ps.length := by rw [← r2.length]; exact F.len _ _ _ _ h
  refine wpAny_call (codeAny_mono (F.run X.A X.stack s H ⟨us, ks.zip ws⟩ (g us ws) (gV vs zs) Q (E σ) hr I.env0 (hb.to s us ws I.kIn hl) r2 h) fun r s' hq => ?_)
  cases r with
  | error e => exact hx pins H s e s' I hq
  | ok fl =>
    cases fl with
    | ret u => exact I.after hq
    | next => exact False.elim hq
    | brk => exact False.elim hq
    | cont => exact False.elim hq
end
end KdKw

namespace KdMs
open PySem PySem.Spec PyProof.Rows L2
section
variable {X : Cx} {CX : CXT} {k : Nat} {f C : Addr} {fd : FuncData} {ps ks : List Str} {sp : Sp} {x m : Str} {p pos apos : Pos} {e o : Expr} {es : List Expr} {kws : List Keyword} {ta : TE} {t tk : TA} {g : List Value → List Value → List Value} {gV : List V → List V → List V} {E : L2.St → XK}
/-- o.m(k = v, ..) -/
def tMethKS (C : Addr) (m : Str) (sp : Sp) (gV : List V → List V → List V) (E : L2.St → XK) (ta : TE) (tk : TA) : TE := fun σ H Q => ta σ H fun x H1 => ∃ a dx fs, x = .ref a ∧ H1 a = some (.ins C dx fs) ∧ fs.lookup m = none ∧ tk σ H1 fun zs H2 => sp (gV [x] zs) H2 Q (E σ)
theorem pe_methKS {pl : Sem Bool} (he : PE X o ta) (c : Cls X.K C) (hm : Meth X.K C m f) (F : FnOk X.prog X.w X.K X.mg X.base CX k f fd ps sp) (hr : Room k X.A) (hb : KBinds X.K fd ps ks g gV) (hx : ∀ σ, PassesAt CX X σ (E σ)) (hkw : PK X kws tk)
    (hall : (backToKw pos (keywordEach kws X.env)).all (·.1.isSome) = true := by rfl) (hks : (backToKw pos (keywordEach kws X.env)).filterMap (·.1) = ks := by rfl)
    (hpl : ((backTo pos (starEach [] X.env)).any (·.1) || (backToKw pos (keywordEach kws X.env)).any (·.1.isNone)) = false := by rfl)
    (ht : eval (.Call (.Attribute o m apos) [] kws pos) X.env = (do
      let ov ← eval o X.env
      standAt apos.atName
      let (f, first) ← holding [ov] (getMethod ov m pl)
      callWith pos f first (backTo pos (starEach [] X.env)) (backToKw pos (keywordEach kws X.env))) := by rfl) :
    PE X (.Call (.Attribute o m apos) [] kws pos) (tMethKS C m sp gV E ta tk) := by
  refine ⟨fun pins s σ H Q I h => ?_⟩
  refine PySem.W.methodCall_KW (pl := pl) (thn (he.run pins s σ H _ I h) fun u s1 ⟨x, H1, I1, rx, a, dx, fs, ex, ea, l, q⟩ => ?_) ht
  subst ex
  obtain rfl : u = Value.ref a := rx
  refine getmeth_ok I1 ea c hm l ?_
  refine PySem.W.callWith_KW0 (first := [.ref a]) (h₀ := X.base) I.ok.mod.kin hm.kp hall ?_ hpl
  refine thn (hkw.run pos pins s1 σ H1 _ I1 q) fun ws s2 ⟨zs, H2, I2, rz, q2⟩ => ⟨I2.kIn, ?_⟩
  rw [hks]
  exact KdKw.run_fnkS (us := [.ref a]) (vs := [.ref a]) F hr hb (hx σ) I2 (.cons rfl .nil) rz q2
end
end KdMs

namespace Kd
open PySem PySem.Spec PyProof.Rows L2 LamX KdXc
/-- the house's names and rows are fair texts -/
structure HsTx (S : Hs) : Prop where
  nm : ∀ e ∈ S.facts, Tx e.1
  rw : ∀ r ∈ S.rows, r.ok
theorem tell_facts {S : Hs} {ds : Dims} {r : Rw} {e : Str × Fct} (h : e ∈ (S.tell ds r).facts) : e ∈ S.facts ∨ ∃ day keys nums, r = .fact e.1 day keys nums := by
  cases r with
  | kind d key day vals => exact .inl h
  | fact name day keys nums =>
    have h : e ∈ pt S.facts name ⟨day, keys, nums⟩ := h
    rcases mem_pt h with rfl | ⟨h, _⟩
    · exact .inr ⟨day, keys, nums, rfl⟩
    · exact .inl h
  | forget name =>
    cases c : lk S.facts name with
    | none =>
      have q : S.tell ds (.forget name) = S := by unfold Hs.tell; simp only [c]
      rw [q] at h
      exact .inl h
    | some fc =>
      have q : S.tell ds (.forget name) = (S.told (.forget name)).forgetS ds name fc := by unfold Hs.tell; simp only [c]
      rw [q] at h
      have h : e ∈ dp S.facts name := h
      exact .inl (mem_dp.mp h).1
theorem HsTx.tell {ds : Dims} {ms : List Str} {S : Hs} {r : Rw} (t : HsTx S) (ok : r.ok) (e : (S.tell ds r).rows = S.rows ++ [r]) : HsTx (S.tell ds r) := by
  refine ⟨fun x hx => ?_, fun x hx => ?_⟩
  · rcases tell_facts hx with h | ⟨day, keys, nums, rfl⟩
    · exact t.nm x h
    · exact ok.1
  · rw [e] at hx
    rcases List.mem_append.mp hx with h | h
    · exact t.rw x h
    · rw [List.mem_singleton.mp h]
      exact ok
section
variable {P : Program} {w : World} {K : PySem.W.Frag} {mg : Str → Option Value} {base : Heap} {f : Addr} {fd : FuncData}
theorem rows_dp {H : Hp} {rs : List V} {rows : List Rw} (h : Paired (RwRef K H) rs rows) : DpAll K H rs (rows.map rwD) := by
  induction h with
  | nil => exact .nil
  | cons a t ih =>
    obtain ⟨p, rfl, hp⟩ := a
    exact .cons (Rw.dp hp) ih
end
end Kd

namespace Kd
open PySem PySem.Spec PyProof.Rows L2 LamX
theorem tell_kinds {S : Hs} {ds : Dims} {r : Rw} : (∃ d key day vals, r = .kind d key day vals ∧ (S.tell ds r).ts.kinds = (S.ts.kept (d, key) day vals).kinds) ∨ (S.tell ds r).ts.kinds = S.ts.kinds := by
  cases r with
  | kind d key day vals => exact .inl ⟨d, key, day, vals, rfl, rfl⟩
  | fact name day keys nums =>
    refine .inr ?_
    show (Ts.parts _ _).kinds = _
    rw [parts_kinds]
    exact meetF_kinds ds S.ts _
  | forget name =>
    refine .inr ?_
    cases c : lk S.facts name with
    | none =>
      have q : S.tell ds (.forget name) = S := by unfold Hs.tell; simp only [c]
      rw [q]
    | some fc =>
      have q : S.tell ds (.forget name) = (S.told (.forget name)).forgetS ds name fc := by unfold Hs.tell; simp only [c]
      rw [q]
      show (Ts.parts _ _).kinds = _
      rw [parts_kinds]
      rfl
section
variable {K : PySem.W.Frag} {H H' : Hp}
def fctD (fc : Fct) : PyData := .tuple [.int fc.day, .tuple (fc.keys.map PyData.str), .tuple (fc.nums.map PyData.int)]
theorem FctAt.dp {a : Addr} {fc : Fct} (h : FctAt K H a fc) : Dp K H (.ref a) (fctD fc) := by
  obtain ⟨q1, q2, h1, h2, h3⟩ := h
  exact .tup h1 (.cons (.int _) (.cons (.tup h2 (DpAll.strs _)) (.cons (.tup h3 (ints_dp _)) .nil)))
/-! ### _law_known -/
end
end Kd

namespace Kd
open PySem PySem.Spec PyProof.Rows L2
/-! ### the lists as data -/
def attD (a : Str × Str) : PyData := .tuple [.str a.1, .str a.2]
def dimD (d : Str × List (Str × Str)) : PyData := .tuple [.str d.1, .tuple (d.2.map attD)]
def dimsD (ds : List (Str × List (Str × Str))) : PyData := .list (ds.map dimD)
section
variable {K : PySem.W.Frag} {H : Hp}
theorem atts_dp : ∀ {ys : List V} {as : List (Str × Str)}, Paired (AttAt K H) ys as → DpAll K H ys (as.map attD)
  | _, _, .nil => .nil
  | _, _, .cons ⟨r, e1, e2⟩ t => by
    subst e1
    exact .cons (.tup e2 (.cons (.str _) (.cons (.str _) .nil))) (atts_dp t)
theorem dims_dp : ∀ {xs : List V} {ds : List (Str × List (Str × Str))}, Paired (DimAt K H) xs ds → DpAll K H xs (ds.map dimD)
  | _, _, .nil => .nil
  | _, _, .cons ⟨p, q, e1, e2, zs, e3, e4⟩ t => by
    subst e1
    exact .cons (.tup e2 (.cons (.str _) (.cons (.tup e3 (atts_dp e4)) .nil))) (dims_dp t)
theorem DimsAt.dp {l : Addr} {ds : List (Str × List (Str × Str))} (h : DimsAt K H l ds) : Dp K H (.ref l) (dimsD ds) := by
  obtain ⟨xs, h1, h2⟩ := h
  exact .lst h1 (dims_dp h2)
end
end Kd

/-! == of dicts with tuple keys; dicts of dicts of data -/
namespace PySem.W
open Lean Elab Tactic Meta PySem PySem.Calls PyProof.Rows PyProof.V PySem.Spec
section
variable {prog : Program} {w : World} {K : Type} [DecidableEq K] {knd : HeapKind prog w K} {A : Around} {E : Value → Shared → Prop} {s : Shared}
inductive KeqHitsT {K : Type} [DecidableEq K] (prog : Program) (w : World) (A : Around) (s : Shared) (kb : List (K × Addr × Value)) : List (K × Addr × Value) → Bool → Prop
  | nil : KeqHitsT prog w A s kb [] true
  | miss {k : K} {a : Addr} {v : Value} {r : List (K × Addr × Value)} : atKey kb k = none → KeqHitsT prog w A s kb ((k, a, v) :: r) false
  | hit {k : K} {a b : Addr} {v y : Value} {r : List (K × Addr × Value)} {e c : Bool} : atKey kb k = some (b, y) → SeqAt.EqP prog w A s v y e → KeqHitsT prog w A s kb r c → KeqHitsT prog w A s kb ((k, a, v) :: r) (e && c)
end
end PySem.W
namespace Kd
open PySem PySem.Spec PyProof.Rows L2
section
variable {X : Cx} {pins : List (Addr × Obj)} {σ : L2.St} {H : Hp} {s : Shared}
end
section
variable {X : Cx}
end
end Kd

namespace Kd
open PySem PySem.Spec PyProof.Rows L2 LamX
/-! ### == of houses -/
def valsD (vs : List Fv) : PyData := .tuple (vs.map Fv.d)
section
variable {K : PySem.W.Frag} {H : Hp}
/-- all kinds and facts are fair data -/
structure HsSh (S : Hs) : Prop where
  k : ∀ e ∈ S.ts.kinds, ∀ k ∈ e.2, SeqAt.shaped (valsD k.2) = true
  f : ∀ e ∈ S.facts, SeqAt.shaped (fctD e.2) = true
end
end Kd

namespace Kd
open PySem PySem.Spec PyProof.Rows L2 LamX
/-! ### the plain tables -/
def svT (S : Hs) (t : Th) : List PyData := (S.ts.vs t).map fun v => svD v.s
def plnK (S : Hs) (d : Dm) : List Th := (S.keysOf d.1).map fun key => (d.1, key)
def plnL (ds : Dims) (S : Hs) : List Th := ds.flatMap (plnK S)
def plnT (S : Hs) (t : Th) : PyData := .tuple [.str t.1, .str t.2, .list (svT S t)]
def begF (ds : Dims) (S : Hs) (name : Str) : PyData := match lk S.facts name with
  | some fc => .tuple [.str name, .int fc.day, .tuple (fc.keys.map PyData.str), .tuple (fc.nums.map PyData.int), .tuple ((thOf ds fc.keys).map fun t => oD (S.ts.begOn t fc.day))]
  | none => .none
def plnF (ds : Dims) (S : Hs) : List PyData := S.names.map (begF ds S)
def plainD (ds : Dims) (S : Hs) : PyData := .tuple [.list ((plnL ds S).map (plnT S)), .list (plnF ds S)]
end Kd

namespace Kd
open PySem PySem.Spec PyProof.Rows L2
/-! ### what is kept, as maps -/
theorem nodup_keys {α β : Type} : ∀ {l : List (α × β)}, (l.map (·.1)).Nodup → l.Nodup
  | [], _ => List.nodup_nil
  | a :: l, h => by
    rw [List.map_cons, List.nodup_cons] at h
    exact List.nodup_cons.mpr ⟨fun q => h.1 (List.mem_map_of_mem q), nodup_keys h.2⟩
theorem perm_of_lk {α β : Type} [DecidableEq α] {a b : List (α × β)} (na : (a.map (·.1)).Nodup) (nb : (b.map (·.1)).Nodup) (h : ∀ k, lk a k = lk b k) : a.Perm b := by
  rw [List.perm_ext_iff_of_nodup (nodup_keys na) (nodup_keys nb)]
  rintro ⟨k, v⟩
  constructor
  · intro q
    exact lk_mem ((h k).symm.trans (lk_of_mem na q))
  · intro q
    exact lk_mem ((h k).trans (lk_of_mem nb q))
theorem keys_perm {α β γ : Type} [DecidableEq α] {a : List (α × β)} {b : List (α × γ)} (na : (a.map (·.1)).Nodup) (nb : (b.map (·.1)).Nodup) (h : ∀ k, (lk a k).isSome = (lk b k).isSome) : (a.map (·.1)).Perm (b.map (·.1)) := by
  have key : ∀ {β : Type} {a : List (α × β)} {k : α}, k ∈ a.map (·.1) ↔ (lk a k).isSome = true := fun {β a k} => by
    constructor
    · intro q
      obtain ⟨v, e⟩ := lk_some_key q
      rw [e]; rfl
    · intro q
      obtain ⟨v, e⟩ := isSome_ex q
      exact List.mem_map_of_mem (f := (·.1)) (lk_mem e)
  rw [List.perm_ext_iff_of_nodup na nb]
  intro k
  rw [key, key, h]
def kvA (S : Hs) (t : Th) (d : Int) : Option (List Fv) := (lk S.ts.kinds t).bind fun ks => lk ks d
structure MapEq (S S2 : Hs) : Prop where
  k : ∀ t d, kvA S t d = kvA S2 t d
  f : ∀ z, lk S.facts z = lk S2.facts z
def KNe (S : Hs) : Prop := ∀ e ∈ S.ts.kinds, e.2 ≠ []
theorem KNe.some {S : Hs} (h : KNe S) {t : Th} : (lk S.ts.kinds t).isSome = true ↔ ∃ d v, kvA S t d = some v := by
  unfold kvA
  constructor
  · intro q
    obtain ⟨ks, e⟩ := isSome_ex q
    have := h _ (lk_mem e)
    cases ks with
    | nil => exact absurd rfl this
    | cons k ks => exact ⟨k.1, k.2, by rw [e]; show lk (k :: ks) k.1 = _; unfold lk; simp⟩
  · rintro ⟨d, v, e⟩
    cases q : lk S.ts.kinds t with
    | none => rw [q] at e; cases e
    | some ks => rfl
section
variable {ds : Dims} {ms ms2 : List Str} {S S2 : Hs}
theorem MapEq.symm (h : MapEq S S2) : MapEq S2 S := ⟨fun t d => (h.k t d).symm, fun z => (h.f z).symm⟩
theorem MapEq.kin (h : MapEq S S2) (n : KNe S) (n2 : KNe S2) (t : Th) : (lk S.ts.kinds t).isSome = (lk S2.ts.kinds t).isSome := by
  have e : ((lk S.ts.kinds t).isSome = true) ↔ ((lk S2.ts.kinds t).isSome = true) := by
    rw [n.some, n2.some]
    constructor
    · rintro ⟨d, v, e⟩
      exact ⟨d, v, (h.k t d).symm.trans e⟩
    · rintro ⟨d, v, e⟩
      exact ⟨d, v, (h.k t d).trans e⟩
  cases a : (lk S.ts.kinds t).isSome <;> cases b : (lk S2.ts.kinds t).isSome <;> simp_all
theorem MapEq.ks (h : MapEq S S2) (so : HsOk ds ms S) (so2 : HsOk ds ms2 S2) (n : KNe S) (n2 : KNe S2) (t : Th) : (S.ts.ks t).Perm (S2.ts.ks t) := by
  have e := h.kin n n2 t
  unfold Ts.ks
  cases a : lk S.ts.kinds t with
  | none =>
    rw [a] at e
    cases b : lk S2.ts.kinds t with
    | none => exact .refl _
    | some ks => rw [b] at e; cases e
  | some ks =>
    rw [a] at e
    cases b : lk S2.ts.kinds t with
    | none => rw [b] at e; cases e
    | some ks2 =>
      refine perm_of_lk (so.tok.kd _ (lk_mem a)) (so2.tok.kd _ (lk_mem b)) fun d => ?_
      have := h.k t d
      unfold kvA at this
      rw [a, b] at this
      exact this
theorem srt_rise2 {ks : List Kind} (h : (ks.map (·.1)).Nodup) : Rise (srt ks) := by
  have h1 := srt_le ks
  have h2 : ((srt ks).map (·.1)).Nodup := ((srt_perm ks).map (·.1)).nodup_iff.mpr h
  have h3 : (srt ks).Pairwise fun a b => a.1 ≠ b.1 := List.pairwise_map.mp h2
  exact (h1.and h3).imp fun {a b} q => Int.lt_iff_le_and_ne.mpr q
theorem MapEq.srt (h : MapEq S S2) (so : HsOk ds ms S) (so2 : HsOk ds ms2 S2) (n : KNe S) (n2 : KNe S2) (t : Th) : Kd.srt (S.ts.ks t) = Kd.srt (S2.ts.ks t) :=
  srt_of_perm (srt_rise2 (so2.tok.ks_nodup t)) ((h.ks so so2 n n2 t).trans (srt_perm _).symm)
theorem MapEq.sv (h : MapEq S S2) (so : HsOk ds ms S) (so2 : HsOk ds ms2 S2) (n : KNe S) (n2 : KNe S2) (ws : List Str) (t : Th) : Kd.sv ws (S.ts.ks t) = Kd.sv ws (S2.ts.ks t) := by
  unfold Kd.sv
  rw [h.srt so so2 n n2 t]
theorem MapEq.facts (h : MapEq S S2) (so : HsOk ds ms S) (so2 : HsOk ds ms2 S2) : S.facts.Perm S2.facts := perm_of_lk so.fn so2.fn h.f
theorem MapEq.fdays (h : MapEq S S2) (so : HsOk ds ms S) (so2 : HsOk ds ms2 S2) (t : Th) : (Kd.fdays ds S.facts t).isEmpty = (Kd.fdays ds S2.facts t).isEmpty := by
  have p : (Kd.fdays ds S.facts t).Perm (Kd.fdays ds S2.facts t) := ((h.facts so so2).filter _).map _
  cases a : Kd.fdays ds S.facts t with
  | nil =>
    rw [a] at p
    rw [p.symm.eq_nil]
  | cons x l =>
    cases b : Kd.fdays ds S2.facts t with
    | nil => rw [a, b] at p; exact absurd p.eq_nil (by simp)
    | cons y m => rfl
theorem known_iff (so : HsOk ds ms S) (t : Th) : (lk S.ts.nums t).isSome = !goneB ds S t := by
  cases a : (lk S.ts.nums t).isSome with
  | true => rw [so.kno t a]; rfl
  | false =>
    cases b : goneB ds S t with
    | true => rfl
    | false =>
      exfalso
      rcases goneB_false b with q | ⟨e, he, ht⟩
      · rw [so.kin t q] at a; cases a
      · obtain ⟨v, hv⟩ := so.fkn e he t ht
        rw [hv] at a; cases a
theorem MapEq.known (h : MapEq S S2) (so : HsOk ds ms S) (so2 : HsOk ds ms2 S2) (n : KNe S) (n2 : KNe S2) (t : Th) : (lk S.ts.nums t).isSome = (lk S2.ts.nums t).isSome := by
  rw [known_iff so, known_iff so2]
  unfold goneB
  have e1 := h.kin n n2 t
  have e2 := h.fdays so so2 t
  have e3 : (lk S.ts.kinds t).isNone = (lk S2.ts.kinds t).isNone := by
    cases a : lk S.ts.kinds t <;> cases b : lk S2.ts.kinds t <;> simp_all
  rw [e3, e2]
theorem MapEq.keysOf (h : MapEq S S2) (so : HsOk ds ms S) (so2 : HsOk ds ms2 S2) (n : KNe S) (n2 : KNe S2) (z : Str) : S.keysOf z = S2.keysOf z := by
  have p := keys_perm so.tok.nn so2.tok.nn (h.known so so2 n n2)
  have e : ∀ S : Hs, S.ts.keysL z = ((S.ts.nums.map (·.1)).filter fun t => decide (t.1 = z)).map (·.2) := fun S => by
    unfold Ts.keysL
    rw [List.filter_map, List.map_map]
    rfl
  unfold Hs.keysOf
  rw [e, e]
  exact srtS_of_perm ((p.filter _).map _)
theorem MapEq.names (h : MapEq S S2) (so : HsOk ds ms S) (so2 : HsOk ds ms2 S2) : S.names = S2.names := by
  unfold Hs.names
  exact srtS_of_perm ((h.facts so so2).map _)
theorem vs_of2 (so : HsOk ds ms S) {t : Th} (k : (lk S.ts.nums t).isSome = true) : (S.ts.vs t).map Ver.s = sv (wsOf ds t.1) (S.ts.ks t) := by
  obtain ⟨v, e⟩ := isSome_ex k
  have := so.tok.vs_of e
  unfold Ts.vs
  rw [e]
  exact this
theorem MapEq.vss (h : MapEq S S2) (so : HsOk ds ms S) (so2 : HsOk ds ms2 S2) (n : KNe S) (n2 : KNe S2) (t : Th) : (S.ts.vs t).map Ver.s = (S2.ts.vs t).map Ver.s := by
  have k := h.known so so2 n n2 t
  cases a : (lk S.ts.nums t).isSome with
  | true =>
    rw [a] at k
    rw [vs_of2 so a, vs_of2 so2 k.symm, h.sv so so2 n n2]
  | false =>
    rw [a] at k
    unfold Ts.vs
    cases b : lk S.ts.nums t with
    | some v => rw [b] at a; cases a
    | none =>
      cases b2 : lk S2.ts.nums t with
      | some v => rw [b2] at k; cases k
      | none => rfl
theorem MapEq.svT (h : MapEq S S2) (so : HsOk ds ms S) (so2 : HsOk ds ms2 S2) (n : KNe S) (n2 : KNe S2) (t : Th) : Kd.svT S t = Kd.svT S2 t := by
  have e : ∀ S : Hs, Kd.svT S t = ((S.ts.vs t).map Ver.s).map svD := fun S => by unfold Kd.svT; rw [List.map_map]; rfl
  rw [e, e, h.vss so so2 n n2]
theorem begOn_s (ts : Ts) (t : Th) (day : Int) : ts.begOn t day = ((((ts.vs t).map Ver.s).filter fun s => begB day s.1).getLast?.map fun s => s.1).getD none := by
  unfold Ts.begOn verOn
  have : ((ts.vs t).map Ver.s).filter (fun s => begB day s.1) = ((ts.vs t).filter fun r => begB day r.b).map Ver.s := by
    rw [List.filter_map]
    rfl
  rw [this, List.getLast?_map, Option.map_map]
  rfl
theorem MapEq.begOn (h : MapEq S S2) (so : HsOk ds ms S) (so2 : HsOk ds ms2 S2) (n : KNe S) (n2 : KNe S2) (t : Th) (day : Int) : S.ts.begOn t day = S2.ts.begOn t day := by
  rw [begOn_s, begOn_s, h.vss so so2 n n2]
theorem MapEq.plain (h : MapEq S S2) (so : HsOk ds ms S) (so2 : HsOk ds ms2 S2) (n : KNe S) (n2 : KNe S2) : plainD ds S = plainD ds S2 := by
  have e1 : plnL ds S = plnL ds S2 := by
    unfold plnL
    congr 1
    funext d
    unfold plnK
    rw [h.keysOf so so2 n n2]
  have e2 : plnT S = plnT S2 := by
    funext t
    unfold plnT
    rw [h.svT so so2 n n2]
  have e3 : plnF ds S = plnF ds S2 := by
    unfold plnF
    rw [h.names so so2]
    congr 1
    funext z
    unfold begF
    rw [h.f z]
    cases lk S2.facts z with
    | none => rfl
    | some fc =>
      have q : (fun t => oD (S.ts.begOn t fc.day)) = (fun t => oD (S2.ts.begOn t fc.day)) := by
        funext t
        rw [h.begOn so so2 n n2]
      show PyData.tuple [_, _, _, _, .tuple ((thOf ds fc.keys).map fun t => oD (S.ts.begOn t fc.day))] = _
      rw [q]
  unfold plainD
  rw [e1, e2, e3]
/-! == of houses by maps -/
/-! what a row does to the maps -/
theorem KNe.none : KNe Hs.none := fun e he => by cases he
theorem KNe.tell (h : KNe S) (r : Rw) : KNe (S.tell ds r) := fun e he => by
  rcases tell_kinds (S := S) (ds := ds) (r := r) with ⟨d, key, day, vals, rfl, q⟩ | q
  · rw [q] at he
    have he : e ∈ pt S.ts.kinds (d, key) (pt (S.ts.ks (d, key)) day vals) := he
    rcases mem_pt he with rfl | ⟨he, _⟩
    · intro z
      have z : pt (S.ts.ks (d, key)) day vals = [] := z
      have : lk (pt (S.ts.ks (d, key)) day vals) day = Option.some vals := by rw [lk_pt, if_pos rfl]
      rw [z] at this
      cases this
    · exact h e he
  · rw [q] at he
    exact h e he
end
end Kd

namespace Kd
open PySem PySem.Spec PyProof.Rows L2
/-! ### marks of rows, and rows of one mark in their order -/
def runR (ds : Dims) (l : List Rw) : Hs := l.foldl (fun S r => S.tell ds r) Hs.none
theorem runR_snoc (ds : Dims) (l : List Rw) (r : Rw) : runR ds (l ++ [r]) = (runR ds l).tell ds r := by
  unfold runR
  rw [List.foldl_append]
  rfl
section
variable {ds : Dims} {ms : List Str}
/-- none of them is refused -/
def Vd (ds : Dims) (ms : List Str) (l : List Rw) : Prop := ∀ i r, l[i]? = some r → (runR ds (l.take i)).takes ds ms r = true
theorem Vd.nil : Vd ds ms [] := fun i r h => by cases h
theorem Vd.snoc {l : List Rw} {r : Rw} (h : Vd ds ms l) (tk : (runR ds l).takes ds ms r = true) : Vd ds ms (l ++ [r]) := fun i r' e => by
  by_cases q : i < l.length
  · rw [List.getElem?_append_left q] at e
    rw [List.take_append_of_le_length (by omega)]
    exact h i r' e
  · have hi : i = l.length := by
      have := (List.getElem?_eq_some_iff.mp e).1
      rw [List.length_append] at this
      have : i < l.length + 1 := this
      omega
    subst hi
    rw [List.getElem?_append_right (Nat.le_refl _), Nat.sub_self] at e
    cases e
    rw [List.take_left]
    exact tk
theorem KNe.run (l : List Rw) : KNe (runR ds l) := snoc_indl (p := fun l => KNe (runR ds l)) KNe.none (fun l r ih => by rw [runR_snoc]; exact ih.tell r) l
end
end Kd

/-! the world of the laws k25 to k37: what is drawn from, and what is kept -/
namespace Kd
open PySem PySem.Spec PyProof.Rows L2 LamX
structure Fx where
  lo : Addr
  mo : Addr
  ky : Addr
  dy : Addr
  wo : Addr
  nm : Addr
  kl : List Addr
  xs : List V
  ds : Dims
  ms : List Str
  kys : List (List Str)
  dys : List Int
  wos : List Fv
  nms : List Str
def fxM (x : Fx) : Addr → Prop := fun b => b = x.lo ∨ b = x.mo ∨ b = x.ky ∨ b = x.dy ∨ b = x.wo ∨ b = x.nm ∨ b ∈ x.kl
def StrsAt (H : Hp) (q : Addr) (zs : List Str) : Prop := H q = some (.lst (zs.map V.str))
structure FxAt (K : PySem.W.Frag) (H : Hp) (x : Fx) : Prop where
  l : H x.lo = some (.lst x.xs)
  d : Paired (DimAt K H) x.xs x.ds
  m : StrsAt H x.mo x.ms
  k : H x.ky = some (.lst (x.kl.map V.ref))
  kk : Paired (StrsAt H) x.kl x.kys
  dy : H x.dy = some (.lst (x.dys.map V.int))
  wo : H x.wo = some (.lst (x.wos.map Fv.v))
  nm : StrsAt H x.nm x.nms
structure FxOk (x : Fx) : Prop where
  g : Good x.ds x.ms
  kn : x.kys.length = x.ds.length
  k1 : ∀ zs ∈ x.kys, 1 ≤ zs.length ∧ zs.length ≤ 20 ∧ ∀ z ∈ zs, Tx z
  d7 : x.dys.length = 7
  dn : ∀ i ∈ x.dys, Nu i
  w5 : x.wos.length = 5
  wk : ∀ v ∈ x.wos, v.ok
  n1 : 1 ≤ x.nms.length
  n2 : x.nms.length ≤ 60
  nx : ∀ z ∈ x.nms, Tx z
/-- what is kept -/
structure Wm where
  kinds : List (Th × List Kind)
  facts : List (Str × Fct)
  rows : List Rw
def Wm.none : Wm := ⟨[], [], []⟩
abbrev WEs := List (L2.Key × V)
def wdM (wx kd fc rw : Addr) (ka : Th → Addr) (W : Wm) : Addr → Prop := fun b => b = wx ∨ b = kd ∨ b = fc ∨ b = rw ∨ ∃ e ∈ W.kinds, b = ka e.1
structure WdX (K : PySem.W.Frag) (H : Hp) (wx : Addr) (es : WEs) (kd fc rw : Addr) (ka : Th → Addr) (fo : Str → Addr) (rs : List V) (W : Wm) : Prop where
  hx : H wx = some (.dK es)
  ek : valV es (Sum.inr "kinds") = some (.ref kd)
  ef : valV es (Sum.inr "facts") = some (.ref fc)
  er : valV es (Sum.inr "rows") = some (.ref rw)
  hk : H kd = some (.dT (W.kinds.map fun e => (thK e.1, V.ref (ka e.1))))
  kk : ∀ e ∈ W.kinds, InnerAt K H (ka e.1) e.2
  ki : ∀ e ∈ W.kinds, ∀ e' ∈ W.kinds, ka e.1 = ka e'.1 → e.1 = e'.1
  hf : H fc = some (.dK (W.facts.map fun e => ((Sum.inr e.1 : L2.Key), V.ref (fo e.1))))
  fi : ∀ e ∈ W.facts, FctAt K H (fo e.1) e.2
  hr : H rw = some (.lst rs)
  ri : Paired (RwRef K H) rs W.rows
  xf : wx ≠ fc
  kx : ∀ e ∈ W.kinds, ka e.1 ≠ wx ∧ ka e.1 ≠ fc
structure WsE (es : WEs) (x : Fx) : Prop where
  d : valV es (Sum.inr "dims") = some (.ref x.lo)
  s : valV es (Sum.inr "sums") = some (.ref x.mo)
structure WfE (es : WEs) (x : Fx) : Prop where
  k : valV es (Sum.inr "keys") = some (.ref x.ky)
  d : valV es (Sum.inr "days") = some (.ref x.dy)
  w : valV es (Sum.inr "worths") = some (.ref x.wo)
  n : valV es (Sum.inr "names") = some (.ref x.nm)
section
variable {K : PySem.W.Frag} {H H' : Hp} {x : Fx} {wx kd fc rw : Addr} {es : WEs} {ka : Th → Addr} {fo : Str → Addr} {rs : List V} {W : Wm}
theorem FxAt.live (h : FxAt K H x) : Live (fxM x) H := by
  rintro b (rfl | rfl | rfl | rfl | rfl | rfl | hb)
  · exact ⟨_, h.l, trivial⟩
  · exact ⟨_, h.m, trivial⟩
  · exact ⟨_, h.k, trivial⟩
  · exact ⟨_, h.dy, trivial⟩
  · exact ⟨_, h.wo, trivial⟩
  · exact ⟨_, h.nm, trivial⟩
  · obtain ⟨i, hi, rfl⟩ := List.mem_iff_getElem.mp hb
    obtain ⟨zs, _, hz⟩ := paired_at h.kk (List.getElem?_eq_getElem hi)
    exact ⟨_, hz, trivial⟩
theorem strs_keep {M : Addr → Prop} (k : Keep M H H') : ∀ {l : List Addr} {zs : List (List Str)}, (∀ b ∈ l, M b) → Paired (StrsAt H) l zs → Paired (StrsAt H') l zs
  | _, _, _, .nil => .nil
  | _, _, m, .cons h t => .cons (k.at h trivial (m _ (List.mem_cons_self ..))) (strs_keep k (fun b hb => m b (List.mem_cons_of_mem _ hb)) t)
theorem FxAt.keep (h : FxAt K H x) (k : Keep (fxM x) H H') : FxAt K H' x where
  l := k.at h.l trivial (.inl rfl)
  d := PySem.Paired.mono (fun _ _ z => dim_keep k z) h.d
  m := k.at h.m trivial (.inr (.inl rfl))
  k := k.at h.k trivial (.inr (.inr (.inl rfl)))
  kk := strs_keep k (fun b hb => .inr (.inr (.inr (.inr (.inr (.inr hb)))))) h.kk
  dy := k.at h.dy trivial (.inr (.inr (.inr (.inl rfl))))
  wo := k.at h.wo trivial (.inr (.inr (.inr (.inr (.inl rfl)))))
  nm := k.at h.nm trivial (.inr (.inr (.inr (.inr (.inr (.inl rfl))))))
theorem FxAt.same (h : FxAt K H x) (s : Same H H') : FxAt K H' x := h.keep (Keep.of s)
theorem WdX.live (h : WdX K H wx es kd fc rw ka fo rs W) : Live (wdM wx kd fc rw ka W) H := by
  rintro b (rfl | rfl | rfl | rfl | ⟨e, he, rfl⟩)
  · exact ⟨_, h.hx, trivial⟩
  · exact ⟨_, h.hk, trivial⟩
  · exact ⟨_, h.hf, trivial⟩
  · exact ⟨_, h.hr, trivial⟩
  · obtain ⟨kvs, h1, _⟩ := h.kk e he
    exact ⟨_, h1, trivial⟩
theorem WdX.keep (h : WdX K H wx es kd fc rw ka fo rs W) (k : Keep (wdM wx kd fc rw ka W) H H') : WdX K H' wx es kd fc rw ka fo rs W where
  hx := k.at h.hx trivial (.inl rfl)
  ek := h.ek
  ef := h.ef
  er := h.er
  hk := k.at h.hk trivial (.inr (.inl rfl))
  kk := fun e he => (h.kk e he).keep (M := wdM wx kd fc rw ka W) (.inr (.inr (.inr (.inr ⟨e, he, rfl⟩)))) k
  ki := h.ki
  hf := k.at h.hf trivial (.inr (.inr (.inl rfl)))
  fi := fun e he => (h.fi e he).keep k
  hr := k.at h.hr trivial (.inr (.inr (.inr (.inl rfl))))
  ri := PySem.Paired.mono (fun _ _ => RwRef.keep k) h.ri
  xf := h.xf
  kx := h.kx
theorem WdX.same (h : WdX K H wx es kd fc rw ka fo rs W) (s : Same H H') : WdX K H' wx es kd fc rw ka fo rs W := h.keep (Keep.of s)
theorem wd_get (h : H wx = some (.dK es)) {z : Str} {v : V} (e : valV es (Sum.inr z) = some v) : DGet H wx (.str z) (some v) := .inl ⟨_, Sum.inr z, .inl h, rfl, e.symm⟩
end
end Kd

namespace Kd
open PySem PySem.Spec PyProof.Rows L2 LamX
theorem way5_at {j : Nat} (h : j < 5) : ∃ z, ([V.str "day", V.str "day", V.str "first", V.str "last", V.str "before"] : List V)[j]? = some (.str z) ∧ z ∈ wayL := by
  rcases j with _ | _ | _ | _ | _ | j
  · exact ⟨"day", rfl, by simp [wayL]⟩
  · exact ⟨"day", rfl, by simp [wayL]⟩
  · exact ⟨"first", rfl, by simp [wayL]⟩
  · exact ⟨"last", rfl, by simp [wayL]⟩
  · exact ⟨"before", rfl, by simp [wayL]⟩
  · omega
theorem nuB {i : Int} (h : i.natAbs ≤ 10 ^ 60) : Nu i := Nat.lt_of_le_of_lt h (by decide)
theorem PairedB {α β : Type} {F : α → β → Prop} {a : α} {b : β} : ∀ {l₁ : List α} {l₂ : List β}, Paired F l₁ l₂ → F a b → Paired F (l₁ ++ [a]) (l₂ ++ [b])
  | _, _, .nil, h => .cons h .nil
  | _, _, .cons x t, h => .cons x (PairedB t h)
theorem txB {l : List Str} (h : (l.all fun z => decide (z.length ≤ 14) && z.cps.toList.all fun c => decide (c < 128)) = true) : ∀ z ∈ l, Tx z := fun z hz => by
  have h1 := List.all_eq_true.mp h z hz
  rw [Bool.and_eq_true] at h1
  exact ⟨of_decide_eq_true h1.1, fun c hc => of_decide_eq_true (List.all_eq_true.mp h1.2 c hc)⟩
/-- a dimension as drawn -/
structure DimG (d : Str × List (Str × Str)) : Prop where
  l5 : d.2.length ≤ 5
  nd : (d.2.map (·.1)).Nodup
  an : ∀ a ∈ d.2, IsNm a.1 ∧ a.2 ∈ wayL
/-- a key of the ends that are put to keys -/
theorem ext_tx {z : Str} (h : Tx z) (l : z.length ≤ 12) {t : Str} (e : t = "x" ∨ t = "y") : Tx (cutS (z ++ "abcxyz01234") none (some 11) ++ t) := by
  have h11 : ("abcxyz01234" : Str).length = 11 := by decide +kernel
  have hc : ∀ c ∈ (z ++ ("abcxyz01234" : Str)).cps.toList, c < 128 := fun c hc => by
    have e : (z ++ ("abcxyz01234" : Str)).cps.toList = z.cps.toList ++ ("abcxyz01234" : Str).cps.toList := TL.tl_append _ _
    rw [e] at hc
    rcases List.mem_append.mp hc with q | q
    · exact h.ok c q
    · have h1 : ∀ c ∈ ("abcxyz01234" : Str).cps.toList, c < 128 := by decide +kernel
      exact h1 c q
  have hs : HT.sIx (z ++ ("abcxyz01234" : Str)).length (z ++ ("abcxyz01234" : Str)).length (some 11) = min 11 (z ++ ("abcxyz01234" : Str)).length := HT.sIx_nat (k := 11) ..
  have hcut : (cutS (z ++ "abcxyz01234") none (some 11)).cps.toList = (z ++ ("abcxyz01234" : Str)).cps.toList.take (min 11 (z ++ ("abcxyz01234" : Str)).length) := by
    unfold cutS
    rw [hs, HT.sIx_none]
    simp
  have hlen : (cutS (z ++ "abcxyz01234") none (some 11)).length ≤ 11 := by
    have e : (cutS (z ++ "abcxyz01234") none (some 11)).length = (cutS (z ++ "abcxyz01234") none (some 11)).cps.toList.length := by rw [Array.length_toList]; rfl
    rw [e, hcut, List.length_take]
    omega
  have e1 : (cutS (z ++ "abcxyz01234") none (some 11) ++ t).cps.toList = (cutS (z ++ "abcxyz01234") none (some 11)).cps.toList ++ t.cps.toList := TL.tl_append _ _
  have ht : t.length = 1 ∧ ∀ c ∈ t.cps.toList, c < 128 := by
    rcases e with rfl | rfl
    · exact ⟨by decide +kernel, by decide +kernel⟩
    · exact ⟨by decide +kernel, by decide +kernel⟩
  refine ⟨?_, fun c hc2 => ?_⟩
  · have e : ∀ s : Str, s.length = s.cps.toList.length := fun s => by rw [Array.length_toList]; rfl
    rw [e, e1, List.length_append, ← e, ← e]
    omega
  · rw [e1] at hc2
    rcases List.mem_append.mp hc2 with q | q
    · rw [hcut] at q
      exact hc c (List.mem_of_mem_take q)
    · exact ht.2 c q
/-- an object made on the way -/
structure ExA (H R : Hp) (a g wx b : Addr) (o : HO) : Prop where
  e : R b = some o
  na : b ≠ a
  ng : b ≠ g
  h : H b = none
  nw : b ≠ wx
theorem none_back {H R : Hp} {a g b : Addr} (s : Same (ct a g H) (ct a g R)) (e : R b = none) (na : b ≠ a) (ng : b ≠ g) : H b = none := by
  cases c : H b with
  | none => rfl
  | some o =>
    have := ctkeepG s c na ng
    rw [e] at this
    cases this
theorem ExA.draw {H R R' : Hp} {a g wx b : Addr} {o : HO} (z : ExA H R a g wx b o) (s : Same (ct a g R) (ct a g R')) : ExA H R' a g wx b o := ⟨ctkeepG s z.e z.na z.ng, z.na, z.ng, z.h, z.nw⟩
theorem ExA.same {H R R' : Hp} {a g wx b : Addr} {o : HO} (z : ExA H R a g wx b o) (s : Same R R') : ExA H R' a g wx b o := ⟨s _ _ z.e, z.na, z.ng, z.h, z.nw⟩
theorem ExA.put {H R : Hp} {a g wx b : Addr} {o u : HO} (z : ExA H R a g wx b o) : ExA H (upd R wx u) a g wx b o := ⟨by rw [upd_ne z.nw]; exact z.e, z.na, z.ng, z.h, z.nw⟩
theorem ExA.ne {H R : Hp} {a g wx b c : Addr} {o : HO} (z : ExA H R a g wx b o) (e : R c = none) : b ≠ c := ne_of_none z.e e
def wes0 (D L3 kd fc rw : Addr) : WEs := [(Sum.inr "dims", .ref D), (Sum.inr "sums", .ref L3), (Sum.inr "kinds", .ref kd), (Sum.inr "facts", .ref fc), (Sum.inr "rows", .ref rw)]
structure WLk (es : WEs) (D L3 kd fc rw : Addr) : Prop where
  d : valV es (Sum.inr "dims") = some (.ref D)
  s : valV es (Sum.inr "sums") = some (.ref L3)
  k : valV es (Sum.inr "kinds") = some (.ref kd)
  f : valV es (Sum.inr "facts") = some (.ref fc)
  r : valV es (Sum.inr "rows") = some (.ref rw)
theorem val_ne {es : WEs} {z y : Str} {v : V} (h : y ≠ z) : valV (putK es (Sum.inr z) v) (Sum.inr y) = valV es (Sum.inr y) := by
  rw [valV_put, if_neg (fun q => h (Sum.inr.inj q))]
theorem val_eq {es : WEs} {z : Str} {v : V} : valV (putK es (Sum.inr z) v) (Sum.inr z) = some v := by
  rw [valV_put, if_pos rfl]
theorem WLk.put {es : WEs} {D L3 kd fc rw : Addr} {z : Str} {v : V} (h : WLk es D L3 kd fc rw) (n : ("dims" : Str) ≠ z ∧ ("sums" : Str) ≠ z ∧ ("kinds" : Str) ≠ z ∧ ("facts" : Str) ≠ z ∧ ("rows" : Str) ≠ z) : WLk (putK es (Sum.inr z) v) D L3 kd fc rw :=
  ⟨by rw [val_ne n.1]; exact h.d, by rw [val_ne n.2.1]; exact h.s, by rw [val_ne n.2.2.1]; exact h.k, by rw [val_ne n.2.2.2.1]; exact h.f, by rw [val_ne n.2.2.2.2]; exact h.r⟩
structure WSt (K : PySem.W.Frag) (H R : Hp) (a g : Addr) (m : Nat) (D L3 wx kd fc rw : Addr) (xs : List V) (ds : Dims) (zs3 : List Str) (es : WEs) : Prop where
  b : Bag R a g m
  s : Same (ct a g H) (ct a g R)
  d : ExA H R a g wx D (.lst xs)
  p : Paired (DimAt K R) xs ds
  l : ExA H R a g wx L3 (.lst (zs3.map V.str))
  k : ExA H R a g wx kd (.dT [])
  f : ExA H R a g wx fc (.dK [])
  r : ExA H R a g wx rw (.lst [])
  w : R wx = some (.dK es)
  wa : wx ≠ a
  wg : wx ≠ g
  hw : H wx = none
section
variable {K : PySem.W.Frag} {H R R' : Hp} {a g : Addr} {m m' : Nat} {D L3 wx kd fc rw : Addr} {xs : List V} {ds : Dims} {zs3 : List Str} {es es' : WEs}
theorem WSt.draw (z : WSt K H R a g m D L3 wx kd fc rw xs ds zs3 es) (B : Bag R' a g m') (s : Same (ct a g R) (ct a g R')) : WSt K H R' a g m' D L3 wx kd fc rw xs ds zs3 es :=
  ⟨B, z.s.trans s, z.d.draw s, PySem.Paired.mono (fun _ _ q => dim_keep (z.b.two.keep0 s) q) z.p, z.l.draw s, z.k.draw s, z.f.draw s, z.r.draw s, ctkeepG s z.w z.wa z.wg, z.wa, z.wg, z.hw⟩
theorem WSt.same (z : WSt K H R a g m D L3 wx kd fc rw xs ds zs3 es) (s : Same R R') : WSt K H R' a g m D L3 wx kd fc rw xs ds zs3 es :=
  ⟨z.b.same s, z.s.trans (ct_same s), z.d.same s, PySem.Paired.mono (fun _ _ q => DimAt.same s q) z.p, z.l.same s, z.k.same s, z.f.same s, z.r.same s, s _ _ z.w, z.wa, z.wg, z.hw⟩
theorem WSt.mono (z : WSt K H R a g m D L3 wx kd fc rw xs ds zs3 es) (h : m ≤ m') : WSt K H R a g m' D L3 wx kd fc rw xs ds zs3 es :=
  ⟨z.b.mono h, z.s, z.d, z.p, z.l, z.k, z.f, z.r, z.w, z.wa, z.wg, z.hw⟩
theorem WSt.put (z : WSt K H R a g m D L3 wx kd fc rw xs ds zs3 es) : WSt K H (upd R wx (.dK es')) a g m D L3 wx kd fc rw xs ds zs3 es' :=
  ⟨z.b.updo z.wa z.wg, ctupd5 z.s z.hw, z.d.put, PySem.Paired.mono (fun _ _ q => dim_keep ((Fr.put (T := []) (N := fun b => b = wx) z.w trivial rfl).keep0) q) z.p, z.l.put, z.k.put, z.f.put, z.r.put, upd_same, z.wa, z.wg, z.hw⟩
theorem WSt.new (z : WSt K H R a g m D L3 wx kd fc rw xs ds zs3 es) {b : Addr} {o : HO} (e : R b = none) : ExA H (upd R b o) a g wx b o :=
  ⟨upd_same, (z.b.na e).1, (z.b.na e).2, none_back z.s e (z.b.na e).1 (z.b.na e).2, (ne_of_none z.w e).symm⟩
theorem WSt.cd (z : WSt K H R a g m D L3 wx kd fc rw xs ds zs3 es) {b : Addr} (hb : H b = none) (na : b ≠ a) (ng : b ≠ g) (n : D ≠ b ∧ L3 ≠ b ∧ kd ≠ b ∧ fc ≠ b ∧ rw ≠ b ∧ wx ≠ b) (L : List V) (e : R b = some (.lst L)) : WSt K H (cd b R) a g m D L3 wx kd fc rw xs ds zs3 es :=
  ⟨z.b.cd na ng, fun c o q => by
      obtain ⟨c1, c2⟩ := ct_ne q
      exact ct_of (cd_of (ct_sub _ _ (z.s c o q)) (ne_of_none (ct_sub _ _ q) hb)) c1 c2,
    ⟨cd_of z.d.e n.1, z.d.na, z.d.ng, z.d.h, z.d.nw⟩, PySem.Paired.mono (fun _ _ q => dim_keep (M := no) (fun c o e1 t q => cd_of e1 (fun w => by
      rw [w, e] at e1
      cases e1
      exact q.elim (Chg.notT (o := .lst L) trivial) id)) q) z.p,
    ⟨cd_of z.l.e n.2.1, z.l.na, z.l.ng, z.l.h, z.l.nw⟩, ⟨cd_of z.k.e n.2.2.1, z.k.na, z.k.ng, z.k.h, z.k.nw⟩, ⟨cd_of z.f.e n.2.2.2.1, z.f.na, z.f.ng, z.f.h, z.f.nw⟩, ⟨cd_of z.r.e n.2.2.2.2.1, z.r.na, z.r.ng, z.r.h, z.r.nw⟩, cd_of z.w n.2.2.2.2.2, z.wa, z.wg, z.hw⟩
end
/-- the world under way -/
structure WT (K : PySem.W.Frag) (H R : Hp) (a g : Addr) (m : Nat) (D L3 wx kd fc rw : Addr) (xs : List V) (ds : Dims) (zs3 : List Str) (es : WEs) (KY : Addr) (kl : List Addr) (kys : List (List Str)) : Prop where
  z : WSt K H R a g m D L3 wx kd fc rw xs ds zs3 es
  lk : WLk es D L3 kd fc rw
  x : ExA H R a g wx KY (.lst (kl.map V.ref))
  p : Paired (fun q zs => ExA H R a g wx q (.lst (zs.map V.str))) kl kys
  e : valV es (Sum.inr "keys") = some (.ref KY)
section
variable {K : PySem.W.Frag} {H R R' : Hp} {a g : Addr} {m m' : Nat} {D L3 wx kd fc rw KY : Addr} {xs : List V} {ds : Dims} {zs3 : List Str} {es es' : WEs} {kl : List Addr} {kys : List (List Str)}
theorem WT.draw (t : WT K H R a g m D L3 wx kd fc rw xs ds zs3 es KY kl kys) (B : Bag R' a g m') (s : Same (ct a g R) (ct a g R')) : WT K H R' a g m' D L3 wx kd fc rw xs ds zs3 es KY kl kys := ⟨t.z.draw B s, t.lk, t.x.draw s, PySem.Paired.mono (fun _ _ q => q.draw s) t.p, t.e⟩
theorem WT.same (t : WT K H R a g m D L3 wx kd fc rw xs ds zs3 es KY kl kys) (s : Same R R') : WT K H R' a g m D L3 wx kd fc rw xs ds zs3 es KY kl kys := ⟨t.z.same s, t.lk, t.x.same s, PySem.Paired.mono (fun _ _ q => q.same s) t.p, t.e⟩
theorem WT.mono (t : WT K H R a g m D L3 wx kd fc rw xs ds zs3 es KY kl kys) (h : m ≤ m') : WT K H R a g m' D L3 wx kd fc rw xs ds zs3 es KY kl kys := ⟨t.z.mono h, t.lk, t.x, t.p, t.e⟩
theorem WT.put (t : WT K H R a g m D L3 wx kd fc rw xs ds zs3 es KY kl kys) {z : Str} {v : V} (n : ("dims" : Str) ≠ z ∧ ("sums" : Str) ≠ z ∧ ("kinds" : Str) ≠ z ∧ ("facts" : Str) ≠ z ∧ ("rows" : Str) ≠ z) (n2 : ("keys" : Str) ≠ z) :
    WT K H (upd R wx (.dK (putK es (Sum.inr z) v))) a g m D L3 wx kd fc rw xs ds zs3 (putK es (Sum.inr z) v) KY kl kys := ⟨t.z.put, t.lk.put n, t.x.put, PySem.Paired.mono (fun _ _ q => q.put) t.p, by rw [val_ne n2]; exact t.e⟩
theorem notin_kl {kl : List Addr} {kys : List (List Str)} {b : Addr} (p : Paired (fun q zs => ExA H R a g wx q (.lst (zs.map V.str))) kl kys) (e : R b = none) : b ∉ kl := fun hm => by
  obtain ⟨ix, hix, ex⟩ := List.mem_iff_getElem.mp hm
  obtain ⟨zs', _, exx⟩ := paired_at p (List.getElem?_eq_getElem hix)
  rw [ex] at exx
  exact (exx.ne e) rfl
theorem WSt.upq (z : WSt K H R a g m D L3 wx kd fc rw xs ds zs3 es) {q : Addr} {L0 L1 : List V} (x : ExA H R a g wx q (.lst L0)) (n : q ≠ D ∧ q ≠ L3 ∧ q ≠ rw) : WSt K H (upd R q (.lst L1)) a g m D L3 wx kd fc rw xs ds zs3 es := by
  have nk : kd ≠ q := ne_of z.k.e x.e (fun w => nomatch w)
  have nf : fc ≠ q := ne_of z.f.e x.e (fun w => nomatch w)
  exact ⟨z.b.updo x.na x.ng, ctupd5 z.s x.h, ⟨by rw [upd_ne n.1.symm]; exact z.d.e, z.d.na, z.d.ng, z.d.h, z.d.nw⟩, PySem.Paired.mono (fun _ _ q => dim_keep ((Fr.put (T := []) (N := fun b => b = _) x.e trivial rfl).keep0) q) z.p,
    ⟨by rw [upd_ne n.2.1.symm]; exact z.l.e, z.l.na, z.l.ng, z.l.h, z.l.nw⟩, ⟨by rw [upd_ne nk]; exact z.k.e, z.k.na, z.k.ng, z.k.h, z.k.nw⟩, ⟨by rw [upd_ne nf]; exact z.f.e, z.f.na, z.f.ng, z.f.h, z.f.nw⟩, ⟨by rw [upd_ne n.2.2.symm]; exact z.r.e, z.r.na, z.r.ng, z.r.h, z.r.nw⟩, by rw [upd_ne x.nw.symm]; exact z.w, z.wa, z.wg, z.hw⟩
theorem ExA.upq {wx b q : Addr} {o u : HO} (x : ExA H R a g wx b o) (n : b ≠ q) : ExA H (upd R q u) a g wx b o := ⟨by rw [upd_ne n]; exact x.e, x.na, x.ng, x.h, x.nw⟩
theorem pk_ext {q : Addr} {zs' : List Str} (o : ∀ b, b ≠ q → R' b = R b) (e : R' q = some (.lst (zs'.map V.str))) : ∀ {kl : List Addr} {kys : List (List Str)} {j : Nat}, Paired (fun q zs => ExA H R a g wx q (.lst (zs.map V.str))) kl kys → kl.Nodup → kl[j]? = some q → Paired (fun q zs => ExA H R' a g wx q (.lst (zs.map V.str))) kl (kys.set j zs')
  | _, _, _, .nil, _, h => by simp at h
  | b :: bs, z :: zs, 0, .cons h t, nd, hj => by
    have hj : b = q := Option.some.inj hj
    rw [List.nodup_cons] at nd
    refine .cons ⟨by rw [hj]; exact e, h.na, h.ng, h.h, h.nw⟩ ?_
    have : ∀ {l : List Addr} {zl : List (List Str)}, Paired (fun q zs => ExA H R a g wx q (.lst (zs.map V.str))) l zl → q ∉ l → Paired (fun q zs => ExA H R' a g wx q (.lst (zs.map V.str))) l zl := by
      intro l zl p
      induction p with
      | nil => intro _; exact .nil
      | cons h t ih =>
        intro n
        rw [List.mem_cons, not_or] at n
        exact .cons ⟨by rw [o _ (fun w => n.1 w.symm)]; exact h.e, h.na, h.ng, h.h, h.nw⟩ (ih n.2)
    exact this t (hj ▸ nd.1)
  | b :: bs, z :: zs, j + 1, .cons h t, nd, hj => by
    rw [List.nodup_cons] at nd
    have hj : bs[j]? = some q := hj
    have nb : b ≠ q := fun w => nd.1 (w ▸ List.mem_of_getElem? hj)
    exact .cons ⟨by rw [o _ nb]; exact h.e, h.na, h.ng, h.h, h.nw⟩ (pk_ext o e t nd.2 hj)
end
section
variable {P : Program} {w : World} {K : PySem.W.Frag} {mg : Str → Option Value} {base : Heap} {f : Addr} {fd : FuncData}
/-! ### _law_world -/
def spWorld5 (K : PySem.W.Frag) : Sp := fun vs H Q _ => ∃ (a g : Addr) (n : Nat) (wide : Nat), vs = [.ref a, .int wide] ∧ Bag H a g n ∧ n ≤ 9000000 ∧ wide ≤ 1 ∧
  ∀ (wx : Addr) (es : WEs) (kd fc rw : Addr) (x : Fx) (H' : Hp), Bag H' a g (n + 2000) → Same (ct a g H) (ct a g H') → FxAt K H' x → FxOk x → WdX K H' wx es kd fc rw (fun _ => wx) (fun _ => wx) [] Wm.none → WsE es x → WfE es x →
    (∀ b, fxM x b ∨ b = wx ∨ b = kd ∨ b = fc ∨ b = rw → H b = none) → (∀ b, fxM x b → ¬ (b = wx ∨ b = kd ∨ b = fc ∨ b = rw)) → Q (.ref wx) H'
abbrev N_l_world : List Str := ["bag", "wide", "dims", "ways", "title", "some", "one", "sums", "world", "dim", "k", "far", "sign"]
theorem sc_l_world : FnScope N_l_world ["bag", "wide"] (defScope s_l_world) := ⟨rfl, rfl, rfl, by decide +kernel, rfl, by decide +kernel, by decide +kernel⟩
/-! slots: 0 bag 1 wide 2 dims 3 ways 4 title 5 some 6 one 7 sums 8 world 9 dim 10 k 11 far 12 sign; cells: bag title ways wide -/
set_option maxHeartbeats 0 in
theorem ok_world {f1 f2 f3 : Addr} {d1 d2 d3 : FuncData} (F : FnP K "_law_world" "_law_world" s_l_world f fd) (c_draw : Fun P w K mg base "_law_draw" 1 ["bag", "many"] spDraw5 f1 d1) (c_names : Fun P w K mg base "_law_names" 2 ["bag", "many"] (spNames5 K) f2 d2) (c_text : Fun P w K mg base "_law_text" 2 ["bag"] spText5 f3 d3) (z_range : mg "range" = none) (z_tuple : mg "tuple" = none) : FnOk P w K mg base CX0 3 f fd ["bag", "wide"] (spWorld5 K) := by
  refine F.ok sc_l_world (fun vs H Q E h => ?_) (fun cdv A outer s H vs Q E hr h => ?_)
  · obtain ⟨a, g, n, wide, rfl, _⟩ := h
    rfl
  · obtain ⟨a, g, n, wide, rfl, hT, hn, hw1, k⟩ := h
    have nd := sc_l_world.nd
    refine ⟨_, PSs.nox (pss_cons (ps_set (i := 2) nd rfl (Or.inl rfl) (pe_lst pa_nil))
      (pss_cons (ps_set (i := 3) nd rfl (Or.inr rfl) (pe_lst (pa_cons pe_str (pa_cons pe_str (pa_cons pe_str (pa_cons pe_str (pa_cons pe_str pa_nil)))))))
      (pss_cons (ps_for PassesOwn.never rfl (pi_list (pe_call c_names.G (hr.mono (by decide)) rfl c_names.g c_names.k c_names.b .nil pass0 (pa_cons (pv 0) (pa_cons (pe_op op_add pe_int (pe_call c_draw.G (hr.mono (by decide)) rfl c_draw.g c_draw.k c_draw.b .nil pass0 (pa_cons (pv 0) (pa_cons (pe_op op_add pe_int (pv 1)) pa_nil)))) pa_nil)))) (pg_name (i := 4) nd rfl (Or.inr rfl))
        (pss_cons (ps_set (i := 5) nd rfl (Or.inl rfl) (pe_call c_names.G (hr.mono (by decide)) rfl c_names.g c_names.k c_names.b .nil pass0 (pa_cons (pv 0) (pa_cons (pe_call c_draw.G (hr.mono (by decide)) rfl c_draw.g c_draw.k c_draw.b .nil pass0 (pa_cons (pv 0) (pa_cons (pe_op op_add pe_int (pe_op op_mul pe_int (pv 1))) pa_nil))) pa_nil))))
        (pss_one (ps_expr (pe_bm PySem.F.plainAttrs_list PySem.F.slot_list_append PySem.F.type_list_append mt_append (pv 2) (pa_cons (pe_tup (pa_cons (pv 4) (pa_cons (pe_callTy call_tuple_of (by rfl) z_tuple (by decide +kernel) (pa_cons (pe_lc (own := [("one", 6)]) (g := gName 6) (tt := tYes) (te := tTup (tCons (tVar 6) (tCons (tOp (rIxL K) (tVar 3) (tCall spDraw5 [] E0 (tCons (tVar 0) (tCons (tC (.int 5)) tNil)))) tNil))) rfl nd (pi_list (pv 5)) (blkOk_by (own := [("one", 6)]) (N := N_l_world) (sc := defScope s_l_world) (by decide +kernel))
        (fun _ _ _ _ _ => pg_name (i := 6) nd rfl (Or.inl rfl)) (fun _ _ _ _ _ => pts_nil) (fun _ _ _ _ _ => pe_tup (pa_cons (pv 6) (pa_cons (pe_ix ix_list (pv 3) (pe_call c_draw.G (hr.mono (by decide)) rfl c_draw.g c_draw.k c_draw.b .nil pass0 (pa_cons (pv 0) (pa_cons pe_int pa_nil))) (fun _ _ => rfl)) pa_nil)))) pa_nil)) pa_nil))) pa_nil))))))
      (pss_cons (ps_set (i := 7) nd rfl (Or.inl rfl) (pe_call c_names.G (hr.mono (by decide)) rfl c_names.g c_names.k c_names.b .nil pass0 (pa_cons (pv 0) (pa_cons (pe_call c_draw.G (hr.mono (by decide)) rfl c_draw.g c_draw.k c_draw.b .nil pass0 (pa_cons (pv 0) (pa_cons (pe_op op_add pe_int (pe_op op_mul pe_int (pv 1))) pa_nil))) pa_nil))))
      (pss_cons (ps_set (i := 8) nd rfl (Or.inl rfl) (pe_disp (pps_cons pe_str (pv 2) (pps_cons pe_str (pv 7) (pps_cons pe_str pe_dnewT (pps_cons pe_str pe_dnewK (pps_cons pe_str (pe_lst pa_nil) pps_nil))))) rfl rfl (by simp) (by decide)))
      (pss_cons (ps_dput (hu_of hr) (pv 8) pe_str (pe_lc (own := [("dim", 9)]) (g := gName 9) (tt := tYes) (te := tLc (iRng1 (tCons (tOp (rI0 fun i j => .int (i + j)) (tC (.int 1)) (tCall spDraw5 [] E0 (tCons (tVar 0) (tCons (tOp (rI0 fun i j => .int (i + j)) (tC (.int 3)) (tOp (rI CMul fun i j => .int (i * j)) (tC (.int 3)) (tVar 1))) tNil)))) tNil)) (gName 10) tYes (tCall spText5 [] E0 (tCons (tVar 0) tNil)) [10]) rfl nd (pi_list (pv 2)) (blkOk_by (own := [("dim", 9)]) (N := N_l_world) (sc := defScope s_l_world) (by decide +kernel))
        (fun _ _ _ _ _ => pg_name (i := 9) nd rfl (Or.inl rfl)) (fun _ _ _ _ _ => pts_nil) (fun _ _ _ _ _ => pe_lc (own := [("k", 10)]) (g := gName 10) (tt := tYes) (te := tCall spText5 [] E0 (tCons (tVar 0) tNil)) rfl nd (pi_range1 rfl z_range (pa_cons (pe_op op_add pe_int (pe_call c_draw.G (hr.mono (by decide)) rfl c_draw.g c_draw.k c_draw.b .nil pass0 (pa_cons (pv 0) (pa_cons (pe_op op_add pe_int (pe_op op_mul pe_int (pv 1))) pa_nil)))) pa_nil)) (blkOk_by (own := [("k", 10)]) (N := N_l_world) (sc := ({ kind := .function, names := [(".0", .local), ("dim", .local), ("range", .globalImplicit), ("_law_draw", .globalImplicit), ("bag", .cell), ("wide", .cell)], isGenerator := false, isCoroutine := false } : Scope)) (by decide +kernel))
        (fun _ _ _ _ _ => pg_name (i := 10) nd rfl (Or.inl rfl)) (fun _ _ _ _ _ => pts_nil) (fun _ _ _ _ _ => pe_call c_text.G (hr.mono (by decide)) rfl c_text.g c_text.k c_text.b .nil pass0 (pa_cons (pv 0) pa_nil)))) rfl)
      (pss_cons (ps_set (i := 11) nd rfl (Or.inl rfl) (pe_ix ix_list (pe_lst (pa_cons (pe_op op_pow pe_int pe_int) (pa_cons (pe_op op_pow pe_int pe_int) pa_nil))) (pe_call c_draw.G (hr.mono (by decide)) rfl c_draw.g c_draw.k c_draw.b .nil pass0 (pa_cons (pv 0) (pa_cons pe_int pa_nil))) (fun _ _ => rfl)))
      (pss_cons (ps_dput (hu_of hr) (pv 8) pe_str (pe_lst (pa_cons pe_int (pa_cons pe_int (pa_cons pe_int (pa_cons pe_int (pa_cons (pe_un un_neg pe_int) (pa_cons (pe_ix ix_list (pe_lst (pa_cons (pv 11) (pa_cons pe_int (pa_cons pe_int pa_nil)))) (pe_call c_draw.G (hr.mono (by decide)) rfl c_draw.g c_draw.k c_draw.b .nil pass0 (pa_cons (pv 0) (pa_cons pe_int pa_nil))) (fun _ _ => rfl)) (pa_cons (pe_ix ix_list (pe_lst (pa_cons (pe_op op_sub pe_int (pv 11)) (pa_cons (pe_un un_neg pe_int) (pa_cons pe_int pa_nil)))) (pe_call c_draw.G (hr.mono (by decide)) rfl c_draw.g c_draw.k c_draw.b .nil pass0 (pa_cons (pv 0) (pa_cons pe_int pa_nil))) (fun _ _ => rfl)) pa_nil)))))))) rfl)
      (pss_cons (ps_dput (hu_of hr) (pv 8) pe_str (pe_lst (pa_cons pe_str (pa_cons pe_str (pa_cons pe_int (pa_cons pe_str (pa_cons (pe_ix ix_list (pe_lst (pa_cons (pe_call c_text.G (hr.mono (by decide)) rfl c_text.g c_text.k c_text.b .nil pass0 (pa_cons (pv 0) pa_nil)) (pa_cons (pv 11) (pa_cons (pe_un un_neg pe_int) pa_nil)))) (pe_call c_draw.G (hr.mono (by decide)) rfl c_draw.g c_draw.k c_draw.b .nil pass0 (pa_cons (pv 0) (pa_cons pe_int pa_nil))) (fun _ _ => rfl)) pa_nil)))))) rfl)
      (pss_cons (ps_if (pt_cmpR op_eq (pe_call c_draw.G (hr.mono (by decide)) rfl c_draw.g c_draw.k c_draw.b .nil pass0 (pa_cons (pv 0) (pa_cons pe_int pa_nil))) pe_int (nomark _))
        (pss_one (ps_dput (hu_of hr) (pv 8) pe_str (pe_lst (pa_cons pe_str (pa_cons pe_str (pa_cons pe_str (pa_cons (pe_op op_pow pe_int pe_int) (pa_cons (pe_op op_add (pe_op op_pow pe_int pe_int) pe_int) pa_nil)))))) rfl))
        pss_nil)
      (pss_cons (ps_dput (hu_of hr) (pv 8) pe_str (pe_lc (own := [("k", 10)]) (g := gName 10) (tt := tYes) (te := tCall spText5 [] E0 (tCons (tVar 0) tNil)) rfl nd (pi_range1 rfl z_range (pa_cons (pe_ix ix_list (pe_lst (pa_cons pe_int (pa_cons pe_int pa_nil))) (pv 1) (fun _ _ => rfl)) pa_nil)) (blkOk_by (own := [("k", 10)]) (N := N_l_world) (sc := defScope s_l_world) (by decide +kernel))
        (fun _ _ _ _ _ => pg_name (i := 10) nd rfl (Or.inl rfl)) (fun _ _ _ _ _ => pts_nil) (fun _ _ _ _ _ => pe_call c_text.G (hr.mono (by decide)) rfl c_text.g c_text.k c_text.b .nil pass0 (pa_cons (pv 0) pa_nil))) rfl)
      (pss_cons (ps_if (pt_cmpR op_eq (pe_call c_draw.G (hr.mono (by decide)) rfl c_draw.g c_draw.k c_draw.b .nil pass0 (pa_cons (pv 0) (pa_cons pe_int pa_nil))) pe_int (nomark _))
        (pss_one (ps_for PassesOwn.never rfl (pi_list (pe_op op_cat (pe_dget (hu_of hr) (pv 8) pe_str (fun _ _ => rfl)) (pe_lst (pa_cons (pe_dget (hu_of hr) (pv 8) pe_str (fun _ _ => rfl)) pa_nil)))) (pg_name (i := 5) nd rfl (Or.inl rfl))
          (pss_cons (ps_set (i := 4) nd rfl (Or.inr rfl) (pe_slice sl_str (pe_op op_add_str (pe_call c_text.G (hr.mono (by decide)) rfl c_text.g c_text.k c_text.b .nil pass0 (pa_cons (pv 0) pa_nil)) pe_str) po_none (po_some pe_int)))
          (pss_one (ps_expr (pe_bm PySem.F.plainAttrs_list PySem.F.slot_list_extend PySem.F.type_list_extend mt_extend (pv 5) (pa_cons (pe_lc (own := [("sign", 12)]) (g := gName 12) (tt := tYes) rfl nd (pi_str pe_str) (blkOk_by (own := [("sign", 12)]) (N := N_l_world) (sc := defScope s_l_world) (by decide +kernel))
        (fun _ _ _ _ _ => pg_name (i := 12) nd rfl (Or.inl rfl)) (fun _ _ _ _ _ => pts_nil) (fun _ _ _ _ _ => pe_op op_add_str (pv 4) (pv 12))) pa_nil)))))))
        pss_nil)
      (pss_one (ps_ret (pv 8))))))))))))))), ?_⟩
    -- the lists of dimensions and ways
    refine ⟨by show 0 ≤ sizeLine; decide, fun D nD => ?_⟩
    generalize e1 : upd H D _ = H1
    obtain ⟨s1, eD⟩ := new_of nD e1
    refine set_sl (σ' := [some (.ref a), some (.int wide), some (.ref D), none, none, none, none, none, none, none, none, none, none]) rfl ?_
    refine ⟨by show 5 ≤ sizeLine; decide, fun W nW => ?_⟩
    generalize e2 : upd H1 W _ = H2
    obtain ⟨s2, eW⟩ := new_of nW e2
    refine set_sl (σ' := [some (.ref a), some (.int wide), some (.ref D), some (.ref W), none, none, none, none, none, none, none, none, none]) rfl ?_
    obtain ⟨Da, Dg⟩ := hT.na nD
    have hT1 := hT.same s1
    obtain ⟨Wa, Wg⟩ := hT1.na nW
    have hT2 := hT1.same s2
    have s02 := s1.trans s2
    refine ⟨_, rfl, _, rfl, _, rfl, _, _, rfl, rfl, a, g, n, 3 + (wide : Int), rfl, hT2, by omega, by omega, by omega, fun r3 H3 r30 r31 B3 s3 => ?_⟩
    obtain ⟨j3, rfl⟩ := natB r30
    refine ⟨_, _, rfl, rfl, a, g, n + 1, 1 + j3, by rw [show ((1 + j3 : Nat) : Int) = 1 + (j3 : Int) by omega]; rfl, B3, by omega, by omega, fun L1 zs1 H4 nL1 eL1 lz1 nz1 oz1 B4 s4 => ?_⟩
    have s24 := s3.trans s4
    have eD4 : H4 D = some (.lst []) := ctkeepG s24 (s2 _ _ eD) Da Dg
    have eW4 := ctkeepG s24 eW Wa Wg
    obtain ⟨La, Lg⟩ := B3.na nL1
    have DW : D ≠ W := ne_of_none eD nW
    have DL : D ≠ L1 := ne_of_none (ctkeepG s3 (s2 _ _ eD) Da Dg) nL1
    have s04 : Same (ct a g H) (ct a g H4) := (ct_same s02).trans s24
    refine ⟨L1, rfl, ⟨_, SqL.of eL1⟩, ?_⟩
    refine for_list (K := K) (a := L1) (xs := zs1.map V.str) (fun i σ R => ∃ (xs : List V) (ds : Dims) (y4 y5 y6 : Option V), σ = [some (.ref a), some (.int wide), some (.ref D), some (.ref W), y4, y5, y6, none, none, none, none, none, none] ∧ R D = some (.lst xs) ∧ Paired (DimAt K R) xs ds ∧ ds.map (·.1) = zs1.take i ∧ (∀ d ∈ ds, DimG d) ∧ R W = some (.lst [V.str "day", V.str "day", V.str "first", V.str "last", V.str "before"]) ∧ R L1 = some (.lst (zs1.map V.str)) ∧ Bag R a g (n + 60 + 60 * i) ∧ Same (ct a g H) (ct a g R))
      ⟨[], [], _, _, _, rfl, eD4, .nil, rfl, fun _ h => (nomatch h), eW4, eL1, B4.mono (by omega), s04⟩ (fun _ _ _ _ ⟨_, _, _, _, _, _, _, _, _, _, _, z, _⟩ => SqL.of z) ?_ ?_
    · rintro i y σ R hy ⟨xs, ds, y4, y5, y6, rfl, eDR, pds, dn, dg, eWR, eLR, BR, sR⟩
      obtain ⟨z, rfl, hz⟩ := strs_at hy
      have hi : i < zs1.length := (List.getElem?_eq_some_iff.mp hz).1
      refine set_sl (σ' := [some (.ref a), some (.int wide), some (.ref D), some (.ref W), some (.str z), y5, y6, none, none, none, none, none, none]) rfl ?_
      refine ⟨_, rfl, _, rfl, _, rfl, _, _, rfl, rfl, .inl ⟨by decide, by decide⟩, _, _, rfl, rfl, a, g, _, _, rfl, BR, by omega, by omega, by omega, fun r4 R1 r40 r41 B5 s5 => ?_⟩
      obtain ⟨j4, rfl⟩ := natB r40
      refine ⟨a, g, _, j4, rfl, B5, by omega, by omega, fun L2' zs2 R2 nL2 eL2 lz2 nz2 oz2 B6 s6 => ?_⟩
      refine set_sl (σ' := [some (.ref a), some (.int wide), some (.ref D), some (.ref W), some (.str z), some (.ref L2'), y6, none, none, none, none, none, none]) rfl ?_
      have sR2 := s5.trans s6
      have two := BR.two
      have k2 := two.keep0 sR2
      have eD2 := ctkeepG sR2 eDR Da Dg
      have eW2 := ctkeepG sR2 eWR Wa Wg
      have eLR2 := ctkeepG sR2 eLR La Lg
      obtain ⟨L2a, L2g⟩ := B5.na nL2
      refine ⟨_, rfl, .inl ⟨rfl, _, SqL.of eD2⟩, _, rfl, _, rfl, L2', rfl, ⟨_, SqL.of eL2⟩, fun C nC => ?_⟩
      obtain ⟨Ca, Cg⟩ := B6.na nC
      refine lc_build (walk_list (K := K) (a := L2') (xs := zs2.map V.str)) nC (fun j ys Rx => ∃ as : List (Str × Str), Paired (AttAt K Rx) ys as ∧ as.map (·.1) = zs2.take j ∧ (∀ q ∈ as, q.2 ∈ wayL) ∧ Bag Rx a g (n + 60 + 60 * i + 1 + 50 + j) ∧ Same (ct a g R2) (ct a g Rx)) ⟨[], .nil, rfl, fun _ h => (nomatch h), B6, Same.refl _⟩ (fun _ _ _ _ ⟨_, _, _, _, _, s7⟩ => SqL.of (cd_sub _ _ (ctkeepG s7 eL2 L2a L2g))) ?_ ?_
      · rintro j ys y2 Rx Rx' hj e ly ⟨as, pa, an, aw, Bx, sx⟩ ⟨rfl, hy2⟩
        obtain ⟨z2, rfl, hz2⟩ := strs_at hy2
        rw [List.length_map] at hj
        refine ⟨rfl, yes ?_⟩
        refine ⟨_, rfl, _, rfl, _, rfl, a, g, _, 5, rfl, Bx.same cd_sub, by omega, by decide, by decide, fun r5 R7 r50 r51 B7 s7 => ?_⟩
        obtain ⟨j5, rfl⟩ := natB r50
        obtain ⟨wz, hw, hwm⟩ := way5_at (j := j5) (by omega)
        have eW7 : R7 W = _ := ctkeepG s7 (cd_sub _ _ (ctkeepG sx eW2 Wa Wg)) Wa Wg
        refine ⟨W, _, _, _, rfl, rfl, SqL.of eW7, atI_nat hw, by show 2 ≤ sizeLine; decide, fun t nt => ?_⟩
        generalize e8 : upd R7 t _ = R8
        obtain ⟨s8, et⟩ := new_of nt e8
        have s78 := s7.trans (ct_same s8)
        have eC8 := s8 _ _ (ctkeepG s7 e Ca Cg)
        have tC : t ≠ C := ne_of et eC8 (fun z => nomatch z)
        have kx : Keep no (Kd.cd C Rx') (Kd.cd C R8) := by
          have twox : Two Rx' a g := (Bx.same cd_sub).two
          have k1 : Keep no Rx' R8 := (twox.keep0 s7).trans (Keep.of s8)
          intro b o eb tb c
          have nb : b ≠ C := (ct_ne eb).1
          exact cd_of (k1 b o (cd_sub _ _ eb) tb c) nb
        refine LcNx.add eC8 ly (by omega) ⟨as ++ [(z2, wz)], ?_, ?_, fun q hq => ?_, ((B7.same s8).cd Ca Cg).mono (by omega), ctcd5 nC sx s78⟩
        · refine PairedB (PySem.Paired.mono (fun _ _ ⟨r, q1, q2⟩ => ⟨r, q1, kx.seqT q2⟩) pa) ⟨t, rfl, SqT.of (cd_of et tC)⟩
        · obtain ⟨g1, g2⟩ := List.getElem?_eq_some_iff.mp hz2
          rw [List.map_append, an, List.take_succ_eq_append_getElem g1, g2]
          rfl
        · rcases List.mem_append.mp hq with q1 | q1
          · exact aw q q1
          · rw [List.mem_singleton.mp q1]; exact hwm
      · rintro ys R7 e7 ly ⟨as, pa, an, aw, B7, s7⟩
        rw [List.length_map, List.take_length] at an
        rw [List.length_map] at ly B7
        refine ⟨C, _, rfl, .inl ⟨SqL.of e7, fun q nq => ?_⟩⟩
        generalize e8 : upd R7 q _ = R8
        obtain ⟨s8, eq8⟩ := new_of nq e8
        refine ⟨by show 2 ≤ sizeLine; decide, fun t nt => ?_⟩
        generalize e9 : upd R8 t _ = R9
        obtain ⟨s9, et⟩ := new_of nt e9
        have s27 : Same (ct a g R2) (ct a g R7) := s7.trans (ct_same cd_sub)
        have s79 := s8.trans s9
        have k29 : Keep no R R9 := (k2.trans (B6.two.keep0 s27)).trans (Keep.of s79)
        have eD9 : R9 D = _ := s79 _ _ (ctkeepG s27 eD2 Da Dg)
        have lxs : xs.length = i := by
          have h1 := pds.length
          have h2 := congrArg List.length dn
          rw [List.length_map, List.length_take] at h2
          omega
        refine ⟨D, _, _, rfl, rfl, eD9, small1000 (by omega), ?_⟩
        have kD : Keep no R9 (upd R9 D (.lst (xs ++ [.ref t]))) := (Fr.put (T := []) (N := fun b => b = D) eD9 trivial rfl).keep0
        refine ⟨xs ++ [.ref t], ds ++ [(z, as)], _, _, _, rfl, upd_same, ?_, ?_, fun d hd => ?_, ?_, ?_, (((B7.same cd_sub).same s79).updo Da Dg).mono (by omega), ?_⟩
        · refine PairedB (PySem.Paired.mono (fun _ _ z => dim_keep (k29.trans kD) z) pds) ⟨t, q, rfl, kD.seqT (SqT.of et), ys, kD.seqT (SqT.of (s9 _ _ eq8)), ?_⟩
          have kk : Keep no (Kd.cd C R7) (upd R9 D (.lst (xs ++ [.ref t]))) := (Keep.of (M := no) (cd_sub.trans s79)).trans kD
          exact PySem.Paired.mono (fun _ _ ⟨r, q1, q2⟩ => ⟨r, q1, kk.seqT q2⟩) pa
        · obtain ⟨g1, g2⟩ := List.getElem?_eq_some_iff.mp hz
          rw [List.map_append, dn, List.take_succ_eq_append_getElem g1, g2]
          rfl
        · rcases List.mem_append.mp hd with q1 | q1
          · exact dg d q1
          · rw [List.mem_singleton.mp q1]
            have la : as.length = zs2.length := by
              have := congrArg List.length an
              rw [List.length_map] at this
              exact this
            exact ⟨by show as.length ≤ 5; omega, by show (as.map (·.1)).Nodup; rw [an]; exact nz2, fun b hb => ⟨oz2 _ (by rw [← an]; exact List.mem_map_of_mem hb), aw b hb⟩⟩
        · rw [upd_ne DW.symm]
          exact s79 _ _ (ctkeepG s27 eW2 Wa Wg)
        · rw [upd_ne DL.symm]
          exact s79 _ _ (ctkeepG s27 eLR2 La Lg)
        · refine ctupd5 ?_ nD
          exact ((sR.trans sR2).trans s27).trans (ct_same s79)
    · rintro σ R ⟨xs, ds, y4, y5, y6, rfl, eDR, pds, dn, dg, eWR, eLR, BR, sR⟩
      rw [List.length_map, List.take_length] at dn
      rw [List.length_map] at BR
      have lds : ds.length = zs1.length := by
        have := congrArg List.length dn
        rw [List.length_map] at this
        exact this
      -- sums
      refine ⟨_, rfl, _, rfl, _, rfl, _, _, rfl, rfl, .inl ⟨by decide, by decide⟩, _, _, rfl, rfl, a, g, _, _, rfl, BR, by omega, by omega, by omega, fun r5 R1 r50 r51 B5 s5 => ?_⟩
      obtain ⟨j5, rfl⟩ := natB r50
      refine ⟨a, g, _, j5, rfl, B5, by omega, by omega, fun L3 zs3 R2 nL3 eL3 lz3 nz3 oz3 B6 s6 => ?_⟩
      have s12 := s5.trans s6
      have eD2 := ctkeepG s12 eDR Da Dg
      have pds2 : Paired (DimAt K R2) xs ds := PySem.Paired.mono (fun _ _ z => dim_keep (BR.two.keep0 s12) z) pds
      have sR2 := sR.trans s12
      obtain ⟨L3a, L3g⟩ := B5.na nL3
      have D3 : D ≠ L3 := ne_of_none (ctkeepG s5 eDR Da Dg) nL3
      refine set_sl (σ' := [some (.ref a), some (.int wide), some (.ref D), some (.ref W), y4, y5, y6, some (.ref L3), none, none, none, none, none]) rfl ?_
      have lxs : xs.length = ds.length := pds.length
      have d1 : 1 ≤ ds.length := by omega
      have d4 : ds.length ≤ 4 := by omega
      have good : Good ds zs3 := ⟨d1, d4, fun d hd => by
        have : d.1 ∈ ds.map (·.1) := List.mem_map_of_mem hd
        rw [dn] at this
        exact oz1 _ this, by rw [dn]; exact nz1, fun d hd => (dg d hd).l5, fun d hd => (dg d hd).an, fun d hd => (dg d hd).nd, by omega, oz3, nz3⟩
      -- the world
      intro wx nwx
      generalize e3 : upd R2 wx _ = R3
      obtain ⟨s3w, ewx⟩ := new_of nwx e3
      refine ⟨_, rfl, _, rfl, fun kd nkd => ?_⟩
      generalize e4 : upd R3 kd _ = R4
      obtain ⟨s4w, ekd⟩ := new_of nkd e4
      intro fc nfc
      generalize e5 : upd R4 fc _ = R5
      obtain ⟨s5w, efc⟩ := new_of nfc e5
      refine ⟨by show 0 ≤ sizeLine; decide, fun rw nrw => ?_⟩
      generalize e6 : upd R5 rw _ = R6
      obtain ⟨s6w, erw⟩ := new_of nrw e6
      have s26 := ((s3w.trans s4w).trans s5w).trans s6w
      have L3rw : L3 ≠ rw := ne_of_none (((s3w.trans s4w).trans s5w) _ _ eL3) nrw
      have hD0 : H D = none := nD
      have z6 : WSt K H R6 a g (n + 60 + 60 * zs1.length + 1 + 50) D L3 wx kd fc rw xs ds zs3 [] := by
        have n1 := B6.na nwx
        have n2 := (B6.same s3w).na nkd
        have n3 := ((B6.same s3w).same s4w).na nfc
        have n4 := (((B6.same s3w).same s4w).same s5w).na nrw
        have w4 := s4w _ _ ewx
        have w5 := s5w _ _ w4
        exact ⟨B6.same s26, sR2.trans (ct_same s26), ⟨s26 _ _ eD2, Da, Dg, nD, ne_of_none eD2 nwx⟩, PySem.Paired.mono (fun _ _ q => DimAt.same s26 q) pds2,
          ⟨s26 _ _ eL3, L3a, L3g, none_back (sR.trans s5) nL3 L3a L3g, ne_of_none eL3 nwx⟩,
          ⟨s6w _ _ (s5w _ _ ekd), n2.1, n2.2, none_back (sR2.trans (ct_same s3w)) nkd n2.1 n2.2, (ne_of_none ewx nkd).symm⟩,
          ⟨s6w _ _ efc, n3.1, n3.2, none_back (sR2.trans (ct_same (s3w.trans s4w))) nfc n3.1 n3.2, (ne_of_none w4 nfc).symm⟩,
          ⟨erw, n4.1, n4.2, none_back (sR2.trans (ct_same ((s3w.trans s4w).trans s5w))) nrw n4.1 n4.2, (ne_of_none w5 nrw).symm⟩,
          s6w _ _ w5, n1.1, n1.2, none_back sR2 nwx n1.1 n1.2⟩
      refine ⟨z6.w, wes0 D L3 kd fc rw, rfl, by show 5 ≤ 15; decide, ?_⟩
      have em : mergeK [] (wes0 D L3 kd fc rw) = wes0 D L3 kd fc rw := by kernel_rfl
      rw [em]
      have lk0 : WLk (wes0 D L3 kd fc rw) D L3 kd fc rw := ⟨by kernel_rfl, by kernel_rfl, by kernel_rfl, by kernel_rfl, by kernel_rfl⟩
      have el0 : (wes0 D L3 kd fc rw).length ≤ 5 := Nat.le_refl 5
      generalize (wes0 D L3 kd fc rw) = es0 at lk0 el0 ⊢
      have z7 := z6.put (es' := es0)
      generalize upd R6 wx (.dK es0) = R7 at z7 ⊢
      have z7 := z7.mono (m' := n + 420) (by omega)
      refine set_sl (σ' := [some (.ref a), some (.int wide), some (.ref D), some (.ref W), y4, y5, y6, some (.ref L3), some (.ref wx), none, none, none, none]) rfl ?_
      -- keys
      refine ⟨_, rfl, D, rfl, ⟨_, SqL.of z7.d.e⟩, fun KY nKY => ?_⟩
      have xK := z7.new (o := .lst []) nKY
      have nK : D ≠ KY ∧ L3 ≠ KY ∧ kd ≠ KY ∧ fc ≠ KY ∧ rw ≠ KY ∧ wx ≠ KY := ⟨ne_of_none z7.d.e nKY, ne_of_none z7.l.e nKY, ne_of_none z7.k.e nKY, ne_of_none z7.f.e nKY, ne_of_none z7.r.e nKY, ne_of_none z7.w nKY⟩
      refine lc_build (walk_list (K := K) (a := D) (xs := xs)) nKY (fun i ys R => ∃ (kl : List Addr) (kys : List (List Str)), ys = kl.map V.ref ∧ kys.length = i ∧ Paired (fun q zs => ExA H R a g wx q (.lst (zs.map V.str))) kl kys ∧ (∀ zs ∈ kys, 1 ≤ zs.length ∧ zs.length ≤ 6 ∧ ∀ z ∈ zs, Tx z ∧ z.length ≤ 12) ∧ kl.Nodup ∧ (∀ q ∈ kl, q ≠ D ∧ q ≠ L3 ∧ q ≠ rw ∧ q ≠ KY) ∧ WSt K H R a g (n + 420 + 90 * i) D L3 wx kd fc rw xs ds zs3 es0) ⟨[], [], rfl, rfl, .nil, fun _ h => (nomatch h), List.nodup_nil, fun _ h => (nomatch h), z7⟩ (fun _ _ _ _ ⟨_, _, _, _, _, _, _, _, z⟩ => SqL.of (cd_sub _ _ z.d.e)) ?_ ?_
      · rintro i ys y Rx Rx' hi e ly ⟨kl, kys, rfl, lk, pk, ok, ndk, apk, zx⟩ ⟨rfl, hy⟩
        have zx' := zx.same cd_sub
        refine ⟨rfl, yes ?_⟩
        refine ⟨_, rfl, _, rfl, _, _, rfl, rfl, .inl ⟨by decide, by decide⟩, _, _, rfl, rfl, a, g, _, 3 + 3 * (wide : Int), rfl, zx'.b, by omega, by omega, by omega, fun r R8 r0 r1 B8 s8 => ?_⟩
        obtain ⟨jr, rfl⟩ := natB r0
        have z8 := zx'.draw B8 s8
        refine ⟨_, _, rfl, rfl, _, rfl, by omega, by omega, fun q nq => ?_⟩
        have eK8 := ctkeepG s8 e xK.na xK.ng
        have qK : q ≠ KY := fun w => by rw [w, eK8] at nq; cases nq
        obtain ⟨qa, qg⟩ := z8.b.na nq
        have hq0 := none_back z8.s nq qa qg
        have en : ((1 + (jr : Int))).toNat = 1 + jr := by omega
        rw [en]
        refine lc_build (walk_range (lo := 0)) nq (fun j ys R => ∃ zs : List Str, ys = zs.map V.str ∧ zs.length = j ∧ (∀ z ∈ zs, Tx z ∧ z.length ≤ 12) ∧ Bag R a g (n + 420 + 90 * i + 1 + 14 * j) ∧ Same (ct a g R8) (ct a g R)) ⟨[], rfl, rfl, fun _ h => (nomatch h), B8, Same.refl _⟩ (fun _ _ _ _ _ => trivial) ?_ ?_
        · rintro j ys x Ha Hb hj e2 l2 ⟨zs, rfl, lz, oz, Bz, sz⟩ ⟨rfl, rfl⟩
          refine ⟨rfl, yes ?_⟩
          refine ⟨_, rfl, a, g, _, rfl, Bz.same cd_sub, by omega, fun z Hc tz lz2 Bc sc => ?_⟩
          refine LcNx.add (ctkeepG sc e2 qa qg) l2 (by omega) ⟨zs ++ [z], by rw [List.map_append]; rfl, by rw [List.length_append]; show zs.length + 1 = j + 1; omega, fun y hy => ?_, (Bc.cd qa qg).mono (by omega), ctcd5 nq sz sc⟩
          rcases List.mem_append.mp hy with h1 | h1
          · exact oz y h1
          · rw [List.mem_singleton.mp h1]; exact ⟨tz, lz2⟩
        · rintro ys R9 e9 l9 ⟨zs, rfl, lz, oz, B9, s9⟩
          have s89 : Same (ct a g R8) (ct a g R9) := s9.trans (ct_same cd_sub)
          have B9' : Bag R9 a g (n + 420 + 90 * i + 90) := (B9.same cd_sub).mono (by omega)
          have z9 := z8.draw B9' s89
          have eK9 := ctkeepG s89 eK8 xK.na xK.ng
          have sall : Same (ct a g Rx') (ct a g R9) := s8.trans s89
          have lkl : kl.length = i := by rw [pk.length]; exact lk
          refine LcNx.add eK9 ly (by omega) ⟨kl ++ [q], kys ++ [zs], by rw [List.map_append]; rfl, by rw [List.length_append]; show kys.length + 1 = i + 1; omega, ?_, fun y hy => ?_, ?_, fun y hy => ?_, (z9.cd xK.h xK.na xK.ng nK _ eK9).mono (by omega)⟩
          · refine PairedB (PySem.Paired.mono (fun q' zs' ex => ?_) pk) ⟨cd_of e9 qK, qa, qg, hq0, fun w => ?_⟩
            · have e1 := ex.e
              have nK' := (ct_ne e1).1
              exact ⟨cd_of (ctkeepG sall (cd_sub _ _ e1) ex.na ex.ng) nK', ex.na, ex.ng, ex.h, ex.nw⟩
            · rw [w, z8.w] at nq; cases nq
          · rcases List.mem_append.mp hy with h1 | h1
            · exact ok y h1
            · rw [List.mem_singleton.mp h1]; exact ⟨by omega, by omega, oz⟩
          · rw [List.nodup_append]
            refine ⟨ndk, List.pairwise_singleton _ _, fun x hx y hy w => ?_⟩
            rw [List.mem_singleton.mp hy] at w
            obtain ⟨ix, hix, ex⟩ := List.mem_iff_getElem.mp hx
            obtain ⟨zs', _, exx⟩ := paired_at pk (List.getElem?_eq_getElem hix)
            rw [ex, w] at exx
            have := ctkeepG s8 (cd_sub _ _ exx.e) qa qg
            rw [nq] at this
            cases this
          · rcases List.mem_append.mp hy with h1 | h1
            · exact apk y h1
            · rw [List.mem_singleton.mp h1]
              exact ⟨(ne_of_none z8.d.e nq).symm, (ne_of_none z8.l.e nq).symm, (ne_of_none z8.r.e nq).symm, qK⟩
      rintro ys R8 eKY ly ⟨kl, kys, rfl, lk, pk, ok, ndk, apk, z8⟩
      rw [show xs.length = ds.length from lxs] at lk z8
      have z8 := (z8.same cd_sub).mono (m' := n + 780) (by omega)
      have exK : ExA H R8 a g wx KY (.lst (kl.map V.ref)) := ⟨eKY, xK.na, xK.ng, xK.h, xK.nw⟩
      have pk : Paired (fun q zs => ExA H R8 a g wx q (.lst (zs.map V.str))) kl kys := PySem.Paired.mono (fun _ _ ex => ex.same cd_sub) pk
      have el1 := length_putK es0 (Sum.inr "keys" : L2.Key) (V.ref KY)
      refine ⟨_, rfl, wx, _, rfl, DPut.k (k := Sum.inr "keys") z8.w (small1000 (by omega)), ?_⟩
      have lk1 := lk0.put (z := "keys") (v := V.ref KY) (by decide +kernel)
      have lkK : valV (putK es0 (Sum.inr "keys") (.ref KY)) (Sum.inr "keys") = some (.ref KY) := val_eq
      have z9 := z8.put (es' := putK es0 (Sum.inr "keys") (.ref KY))
      have exK := exK.put (u := .dK (putK es0 (Sum.inr "keys") (.ref KY)))
      have pk : Paired (fun q zs => ExA H (upd R8 wx (.dK (putK es0 (Sum.inr "keys") (.ref KY)))) a g wx q (.lst (zs.map V.str))) kl kys := PySem.Paired.mono (fun _ _ ex => ex.put) pk
      generalize upd R8 wx (.dK (putK es0 (Sum.inr "keys") (.ref KY))) = R9 at z9 exK pk ⊢
      generalize putK es0 (Sum.inr "keys") (.ref KY) = es1 at z9 lk1 lkK el1 ⊢
      -- far
      refine ⟨_, _, rfl, rfl, ⟨by decide, by decide, by decide⟩, _, _, rfl, rfl, ⟨by decide, by decide, by decide⟩, by show 2 ≤ sizeLine; decide, fun p2 np2 => ?_⟩
      obtain ⟨p2a, p2g⟩ := z9.b.na np2
      generalize e2p : upd R9 p2 _ = R10
      obtain ⟨s10, ep2⟩ := new_of np2 e2p
      have z10 := z9.same s10
      refine ⟨_, rfl, a, g, _, 2, rfl, z10.b, by omega, by decide, by decide, fun r R11 r0 r1 B11 s11 => ?_⟩
      have z11 := z10.draw B11 s11
      obtain ⟨jf, rfl⟩ := natB r0
      obtain ⟨far, hfar, hfn⟩ : ∃ far : Int, ([V.int ((10 : Int) ^ ((20 : Int).toNat)), V.int ((10 : Int) ^ ((59 : Int).toNat))] : List V)[jf]? = some (.int far) ∧ far.natAbs ≤ 10 ^ 59 := by
        have : jf = 0 ∨ jf = 1 := by omega
        rcases this with rfl | rfl
        · exact ⟨_, rfl, by decide⟩
        · exact ⟨_, rfl, by decide⟩
      refine ⟨p2, _, _, _, rfl, rfl, SqL.of (ctkeepG s11 ep2 p2a p2g), atI_nat hfar, ?_⟩
      refine set_sl (σ' := [some (.ref a), some (.int wide), some (.ref D), some (.ref W), y4, y5, y6, some (.ref L3), some (.ref wx), none, none, some (.int far), none]) rfl ?_
      have t11 : WT K H R11 a g (n + 781) D L3 wx kd fc rw xs ds zs3 es1 KY kl kys := (((⟨z9, lk1, exK, pk, lkK⟩ : WT K H R9 a g _ D L3 wx kd fc rw xs ds zs3 es1 KY kl kys).same s10).draw B11 s11)
      -- days
      refine ⟨_, rfl, _, rfl, by show 3 ≤ sizeLine; decide, fun p5 np5 => ?_⟩
      obtain ⟨p5a, p5g⟩ := t11.z.b.na np5
      generalize e5p : upd R11 p5 _ = R12
      obtain ⟨s12', ep5⟩ := new_of np5 e5p
      have t12 := t11.same s12'
      refine ⟨_, rfl, a, g, _, 3, rfl, t12.z.b, by omega, by decide, by decide, fun r R13 r0 r1 B13 s13 => ?_⟩
      have t13 := t12.draw B13 s13
      obtain ⟨jd, rfl⟩ := natB r0
      obtain ⟨d5, hd5, nd5⟩ : ∃ d : Int, ([V.int far, V.int 7, V.int 5] : List V)[jd]? = some (.int d) ∧ Nu d := by
        have : jd = 0 ∨ jd = 1 ∨ jd = 2 := by omega
        rcases this with rfl | rfl | rfl
        · exact ⟨_, rfl, nuB (Nat.le_trans hfn (by decide))⟩
        · exact ⟨_, rfl, nuB (by decide)⟩
        · exact ⟨_, rfl, nuB (by decide)⟩
      refine ⟨p5, _, _, _, rfl, rfl, SqL.of (ctkeepG s13 ep5 p5a p5g), atI_nat hd5, ?_⟩
      refine ⟨_, rfl, _, _, rfl, rfl, _, rfl, by show 3 ≤ sizeLine; decide, fun p6 np6 => ?_⟩
      obtain ⟨p6a, p6g⟩ := t13.z.b.na np6
      generalize e6p : upd R13 p6 _ = R14
      obtain ⟨s14, ep6⟩ := new_of np6 e6p
      have t14 := t13.same s14
      refine ⟨_, rfl, a, g, _, 3, rfl, t14.z.b, by omega, by decide, by decide, fun r R15 r0 r1 B15 s15 => ?_⟩
      have t15 := t14.draw B15 s15
      obtain ⟨je, rfl⟩ := natB r0
      obtain ⟨d6, hd6, nd6⟩ : ∃ d : Int, ([V.int (0 - far), V.int (-4), V.int 4] : List V)[je]? = some (.int d) ∧ Nu d := by
        have : je = 0 ∨ je = 1 ∨ je = 2 := by omega
        rcases this with rfl | rfl | rfl
        · exact ⟨_, rfl, nuB (Nat.le_trans (show (0 - far).natAbs ≤ 10 ^ 59 by rw [Int.zero_sub, Int.natAbs_neg]; exact hfn) (by decide))⟩
        · exact ⟨_, rfl, nuB (by decide)⟩
        · exact ⟨_, rfl, nuB (by decide)⟩
      refine ⟨p6, _, _, _, rfl, rfl, SqL.of (ctkeepG s15 ep6 p6a p6g), atI_nat hd6, ?_⟩
      refine ⟨by show 7 ≤ sizeLine; decide, fun DY nDY => ?_⟩
      have nDYk : DY ∉ kl := notin_kl t15.p nDY
      have xD := t15.z.new (o := .lst [V.int 0, V.int 1, V.int 2, V.int 3, V.int (-1), V.int d5, V.int d6]) nDY
      generalize e16 : upd R15 DY _ = R16
      obtain ⟨s16, eDY⟩ := new_of nDY e16
      have t16 := t15.same s16
      have xD : ExA H R16 a g wx DY (.lst (([0, 1, 2, 3, -1, d5, d6] : List Int).map V.int)) := ⟨eDY, xD.na, xD.ng, xD.h, xD.nw⟩
      have hdn : ∀ i ∈ ([0, 1, 2, 3, -1, d5, d6] : List Int), Nu i := fun i hi => by
        simp only [List.mem_cons, List.not_mem_nil, or_false] at hi
        rcases hi with rfl | rfl | rfl | rfl | rfl | rfl | rfl
        · exact nuB (by decide)
        · exact nuB (by decide)
        · exact nuB (by decide)
        · exact nuB (by decide)
        · exact nuB (by decide)
        · exact nd5
        · exact nd6
      refine ⟨_, rfl, wx, _, rfl, DPut.k (k := Sum.inr "days") t16.z.w (small1000 (by omega)), ?_⟩
      have el2 := length_putK es1 (Sum.inr "days" : L2.Key) (V.ref DY)
      have t17 := t16.put (z := "days") (v := .ref DY) (by decide +kernel) (by decide +kernel)
      have xD := xD.put (u := .dK (putK es1 (Sum.inr "days") (.ref DY)))
      have lkD : valV (putK es1 (Sum.inr "days") (.ref DY)) (Sum.inr "days") = some (.ref DY) := val_eq
      generalize upd R16 wx (.dK (putK es1 (Sum.inr "days") (.ref DY))) = R17 at t17 xD ⊢
      generalize putK es1 (Sum.inr "days") (.ref DY) = es2 at t17 lkD el2 ⊢
      have ld7 : ([0, 1, 2, 3, -1, d5, d6] : List Int).length = 7 := rfl
      generalize ([0, 1, 2, 3, -1, d5, d6] : List Int) = dys at xD hdn ld7 ⊢
      -- worths
      refine ⟨_, rfl, a, g, _, rfl, t17.z.b, by omega, fun tz R18 tx tl B18 s18 => ?_⟩
      have t18 := t17.draw B18 s18
      have xD := xD.draw s18
      refine ⟨_, rfl, _, rfl, by show 3 ≤ sizeLine; decide, fun p7 np7 => ?_⟩
      obtain ⟨p7a, p7g⟩ := t18.z.b.na np7
      generalize e7p : upd R18 p7 _ = R19
      obtain ⟨s19, ep7⟩ := new_of np7 e7p
      have t19 := t18.same s19
      refine ⟨_, rfl, a, g, _, 3, rfl, t19.z.b, by omega, by decide, by decide, fun r R20 r0 r1 B20 s20 => ?_⟩
      have t20 := t19.draw B20 s20
      obtain ⟨jw, rfl⟩ := natB r0
      obtain ⟨vw, hvw, okw⟩ : ∃ v : Fv, ([V.str tz, V.int far, V.int (-7)] : List V)[jw]? = some v.v ∧ v.ok := by
        have : jw = 0 ∨ jw = 1 ∨ jw = 2 := by omega
        rcases this with rfl | rfl | rfl
        · exact ⟨.s tz, rfl, tx⟩
        · exact ⟨.i far, rfl, nuB (Nat.le_trans hfn (by decide))⟩
        · exact ⟨.i (-7), rfl, nuB (by decide)⟩
      refine ⟨p7, _, _, _, rfl, rfl, SqL.of (ctkeepG s20 ep7 p7a p7g), atI_nat hvw, ?_⟩
      refine ⟨by show 5 ≤ sizeLine; decide, fun WO0 nWO => ?_⟩
      have nW0k : WO0 ∉ kl := notin_kl t20.p nWO
      have xW0 := t20.z.new (o := .lst (([.s "a", .s "b", .i 1, .s "1", vw] : List Fv).map Fv.v)) nWO
      have e21 : upd R20 WO0 (.lst [V.str "a", V.str "b", V.int 1, V.str "1", vw.v]) = upd R20 WO0 (.lst (([.s "a", .s "b", .i 1, .s "1", vw] : List Fv).map Fv.v)) := rfl
      rw [e21]
      generalize e21' : upd R20 WO0 (.lst (([.s "a", .s "b", .i 1, .s "1", vw] : List Fv).map Fv.v)) = R21 at xW0 ⊢
      obtain ⟨s21, _⟩ := new_of nWO e21'
      have t21 := t20.same s21
      have xD := (xD.same s19).draw s20
      have xD := xD.same s21
      have tx2 : ∀ z ∈ (["a", "b", "1", "abcxyz0012a1", "abcxyz0012a2", "abcxyz0012a"] : List Str), Tx z := txB (by decide +kernel)
      have hw0 : ∀ v ∈ ([.s "a", .s "b", .i 1, .s "1", vw] : List Fv), v.ok := fun v hv => by
        simp only [List.mem_cons, List.not_mem_nil, or_false] at hv
        rcases hv with rfl | rfl | rfl | rfl | rfl
        · exact tx2 "a" (by simp)
        · exact tx2 "b" (by simp)
        · exact nuB (by decide)
        · exact tx2 "1" (by simp)
        · exact okw
      have lw0 : ([.s "a", .s "b", .i 1, .s "1", vw] : List Fv).length = 5 := rfl
      generalize ([.s "a", .s "b", .i 1, .s "1", vw] : List Fv) = wos0 at xW0 hw0 lw0
      refine ⟨_, rfl, wx, _, rfl, DPut.k (k := Sum.inr "worths") t21.z.w (small1000 (by omega)), ?_⟩
      have el3 := length_putK es2 (Sum.inr "worths" : L2.Key) (V.ref WO0)
      have t22 := t21.put (z := "worths") (v := .ref WO0) (by decide +kernel) (by decide +kernel)
      have xD := xD.put (u := .dK (putK es2 (Sum.inr "worths") (.ref WO0)))
      have xW0 := xW0.put (u := .dK (putK es2 (Sum.inr "worths") (.ref WO0)))
      have lkD3 : valV (putK es2 (Sum.inr "worths") (.ref WO0)) (Sum.inr "days") = some (.ref DY) := by rw [val_ne (by decide +kernel)]; exact lkD
      have lkW3 : valV (putK es2 (Sum.inr "worths") (.ref WO0)) (Sum.inr "worths") = some (.ref WO0) := val_eq
      generalize upd R21 wx (.dK (putK es2 (Sum.inr "worths") (.ref WO0))) = R22 at t22 xD xW0 ⊢
      generalize putK es2 (Sum.inr "worths") (.ref WO0) = es3 at t22 lkD3 lkW3 el3 ⊢
      dsimp only
      refine stm_cut (fun σ' R => σ' = [some (.ref a), some (.int wide), some (.ref D), some (.ref W), y4, y5, y6, some (.ref L3), some (.ref wx), none, none, some (.int far), none] ∧ ∃ (es : WEs) (WO : Addr) (wos : List Fv), WT K H R a g (n + 800) D L3 wx kd fc rw xs ds zs3 es KY kl kys ∧ ExA H R a g wx DY (.lst (dys.map V.int)) ∧ ExA H R a g wx WO (.lst (wos.map Fv.v)) ∧ wos.length = 5 ∧ (∀ v ∈ wos, v.ok) ∧ valV es (Sum.inr "days") = some (.ref DY) ∧ valV es (Sum.inr "worths") = some (.ref WO) ∧ es.length ≤ 9 ∧ WO ∉ kl) (fun nx hnx => ?_) ?_
      · refine ⟨_, rfl, a, g, _, 3, rfl, t22.z.b, by omega, by decide, by decide, fun r R23 r0 r1 B23 s23 => ?_⟩
        have t23 := t22.draw B23 s23
        have xD3 := xD.draw s23
        have xW3 := xW0.draw s23
        refine ⟨rfl, _, rfl, ite2 (fun c => ?_) (fun c => nx_of (hnx _ _ ⟨rfl, es3, WO0, wos0, t23.mono (by omega), xD3, xW3, lw0, hw0, lkD3, lkW3, by omega, nW0k⟩))⟩
        refine ⟨_, _, rfl, rfl, ⟨by decide, by decide, by decide⟩, _, _, rfl, rfl, ⟨by decide, by decide, by decide⟩, _, _, rfl, rfl, by show 5 ≤ sizeLine; decide, fun WO1 nW1 => ?_⟩
        have nW1k : WO1 ∉ kl := notin_kl t23.p nW1
        have xW1 := t23.z.new (o := .lst (([.s "abcxyz0012a1", .s "abcxyz0012a2", .s "abcxyz0012a", .i (10 ^ ((59 : Int).toNat)), .i (10 ^ ((59 : Int).toNat) + 1)] : List Fv).map Fv.v)) nW1
        have e24 : upd R23 WO1 (.lst [V.str "abcxyz0012a1", V.str "abcxyz0012a2", V.str "abcxyz0012a", V.int (10 ^ ((59 : Int).toNat)), V.int (10 ^ ((59 : Int).toNat) + 1)]) = upd R23 WO1 (.lst (([.s "abcxyz0012a1", .s "abcxyz0012a2", .s "abcxyz0012a", .i (10 ^ ((59 : Int).toNat)), .i (10 ^ ((59 : Int).toNat) + 1)] : List Fv).map Fv.v)) := rfl
        generalize e25' : upd R23 WO1 _ = R24
        have e25 : upd R23 WO1 (.lst (([.s "abcxyz0012a1", .s "abcxyz0012a2", .s "abcxyz0012a", .i (10 ^ ((59 : Int).toNat)), .i (10 ^ ((59 : Int).toNat) + 1)] : List Fv).map Fv.v)) = R24 := e25'
        rw [e25] at xW1
        obtain ⟨s24', _⟩ := new_of nW1 e25
        have t24 := t23.same s24'
        have xD4 := xD3.same s24'
        have hw1 : ∀ v ∈ ([.s "abcxyz0012a1", .s "abcxyz0012a2", .s "abcxyz0012a", .i (10 ^ ((59 : Int).toNat)), .i (10 ^ ((59 : Int).toNat) + 1)] : List Fv), v.ok := fun v hv => by
          simp only [List.mem_cons, List.not_mem_nil, or_false] at hv
          rcases hv with rfl | rfl | rfl | rfl | rfl
          · exact tx2 "abcxyz0012a1" (by simp)
          · exact tx2 "abcxyz0012a2" (by simp)
          · exact tx2 "abcxyz0012a" (by simp)
          · exact nuB (by decide)
          · exact nuB (by decide)
        have lw1 : ([.s "abcxyz0012a1", .s "abcxyz0012a2", .s "abcxyz0012a", .i (10 ^ ((59 : Int).toNat)), .i (10 ^ ((59 : Int).toNat) + 1)] : List Fv).length = 5 := rfl
        generalize ([.s "abcxyz0012a1", .s "abcxyz0012a2", .s "abcxyz0012a", .i (10 ^ ((59 : Int).toNat)), .i (10 ^ ((59 : Int).toNat) + 1)] : List Fv) = wos1 at xW1 hw1 lw1
        have el4 := length_putK es3 (Sum.inr "worths" : L2.Key) (V.ref WO1)
        refine ⟨_, rfl, wx, _, rfl, DPut.k (k := Sum.inr "worths") t24.z.w (small1000 (by omega)), ?_⟩
        refine hnx _ _ ⟨rfl, _, WO1, wos1, (t24.put (z := "worths") (v := .ref WO1) (by decide +kernel) (by decide +kernel)).mono (by omega), xD4.put, xW1.put, lw1, hw1, by rw [val_ne (by decide +kernel)]; exact lkD3, val_eq, by omega, nW1k⟩
      rintro σ' R ⟨rfl, es, WO, wos, tR, xD, xW, lw, hw, lkD, lkW, eln, nWk⟩
      -- names
      refine ⟨by show 2 ≤ sizeLine; decide, fun p8 np8 => ?_⟩
      obtain ⟨p8a, p8g⟩ := tR.z.b.na np8
      generalize e8p : upd R p8 _ = R1
      obtain ⟨s1', ep8⟩ := new_of np8 e8p
      have t1 := tR.same s1'
      obtain ⟨nw, hnw, nw1, nw2⟩ : ∃ nw : Nat, ([V.int 5, V.int 30] : List V)[wide]? = some (.int nw) ∧ 1 ≤ nw ∧ nw ≤ 30 := by
        have : wide = 0 ∨ wide = 1 := by omega
        rcases this with rfl | rfl
        · exact ⟨5, rfl, by decide, by decide⟩
        · exact ⟨30, rfl, by decide, by decide⟩
      refine ⟨_, rfl, p8, _, _, _, rfl, rfl, SqL.of ep8, atI_nat hnw, _, rfl, by omega, by omega, fun NM nNM => ?_⟩
      have xN0 := t1.z.new (o := .lst []) nNM
      have nmDY : NM ≠ DY := (ne_of_none (xD.same s1').e nNM).symm
      have nmWO : NM ≠ WO := (ne_of_none (xW.same s1').e nNM).symm
      have nmK : NM ∉ kl := notin_kl t1.p nNM
      have en : ((nw : Int)).toNat = nw := by omega
      rw [en]
      refine lc_build (walk_range (lo := 0)) nNM (fun j ys R => ∃ zs : List Str, ys = zs.map V.str ∧ zs.length = j ∧ (∀ z ∈ zs, Tx z) ∧ Bag R a g (n + 800 + 14 * j) ∧ Same (ct a g R1) (ct a g R)) ⟨[], rfl, rfl, fun _ h => (nomatch h), t1.z.b, Same.refl _⟩ (fun _ _ _ _ _ => trivial) ?_ ?_
      · rintro j ys x Ha Hb hj e2 l2 ⟨zs, rfl, lz, oz, Bz, sz⟩ ⟨rfl, rfl⟩
        refine ⟨rfl, yes ?_⟩
        refine ⟨_, rfl, a, g, _, rfl, Bz.same cd_sub, by omega, fun z Hc tz lz2 Bc sc => ?_⟩
        refine LcNx.add (ctkeepG sc e2 xN0.na xN0.ng) l2 (by omega) ⟨zs ++ [z], by rw [List.map_append]; rfl, by rw [List.length_append]; show zs.length + 1 = j + 1; omega, fun y hy => ?_, (Bc.cd xN0.na xN0.ng).mono (by omega), ctcd5 nNM sz sc⟩
        rcases List.mem_append.mp hy with h1 | h1
        · exact oz y h1
        · rw [List.mem_singleton.mp h1]; exact tz
      rintro ys R2' e9 l9 ⟨nms0, rfl, lnm, onm, B9, s9⟩
      have s12' : Same (ct a g R1) (ct a g R2') := s9.trans (ct_same cd_sub)
      have t2 := (t1.draw (B9.same cd_sub) s12').mono (m' := n + 1300) (by omega)
      have xD := (xD.same s1').draw s12'
      have xW := (xW.same s1').draw s12'
      have xN : ExA H R2' a g wx NM (.lst (nms0.map V.str)) := ⟨e9, xN0.na, xN0.ng, xN0.h, xN0.nw⟩
      refine ⟨_, rfl, wx, _, rfl, DPut.k (k := Sum.inr "names") t2.z.w (small1000 (by omega)), ?_⟩
      have t3 := t2.put (z := "names") (v := .ref NM) (by decide +kernel) (by decide +kernel)
      have xD := xD.put (u := .dK (putK es (Sum.inr "names") (.ref NM)))
      have xW := xW.put (u := .dK (putK es (Sum.inr "names") (.ref NM)))
      have xN := xN.put (u := .dK (putK es (Sum.inr "names") (.ref NM)))
      have lkD2 : valV (putK es (Sum.inr "names") (.ref NM)) (Sum.inr "days") = some (.ref DY) := by rw [val_ne (by decide +kernel)]; exact lkD
      have lkW2 : valV (putK es (Sum.inr "names") (.ref NM)) (Sum.inr "worths") = some (.ref WO) := by rw [val_ne (by decide +kernel)]; exact lkW
      have lkN2 : valV (putK es (Sum.inr "names") (.ref NM)) (Sum.inr "names") = some (.ref NM) := val_eq
      have nmD : NM ≠ D ∧ NM ≠ L3 ∧ NM ≠ rw ∧ NM ≠ KY ∧ NM ≠ DY ∧ NM ≠ WO := ⟨(ne_of_none t1.z.d.e nNM).symm, (ne_of_none t1.z.l.e nNM).symm, (ne_of_none t1.z.r.e nNM).symm, (ne_of_none t1.x.e nNM).symm, nmDY, nmWO⟩
      generalize upd R2' wx (.dK (putK es (Sum.inr "names") (.ref NM))) = R3' at t3 xD xW xN ⊢
      generalize putK es (Sum.inr "names") (.ref NM) = esF at t3 lkD2 lkW2 lkN2 ⊢
      have lkl : kl.length = ds.length := by rw [t3.p.length]; exact lk
      -- the end, for any keys and names
      have fin : ∀ (R : Hp) (kys' : List (List Str)) (nms' : List Str), WT K H R a g (n + 2000) D L3 wx kd fc rw xs ds zs3 esF KY kl kys' → ExA H R a g wx DY (.lst (dys.map V.int)) → ExA H R a g wx WO (.lst (wos.map Fv.v)) → ExA H R a g wx NM (.lst (nms'.map V.str)) → (∀ zs ∈ kys', 1 ≤ zs.length ∧ zs.length ≤ 20 ∧ ∀ z ∈ zs, Tx z) → 1 ≤ nms'.length → nms'.length ≤ 60 → (∀ z ∈ nms', Tx z) → Q (.ref wx) R := fun R kys' nms' tF yD yW yN ok' n1 n2 on => by
        have lk' : kys'.length = ds.length := by rw [← lkl, tF.p.length]
        refine k wx esF kd fc rw ⟨D, L3, KY, DY, WO, NM, kl, xs, ds, zs3, kys', dys, wos, nms'⟩ R tF.z.b tF.z.s ⟨tF.z.d.e, tF.z.p, tF.z.l.e, tF.x.e, PySem.Paired.mono (fun _ _ q => q.e) tF.p, yD.e, yW.e, yN.e⟩ ⟨good, lk', ok', ld7, hdn, lw, hw, n1, n2, on⟩ ⟨tF.z.w, tF.lk.k, tF.lk.f, tF.lk.r, tF.z.k.e, fun e he => (nomatch he), fun e he => (nomatch he), tF.z.f.e, fun e he => (nomatch he), tF.z.r.e, .nil, tF.z.f.nw.symm, fun e he => (nomatch he)⟩ ⟨tF.lk.d, tF.lk.s⟩ ⟨tF.e, lkD2, lkW2, lkN2⟩ (fun b hb => ?_) (fun b hb hb2 => ?_)
        · rcases hb with (rfl | rfl | rfl | rfl | rfl | rfl | hb) | rfl | rfl | rfl | rfl
          · exact tF.z.d.h
          · exact tF.z.l.h
          · exact tF.x.h
          · exact yD.h
          · exact yW.h
          · exact yN.h
          · obtain ⟨ix, hix, ex⟩ := List.mem_iff_getElem.mp (show b ∈ kl from hb)
            obtain ⟨zs', _, exx⟩ := paired_at tF.p (List.getElem?_eq_getElem hix)
            rw [ex] at exx
            exact exx.h
          · exact tF.z.hw
          · exact tF.z.k.h
          · exact tF.z.f.h
          · exact tF.z.r.h
        · have nl : ∀ {q : Addr} {L : List V}, R q = some (.lst L) → b = q → 1 ≤ L.length ∨ q = L3 → False := fun {q L} e1 e2 e3 => by
            subst e2
            rcases hb2 with z | z | z | z
            · subst z
              rw [tF.z.w] at e1
              cases e1
            · subst z
              rw [tF.z.k.e] at e1
              cases e1
            · subst z
              rw [tF.z.f.e] at e1
              cases e1
            · subst z
              rcases e3 with e3 | e3
              · rw [tF.z.r.e] at e1
                cases e1
                simp at e3
              · exact L3rw e3.symm
          rcases hb with z | z | z | z | z | z | z
          · exact nl tF.z.d.e z (.inl (by rw [lxs]; exact d1))
          · exact nl tF.z.l.e z (.inr rfl)
          · exact nl tF.x.e z (.inl (by rw [List.length_map, lkl]; exact d1))
          · exact nl yD.e z (.inl (by rw [List.length_map, ld7]; decide))
          · exact nl yW.e z (.inl (by rw [List.length_map, lw]; decide))
          · exact nl yN.e z (.inl (by rw [List.length_map]; exact n1))
          · obtain ⟨ix, hix, ex⟩ := List.mem_iff_getElem.mp (show b ∈ kl from z)
            obtain ⟨zs', hz', exx⟩ := paired_at tF.p (List.getElem?_eq_getElem hix)
            rw [ex] at exx
            exact nl exx.e rfl (.inl (by rw [List.length_map]; exact (ok' zs' (List.mem_of_getElem? hz')).1))
      -- two more of each, perhaps
      refine ⟨_, rfl, a, g, _, 3, rfl, t3.z.b, by omega, by decide, by decide, fun r R4 r0 r1 B4 s4 => ?_⟩
      have t4 := t3.draw B4 s4
      have xD := xD.draw s4
      have xW := xW.draw s4
      have xN := xN.draw s4
      have ok0 : ∀ zs ∈ kys, 1 ≤ zs.length ∧ zs.length ≤ 20 ∧ ∀ z ∈ zs, Tx z := fun zs hz => ⟨(ok zs hz).1, by have := (ok zs hz).2.1; omega, fun z hz2 => ((ok zs hz).2.2 z hz2).1⟩
      refine ⟨rfl, _, rfl, ite2 (fun c => ?_) (fun c => nx_of ⟨_, rfl, fin R4 kys nms0 (t4.mono (by omega)) xD xW xN ok0 (by omega) (by omega) onm⟩)⟩
      refine ⟨_, rfl, wx, _, rfl, wd_get t4.z.w t4.e, _, rfl, wx, _, rfl, wd_get t4.z.w lkN2, by show 1 ≤ sizeLine; decide, fun p9 np9 => ?_⟩
      generalize e9p : upd R4 p9 _ = R5
      obtain ⟨s5', ep9⟩ := new_of np9 e9p
      have t5 := t4.same s5'
      have kl4 : kl.length ≤ 4 := by rw [lkl]; exact d4
      refine ⟨KY, p9, _, _, rfl, rfl, t5.x.e, ep9, Nat.le_of_lt (small1000 (by rw [List.length_map]; show kl.length + 1 ≤ 1000; omega)), fun L nL => ?_⟩
      obtain ⟨La', Lg'⟩ := t5.z.b.na nL
      generalize eL : upd R5 L _ = R6
      obtain ⟨s6', eL⟩ := new_of nL eL
      have t6 := t5.same s6'
      have xD := (xD.same s5').same s6'
      have xW := (xW.same s5').same s6'
      have xN5 := xN.same s5'
      have xN := xN5.same s6'
      have nLk : L ∉ kl := notin_kl t5.p nL
      have nLN : L ≠ NM := (ne_of_none xN5.e nL).symm
      have llen : (kl.map V.ref ++ [V.ref NM]).length = kl.length + 1 := by rw [List.length_append, List.length_map]; rfl
      refine ⟨L, rfl, ⟨_, SqL.of eL⟩, ?_⟩
      refine for_list (K := K) (a := L) (xs := kl.map V.ref ++ [V.ref NM]) (fun i σ R => ∃ (kys' : List (List Str)) (nms' : List Str) (y4 y5 : Option V), σ = [some (.ref a), some (.int wide), some (.ref D), some (.ref W), y4, y5, y6, some (.ref L3), some (.ref wx), none, none, some (.int far), none] ∧ WT K H R a g (n + 1301 + 20 * i) D L3 wx kd fc rw xs ds zs3 esF KY kl kys' ∧ ExA H R a g wx DY (.lst (dys.map V.int)) ∧ ExA H R a g wx WO (.lst (wos.map Fv.v)) ∧ ExA H R a g wx NM (.lst (nms'.map V.str)) ∧ R L = some (.lst (kl.map V.ref ++ [V.ref NM])) ∧ (∀ zs ∈ kys', 1 ≤ zs.length ∧ zs.length ≤ 6 + 2 * i ∧ ∀ z ∈ zs, Tx z) ∧ 1 ≤ nms'.length ∧ nms'.length ≤ 30 + 2 * i ∧ ∀ z ∈ nms', Tx z)
        ⟨kys, nms0, _, _, rfl, t6.mono (by omega), xD, xW, xN, eL, fun zs hz => ⟨(ok zs hz).1, (ok zs hz).2.1, fun z hz2 => ((ok zs hz).2.2 z hz2).1⟩, by omega, by omega, onm⟩ (fun _ _ _ _ ⟨_, _, _, _, _, _, _, _, _, z, _⟩ => SqL.of z) ?_ ?_
      · rintro i y σ R hy ⟨kys', nms', y4, y5, rfl, tR, yD, yW, yN, eLR, ok', n1, n2, on⟩
        have hi : i < kl.length + 1 := by
          have := (List.getElem?_eq_some_iff.mp hy).1
          rw [llen] at this
          exact this
        have hq : ∃ (q : Addr) (zs : List Str), y = .ref q ∧ ExA H R a g wx q (.lst (zs.map V.str)) ∧ q ≠ D ∧ q ≠ L3 ∧ q ≠ rw ∧ q ≠ KY ∧ q ≠ DY ∧ q ≠ WO ∧ q ≠ L ∧ 1 ≤ zs.length ∧ zs.length ≤ 30 + 2 * i ∧ (∀ z ∈ zs, Tx z) ∧ ((q ∉ kl ∧ q = NM ∧ zs = nms') ∨ (q ≠ NM ∧ kl[i]? = some q ∧ kys'[i]? = some zs)) := by
          by_cases c : i < kl.length
          · have h1 : (kl.map V.ref ++ [V.ref NM])[i]? = some (.ref kl[i]) := by
              rw [List.getElem?_append_left (by rw [List.length_map]; exact c), List.getElem?_map, List.getElem?_eq_getElem c]
              rfl
            rw [h1] at hy
            have hk := List.getElem?_eq_getElem c
            obtain ⟨zs, hz, ex⟩ := paired_at tR.p hk
            have hm := List.getElem_mem c
            have ap := apk _ hm
            obtain ⟨o1, o2, o3⟩ := ok' zs (List.mem_of_getElem? hz)
            exact ⟨kl[i], zs, (Option.some.inj hy).symm, ex, ap.1, ap.2.1, ap.2.2.1, ap.2.2.2, fun w => nDYk (w ▸ hm), fun w => nWk (w ▸ hm), fun w => nLk (w ▸ hm), o1, by omega, o3, .inr ⟨fun w => nmK (w ▸ hm), hk, hz⟩⟩
          · have e : i = kl.length := by omega
            subst e
            rw [List.getElem?_append_right (by rw [List.length_map]; exact Nat.le_refl _), List.length_map, Nat.sub_self] at hy
            exact ⟨NM, nms', (Option.some.inj hy).symm, yN, nmD.1, nmD.2.1, nmD.2.2.1, nmD.2.2.2.1, nmD.2.2.2.2.1, nmD.2.2.2.2.2, nLN.symm, n1, n2, on, .inl ⟨nmK, rfl, rfl⟩⟩
        obtain ⟨q, zs, rfl, xq, a1, a2, a3, a4, a5, a6, a7, l1, l2', ozs, alt⟩ := hq
        refine set_sl (σ' := [some (.ref a), some (.int wide), some (.ref D), some (.ref W), y4, some (.ref q), y6, some (.ref L3), some (.ref wx), none, none, some (.int far), none]) rfl ?_
        refine ⟨_, rfl, a, g, _, rfl, tR.z.b, by omega, fun tz R1x tx1 tl1 B1x s1x => ?_⟩
        have t1x := tR.draw B1x s1x
        have h11 : ("abcxyz01234" : Str).length = 11 := by decide +kernel
        refine ⟨_, _, rfl, rfl, Nat.le_of_lt (small1000 (by rw [h11]; omega)), 11, rfl, _, rfl, ?_, ?_⟩
        · refine Nat.le_of_lt (small1000 ?_)
          have e : ∀ s : Str, s.length = s.cps.toList.length := fun s => by rw [Array.length_toList]; rfl
          have e2 : (tz ++ ("abcxyz01234" : Str)).cps.toList = tz.cps.toList ++ ("abcxyz01234" : Str).cps.toList := TL.tl_append _ _
          rw [e, e2, List.length_append, ← e, ← e, h11]
          omega
        have okx := ext_tx tx1 tl1 (t := "x") (.inl rfl)
        have oky := ext_tx tx1 tl1 (t := "y") (.inr rfl)
        have lct : (cutS (tz ++ ("abcxyz01234" : Str)) none (some 11)).length ≤ 100 := by
          refine Nat.le_trans (cutS_length _ _ _) ?_
          have e : ∀ s : Str, s.length = s.cps.toList.length := fun s => by rw [Array.length_toList]; rfl
          have e2 : (tz ++ ("abcxyz01234" : Str)).cps.toList = tz.cps.toList ++ ("abcxyz01234" : Str).cps.toList := TL.tl_append _ _
          rw [e, e2, List.length_append, ← e, ← e, h11]
          omega
        generalize cutS (tz ++ ("abcxyz01234" : Str)) none (some 11) = tt at okx oky lct ⊢
        refine set_sl (σ' := [some (.ref a), some (.int wide), some (.ref D), some (.ref W), some (.str tt), some (.ref q), y6, some (.ref L3), some (.ref wx), none, none, some (.int far), none]) rfl ?_
        have xq1 := xq.draw s1x
        refine ⟨_, rfl, .inl ⟨rfl, _, SqL.of xq1.e⟩, "xy", rfl, fun C nC => ?_⟩
        have xC := t1x.z.new (o := .lst []) nC
        refine lc_build walk_str nC (fun j ys R => R = R1x ∧ ys = (("xy" : Str).cps.toList.take j).map fun c => V.str (tt ++ (⟨#[c]⟩ : Str))) ⟨rfl, rfl⟩ (fun _ _ _ _ _ => trivial) ?_ ?_
        · rintro j ys x Ra Rb hj e ly ⟨ec, rfl⟩ ⟨rfl, c, hc, rfl⟩
          have h2 : ("xy" : Str).cps.toList.length = 2 := by decide +kernel
          have h2' : ("xy" : Str).cps.size = 2 := by decide +kernel
          have hc2 : ("xy" : Str).cps.toList[j]? = some c := by rw [Array.getElem?_toList]; exact hc
          obtain ⟨g1, g2⟩ := List.getElem?_eq_some_iff.mp hc2
          refine ⟨rfl, yes ?_⟩
          have l1' : (⟨#[c]⟩ : Str).length = 1 := rfl
          refine ⟨_, rfl, _, rfl, _, _, rfl, rfl, Nat.le_of_lt (small1000 (by rw [l1']; omega)), LcNx.add e ly (by omega) ⟨ec, ?_⟩⟩
          rw [List.take_succ_eq_append_getElem g1, List.map_append, g2]
          rfl
        rintro ys R2x e2x l2x ⟨ec2, rfl⟩
        have s2x : Same R1x R2x := cd_is0 ec2
        have t2x := t1x.same s2x
        have xq2 := xq1.same s2x
        have exy : ((("xy" : Str).cps.toList.take ("xy" : Str).cps.size).map fun c => V.str (tt ++ (⟨#[c]⟩ : Str))) = [tt ++ ("x" : Str), tt ++ ("y" : Str)].map V.str := by
          have e1 : ("xy" : Str).cps.toList.take ("xy" : Str).cps.size = [120, 121] := by decide +kernel
          have e2 : (⟨#[120]⟩ : Str) = "x" := by decide +kernel
          have e3 : (⟨#[121]⟩ : Str) = "y" := by decide +kernel
          rw [e1, List.map_cons, List.map_cons, List.map_nil, e2, e3]
          rfl
        rw [exy] at e2x
        refine ⟨q, C, _, _, rfl, rfl, xq2.e, e2x, Nat.le_of_lt (small1000 (by rw [List.length_map, List.length_map]; show zs.length + 2 ≤ 1000; omega)), ?_⟩
        have e3x : zs.map V.str ++ [tt ++ ("x" : Str), tt ++ ("y" : Str)].map V.str = (zs ++ [tt ++ ("x" : Str), tt ++ ("y" : Str)]).map V.str := by rw [List.map_append]
        rw [e3x]
        have ozs' : ∀ z ∈ zs ++ [tt ++ ("x" : Str), tt ++ ("y" : Str)], Tx z := fun z hz => by
          rcases List.mem_append.mp hz with h | h
          · exact ozs z h
          · simp only [List.mem_cons, List.not_mem_nil, or_false] at h
            rcases h with rfl | rfl
            · exact okx
            · exact oky
        have lzs' : (zs ++ [tt ++ ("x" : Str), tt ++ ("y" : Str)]).length = zs.length + 2 := by rw [List.length_append]; rfl
        generalize zs ++ [tt ++ ("x" : Str), tt ++ ("y" : Str)] = zs' at ozs' lzs' ⊢
        have zq := t2x.z.upq (L1 := zs'.map V.str) xq2 ⟨a1, a2, a3⟩
        have oq : ∀ b, b ≠ q → upd R2x q (.lst (zs'.map V.str)) b = R2x b := fun b hb => upd_ne hb
        have eq' : upd R2x q (.lst (zs'.map V.str)) q = some (.lst (zs'.map V.str)) := upd_same
        have xD2 := ((yD.draw s1x).same s2x).upq (u := .lst (zs'.map V.str)) a5.symm
        have xW2 := ((yW.draw s1x).same s2x).upq (u := .lst (zs'.map V.str)) a6.symm
        have xK2 := t2x.x.upq (u := .lst (zs'.map V.str)) a4.symm
        have yN2 := (yN.draw s1x).same s2x
        have eLR2 : upd R2x q (.lst (zs'.map V.str)) L = some (.lst (kl.map V.ref ++ [V.ref NM])) := by rw [oq L a7.symm]; exact s2x _ _ (ctkeepG s1x eLR La' Lg')
        rcases alt with ⟨hqk, rfl, rfl⟩ | ⟨hqN, hk, hz⟩
        · refine ⟨kys', zs', _, _, rfl, ⟨zq.mono (by omega), tR.lk, xK2, ?_, tR.e⟩, xD2, xW2, ⟨eq', xq2.na, xq2.ng, xq2.h, xq2.nw⟩, eLR2, fun z hz => ⟨(ok' z hz).1, by have := (ok' z hz).2.1; omega, (ok' z hz).2.2⟩, by omega, by omega, ozs'⟩
          have : ∀ {l : List Addr} {zl : List (List Str)}, q ∉ l → Paired (fun q zs => ExA H R2x a g wx q (.lst (zs.map V.str))) l zl → Paired (fun q' zs => ExA H (upd R2x q (.lst (zs'.map V.str))) a g wx q' (.lst (zs.map V.str))) l zl := by
            intro l zl nm p
            induction p with
            | nil => exact .nil
            | cons h t ih =>
              rw [List.mem_cons, not_or] at nm
              exact .cons (h.upq (fun w => nm.1 w.symm)) (ih nm.2)
          exact this hqk t2x.p
        · refine ⟨kys'.set i zs', nms', _, _, rfl, ⟨zq.mono (by omega), tR.lk, xK2, pk_ext oq eq' t2x.p ndk hk, tR.e⟩, xD2, xW2, yN2.upq (fun w => hqN w.symm), eLR2, fun z hz2 => ?_, n1, by omega, on⟩
          rcases List.mem_or_eq_of_mem_set hz2 with h | h
          · exact ⟨(ok' z h).1, by have := (ok' z h).2.1; omega, (ok' z h).2.2⟩
          · subst h
            have hb := (ok' zs (List.mem_of_getElem? hz)).2.1
            exact ⟨by omega, by omega, ozs'⟩
      · rintro σ R ⟨kys', nms', y4, y5, rfl, tR, yD, yW, yN, eLR, ok', n1, n2, on⟩
        rw [llen] at tR ok' n2
        exact ⟨_, rfl, fin R kys' nms' (tR.mono (by omega)) yD yW yN (fun zs hz => ⟨(ok' zs hz).1, by have := (ok' zs hz).2.1; omega, (ok' zs hz).2.2⟩) n1 (by omega) on⟩
end
end Kd

namespace Kd
open PySem PySem.Spec PyProof.Rows L2 LamX
/-! ### values and kinds as data -/
theorem eqv_fv (a b : Fv) : PyData.eqv a.d b.d = decide (a = b) := by
  cases a <;> cases b <;> simp [Fv.d, PyData.eqv] <;> rfl
def fvOk : Fv → Bool
  | .i _ => true
  | .s z => PyData.strOk z
theorem fv_lay {a : Fv} (h : fvOk a = true) : a.d.canLay0 = true ∧ a.d.depth = 0 := by
  cases a with
  | i z => exact ⟨rfl, rfl⟩
  | s z => exact ⟨h, rfl⟩
section
variable {P : Program} {w : World} {K : PySem.W.Frag} {mg : Str → Option Value} {base : Heap} {f : Addr} {fd : FuncData}
theorem eqv_ints_nil (L : List Int) : PyData.eqv (.list (L.map PyData.int)) (.list []) = L.isEmpty := by
  cases L <;> simp [PyData.eqv, PyData.eqvAll]
def rLenQ (K : PySem.W.Frag) : List V → Hp → VK → Prop := fun xs H Q => ∃ p ys, xs = [.ref p] ∧ (SqL K H p ys ∨ SqT K H p ys) ∧ Q (.int ys.length) H
end
/-! ### the heap without the deck and without tables -/
section
variable {K : PySem.W.Frag} {H H' : Hp} {a g D p : Addr} {n : Nat} {o : HO}
/-! ### what stretches tells, out of the deck -/
/-! ### what stretches tells can be compared -/
theorem optD_lay {o : Option Fv} (h : ∀ v, o = some v → fvOk v = true) : (optD o).canLay0 = true ∧ (optD o).depth = 0 := by
  cases o with
  | none => exact ⟨rfl, rfl⟩
  | some v => exact fv_lay (h v rfl)
theorem getD_ok {fs : List Fv} (h : ∀ v ∈ fs, fvOk v = true) (i : Nat) : fvOk (fs.getD i (.i 0)) = true := by
  rw [List.getD_eq_getElem?_getD]
  cases e : fs[i]? with
  | none => rfl
  | some v => exact h v (List.mem_of_getElem? e)
def KOk (ks : List Kind) : Prop := ∀ k ∈ ks, ∀ v ∈ k.2, fvOk v = true
theorem col_ok {ks : List Kind} (h : KOk ks) (i : Nat) : ∀ v ∈ col i ks, fvOk v = true := fun v hv => by
  unfold col at hv
  obtain ⟨k, hk, rfl⟩ := List.mem_map.mp hv
  exact getD_ok (h k hk) i
theorem unl_ok {cs : List Fv} (h : ∀ v ∈ cs, fvOk v = true) : (∀ v, (unl cs).1 = some v → fvOk v = true) ∧ (∀ v, (unl cs).2 = some v → fvOk v = true) := by
  unfold unl
  cases e : cs.getLast? with
  | none => exact ⟨fun v q => (nomatch q), fun v q => (nomatch q)⟩
  | some l => exact ⟨fun v q => (by cases q; exact h _ (List.mem_of_getLast? e)), fun v q => h v (List.mem_filter.mp (List.mem_of_getLast? q)).1⟩
theorem wv_lay {way : Str} {i : Nat} {ks : List Kind} {op : Option (List Fv)} (h : KOk ks) (ho : ∀ o, op = some o → ∀ v ∈ o, fvOk v = true) : (wvD way i ks op).canLay0 = true ∧ (wvD way i ks op).depth ≤ 1 := by
  unfold wvD
  split
  · obtain ⟨h1, h2⟩ := optD_lay (o := op.map fun o => o.getD i (.i 0)) fun v q => by
      cases op with
      | none => cases q
      | some o => cases q; exact getD_ok (ho o rfl) i
    exact ⟨h1, by omega⟩
  · split
    · obtain ⟨u1, u2⟩ := unl_ok (col_ok h i)
      obtain ⟨a1, a2⟩ := optD_lay u1
      obtain ⟨b1, b2⟩ := optD_lay u2
      simp [PyData.canLay0, PyData.canLayAll0, PyData.depth, PyData.depthAll, a1, a2, b1, b2]
    · split
      · obtain ⟨h1, h2⟩ := optD_lay (o := (col i ks).head?) fun v q => col_ok h i v (List.mem_of_head? q)
        exact ⟨h1, by omega⟩
      · obtain ⟨h1, h2⟩ := optD_lay (o := (col i ks).getLast?) fun v q => col_ok h i v (List.mem_of_getLast? q)
        exact ⟨h1, by omega⟩
/-! ### kinds as data -/
theorem find_at {ds : List (Str × List (Str × Str))} {i : Nat} {d : Str × List (Str × Str)} (h : ds[i]? = some d) (hn : (ds.map (·.1)).Nodup) : ds.find? (fun e => decide (e.1 = d.1)) = some d := by
  induction ds generalizing i with
  | nil => simp at h
  | cons x r ih =>
    rw [List.map_cons, List.nodup_cons] at hn
    cases i with
    | zero =>
      cases h
      simp
    | succ i =>
      have h2 : r[i]? = some d := h
      have hm : d.1 ∈ r.map (·.1) := List.mem_map_of_mem (List.mem_of_getElem? h2)
      have ne : ¬ x.1 = d.1 := fun e => hn.1 (by rw [e]; exact hm)
      rw [List.find?_cons_of_neg (by simpa using ne)]
      exact ih h2 hn.2
end
end Kd

namespace Kd
open PySem PySem.Spec PyProof.Rows L2 LamX
/-- a world that is drawn from -/
structure FxW (K : PySem.W.Frag) (H : Hp) (a g wx : Addr) (es : WEs) (x : Fx) : Prop where
  f : FxAt K H x
  w : H wx = some (.dK es)
  s : WsE es x
  e : WfE es x
  ap : ∀ b, fxM x b → b ≠ a ∧ b ≠ g
  wa : wx ≠ a
  wg : wx ≠ g
section
variable {K : PySem.W.Frag} {H H' : Hp} {a g wx : Addr} {es : WEs} {x : Fx} {n : Nat}
theorem FxW.draw (h : FxW K H a g wx es x) (t : Two H a g) (s : Same (ct a g H) (ct a g H')) : FxW K H' a g wx es x :=
  ⟨h.f.keep ((t.keepX s).mono fun b hb hd => by
    rcases hd with z | z
    · exact (h.ap b hb).1 z
    · exact (h.ap b hb).2 z), ctkeepG s h.w h.wa h.wg, h.s, h.e, h.ap, h.wa, h.wg⟩
theorem FxW.same (h : FxW K H a g wx es x) (s : Same H H') : FxW K H' a g wx es x := ⟨h.f.same s, s _ _ h.w, h.s, h.e, h.ap, h.wa, h.wg⟩
end
theorem find_ds {ds : Dims} (hu : (ds.map (·.1)).Nodup) {d : Str × List (Str × Str)} (h : d ∈ ds) : ds.find? (fun e => decide (e.1 = d.1)) = some d := find_dim hu h
section
variable {P : Program} {w : World} {K : PySem.W.Frag} {mg : Str → Option Value} {base : Heap} {f : Addr} {fd : FuncData}
/-! ### _law_row -/
def spRow5 (K : PySem.W.Frag) : Sp := fun vs H Q _ => ∃ (a g wx : Addr) (n : Nat) (es : WEs) (x : Fx), vs = [.ref a, .ref wx] ∧ Bag H a g n ∧ n ≤ 9800000 ∧ FxW K H a g wx es x ∧ FxOk x ∧
  ∀ (p : Addr) (r : Rw) (H' : Hp), r.at K H' p → r.ok → r.fits x.ds x.ms = true → Bag H' a g (n + 40) → Same (ct a g H) (ct a g H') → Q (.ref p) H'
abbrev N_l_row : List Str := ["bag", "world", "pick", "date", "at", "keys", "one", "worths", "title", "some", "counts"]
theorem sc_l_row : FnScope N_l_row ["bag", "world"] (defScope s_l_row) := ⟨rfl, rfl, rfl, by decide +kernel, rfl, by decide +kernel, by decide +kernel⟩
/-! slots: 0 bag 1 world 2 pick 3 date 4 at 5 keys 6 one 7 worths 8 title 9 some 10 counts; cells: bag world -/
set_option maxHeartbeats 0 in
theorem ok_row {f1 : Addr} {d1 : FuncData} (F : FnP K "_law_row" "_law_row" s_l_row f fd) (c_draw : Fun P w K mg base "_law_draw" 1 ["bag", "many"] spDraw5 f1 d1) (z_len : mg "len" = none) (z_tuple : mg "tuple" = none) : FnOk P w K mg base CX0 2 f fd ["bag", "world"] (spRow5 K) := by
  refine F.ok sc_l_row (fun vs H Q E h => ?_) (fun cdv A outer s H vs Q E hr h => ?_)
  · obtain ⟨a, g, wx, n, es, x, rfl, _⟩ := h
    rfl
  · obtain ⟨a, g, wx, n, es, x, rfl, hT, hn, fx, ox, k⟩ := h
    have nd := sc_l_row.nd
    have hu := hr.units
    have hu1 : (A.deeper (envOfC "_law_row" (defScope s_l_row) s.heap.objs.size f cdv)).units + 1 < cLine := by omega
    refine ⟨_, PSs.nox (pss_cons (ps_set (i := 2) nd rfl (Or.inl rfl) (pe_call c_draw.G (hr.mono (by decide)) rfl c_draw.g c_draw.k c_draw.b .nil pass0 (pa_cons (pv 0) (pa_cons pe_int pa_nil))))
      (pss_cons (ps_set (i := 3) nd rfl (Or.inl rfl) (pe_ix ix_list (pe_dget (hu_of hr) (pv 1) pe_str (fun _ _ => rfl)) (pe_call c_draw.G (hr.mono (by decide)) rfl c_draw.g c_draw.k c_draw.b .nil pass0 (pa_cons (pv 0) (pa_cons pe_int pa_nil))) (fun _ _ => rfl)))
      (pss_cons (ps_if (pt_cmpR op_lt (pv 2) pe_int (nomark _))
        (pss_cons (ps_set (i := 4) nd rfl (Or.inl rfl) (pe_call c_draw.G (hr.mono (by decide)) rfl c_draw.g c_draw.k c_draw.b .nil pass0 (pa_cons (pv 0) (pa_cons (pe_callB call_len_seq (by rfl) z_len boot_len (pa_cons (pe_dget (hu_of hr) (pv 1) pe_str (fun _ _ => rfl)) pa_nil)) pa_nil))))
        (pss_cons (ps_set (i := 5) nd rfl (Or.inl rfl) (pe_ix ix_list (pe_dget (hu_of hr) (pv 1) pe_str (fun _ _ => rfl)) (pv 4) (fun _ _ => rfl)))
        (pss_cons (ps_set (i := 7) nd rfl (Or.inl rfl) (pe_callTy call_tuple_of (by rfl) z_tuple (by decide +kernel) (pa_cons (pe_lc (own := [("one", 6)]) (g := gName 6) (tt := tYes) (te := tOp (rIxL K) (tDGet (tVar 1) (tC (.str "worths"))) (tCall spDraw5 [] E0 (tCons (tVar 0) (tCons (tC (.int 5)) tNil)))) rfl nd (pi_tup (pe_ix ix_tup (pe_ix ix_list (pe_dget (hu_of hr) (pv 1) pe_str (fun _ _ => rfl)) (pv 4) (fun _ _ => rfl)) pe_int (fun _ _ => rfl))) (blkOk_by (own := [("one", 6)]) (N := N_l_row) (sc := defScope s_l_row) (by decide +kernel))
        (fun _ _ _ _ _ => pg_name (i := 6) nd rfl (Or.inl rfl)) (fun _ _ _ _ _ => pts_nil) (fun _ _ _ _ _ => pe_ix ix_list (pe_dget (hu_of hr) (pv 1) pe_str (fun _ _ => rfl)) (pe_call c_draw.G (hr.mono (by decide)) rfl c_draw.g c_draw.k c_draw.b .nil pass0 (pa_cons (pv 0) (pa_cons pe_int pa_nil))) (fun _ _ => rfl))) pa_nil)))
        (pss_one (ps_ret (pe_tup (pa_cons pe_str (pa_cons (pe_ix ix_tup (pe_ix ix_list (pe_dget (hu_of hr) (pv 1) pe_str (fun _ _ => rfl)) (pv 4) (fun _ _ => rfl)) pe_int (fun _ _ => rfl)) (pa_cons (pe_ix ix_list (pv 5) (pe_call c_draw.G (hr.mono (by decide)) rfl c_draw.g c_draw.k c_draw.b .nil pass0 (pa_cons (pv 0) (pa_cons (pe_callB call_len_seq (by rfl) z_len boot_len (pa_cons (pv 5) pa_nil)) pa_nil))) (fun _ _ => rfl)) (pa_cons (pv 3) (pa_cons (pv 7) pa_nil)))))))))))
        pss_nil)
      (pss_cons (ps_set (i := 8) nd rfl (Or.inl rfl) (pe_ix ix_list (pe_dget (hu_of hr) (pv 1) pe_str (fun _ _ => rfl)) (pe_call c_draw.G (hr.mono (by decide)) rfl c_draw.g c_draw.k c_draw.b .nil pass0 (pa_cons (pv 0) (pa_cons (pe_callB call_len_seq (by rfl) z_len boot_len (pa_cons (pe_dget (hu_of hr) (pv 1) pe_str (fun _ _ => rfl)) pa_nil)) pa_nil))) (fun _ _ => rfl)))
      (pss_cons (ps_if (pt_cmpR op_eq (pv 2) pe_int (nomark _))
        (pss_one (ps_ret (pe_tup (pa_cons pe_str (pa_cons (pv 8) pa_nil)))))
        pss_nil)
      (pss_cons (ps_set (i := 5) nd rfl (Or.inl rfl) (pe_callTy call_tuple_of (by rfl) z_tuple (by decide +kernel) (pa_cons (pe_lc (own := [("some", 9)]) (g := gName 9) (tt := tYes) (te := tOp (rIxL K) (tVar 9) (tCall spDraw5 [] E0 (tCons (tVar 0) (tCons (tCB (rLenQ K) (tCons (tVar 9) tNil)) tNil)))) rfl nd (pi_list (pe_dget (hu_of hr) (pv 1) pe_str (fun _ _ => rfl))) (blkOk_by (own := [("some", 9)]) (N := N_l_row) (sc := defScope s_l_row) (by decide +kernel))
        (fun _ _ _ _ _ => pg_name (i := 9) nd rfl (Or.inl rfl)) (fun _ _ _ _ _ => pts_nil) (fun _ _ _ _ _ => pe_ix ix_list (pv 9) (pe_call c_draw.G (hr.mono (by decide)) rfl c_draw.g c_draw.k c_draw.b .nil pass0 (pa_cons (pv 0) (pa_cons (pe_callB call_len_seq (by rfl) z_len boot_len (pa_cons (pv 9) pa_nil)) pa_nil))) (fun _ _ => rfl))) pa_nil)))
      (pss_cons (ps_set (i := 10) nd rfl (Or.inl rfl) (pe_lst pa_nil))
      (pss_cons (ps_for PassesOwn.never rfl (pi_list (pe_dget (hu_of hr) (pv 1) pe_str (fun _ _ => rfl))) (pg_name (i := 6) nd rfl (Or.inl rfl))
        (pss_one (ps_expr (pe_bm PySem.F.plainAttrs_list PySem.F.slot_list_append PySem.F.type_list_append mt_append (pv 10) (pa_cons (pe_ix ix_list (pe_lst (pa_cons (pe_op op_sub (pe_call c_draw.G (hr.mono (by decide)) rfl c_draw.g c_draw.k c_draw.b .nil pass0 (pa_cons (pv 0) (pa_cons pe_int pa_nil))) pe_int) (pa_cons (pe_op op_add (pe_op op_pow pe_int pe_int) (pe_call c_draw.G (hr.mono (by decide)) rfl c_draw.g c_draw.k c_draw.b .nil pass0 (pa_cons (pv 0) (pa_cons pe_int pa_nil)))) pa_nil))) (pe_op op_fdiv (pe_call c_draw.G (hr.mono (by decide)) rfl c_draw.g c_draw.k c_draw.b .nil pass0 (pa_cons (pv 0) (pa_cons pe_int pa_nil))) pe_int) (fun _ _ => rfl)) pa_nil)))))
      (pss_one (ps_ret (pe_tup (pa_cons pe_str (pa_cons (pv 8) (pa_cons (pv 3) (pa_cons (pv 5) (pa_cons (pe_callTy call_tuple_of (by rfl) z_tuple (by decide +kernel) (pa_cons (pv 10) pa_nil)) pa_nil)))))))))))))))), ?_⟩
    have G := ox.g
    have lxs := fx.f.d.length
    have lkl := fx.f.kk.length
    have lky := ox.kn
    have d1 := G.d1
    have d4 := G.d4
    have m4 := G.m4
    refine ⟨_, rfl, a, g, n, 9, rfl, hT, by omega, by decide, by decide, fun pk R1 pk0 pk1 B1 s1 => ?_⟩
    have fx1 := fx.draw hT.two s1
    refine set_sl (σ' := [some (.ref a), some (.ref wx), some (.int pk), none, none, none, none, none, none, none, none]) rfl ?_
    refine ⟨_, rfl, wx, _, rfl, wd_get fx1.w fx1.e.d, _, rfl, a, g, _, 7, rfl, B1, by omega, by decide, by decide, fun rd R2 rd0 rd1 B2 s2 => ?_⟩
    obtain ⟨jd, rfl⟩ := natB rd0
    have fx2 := fx1.draw B1.two s2
    have s02 := s1.trans s2
    have hjd : jd < x.dys.length := by rw [ox.d7]; omega
    have hday := ox.dn _ (List.getElem_mem hjd)
    refine ⟨x.dy, _, _, _, rfl, rfl, SqL.of fx2.f.dy, atI_nat (by rw [List.getElem?_map, List.getElem?_eq_getElem hjd]; rfl), ?_⟩
    generalize x.dys[jd] = day at hday ⊢
    refine set_sl (σ' := [some (.ref a), some (.ref wx), some (.int pk), some (.int day), none, none, none, none, none, none, none]) rfl ?_
    refine ⟨_, rfl, _, _, rfl, rfl, _, rfl, ite2 (fun c4 => ?_) (fun c4 => nx_of ?_)⟩
    · -- a kind
      refine ⟨_, rfl, _, rfl, wx, _, rfl, wd_get fx2.w fx2.s.d, x.lo, _, rfl, .inl (SqL.of fx2.f.l), a, g, _, _, rfl, B2, by omega, by omega, by omega, fun ra R3 ra0 ra1 B3 s3 => ?_⟩
      obtain ⟨ja, rfl⟩ := natB ra0
      have fx3 := fx2.draw B2.two s3
      have s03 := s02.trans s3
      have hja : ja < x.xs.length := by omega
      refine set_sl (σ' := [some (.ref a), some (.ref wx), some (.int pk), some (.int day), some (.int ja), none, none, none, none, none, none]) rfl ?_
      have hkl : x.kl[ja]? = some (x.kl[ja]'(by omega)) := List.getElem?_eq_getElem (by omega)
      obtain ⟨zs, hzs, hq3⟩ := paired_at fx3.f.kk hkl
      have okz := ox.k1 zs (List.mem_of_getElem? hzs)
      have hqm : fxM x (x.kl[ja]'(by omega)) := .inr (.inr (.inr (.inr (.inr (.inr (List.getElem_mem _))))))
      refine ⟨_, rfl, wx, _, rfl, wd_get fx3.w fx3.e.k, _, rfl, x.ky, _, _, _, rfl, rfl, SqL.of fx3.f.k, atI_nat (by rw [List.getElem?_map, hkl]; rfl), ?_⟩
      generalize x.kl[ja]'(by omega) = q at hq3 hqm hkl ⊢
      refine set_sl (σ' := [some (.ref a), some (.ref wx), some (.int pk), some (.int day), some (.int ja), some (.ref q), none, none, none, none, none]) rfl ?_
      obtain ⟨d, hd, pd, qd, ep, t1, zs2, z1, z2⟩ := paired_at fx3.f.d (List.getElem?_eq_getElem hja)
      have hdm := List.mem_of_getElem? hd
      have l5 := G.al d hdm
      have lz2 := z2.length
      have hxs : x.xs[ja]? = some (.ref pd) := by rw [List.getElem?_eq_getElem hja, ep]
      refine ⟨_, rfl, wx, _, rfl, wd_get fx3.w fx3.s.d, _, rfl, x.lo, _, _, _, rfl, rfl, SqL.of fx3.f.l, atI_nat hxs, pd, _, 1, _, rfl, rfl, t1, atI_nat (j := 1) rfl, qd, rfl, ⟨_, z1⟩, fun D hD => ?_⟩
      obtain ⟨nDa, nDg⟩ := B3.na hD
      refine lc_build (walk_tup (K := K) (a := qd) (xs := zs2)) hD (fun i ys R => ∃ vals : List Fv, ys = vals.map Fv.v ∧ vals.length = i ∧ (∀ v ∈ vals, v.ok) ∧ Bag R a g (n + 3 + i) ∧ Same (ct a g R3) (ct a g R)) ⟨[], rfl, rfl, fun _ h => (nomatch h), B3, Same.refl _⟩ (fun _ _ R _ ⟨_, _, _, _, _, s5⟩ => Same.seqT cd_sub ((B3.two.keep0 s5).seqT z1)) ?_ ?_
      · rintro i ys y H5 H5' hi e5 l5' ⟨vals, rfl, lv, hv, T5, s5⟩ ⟨rfl, hy⟩
        have fx5 := (fx3.draw B3.two s5).same cd_sub
        refine ⟨rfl, yes ?_⟩
        refine ⟨_, rfl, wx, _, rfl, wd_get fx5.w fx5.e.w, _, rfl, a, g, _, 5, rfl, T5.same cd_sub, by omega, by decide, by decide, fun rv H7 rv0 rv1 T7 s7 => ?_⟩
        obtain ⟨jv, rfl⟩ := natB rv0
        have hjv : jv < x.wos.length := by rw [ox.w5]; omega
        have okv := ox.wk _ (List.getElem_mem hjv)
        have fx7 := fx5.draw (T5.same cd_sub).two s7
        refine ⟨x.wo, _, _, _, rfl, rfl, SqL.of fx7.f.wo, atI_nat (by rw [List.getElem?_map, List.getElem?_eq_getElem hjv]; rfl), ?_⟩
        refine LcNx.add (ctkeepG s7 e5 nDa nDg) l5' (by omega) ⟨vals ++ [x.wos[jv]], by rw [List.map_append]; rfl, by rw [List.length_append]; show vals.length + 1 = i + 1; omega, fun y hy => ?_, (T7.cd nDa nDg).mono (by omega), ctcd5 hD s5 s7⟩
        rcases List.mem_append.mp hy with hy | hy
        · exact hv y hy
        · rw [List.mem_singleton.mp hy]
          exact okv
      · rintro ys H5 e5 l5' ⟨vals, rfl, lv, hv, T5, s5⟩
        have T5' := T5.same cd_sub
        have s35 : Same (ct a g R3) (ct a g H5) := s5.trans (ct_same cd_sub)
        refine ⟨D, _, rfl, .inl ⟨SqL.of e5, fun qv nqv => ?_⟩⟩
        generalize e6 : upd H5 qv _ = H6
        obtain ⟨s6, eq6⟩ := new_of nqv e6
        refine set_sl (σ' := [some (.ref a), some (.ref wx), some (.int pk), some (.int day), some (.int ja), some (.ref q), none, some (.ref qv), none, none, none]) rfl ?_
        have s36 := s35.trans (ct_same s6)
        have fx6 := fx3.draw B3.two s36
        have B6 : Bag H6 a g (n + 8) := (T5'.same s6).mono (by omega)
        have t16 := (B3.two.keep0 s36).seqT t1
        have hq6 : H6 q = some (.lst (zs.map V.str)) := ctkeepG s36 hq3 (fx.ap q hqm).1 (fx.ap q hqm).2
        refine ⟨_, rfl, wx, _, rfl, wd_get fx6.w fx6.s.d, _, rfl, x.lo, _, _, _, rfl, rfl, SqL.of fx6.f.l, atI_nat hxs, pd, _, 0, _, rfl, rfl, t16, atI_nat (j := 0) rfl, ?_⟩
        refine ⟨_, rfl, _, rfl, _, rfl, q, _, rfl, .inl (SqL.of hq6), a, g, _, _, rfl, B6, by omega, by rw [List.length_map]; omega, by rw [List.length_map]; omega, fun rk H7 rk0 rk1 B7 s7 => ?_⟩
        rw [List.length_map] at rk1
        obtain ⟨jk, rfl⟩ := natB rk0
        have hjk : jk < zs.length := by omega
        have okk := okz.2.2 _ (List.getElem_mem hjk)
        have hq7 := ctkeepG s7 hq6 (fx.ap q hqm).1 (fx.ap q hqm).2
        refine ⟨q, _, _, _, rfl, rfl, SqL.of hq7, atI_nat (by rw [List.getElem?_map, List.getElem?_eq_getElem hjk]; rfl), ?_⟩
        generalize zs[jk] = key at okk ⊢
        refine ⟨_, rfl, _, rfl, by show 5 ≤ sizeLine; decide, fun p np => ?_⟩
        generalize e8 : upd H7 p _ = H8
        obtain ⟨s8, ep8⟩ := new_of np e8
        have hqv : H8 qv = some (.tup (vals.map Fv.v)) := s8 _ _ (by
          have := (B6.two.keep0 s7).tup eq6
          exact this)
        refine k p (.kind d.1 key day vals) H8 ⟨qv, SqT.of ep8, SqT.of hqv⟩ ⟨(G.dn d hdm).tx, okk, hday, by omega, hv⟩ ?_ ((B7.same s8).mono (by omega)) ((s03.trans s36).trans (s7.trans (ct_same s8)))
        show kfits x.ds d.1 vals.length = true
        unfold kfits
        rw [find_ds G.du hdm]
        exact decide_eq_true (by omega)
    · -- a fact, or one to be forgotten
      refine ⟨_, rfl, wx, _, rfl, wd_get fx2.w fx2.e.n, _, rfl, _, rfl, wx, _, rfl, wd_get fx2.w fx2.e.n, x.nm, _, rfl, .inl (SqL.of fx2.f.nm), a, g, _, _, rfl, B2, by omega, ?_, ?_, fun rn R3 rn0 rn1 B3 s3 => ?_⟩
      · rw [List.length_map]; have := ox.n1; omega
      · rw [List.length_map]; have := ox.n2; omega
      rw [List.length_map] at rn1
      obtain ⟨jn, rfl⟩ := natB rn0
      have hjn : jn < x.nms.length := by omega
      have okn := ox.nx _ (List.getElem_mem hjn)
      have fx3 := fx2.draw B2.two s3
      have s03 := s02.trans s3
      refine ⟨x.nm, _, _, _, rfl, rfl, SqL.of fx3.f.nm, atI_nat (by rw [List.getElem?_map, List.getElem?_eq_getElem hjn]; rfl), ?_⟩
      generalize x.nms[jn] = title at okn ⊢
      refine set_sl (σ' := [some (.ref a), some (.ref wx), some (.int pk), some (.int day), none, none, none, none, some (.str title), none, none]) rfl ?_
      refine ⟨_, rfl, rfl, _, rfl, ite2 (fun c8 => ?_) (fun c8 => nx_of ?_)⟩
      · refine ⟨_, rfl, by show 2 ≤ sizeLine; decide, fun p np => ?_⟩
        generalize e8 : upd R3 p _ = H8
        obtain ⟨s8, ep8⟩ := new_of np e8
        exact k p (.forget title) H8 (SqT.of ep8) okn rfl ((B3.same s8).mono (by omega)) (s03.trans (ct_same s8))
      refine ⟨_, rfl, wx, _, rfl, wd_get fx3.w fx3.e.k, x.ky, rfl, ⟨_, SqL.of fx3.f.k⟩, fun D hD => ?_⟩
      obtain ⟨nDa, nDg⟩ := B3.na hD
      refine lc_build (walk_list (K := K) (a := x.ky) (xs := x.kl.map V.ref)) hD (fun i ys R => ∃ kk : List Str, ys = kk.map V.str ∧ kk.length = i ∧ (∀ z ∈ kk, Tx z) ∧ Bag R a g (n + 3 + i) ∧ Same (ct a g R3) (ct a g R)) ⟨[], rfl, rfl, fun _ h => (nomatch h), B3, Same.refl _⟩ (fun _ _ R _ ⟨_, _, _, _, _, s5⟩ => SqL.of (cd_sub _ _ (fx3.draw B3.two s5).f.k)) ?_ ?_
      · rintro i ys y H5 H5' hi e5 l5' ⟨kk, rfl, lv, hv, T5, s5⟩ ⟨rfl, hy⟩
        rw [List.length_map] at hi
        rw [List.getElem?_map] at hy
        obtain ⟨q, hq, rfl⟩ := Option.map_eq_some_iff.mp hy
        have fx5 := (fx3.draw B3.two s5).same cd_sub
        obtain ⟨zs, hzs, hq5⟩ := paired_at fx5.f.kk hq
        have okz := ox.k1 zs (List.mem_of_getElem? hzs)
        have hqm : fxM x q := .inr (.inr (.inr (.inr (.inr (.inr (List.mem_of_getElem? hq))))))
        refine ⟨rfl, yes ?_⟩
        refine ⟨_, rfl, _, rfl, _, rfl, q, _, rfl, .inl (SqL.of hq5), a, g, _, _, rfl, T5.same cd_sub, by omega, by rw [List.length_map]; omega, by rw [List.length_map]; omega, fun rk H7 rk0 rk1 T7 s7 => ?_⟩
        rw [List.length_map] at rk1
        obtain ⟨jk, rfl⟩ := natB rk0
        have hjk : jk < zs.length := by omega
        have okk := okz.2.2 _ (List.getElem_mem hjk)
        have hq7 := ctkeepG s7 hq5 (fx.ap q hqm).1 (fx.ap q hqm).2
        refine ⟨q, _, _, _, rfl, rfl, SqL.of hq7, atI_nat (by rw [List.getElem?_map, List.getElem?_eq_getElem hjk]; rfl), ?_⟩
        refine LcNx.add (ctkeepG s7 e5 nDa nDg) l5' (by omega) ⟨kk ++ [zs[jk]], by rw [List.map_append]; rfl, by rw [List.length_append]; show kk.length + 1 = i + 1; omega, fun y hy => ?_, (T7.cd nDa nDg).mono (by omega), ctcd5 hD s5 s7⟩
        rcases List.mem_append.mp hy with hy | hy
        · exact hv y hy
        · rw [List.mem_singleton.mp hy]
          exact okk
      · rintro ys H5 e5 l5' ⟨kk, rfl, lv, hv, T5, s5⟩
        rw [List.length_map] at lv T5
        have T5' := T5.same cd_sub
        have s35 : Same (ct a g R3) (ct a g H5) := s5.trans (ct_same cd_sub)
        refine ⟨D, _, rfl, .inl ⟨SqL.of e5, fun qk nqk => ?_⟩⟩
        generalize e6 : upd H5 qk _ = H6
        obtain ⟨s6, eq6⟩ := new_of nqk e6
        refine set_sl (σ' := [some (.ref a), some (.ref wx), some (.int pk), some (.int day), none, some (.ref qk), none, none, some (.str title), none, none]) rfl ?_
        have s36 := s35.trans (ct_same s6)
        have B6 : Bag H6 a g (n + 7) := (T5'.same s6).mono (by omega)
        refine ⟨by show 0 ≤ sizeLine; decide, fun C nC => ?_⟩
        obtain ⟨nCa, nCg⟩ := B6.na nC
        generalize e7 : upd H6 C _ = H7
        obtain ⟨s7, eC⟩ := new_of nC e7
        have B7 := B6.same s7
        have s37 := s36.trans (ct_same s7)
        have fx7 := fx3.draw B3.two s37
        have s07 := s03.trans s37
        have eqk7 := s7 _ _ eq6
        have Cq : C ≠ qk := ne_of eC eqk7 (fun z => nomatch z)
        have hC0 := none_back (s03.trans s36) nC nCa nCg
        refine set_sl (σ' := [some (.ref a), some (.ref wx), some (.int pk), some (.int day), none, some (.ref qk), none, none, some (.str title), none, some (.ref C)]) rfl ?_
        have Cm : x.mo ≠ C := ne_of_none ((fx3.draw B3.two s36).f.m) nC
        refine ⟨_, rfl, wx, _, rfl, wd_get fx7.w fx7.s.s, x.mo, rfl, ⟨_, SqL.of fx7.f.m⟩, ?_⟩
        refine for_list (K := K) (a := x.mo) (xs := x.ms.map V.str) (fun i σ R => ∃ (cs : List Int) (y6 : Option V), σ = [some (.ref a), some (.ref wx), some (.int pk), some (.int day), none, some (.ref qk), y6, none, some (.str title), none, some (.ref C)] ∧ R C = some (.lst (cs.map V.int)) ∧ cs.length = i ∧ (∀ c ∈ cs, Nu c) ∧ Bag R a g (n + 7 + 3 * i) ∧ Same (ct a g H) (ct a g R) ∧ R qk = some (.tup (kk.map V.str)) ∧ R x.mo = some (.lst (x.ms.map V.str)))
          ⟨[], _, rfl, eC, rfl, fun _ h => (nomatch h), B7, s07, eqk7, fx7.f.m⟩ (fun _ _ _ _ ⟨_, _, _, _, _, _, _, _, _, z⟩ => SqL.of z) ?_ ?_
        · rintro i y σ R hy ⟨cs, y6, rfl, hC, lc, oc, BR, sR, hqk, hmo⟩
          have hi : i < x.ms.length := by
            have := (List.getElem?_eq_some_iff.mp hy).1
            rw [List.length_map] at this
            exact this
          obtain ⟨z, rfl, hz⟩ := strs_at hy
          refine set_sl (σ' := [some (.ref a), some (.ref wx), some (.int pk), some (.int day), none, some (.ref qk), some (.str z), none, some (.str title), none, some (.ref C)]) rfl ?_
          refine ⟨_, rfl, .inl ⟨rfl, _, SqL.of hC⟩, _, rfl, a, g, _, 9, rfl, BR, by omega, by decide, by decide, fun r1 R1' r10 r11 B1' s1' => ?_⟩
          refine ⟨_, _, rfl, rfl, _, _, rfl, rfl, ⟨by decide, by decide, by decide⟩, _, rfl, a, g, _, 9, rfl, B1', by omega, by decide, by decide, fun r2 R2' r20 r21 B2' s2' => ?_⟩
          refine ⟨_, _, rfl, rfl, by show 2 ≤ sizeLine; decide, fun pc npc => ?_⟩
          obtain ⟨pca, pcg⟩ := B2'.na npc
          generalize e3 : upd R2' pc _ = R3'
          obtain ⟨s3', epc⟩ := new_of npc e3
          refine ⟨_, rfl, a, g, _, 6, rfl, B2'.same s3', by omega, by decide, by decide, fun r3 R4' r30 r31 B4' s4' => ?_⟩
          refine ⟨_, _, rfl, rfl, ⟨by decide, by decide⟩, ?_⟩
          have hj : ∃ j : Nat, j < 2 ∧ r3 / 5 = (j : Int) := by
            have h1 : 0 ≤ r3 / 5 := Int.ediv_nonneg r30 (by decide)
            have h2 : r3 / 5 < 2 := by omega
            exact ⟨(r3 / 5).toNat, by omega, by omega⟩
          obtain ⟨j, hj2, ej⟩ := hj
          obtain ⟨cv, hcv, okc⟩ : ∃ c : Int, ([V.int (r1 - 3), V.int ((10 : Int) ^ ((58 : Int).toNat) + r2)] : List V)[j]? = some (.int c) ∧ Nu c := by
            have : j = 0 ∨ j = 1 := by omega
            rcases this with rfl | rfl
            · exact ⟨_, rfl, nuB (Nat.le_trans (show (r1 - 3).natAbs ≤ 9 by omega) (by decide))⟩
            · refine ⟨_, rfl, nuB ?_⟩
              have e : ((10 : Int) ^ ((58 : Int).toNat)) = 10000000000000000000000000000000000000000000000000000000000 := by decide
              rw [e]
              omega
          refine ⟨pc, _, _, _, rfl, rfl, SqL.of (ctkeepG s4' epc pca pcg), (show atI _ (r3 / 5) = _ by rw [ej]; exact atI_nat hcv), ?_⟩
          have sall := ((s1'.trans s2').trans (ct_same s3')).trans s4'
          have hC4 := ctkeepG sall hC nCa nCg
          refine ⟨C, _, _, rfl, rfl, hC4, small1000 (by rw [List.length_map]; omega), ?_⟩
          refine ⟨cs ++ [cv], _, rfl, by rw [upd_same, List.map_append]; rfl, by rw [List.length_append]; show cs.length + 1 = i + 1; omega, fun c hc => ?_, (B4'.updo nCa nCg).mono (by omega), ctupd5 (sR.trans sall) hC0, ?_, ?_⟩
          · rcases List.mem_append.mp hc with h | h
            · exact oc c h
            · rw [List.mem_singleton.mp h]; exact okc
          · rw [upd_ne Cq.symm]
            exact (BR.two.keep0 sall).tup hqk
          · rw [upd_ne Cm]
            have hm := fx.ap x.mo (.inr (.inl rfl))
            exact ctkeepG sall hmo hm.1 hm.2
        · rintro σ R ⟨cs, y6, rfl, hC, lc, oc, BR, sR, hqk, hmo⟩
          rw [List.length_map] at lc BR
          refine ⟨_, rfl, _, rfl, _, rfl, _, rfl, C, _, rfl, .inl ⟨SqL.of hC, fun qn nqn => ?_⟩⟩
          generalize e8 : upd R qn _ = R8
          obtain ⟨s8, eqn⟩ := new_of nqn e8
          refine ⟨by show 5 ≤ sizeLine; decide, fun p np => ?_⟩
          generalize e9 : upd R8 p _ = R9
          obtain ⟨s9, ep⟩ := new_of np e9
          refine k p (.fact title day kk cs) R9 ⟨qk, qn, SqT.of ep, SqT.of (s9 _ _ (s8 _ _ hqk)), SqT.of (s9 _ _ eqn)⟩ ⟨okn, hday, ⟨by omega, hv⟩, by omega, oc⟩ ?_ (((BR.same s8).same s9).mono (by omega)) (sR.trans (ct_same (s8.trans s9)))
          show (decide (kk.length = x.ds.length) && decide (cs.length = x.ms.length)) = true
          rw [decide_eq_true (by omega), decide_eq_true lc]
          rfl
end
end Kd

namespace Kd
open PySem PySem.Spec PyProof.Rows L2 LamX
def Wm.ks (W : Wm) (t : Th) : List Kind := (lk W.kinds t).getD []
def Wm.put (W : Wm) : Rw → Wm
  | .kind d key day vals => { W with kinds := pt W.kinds (d, key) (pt (W.ks (d, key)) day vals), rows := W.rows ++ [.kind d key day vals] }
  | .fact name day keys nums => { W with facts := pt W.facts name ⟨day, keys, nums⟩, rows := W.rows ++ [.fact name day keys nums] }
  | .forget name => { W with facts := dp W.facts name, rows := W.rows ++ [.forget name] }
def Wm.takes (W : Wm) : Rw → Bool
  | .forget name => (lk W.facts name).isSome
  | _ => true
structure WmOk (W : Wm) (n : Nat) : Prop where
  kl : W.kinds.length ≤ n
  ki : ∀ e ∈ W.kinds, e.2.length ≤ n
  fl : W.facts.length ≤ n
  rl : W.rows.length ≤ n
theorem Wm.ks_le {W : Wm} {n : Nat} (h : WmOk W n) (t : Th) : (W.ks t).length ≤ n := by
  unfold Wm.ks
  cases e : lk W.kinds t with
  | none => exact Nat.zero_le _
  | some ks => exact h.ki _ (lk_mem e)
theorem WmOk.put {W : Wm} {n : Nat} (h : WmOk W n) (r : Rw) : WmOk (W.put r) (n + 1) := by
  cases r with
  | kind d key day vals =>
    refine ⟨Nat.le_trans (pt_length _ _ _) (Nat.succ_le_succ h.kl), fun e he => ?_, Nat.le_succ_of_le h.fl, ?_⟩
    · rcases mem_pt he with rfl | ⟨he, _⟩
      · exact Nat.le_trans (pt_length _ _ _) (Nat.succ_le_succ (Wm.ks_le h _))
      · exact Nat.le_succ_of_le (h.ki e he)
    · show (W.rows ++ [_]).length ≤ n + 1
      rw [List.length_append]
      exact Nat.succ_le_succ h.rl
  | fact name day keys nums =>
    refine ⟨Nat.le_succ_of_le h.kl, fun e he => Nat.le_succ_of_le (h.ki e he), Nat.le_trans (pt_length _ _ _) (Nat.succ_le_succ h.fl), ?_⟩
    show (W.rows ++ [_]).length ≤ n + 1
    rw [List.length_append]
    exact Nat.succ_le_succ h.rl
  | forget name =>
    refine ⟨Nat.le_succ_of_le h.kl, fun e he => Nat.le_succ_of_le (h.ki e he), Nat.le_trans (dp_length _ _) (Nat.le_succ_of_le h.fl), ?_⟩
    show (W.rows ++ [_]).length ≤ n + 1
    rw [List.length_append]
    exact Nat.succ_le_succ h.rl
section
variable {P : Program} {w : World} {K : PySem.W.Frag} {mg : Str → Option Value} {base : Heap} {f : Addr} {fd : FuncData} {H H' : Hp} {wx kd fc rw : Addr} {es : WEs} {ka : Th → Addr} {fo : Str → Addr} {rs : List V} {W : Wm}
theorem keep_put {a : Addr} {o u : HO} (e : H a = some o) (c : Chg o) (eH : upd H a u = H') : Keep (fun b => b ≠ a) H H' := fun b v eb tb q => by
  by_cases z : b = a
  · rw [z, e] at eb
    cases eb
    exact q.elim (fun q => absurd q c.notT) fun q => absurd z q
  · rw [← eH, upd_ne z]; exact eb
theorem WdX.newKind {t : Th} {d0 : Addr} (h : WdX K H wx es kd fc rw ka fo rs W) (e : lk W.kinds t = none) (hd : H d0 = some (.dK [])) (n1 : ∀ e ∈ W.kinds, ka e.1 ≠ d0) (n2 : d0 ≠ wx ∧ d0 ≠ fc)
    (eH : upd H kd (.dT (putK (W.kinds.map fun e => (thK e.1, V.ref (ka e.1))) (thK t) (.ref d0))) = H') : WdX K H' wx es kd fc rw (fun t' => if t' = t then d0 else ka t') fo rs { W with kinds := pt W.kinds t [] } := by
  have k := keep_put h.hk trivial eH
  have nd : d0 ≠ kd := ne_of hd h.hk (fun z => nomatch z)
  refine ⟨k.at h.hx trivial (ne_of h.hx h.hk (fun z => nomatch z)), h.ek, h.ef, h.er, ?_, fun x hx => ?_, fun x hx y hy => ?_, k.at h.hf trivial (ne_of h.hf h.hk (fun z => nomatch z)), fun x hx => (h.fi x hx).keep k, k.at h.hr trivial (ne_of h.hr h.hk (fun z => nomatch z)), PySem.Paired.mono (fun _ _ => RwRef.keep k) h.ri, h.xf, fun x hx => ?_⟩
  · rw [← eH, upd_same]
    congr 2
    rw [map_pt (r := fun t => V.ref (ka t)) (r' := fun t' => V.ref (if t' = t then d0 else ka t')) thK_inj (fun t' h => by rw [if_neg h]), if_pos rfl]
  · rcases mem_pt hx with rfl | ⟨hx, ne⟩
    · show InnerAt K H' (if t = t then d0 else ka t) _
      rw [if_pos rfl]
      exact ⟨[], k.at hd trivial nd, .nil⟩
    · show InnerAt K H' (if x.1 = t then d0 else ka x.1) _
      rw [if_neg ne]
      obtain ⟨kvs, a2, a3⟩ := h.kk x hx
      exact InnerAt.keep (M := fun b => b ≠ kd) (ne_of a2 h.hk (fun z => nomatch z)) k ⟨kvs, a2, a3⟩
  · show (if x.1 = t then d0 else ka x.1) = (if y.1 = t then d0 else ka y.1) → x.1 = y.1
    rcases mem_pt hx with rfl | ⟨hx, ne⟩
    · rcases mem_pt hy with rfl | ⟨hy, ne2⟩
      · intro _; rfl
      · rw [if_pos rfl, if_neg ne2]
        exact fun z => absurd z.symm (n1 y hy)
    · rcases mem_pt hy with rfl | ⟨hy, ne2⟩
      · rw [if_pos rfl, if_neg ne]
        exact fun z => absurd z (n1 x hx)
      · rw [if_neg ne, if_neg ne2]
        exact h.ki x hx y hy
  · show (if x.1 = t then d0 else ka x.1) ≠ wx ∧ (if x.1 = t then d0 else ka x.1) ≠ fc
    rcases mem_pt hx with rfl | ⟨hx, ne⟩
    · rw [if_pos rfl]; exact n2
    · rw [if_neg ne]; exact h.kx x hx
theorem WdX.putKind {t : Th} {q : Addr} {ks : List Kind} {ivs : List (L2.Key × V)} {day : Int} {vals : List Fv} (h : WdX K H wx es kd fc rw ka fo rs W) (e : lk W.kinds t = some ks) (hd : H (ka t) = some (.dK ivs)) (pi : Paired (KvAt K H) ivs ks) (hq : SqT K H q (vals.map Fv.v))
    (eH : upd H (ka t) (.dK (putK ivs (Sum.inl day) (.ref q))) = H') : WdX K H' wx es kd fc rw ka fo rs { W with kinds := pt W.kinds t (pt ks day vals) } := by
  have k := keep_put hd trivial eH
  have kx := h.kx _ (lk_mem e)
  refine ⟨k.at h.hx trivial kx.1.symm, h.ek, h.ef, h.er, ?_, fun x hx => ?_, fun x hx y hy => ?_, k.at h.hf trivial kx.2.symm, fun x hx => (h.fi x hx).keep k, k.at h.hr trivial (ne_of h.hr hd (fun z => nomatch z)), PySem.Paired.mono (fun _ _ => RwRef.keep k) h.ri, h.xf, fun x hx => ?_⟩
  · rw [map_pt_old (r := fun t => V.ref (ka t)) e]
    exact k.at h.hk trivial (ne_of h.hk hd (fun z => nomatch z))
  · rcases mem_pt hx with rfl | ⟨hx, ne⟩
    · refine ⟨_, by rw [← eH]; exact upd_same, ?_⟩
      exact paired_put (g := Sum.inl) (fun a b z => Sum.inl.inj z) (R := fun v (b : List Fv) => ∃ q, v = .ref q ∧ SqT K H' q (b.map Fv.v)) ⟨q, rfl, k.seqT hq⟩ (PySem.Paired.mono (fun _ _ => KvAt.keep k) pi)
    · obtain ⟨kvs, a2, a3⟩ := h.kk x hx
      exact InnerAt.keep (M := fun b => b ≠ ka t) (fun z => ne (h.ki x hx (t, ks) (lk_mem e) z)) k ⟨kvs, a2, a3⟩
  · intro z
    rcases mem_pt hx with rfl | ⟨hx, ne⟩
    · rcases mem_pt hy with rfl | ⟨hy, ne2⟩
      · rfl
      · exact h.ki (t, ks) (lk_mem e) y hy z
    · rcases mem_pt hy with rfl | ⟨hy, ne2⟩
      · exact h.ki x hx (t, ks) (lk_mem e) z
      · exact h.ki x hx y hy z
  · rcases mem_pt hx with rfl | ⟨hx, _⟩
    · exact kx
    · exact h.kx x hx
theorem WdX.facts {fs : List (Str × Fct)} {fo' : Str → Addr} (h : WdX K H wx es kd fc rw ka fo rs W) (hi : ∀ e ∈ fs, FctAt K H (fo' e.1) e.2) (eH : upd H fc (.dK (fs.map fun e => ((Sum.inr e.1 : L2.Key), V.ref (fo' e.1)))) = H') : WdX K H' wx es kd fc rw ka fo' rs { W with facts := fs } := by
  have k := keep_put h.hf trivial eH
  exact ⟨k.at h.hx trivial h.xf, h.ek, h.ef, h.er, k.at h.hk trivial (ne_of h.hk h.hf (fun z => nomatch z)), fun x hx => (h.kk x hx).keep (M := fun b => b ≠ fc) (h.kx x hx).2 k, h.ki, by rw [← eH]; exact upd_same, fun x hx => (hi x hx).keep k, k.at h.hr trivial (ne_of h.hr h.hf (fun z => nomatch z)), PySem.Paired.mono (fun _ _ => RwRef.keep k) h.ri, h.xf, h.kx⟩
theorem WdX.addRow {p : Addr} {r : Rw} (h : WdX K H wx es kd fc rw ka fo rs W) (hp : r.at K H p) (eH : upd H rw (.lst (rs ++ [.ref p])) = H') : WdX K H' wx es kd fc rw ka fo (rs ++ [.ref p]) { W with rows := W.rows ++ [r] } := by
  have k := keep_put h.hr trivial eH
  refine ⟨k.at h.hx trivial (ne_of h.hx h.hr (fun z => nomatch z)), h.ek, h.ef, h.er, k.at h.hk trivial (ne_of h.hk h.hr (fun z => nomatch z)), fun x hx => ?_, h.ki, k.at h.hf trivial (ne_of h.hf h.hr (fun z => nomatch z)), fun x hx => (h.fi x hx).keep k, by rw [← eH]; exact upd_same, PairedB (PySem.Paired.mono (fun _ _ => RwRef.keep k) h.ri) ⟨p, rfl, k.rw_at hp⟩, h.xf, h.kx⟩
  obtain ⟨kvs, a2, a3⟩ := h.kk x hx
  exact InnerAt.keep (M := fun b => b ≠ rw) (ne_of a2 h.hr (fun z => nomatch z)) k ⟨kvs, a2, a3⟩
theorem fo_map (fs : List (Str × Fct)) (fo : Str → Addr) (name : Str) (fct : Fct) (q : Addr) : putK (fs.map fun e => ((Sum.inr e.1 : L2.Key), V.ref (fo e.1))) (Sum.inr name) (.ref q) = (pt fs name fct).map fun e => ((Sum.inr e.1 : L2.Key), V.ref (if e.1 = name then q else fo e.1)) := by
  rw [map_pt (r := fun t => V.ref (fo t)) (r' := fun t => V.ref (if t = name then q else fo t)) inr_inj (fun t' h => by rw [if_neg h]), if_pos rfl]
end
end Kd

namespace Kd
open PySem PySem.Spec PyProof.Rows L2 LamX
theorem threeB : ∀ z ∈ (["kind", "fact", "forget"] : List Str), SeqAt.shaped (.str z) = true := by
  intro z hz
  simp only [List.mem_cons, List.not_mem_nil, or_false] at hz
  rcases hz with rfl | rfl | rfl <;> decide +kernel
theorem eqvB_str (a b : Str) : PyData.eqv (.str a) (.str b) = decide (a = b) := by
  simp only [PyData.eqv]
  rw [Bool.eq_iff_iff]
  simp
def wordB : Rw → Str
  | .kind .. => "kind"
  | .fact .. => "fact"
  | .forget .. => "forget"
theorem at_wordB {K : PySem.W.Frag} {H : Hp} {p : Addr} : ∀ {r : Rw}, r.at K H p → ∃ vs, SqT K H p (.str (wordB r) :: vs)
  | .kind .., ⟨_, h, _⟩ => ⟨_, h⟩
  | .fact .., ⟨_, _, h, _⟩ => ⟨_, h⟩
  | .forget .., h => ⟨_, h⟩
theorem wordB_by {K : PySem.W.Frag} {H : Hp} {σ : L2.St} {i : Nat} {p : Addr} {r : Rw} {z : Str} {Q : Bool → Hp → Prop} (hz : SeqAt.shaped (.str z) = true) (h : r.at K H p) (e : σ[i]? = some (some (.ref p))) (k : Q (decide (wordB r = z)) H) : tTest (tOp (rEqD K) (tOp (rIxT K) (tVar i) (tC (.int 0))) (tC (.str z))) σ H Q := by
  obtain ⟨vs, h⟩ := at_wordB h
  have hw : SeqAt.shaped (.str (wordB r)) = true := threeB _ (by cases r <;> simp [wordB])
  refine ⟨_, e, p, _, _, _, rfl, rfl, h, atI_nat (j := 0) rfl, .str _, .str _, .str _, .str _, hw, hz, _, rfl, ?_⟩
  rw [eqvB_str]
  exact k
section
variable {P : Program} {w : World} {K : PySem.W.Frag} {mg : Str → Option Value} {base : Heap} {f : Addr} {fd : FuncData}
/-! ### _law_kept -/
def spKept (K : PySem.W.Frag) : Sp := fun vs H Q _ => ∃ (wx p kd fc rw : Addr) (es : WEs) (ka : Th → Addr) (fo : Str → Addr) (rs : List V) (W : Wm) (r : Rw), vs = [.ref wx, .ref p] ∧ WdX K H wx es kd fc rw ka fo rs W ∧ r.at K H p ∧ WmOk W 900 ∧
  (W.takes r = false → Q (.bl false) H) ∧
  (W.takes r = true → ∀ (ka' : Th → Addr) (fo' : Str → Addr) (rs' : List V) (H' : Hp), (∀ T : TB, Fr T (wdM wx kd fc rw ka W) H H') → (∀ b, wdM wx kd fc rw ka' (W.put r) b → wdM wx kd fc rw ka W b ∨ H b = none) → WdX K H' wx es kd fc rw ka' fo' rs' (W.put r) → Q (.bl true) H')
abbrev N_l_kept : List Str := ["world", "row", "worths_by_day"]
theorem sc_l_kept : FnScope N_l_kept ["world", "row"] (defScope s_l_kept) := ⟨rfl, rfl, rfl, by decide +kernel, rfl, by decide +kernel, by decide +kernel⟩
/-! slots: 0 world 1 row 2 worths_by_day; cells:  -/
set_option maxHeartbeats 0 in
theorem ok_kept (F : FnP K "_law_kept" "_law_kept" s_l_kept f fd) : FnOk P w K mg base CX0 1 f fd ["world", "row"] (spKept K) := by
  refine F.ok sc_l_kept (fun vs H Q E h => ?_) (fun cdv A outer s H vs Q E hr h => ?_)
  · obtain ⟨wx, p, kd, fc, rw, es, ka, fo, rs, W, r, rfl, _⟩ := h
    rfl
  · obtain ⟨wx, p, kd, fc, rw, es, ka, fo, rs, W, r, rfl, X, hp, wk, kF, kT⟩ := h
    have nd := sc_l_kept.nd
    have hu := hr.units
    have hu1 : (A.deeper (envOfC "_law_kept" (defScope s_l_kept) s.heap.objs.size f cdv)).units + 1 < cLine := by omega
    refine ⟨_, PSs.nox (pss_cons (ps_if (pt_cmpR (op_eqD hr.units) (pe_ix ix_tup (pv 1) pe_int (fun _ _ => rfl)) pe_str (nomark _))
        (pss_cons (ps_set (i := 2) nd rfl (Or.inl rfl) (pe_bm PySem.F.plainAttrs_dict PySem.F.slot_dict_setdefault PySem.F.type_dict_setdefault (KdDt.mt_setdT (hu_of hr)) (pe_dget (hu_of hr) (pv 0) pe_str (fun _ _ => rfl)) (pa_cons (pe_slice sl_tupA (pv 1) (po_some pe_int) (po_some pe_int)) (pa_cons pe_dnewK pa_nil))))
        (pss_one (ps_dput (hu_of hr) (pv 2) (pe_ix ix_tup (pv 1) pe_int (fun _ _ => rfl)) (pe_ix ix_tup (pv 1) pe_int (fun _ _ => rfl)) rfl)))
        (pss_one (ps_if (pt_cmpR (op_eqD hr.units) (pe_ix ix_tup (pv 1) pe_int (fun _ _ => rfl)) pe_str (nomark _))
          (pss_one (ps_dput (hu_of hr) (pe_dget (hu_of hr) (pv 0) pe_str (fun _ _ => rfl)) (pe_ix ix_tup (pv 1) pe_int (fun _ _ => rfl)) (pe_slice sl_tupA (pv 1) (po_some pe_int) po_none) rfl))
          (pss_one (ps_if (pt_cmp (pc_dnotin (hu_of hr) (pe_ix ix_tup (pv 1) pe_int (fun _ _ => rfl)) (pe_dget (hu_of hr) (pv 0) pe_str (fun _ _ => rfl))))
            (pss_one (ps_ret pe_bl))
            (pss_one (ps_expr (pe_dpop1 (pe_dget (hu_of hr) (pv 0) pe_str (fun _ _ => rfl)) (pe_ix ix_tup (pv 1) pe_int (fun _ _ => rfl)) ⟨rfl, rfl, rfl, rfl⟩))))))))
      (pss_cons (ps_expr (pe_bm PySem.F.plainAttrs_list PySem.F.slot_list_append PySem.F.type_list_append mt_append (pe_dget (hu_of hr) (pv 0) pe_str (fun _ _ => rfl)) (pa_cons (pv 1) pa_nil)))
      (pss_one (ps_ret pe_bl)))), ?_⟩
    have rl : rs.length ≤ 900 := by rw [X.ri.length]; exact wk.rl
    refine stm_cut (fun σ' R => ∃ (y2 : Option V) (ka' : Th → Addr) (fo' : Str → Addr) (W1 : Wm), σ' = [some (.ref wx), some (.ref p), y2] ∧ W.takes r = true ∧ W.put r = { W1 with rows := W1.rows ++ [r] } ∧ WdX K R wx es kd fc rw ka' fo' rs W1 ∧ r.at K R p ∧ (∀ T : TB, Fr T (wdM wx kd fc rw ka W) H R) ∧ (∀ b, (b = wx ∨ b = kd ∨ b = fc ∨ b = rw ∨ ∃ e ∈ W1.kinds, b = ka' e.1) → wdM wx kd fc rw ka W b ∨ H b = none)) (fun nx hnx => ?_) ?_
    · refine wordB_by (threeB _ (by simp)) hp rfl ?_
      cases r with
      | kind d key day vals =>
        obtain ⟨qv, h1, h2⟩ := id hp
        refine iteT0 rfl ?_
        refine ⟨_, rfl, wx, _, rfl, wd_get X.hx X.ek, .inr (.inr (.inl ⟨rfl, .inr ⟨_, X.hk⟩⟩)), _, rfl, 1, rfl, 3, rfl, p, _, rfl, h1, fun z => absurd z (show ¬ (HT.sIx 5 0 (some 1) = 0 ∧ HT.sIx 5 5 (some 3) = 5) by decide), fun _ t nt => ?_⟩
        generalize e1 : upd H t _ = H1
        obtain ⟨s1, et⟩ := new_of nt e1
        intro d0 n0
        generalize e2 : upd H1 d0 _ = H2
        obtain ⟨s2, ed0⟩ := new_of n0 e2
        have s02 := s1.trans s2
        have X2 := X.same s02
        have nd0 : H d0 = none := by
          cases c : H d0 with
          | none => rfl
          | some o => rw [s1 _ _ c] at n0; cases n0
        have ln : (W.kinds.map fun e => (thK e.1, V.ref (ka e.1))).length < sizeLine := small1000 (by rw [List.length_map]; have := wk.kl; omega)
        refine ⟨kd, t, _, thK (d, key), .ref d0, rfl, rfl, X2.hk, s2 _ _ et, ln, fun v hv => ?_, fun hv => ?_⟩
        · rw [val_map (r := fun t => V.ref (ka t)) thK_inj] at hv
          obtain ⟨ks, k1, k2⟩ := Option.map_eq_some_iff.mp hv
          subst k2
          have ek : W.ks (d, key) = ks := by unfold Wm.ks; rw [k1]; rfl
          obtain ⟨ivs, hi, pi⟩ := X2.kk _ (lk_mem k1)
          have li : ivs.length < sizeLine := small1000 (by rw [pi.length]; have := wk.ki _ (lk_mem k1); omega)
          refine set_sl (σ' := [some (.ref wx), some (.ref p), some (.ref (ka (d, key)))]) rfl ?_
          have h1' := Same.seqT s02 h1
          refine ⟨_, rfl, p, _, 4, _, rfl, rfl, h1', atI_nat (j := 4) rfl, _, rfl, _, rfl, p, _, 3, _, rfl, rfl, h1', atI_nat (j := 3) rfl, ka (d, key), _, rfl, DPut.k (k := Sum.inl day) hi li, ?_⟩
          generalize e3 : upd H2 (ka (d, key)) _ = H3
          have X3 := X2.putKind (day := day) k1 hi pi (Same.seqT s02 h2) e3
          have f3 : ∀ T : TB, Fr T (wdM wx kd fc rw ka W) H H3 := fun T => (Fr.of s02).trans (by rw [← e3]; exact Fr.put hi trivial (.inr (.inr (.inr (.inr ⟨_, lk_mem k1, rfl⟩)))))
          refine hnx _ _ ⟨_, ka, fo, _, rfl, rfl, by show ({ W with kinds := pt W.kinds (d, key) (pt (W.ks (d, key)) day vals), rows := W.rows ++ [.kind d key day vals] } : Wm) = _; rw [ek], X3, (f3 []).keep0.rw_at hp, f3, fun b hb => ?_⟩
          rcases hb with z | z | z | z | ⟨e, he, z⟩
          · exact .inl (.inl z)
          · exact .inl (.inr (.inl z))
          · exact .inl (.inr (.inr (.inl z)))
          · exact .inl (.inr (.inr (.inr (.inl z))))
          · rcases mem_pt he with rfl | ⟨he, _⟩
            · exact .inl (.inr (.inr (.inr (.inr ⟨_, lk_mem k1, z⟩))))
            · exact .inl (.inr (.inr (.inr (.inr ⟨e, he, z⟩))))
        · rw [val_map (r := fun t => V.ref (ka t)) thK_inj] at hv
          have k1 : lk W.kinds (d, key) = none := Option.map_eq_none_iff.mp hv
          have ek : W.ks (d, key) = [] := by unfold Wm.ks; rw [k1]; rfl
          generalize e3 : upd H2 kd _ = H3
          have X3 := X2.newKind k1 ed0 (fun e he z => by
            obtain ⟨kvs, a2, _⟩ := X.kk e he
            rw [z, nd0] at a2
            cases a2) ⟨fun z => by (rw [z, X.hx] at nd0; cases nd0), fun z => by (rw [z, X.hf] at nd0; cases nd0)⟩ e3
          have f3 : ∀ T : TB, Fr T (wdM wx kd fc rw ka W) H H3 := fun T => (Fr.of s02).trans (by rw [← e3]; exact Fr.put X2.hk trivial (.inr (.inl rfl)))
          have k3 := (f3 []).keep0
          have h1' := k3.seqT h1
          refine set_sl (σ' := [some (.ref wx), some (.ref p), some (.ref d0)]) rfl ?_
          have hd3 : H3 d0 = some (.dK []) := by
            rw [← e3, upd_ne (ne_of ed0 X2.hk (fun z => nomatch z))]
            exact ed0
          have hkd : (if ((d, key) : Th) = (d, key) then d0 else ka (d, key)) = d0 := if_pos rfl
          have hl3 : lk (pt W.kinds (d, key) ([] : List Kind)) (d, key) = some [] := by rw [lk_pt, if_pos rfl]
          refine ⟨_, rfl, p, _, 4, _, rfl, rfl, h1', atI_nat (j := 4) rfl, _, rfl, _, rfl, p, _, 3, _, rfl, rfl, h1', atI_nat (j := 3) rfl, d0, _, rfl, DPut.k (k := Sum.inl day) hd3 (by decide), ?_⟩
          generalize e4 : upd H3 d0 _ = H4
          have X4 := X3.putKind (H' := H4) (t := (d, key)) (day := day) hl3 (by rw [hkd]; exact hd3) .nil (k3.seqT h2) (by rw [hkd]; exact e4)
          have f4 : ∀ T : TB, Fr T (wdM wx kd fc rw ka W) H H4 := fun T => by
            have g1 : Fr T (fun b => wdM wx kd fc rw ka W b ∨ b = d0) H3 H4 := by rw [← e4]; exact Fr.put hd3 trivial (.inr rfl)
            have g2 : Fr T (fun b => wdM wx kd fc rw ka W b ∨ b = d0) H H4 := ((f3 T).mono fun b hb => .inl hb).trans g1
            exact g2.drop nd0
          refine hnx _ _ ⟨_, _, fo, _, rfl, rfl, ?_, X4, (f4 []).keep0.rw_at hp, f4, fun b hb => ?_⟩
          · show ({ W with kinds := pt W.kinds (d, key) (pt (W.ks (d, key)) day vals), rows := _ } : Wm) = { W with kinds := pt (pt W.kinds (d, key) []) (d, key) (pt [] day vals), rows := _ }
            rw [ek, pt_pt_new k1]
          · rcases hb with z | z | z | z | ⟨e, he, z⟩
            · exact .inl (.inl z)
            · exact .inl (.inr (.inl z))
            · exact .inl (.inr (.inr (.inl z)))
            · exact .inl (.inr (.inr (.inr (.inl z))))
            · by_cases c : e.1 = (d, key)
              · right
                rw [z]
                show H (if e.1 = (d, key) then d0 else ka e.1) = none
                rw [if_pos c]
                exact nd0
              · left
                have hm : e ∈ W.kinds := by
                  rcases mem_pt he with rfl | ⟨he, _⟩
                  · exact absurd rfl c
                  · rcases mem_pt he with rfl | ⟨he, _⟩
                    · exact absurd rfl c
                    · exact he
                exact .inr (.inr (.inr (.inr ⟨e, hm, by rw [z]; exact if_neg c⟩)))
      | fact name day keys nums =>
        refine iteF0 (show ¬ decide (Str.ofString "fact" = Str.ofString "kind") = true by decide +kernel) ?_
        refine wordB_by (threeB _ (by simp)) hp rfl ?_
        refine iteT0 rfl ?_
        obtain ⟨q1, q2, h1, h2, h3⟩ := id hp
        refine ⟨_, rfl, 2, rfl, p, _, rfl, h1, fun z => absurd z (show ¬ (HT.sIx 5 0 (some 2) = 0 ∧ HT.sIx 5 5 none = 5) by decide), fun _ t nt => ?_⟩
        generalize e1 : upd H t _ = H1
        obtain ⟨s1, et⟩ := new_of nt e1
        have X1 := X.same s1
        have lf : (W.facts.map fun e => ((Sum.inr e.1 : L2.Key), V.ref (fo e.1))).length < sizeLine := small1000 (by rw [List.length_map]; have := wk.fl; omega)
        refine ⟨_, rfl, wx, _, rfl, wd_get X1.hx X1.ef, _, rfl, p, _, 1, _, rfl, rfl, Same.seqT s1 h1, atI_nat (j := 1) rfl, fc, _, rfl, DPut.k (k := Sum.inr name) X1.hf lf, ?_⟩
        rw [fo_map W.facts fo name ⟨day, keys, nums⟩ t]
        generalize e2 : upd H1 fc _ = H2
        have X2 := X1.facts (fs := pt W.facts name ⟨day, keys, nums⟩) (fo' := fun z => if z = name then t else fo z) (fun e he => by
          rcases mem_pt he with rfl | ⟨he, ne⟩
          · show FctAt K H1 (if name = name then t else fo name) _
            rw [if_pos rfl]
            exact ⟨q1, q2, SqT.of et, Same.seqT s1 h2, Same.seqT s1 h3⟩
          · show FctAt K H1 (if e.1 = name then t else fo e.1) _
            rw [if_neg ne]
            exact X1.fi e he) e2
        have f2 : ∀ T : TB, Fr T (wdM wx kd fc rw ka W) H H2 := fun T => (Fr.of s1).trans (by rw [← e2]; exact Fr.put X1.hf trivial (.inr (.inr (.inl rfl))))
        exact hnx _ _ ⟨_, ka, _, _, rfl, rfl, rfl, X2, (f2 []).keep0.rw_at hp, f2, fun b hb => .inl hb⟩
      | forget name =>
        refine iteF0 (show ¬ decide (Str.ofString "forget" = Str.ofString "kind") = true by decide +kernel) ?_
        refine wordB_by (threeB _ (by simp)) hp rfl ?_
        refine iteF0 (show ¬ decide (Str.ofString "forget" = Str.ofString "fact") = true by decide +kernel) ?_
        have h1 : SqT K H p [.str "forget", .str name] := hp
        refine ⟨_, rfl, p, _, 1, _, rfl, rfl, h1, atI_nat (j := 1) rfl, _, rfl, wx, _, rfl, wd_get X.hx X.ef, fc, _, rfl, DGet.k (k := Sum.inr name) X.hf, _, rfl, ?_⟩
        rw [val_map (r := fun t => V.ref (fo t)) inr_inj]
        cases c : lk W.facts name with
        | none =>
          refine iteT0 rfl ?_
          exact kF (by show (lk W.facts name).isSome = false; rw [c]; rfl)
        | some fct =>
          refine iteF0 (by simp) ?_
          refine ⟨_, rfl, wx, _, rfl, wd_get X.hx X.ef, fc, rfl, .inl ⟨_, .inl X.hf⟩, _, rfl, p, _, 1, _, rfl, rfl, h1, atI_nat (j := 1) rfl, _, Sum.inr name, .ref (fo name), X.hf, rfl, by rw [val_map (r := fun t => V.ref (fo t)) inr_inj, c]; rfl, ?_⟩
          rw [← map_dp (r := fun t => V.ref (fo t)) inr_inj]
          generalize e2 : upd H fc _ = H2
          have X2 := X.facts (fs := dp W.facts name) (fo' := fo) (fun e he => X.fi e (mem_dp.mp he).1) e2
          have f2 : ∀ T : TB, Fr T (wdM wx kd fc rw ka W) H H2 := fun T => by rw [← e2]; exact Fr.put X.hf trivial (.inr (.inr (.inl rfl)))
          exact hnx _ _ ⟨_, ka, _, _, rfl, by show (lk W.facts name).isSome = true; rw [c]; rfl, rfl, X2, (f2 []).keep0.rw_at hp, f2, fun b hb => .inl hb⟩
    · rintro σ' R ⟨y2, ka', fo', W1, rfl, tk, ep, X1, hp1, f1, nw1⟩
      refine ⟨_, rfl, wx, _, rfl, wd_get X1.hx X1.er, .inl ⟨rfl, _, SqL.of X1.hr⟩, _, rfl, rw, _, _, rfl, rfl, X1.hr, small1000 (by omega), ?_⟩
      generalize e : upd R rw _ = R'
      have X2 := X1.addRow hp1 e
      rw [← ep] at X2
      have f2 : ∀ T : TB, Fr T (wdM wx kd fc rw ka W) H R' := fun T => (f1 T).trans (by rw [← e]; exact Fr.put X1.hr trivial (.inr (.inr (.inr (.inl rfl)))))
      refine kT tk ka' fo' _ R' f2 (fun b hb => ?_) X2
      unfold wdM at hb
      rw [ep] at hb
      exact nw1 b hb
/-! ### _law_house -/
theorem FreshB.from {H H' : Hp} {b : Addr} (s : Same H H') (h : Fresh H' b) : Fresh H b := fun o e => h o (s b o e)
def spHouse5 (K : PySem.W.Frag) (c : Cn) : Sp := fun vs H Q _ => ∃ (wx : Addr) (es : WEs) (x : Fx), vs = [.ref wx] ∧ FxAt K H x ∧ H wx = some (.dK es) ∧ WsE es x ∧ Good x.ds x.ms ∧ Tabs (tbS c.Pt) H ∧
  ∀ H' xh M, Fr (tbS c.Pt) (Fresh H) H H' → (∀ b, M b → Fresh H b) → HoO K c H' M xh x.ds x.ms Hs.none → Q (.ref xh) H'
abbrev N_l_house : List Str := ["world"]
theorem sc_l_house : FnScope N_l_house ["world"] (defScope s_l_house) := ⟨rfl, rfl, rfl, by decide +kernel, rfl, by decide +kernel, by decide +kernel⟩
/-! slots: 0 world; cells:  -/
set_option maxHeartbeats 0 in
theorem ok_house5 {c : Cn} {e fI fH : Addr} {fdI fdH : FuncData} (F : FnP K "_law_house" "_law_house" s_l_house f fd) (PC : PlanC P w K mg base c.CP e fI fdI) (HC : ClsC P w K mg base "House" 7 ["self", "plan"] (spHInit K c) c.CH fH fdH) (z_list : mg "list" = none) : FnOk P w K mg base CX0 9 f fd ["world"] (spHouse5 K c) := by
  obtain ⟨i3, v3, b3⟩ := init_b3 PC.I
  refine F.ok sc_l_house (fun vs H Q E h => ?_) (fun cdv A outer s H vs Q E hr h => ?_)
  · obtain ⟨wx, es, x, rfl, _⟩ := h
    rfl
  · obtain ⟨wx, es, x, rfl, fx, hw, we, ok, hTb, k⟩ := h
    have nd := sc_l_house.nd
    have hu := hr.units
    have hu1 : (A.deeper (envOfC "_law_house" (defScope s_l_house) s.heap.objs.size f cdv)).units + 1 < cLine := by omega
    refine ⟨_, PSs.nox (pss_one (ps_ret (pe_make HC.M HC.G (hr.mono (by decide)) rfl HC.g HC.b .nil pass0 (pa_cons (pe_make PC.M PC.GI (hr.mono (by decide)) rfl PC.gC b3 v3 pass0 (pa_cons (pe_callTy call_list_of (by rfl) z_list (by decide +kernel) (pa_cons (pe_dget (hu_of hr) (pv 0) pe_str (fun _ _ => rfl)) pa_nil)) (pa_cons (pe_callTy call_list_of (by rfl) z_list (by decide +kernel) (pa_cons (pe_dget (hu_of hr) (pv 0) pe_str (fun _ _ => rfl)) pa_nil)) pa_nil))) pa_nil)))), ?_⟩
    refine ⟨_, rfl, wx, _, rfl, wd_get hw we.d, x.lo, _, rfl, .inl (SqL.of fx.l), fun hp nh => ?_⟩
    generalize e1 : upd H hp _ = H1
    obtain ⟨s1, ehp⟩ := new_of nh e1
    refine ⟨_, rfl, wx, _, rfl, wd_get (s1 _ _ hw) we.s, x.mo, _, rfl, .inl (SqL.of (s1 _ _ fx.m)), fun bp nb => ?_⟩
    generalize e2 : upd H1 bp _ = H8
    obtain ⟨s2, ebp⟩ := new_of nb e2
    have t38 := s1.trans s2
    intro xp dxp nxp ndxp nexp
    have sx : Same H8 (upd (upd H8 dxp (.own xp)) xp (.ins c.CP dxp [])) := fun b o q => by rw [upd_ne (ne_of_none q nxp), upd_ne (ne_of_none q ndxp)]; exact q
    refine ⟨xp, dxp, hp, bp, x.ds, x.ms, rfl, upd_same, ⟨x.xs, SqL.of (sx _ _ (s2 _ _ ehp)), PySem.Paired.mono (fun _ _ h => DimAt.same (t38.trans sx) h) fx.d⟩, .inl (SqL.of (sx _ _ ebp)), ok.szd, ok.ff, fun H9 pa pb px npa npb e1 e2 e3 e4 s9 => ⟨rfl, ?_⟩⟩
    have s89 : Same H8 H9 := fun b o e => cd_sub _ _ (s9 b o (cd_of (sx b o e) (ne_of_none e nxp)))
    have P9 : PlanAt K c.CP H9 xp x.ds x.ms := ⟨dxp, pa, pb, px, e1, e2, e3, e4⟩
    have t39 : Same H H9 := t38.trans s89
    intro xh dxh nx ndx nex
    have sy : Same H9 (upd (upd H9 dxh (.own xh)) xh (.ins c.CH dxh [])) := fun b o q => by rw [upd_ne (ne_of_none q nx), upd_ne (ne_of_none q ndx)]; exact q
    refine ⟨xh, dxh, xp, x.ds, x.ms, rfl, upd_same, P9.same sy, ok.szd, ok.ff, fun G M f10 m10 O => ⟨rfl, ?_⟩⟩
    have xhF : Fresh H xh := FreshB.from t39 (Fresh.of nx)
    have g10 : Fr (tbS c.Pt) (Fresh H) H G := ((Fr.of (t39.trans sy)).trans f10).mono (fun b z => by rw [z]; exact xhF)
    refine k G xh M g10 (fun b hb => ?_) O
    rcases m10 b hb with z | z
    · rw [z]; exact xhF
    · exact FreshB.from (t39.trans sy) z
end
end Kd

namespace Kd
open PySem PySem.Spec PyProof.Rows L2 LamX
/-! ### openers -/
theorem chg_false {ws : List Str} {o n : List Fv} : chg ws o n = false ↔ ∀ j, j < ws.length → ws.getD j Str.empty = "day" → o.getD j (.i 0) = n.getD j (.i 0) := by
  unfold chg
  rw [List.any_eq_false]
  constructor
  · intro h j hj hd
    have := h j (List.mem_range.mpr hj)
    unfold dif at this
    rw [decide_eq_true hd, Bool.true_and] at this
    simpa using this
  · intro h j hj
    unfold dif
    have hj := List.mem_range.mp hj
    by_cases hd : ws.getD j Str.empty = "day"
    · rw [h j hj hd]
      simp
    · rw [decide_eq_false hd]
      simp
theorem chg_trans {ws : List Str} {a b c : List Fv} (h1 : chg ws a b = false) (h2 : chg ws b c = false) : chg ws a c = false :=
  chg_false.mpr fun j hj hd => (chg_false.mp h1 j hj hd).trans (chg_false.mp h2 j hj hd)
theorem chg_true {ws : List Str} {a b c : List Fv} (h1 : chg ws a b = false) (h2 : chg ws b c = true) : chg ws a c = true := by
  cases e : chg ws a c with
  | true => rfl
  | false =>
    have h3 : chg ws b c = false := chg_false.mpr fun j hj hd => (chg_false.mp h1 j hj hd).symm.trans (chg_false.mp e j hj hd)
    rw [h3] at h2
    cases h2
theorem snoc_ind {α : Type} {p : List α → Prop} (h0 : p []) (h1 : ∀ l a, p l → p (l ++ [a])) (l : List α) : p l := by
  have h : ∀ m : List α, p m.reverse := fun m => by
    induction m with
    | nil => exact h0
    | cons a m ih =>
      rw [List.reverse_cons]
      exact h1 _ _ ih
  have := h l.reverse
  rwa [List.reverse_reverse] at this
/-- the last opener has the values of the way day of the last kind; neighbours are unlike in one such value -/
theorem opn_facts (ws : List Str) (S : List Kind) : (∀ k, S.getLast? = some k → ∃ o, (opn ws S).getLast? = some o ∧ chg ws o.2 k.2 = false) ∧ ∀ i x y, (opn ws S)[i]? = some x → (opn ws S)[i + 1]? = some y → chg ws x.2 y.2 = true := by
  refine snoc_ind (p := fun S => (∀ k, S.getLast? = some k → ∃ o, (opn ws S).getLast? = some o ∧ chg ws o.2 k.2 = false) ∧ ∀ i x y, (opn ws S)[i]? = some x → (opn ws S)[i + 1]? = some y → chg ws x.2 y.2 = true) ?_ ?_ S
  · exact ⟨fun k h => (nomatch h), fun i x y h => by simp [opn] at h⟩
  · rintro l k ⟨h1, h2⟩
    cases e : l.getLast? with
    | none =>
      have e0 : l = [] := List.getLast?_eq_none_iff.mp e
      subst e0
      rw [List.nil_append, opn_one]
      refine ⟨fun k2 hk => ?_, fun i x y hx hy => ?_⟩
      · cases hk
        exact ⟨k, rfl, chg_self ws _⟩
      · simp at hy
    | some p =>
      obtain ⟨o, ho, hc⟩ := h1 p e
      rw [opn_snoc k e]
      by_cases c : chg ws p.2 k.2 = true
      · rw [if_pos c]
        refine ⟨fun k2 hk => ?_, fun i x y hx hy => ?_⟩
        · rw [List.getLast?_concat] at hk
          cases hk
          exact ⟨k, List.getLast?_concat .., chg_self ws _⟩
        · rcases Nat.lt_trichotomy (i + 1) (opn ws l).length with q | q | q
          · rw [List.getElem?_append_left (by omega)] at hx
            rw [List.getElem?_append_left q] at hy
            exact h2 i x y hx hy
          · rw [List.getElem?_append_left (by omega)] at hx
            rw [List.getElem?_append_right (by omega), q, Nat.sub_self] at hy
            cases hy
            rw [List.getLast?_eq_getElem?, ← q, Nat.add_sub_cancel, hx] at ho
            cases ho
            exact chg_true hc c
          · rw [List.getElem?_eq_none (by rw [List.length_append]; show (opn ws l).length + 1 ≤ i + 1; omega)] at hy
            cases hy
      · rw [if_neg c, List.append_nil]
        refine ⟨fun k2 hk => ?_, h2⟩
        rw [List.getLast?_concat] at hk
        cases hk
        exact ⟨o, ho, chg_trans hc (by simpa using c)⟩
theorem opn_append (ws : List Str) : ∀ (B A : List Kind), A ≠ [] → ∃ X, opn ws (A ++ B) = opn ws A ++ X ∧ ∀ x ∈ X, x ∈ B
  | [], A, _ => ⟨[], by rw [List.append_nil, List.append_nil], fun _ h => nomatch h⟩
  | b :: B, A, h => by
    obtain ⟨X, e1, e2⟩ := opn_append ws B (A ++ [b]) (by simp)
    have e3 : A ++ b :: B = A ++ [b] ++ B := by rw [List.append_assoc]; rfl
    obtain ⟨p, hp⟩ : ∃ p, A.getLast? = some p := by
      cases q : A.getLast? with
      | none => exact absurd (List.getLast?_eq_none_iff.mp q) h
      | some p => exact ⟨p, rfl⟩
    rw [e3, e1, opn_snoc b hp, List.append_assoc]
    refine ⟨_, rfl, fun x hx => ?_⟩
    rcases List.mem_append.mp hx with hx | hx
    · split at hx
      · rw [List.mem_singleton.mp hx]
        exact List.mem_cons_self ..
      · cases hx
    · exact List.mem_cons_of_mem _ (e2 x hx)
theorem opn_sub (ws : List Str) (S : List Kind) : (opn ws S).Sublist S := by
  refine snoc_ind (p := fun S => (opn ws S).Sublist S) (.refl _) (fun l k ih => ?_) S
  cases e : l.getLast? with
  | none =>
    have e0 : l = [] := List.getLast?_eq_none_iff.mp e
    subst e0
    exact .refl _
  | some p =>
    rw [opn_snoc k e]
    split
    · exact List.Sublist.append ih (.refl _)
    · rw [List.append_nil]
      exact ih.trans (List.sublist_append_left ..)
/-- the openers up to a kind's day are those of the kinds up to it -/
theorem opn_upto {ws : List Str} {S : List Kind} (hr : Rise S) {m : Nat} {k : Kind} (hm : S[m]? = some k) : (opn ws S).filter (fun o => decide (o.1 ≤ k.1)) = opn ws (S.take (m + 1)) := by
  obtain ⟨g1, g2⟩ := List.getElem?_eq_some_iff.mp hm
  have hne : S.take (m + 1) ≠ [] := by
    intro z
    have := congrArg List.length z
    rw [List.length_take, List.length_nil] at this
    omega
  obtain ⟨X, e1, e2⟩ := opn_append ws (S.drop (m + 1)) (S.take (m + 1)) hne
  rw [List.take_append_drop] at e1
  rw [e1, List.filter_append]
  have h1 : (opn ws (S.take (m + 1))).filter (fun o => decide (o.1 ≤ k.1)) = opn ws (S.take (m + 1)) := by
    rw [List.filter_eq_self]
    intro o ho
    have ho2 : o ∈ S.take (m + 1) := (opn_sub ws _).subset ho
    obtain ⟨j, hj, ej⟩ := List.mem_iff_getElem.mp ho2
    rw [List.getElem_take] at ej
    rw [List.length_take] at hj
    rcases Nat.lt_or_ge j m with q | q
    · have z := List.pairwise_iff_getElem.mp hr j m (by omega) g1 q
      rw [ej, g2] at z
      exact decide_eq_true (by omega)
    · have : j = m := by omega
      subst this
      rw [← ej, g2]
      exact decide_eq_true (Int.le_refl _)
  have h2 : X.filter (fun o => decide (o.1 ≤ k.1)) = [] := by
    rw [List.filter_eq_nil_iff]
    intro x hx
    obtain ⟨j, hj, ej⟩ := List.mem_iff_getElem.mp (e2 x hx)
    rw [List.getElem_drop] at ej
    rw [List.length_drop] at hj
    have z := List.pairwise_iff_getElem.mp hr m (m + 1 + j) g1 (by omega) (by omega)
    rw [ej, g2] at z
    simp
    omega
  rw [h1, h2, List.append_nil]
theorem rise_of {ks : List Kind} (h : (ks.map (·.1)).Nodup) : Rise (srt ks) := by
  have h1 := srt_le ks
  have h2 : ((srt ks).map (·.1)).Nodup := ((srt_perm ks).map _).nodup_iff.mpr h
  unfold Rise
  rw [List.Nodup, List.pairwise_map] at h2
  exact List.Pairwise.imp₂ (fun a b p q => by omega) h1 h2
/-- two rising lists of the same ints are one -/
theorem rise_eq {a b : List Int} (ha : a.Pairwise (· < ·)) (hb : b.Pairwise (· < ·)) (h : ∀ z, z ∈ a ↔ z ∈ b) : a = b := by
  have na : a.Nodup := ha.imp fun {x y} q => by omega
  have nb : b.Nodup := hb.imp fun {x y} q => by omega
  have p : a.Perm b := (List.perm_ext_iff_of_nodup na nb).mpr h
  exact List.Perm.eq_of_pairwise (le := fun x y : Int => x < y) (fun x y _ _ h1 h2 => by omega) ha hb p
end Kd

/-! the value of an attribute on a day, from the kinds alone -/
namespace Kd
open PySem PySem.Spec PyProof.Rows L2
def upto (day : Int) (S : List Kind) : List Kind := S.filter fun k => decide (k.1 ≤ day)
def valR (way : Str) (i : Nat) (ks : List Kind) (day : Int) : PyData := wvD way i (srt ks) ((upto day (srt ks)).getLast?.map (·.2))
theorem sv_cons (ws : List Str) (ks : List Kind) : (sv ws ks).map (fun s => (s.1, s.2.2)) = (none, vvD ws (srt ks) none) :: (opn ws (srt ks)).map fun o => (some o.1, vvD ws (srt ks) (some o.2)) := by
  unfold sv
  rw [List.map_map, List.range_succ_eq_map, List.map_cons, List.map_map]
  congr 1
  apply List.ext_getElem
  · rw [List.length_map, List.length_map, List.length_range]
  · intro j h1 h2
    rw [List.length_map, List.length_range] at h1
    rw [List.getElem_map, List.getElem_map, List.getElem_range]
    show (some ((opn ws (srt ks)).getD j (0, [])).1, vvD ws (srt ks) (some ((opn ws (srt ks)).getD j (0, [])).2)) = _
    rw [List.getD_eq_getElem?_getD, List.getElem?_eq_getElem h1]
    rfl
theorem last_flt {α β : Type} (g : α → β) (p : β → Bool) (l : List α) : ((l.map g).filter p).getLast? = ((l.filter fun a => p (g a)).getLast?).map g := by
  rw [List.filter_map, List.getLast?_map]
  rfl
theorem sv_last {ws : List Str} {ks : List Kind} {day : Int} {s : Sv} (h : ((sv ws ks).filter fun s => begB day s.1).getLast? = some s) : s.2.2 = vvD ws (srt ks) ((upto day (opn ws (srt ks))).getLast?.map (·.2)) := by
  have h1 := last_flt (fun s : Sv => (s.1, s.2.2)) (fun q => begB day q.1) (sv ws ks)
  rw [sv_cons, show ((sv ws ks).filter fun a => begB day a.1).getLast? = some s from h, List.filter_cons_of_pos (by rfl), List.filter_map] at h1
  have e : (opn ws (srt ks)).filter ((fun q : Option Int × List PyData => begB day q.1) ∘ fun o : Kind => (some o.1, vvD ws (srt ks) (some o.2))) = upto day (opn ws (srt ks)) := rfl
  rw [e] at h1
  cases c : (upto day (opn ws (srt ks))).getLast? with
  | none =>
    rw [List.getLast?_eq_none_iff.mp c] at h1
    have h1 := Option.some.inj h1
    exact (congrArg Prod.snd h1).symm
  | some o =>
    obtain ⟨r, hr⟩ := List.getLast?_eq_some_iff.mp c
    rw [hr, List.map_append, List.map_cons, List.map_nil, ← List.cons_append, List.getLast?_append] at h1
    have h1 := Option.some.inj h1
    exact (congrArg Prod.snd h1).symm
theorem mem_upto {day : Int} {S : List Kind} {k : Kind} : k ∈ upto day S ↔ k ∈ S ∧ k.1 ≤ day := by
  unfold upto
  rw [List.mem_filter, decide_eq_true_iff]
theorem upto_take : ∀ {S : List Kind} (hr : Rise S) (day : Int), ∃ m, upto day S = S.take m
  | [], _, _ => ⟨0, rfl⟩
  | k :: S, hr, day => by
    obtain ⟨m, hm⟩ := upto_take (S := S) (List.Pairwise.of_cons hr) day
    by_cases c : k.1 ≤ day
    · refine ⟨m + 1, ?_⟩
      unfold upto at hm ⊢
      rw [List.filter_cons_of_pos (by simpa using c), hm]
      rfl
    · refine ⟨0, ?_⟩
      unfold upto
      rw [List.filter_cons_of_neg (by simpa using c), List.take_zero]
      rw [List.filter_eq_nil_iff]
      intro x hx
      have := List.rel_of_pairwise_cons hr hx
      simp
      omega
/-- what a version tells is what the kinds tell -/
theorem valR_eq {ws : List Str} {ks : List Kind} {day : Int} {s : Sv} (hn : (ks.map (·.1)).Nodup) (h : ((sv ws ks).filter fun s => begB day s.1).getLast? = some s) {i : Nat} (hi : i < ws.length) : s.2.2[i]? = some (valR (ws.getD i Str.empty) i ks day) := by
  rw [sv_last h]
  unfold vvD
  rw [List.getElem?_map, List.getElem?_range hi]
  show some (wvD _ _ _ _) = some (valR _ _ _ _)
  congr 1
  unfold valR wvD
  by_cases hd : ws.getD i Str.empty = "day"
  · rw [if_pos hd, if_pos hd]
    congr 1
    have hr := rise_of hn
    cases c : (upto day (srt ks)).getLast? with
    | none =>
      have h0 := List.getLast?_eq_none_iff.mp c
      have h1 : upto day (opn ws (srt ks)) = [] := by
        cases q : upto day (opn ws (srt ks)) with
        | nil => rfl
        | cons k r =>
          have hk : k ∈ upto day (opn ws (srt ks)) := by rw [q]; exact List.mem_cons_self ..
          obtain ⟨k1, k2⟩ := mem_upto.mp hk
          have : k ∈ upto day (srt ks) := mem_upto.mpr ⟨(opn_sub ws (srt ks)).subset k1, k2⟩
          rw [h0] at this
          cases this
      rw [h1]
      rfl
    | some k =>
      obtain ⟨m, hm⟩ := upto_take hr day
      rw [hm] at c
      obtain ⟨r, er⟩ := List.getLast?_eq_some_iff.mp c
      have hkm : k ∈ upto day (srt ks) := by rw [hm, er]; simp
      obtain ⟨hk1, hk2⟩ := mem_upto.mp hkm
      -- k stands at a place
      have hlen : (srt ks).take m = (srt ks).take (r.length + 1) := by
        have h1 : ((srt ks).take m).length = r.length + 1 := by rw [er, List.length_append]; rfl
        rw [List.length_take] at h1
        rcases Nat.le_total m (srt ks).length with q | q
        · rw [Nat.min_eq_left q] at h1; rw [h1]
        · rw [Nat.min_eq_right q] at h1; rw [← h1, List.take_of_length_le q, List.take_length]
      have hat : (srt ks)[r.length]? = some k := by
        have h1 : ((srt ks).take (r.length + 1))[r.length]? = some k := by rw [← hlen, er]; simp
        rw [List.getElem?_take_of_lt (Nat.lt_succ_self _)] at h1
        exact h1
      have hup := opn_upto (ws := ws) hr hat
      have hle : ∀ o ∈ upto day (srt ks), o.1 ≤ k.1 := fun o ho => by
        rw [hm, er] at ho
        rcases List.mem_append.mp ho with ho | ho
        · have hp : ((srt ks).take m).Pairwise (fun a b => a.1 < b.1) := List.Pairwise.sublist (List.take_sublist _ _) hr
          rw [er] at hp
          exact Int.le_of_lt (List.pairwise_append.mp hp |>.2.2 o ho k (by simp))
        · rw [List.mem_singleton.mp ho]; exact Int.le_refl _
      have eo : upto day (opn ws (srt ks)) = opn ws ((srt ks).take (r.length + 1)) := by
        rw [← hup]
        unfold upto
        refine List.filter_congr fun o ho => ?_
        have hos := (opn_sub ws (srt ks)).subset ho
        by_cases q : o.1 ≤ day
        · rw [decide_eq_true q, decide_eq_true (hle o (mem_upto.mpr ⟨hos, q⟩))]
        · rw [decide_eq_false q, decide_eq_false (by omega)]
      rw [eo]
      obtain ⟨o, ho, hc⟩ := (opn_facts ws ((srt ks).take (r.length + 1))).1 k (by rw [← hlen]; exact c)
      rw [ho]
      show some (o.2.getD i (.i 0)) = some (k.2.getD i (.i 0))
      rw [chg_false.mp hc i hi hd]
  · rw [if_neg hd, if_neg hd]
end Kd

namespace Kd
open PySem PySem.Spec PyProof.Rows L2 LamX
/-! ### what a version's values are -/
structure ValOk (v : PyData) : Prop where
  l : v.canLay0 = true
  d : v.depth ≤ 1
  n : NoL 2 v
theorem ValOk.sh {d : PyData} (h : ValOk d) : SeqAt.shaped d = true := by
  unfold SeqAt.shaped
  rw [h.l, decide_eq_true (Nat.le_trans h.d (by decide))]
  rfl
theorem Fv.ok.fvOk : ∀ {v : Fv}, v.ok → fvOk v = true
  | .i _, _ => rfl
  | .s _, h => Tx.sok h
theorem sv_vals {ws : List Str} {ks : List Kind} {s : Sv} (h : s ∈ sv ws ks) : s.2.2.length = ws.length := by
  obtain ⟨j, _, rfl⟩ := List.mem_map.mp h
  show (vvD ws _ _).length = _
  unfold vvD
  rw [List.length_map, List.length_range]
theorem valR_ok {way : Str} {i : Nat} {ks : List Kind} {day : Int} (ok : KOk ks) : ValOk (valR way i ks day) := by
  have h1 : KOk (srt ks) := fun k hk => ok k ((srt_perm ks).mem_iff.mp hk)
  obtain ⟨a, b⟩ := wv_lay (way := way) (i := i) (op := (upto day (srt ks)).getLast?.map (·.2)) h1 fun o ho => by
    obtain ⟨k, hk, rfl⟩ := Option.map_eq_some_iff.mp ho
    exact h1 k (mem_upto.mp (List.mem_of_getLast? hk)).1
  exact ⟨a, b, wv_nolist _ _ _ _⟩
section
variable {P : Program} {w : World} {K : PySem.W.Frag} {mg : Str → Option Value} {base : Heap} {f : Addr} {fd : FuncData}
/-! ### value_on -/
structure KsOk (d : Str × List (Str × Str)) (ks : List Kind) : Prop where
  l : ∀ k ∈ ks, k.2.length = d.2.length
  o : KOk ks
  n : ks.length ≤ 200
  d : (ks.map (·.1)).Nodup
def spValOn (K : PySem.W.Frag) (c : Cn) : Sp := fun vs H Q _ => ∃ (x kd : Addr) (n : Str) (ds : Dims) (ms : List Str) (d : Str × List (Str × Str)) (ks : List Kind) (day : Int) (j : Nat), vs = [.ref x, .str n, .ref kd, .int day, .int j] ∧ PlanAt K c.CP H x ds ms ∧ ds.find? (fun d => decide (d.1 = n)) = some d ∧ InnerAt K H kd ks ∧ KsOk d ks ∧ d.2.length ≤ 5 ∧ j < d.2.length ∧ Tabs (tbS c.Pt) H ∧
  ∀ v H', Fr (tbS c.Pt) no H H' → Dp K H' v (valR ((d.2.map (·.2)).getD j Str.empty) j ks day) → Q v H'
abbrev N_value_on : List Str := ["plan", "dimension", "kinds", "day", "place", "versions", "begin", "end", "values", "begun"]
theorem sc_value_on : FnScope N_value_on ["plan", "dimension", "kinds", "day", "place"] (defScope s_value_on) := ⟨rfl, rfl, rfl, by decide +kernel, rfl, by decide +kernel, by decide +kernel⟩
/-! slots: 0 plan 1 dimension 2 kinds 3 day 4 place 5 versions 6 begin 7 end 8 values 9 begun; cells: day -/
theorem ok_valOn {c : Cn} {fS : Addr} {fdS : FuncData} (F : FnP K "value_on" "value_on" s_value_on f fd) (c_stretches : Fun P w K mg base "stretches" 4 ["plan", "dimension", "kinds"] (spStr K c.CP c.Pt) fS fdS) (z_list : mg "list" = none) : FnOk P w K mg base CX0 5 f fd ["plan", "dimension", "kinds", "day", "place"] (spValOn K c) := by
  refine F.ok sc_value_on (fun vs H Q E h => ?_) (fun cdv A outer s H vs Q E hr h => ?_)
  · obtain ⟨x, kd, n, ds, ms, d, ks, day, j, rfl, _⟩ := h
    rfl
  · obtain ⟨x, kd, n, ds, ms, d, ks, day, j, rfl, hp, hd, ⟨ivs, hkd, pk⟩, ok, d5, hj, hT, k⟩ := h
    have nd := sc_value_on.nd
    refine ⟨_, PSs.nox (pss_cons (ps_set (i := 5) nd rfl (Or.inl rfl) (pe_call c_stretches.G (hr.mono (by decide)) rfl c_stretches.g c_stretches.k c_stretches.b .nil pass0 (pa_cons (pv 0) (pa_cons (pv 1) (pa_cons (LiI.pe_listItems rfl (pv 2) rfl z_list (by decide +kernel)) pa_nil)))))
      (pss_cons (ps_setLc (i := 9) (own := [("begin", 6), ("end", 7), ("values", 8)]) (g := gTup K 3 (gCons (gName 6) (gCons (gName 7) (gCons (gName 8) gNil)))) (tt := tOr (tB (tIsN (tVar 6))) (tTest (tOp (rI0 fun i j => .bl (decide (i ≤ j))) (tVar 6) (tVar 3)))) (te := tVar 8) rfl nd rfl rfl (sw_true rfl rfl rfl (by decide +kernel)) (pi_list (pv 5)) (blkOk_by (own := [("begin", 6), ("end", 7), ("values", 8)]) (N := N_value_on) (sc := defScope s_value_on) (by decide +kernel))
        (fun _ _ _ _ _ => pg_tup rfl (pgs_cons (pg_name (i := 6) nd rfl (Or.inl rfl)) (pgs_cons (pg_name (i := 7) nd rfl (Or.inl rfl)) (pgs_cons (pg_name (i := 8) nd rfl (Or.inl rfl)) pgs_nil)))) (fun _ _ _ _ _ => pts_one (PW.pt (pw_or (pt_cmp (pc_isN (pv 6))) (pw_or1 (pt_cmpR op_le (pv 6) (pv 3) (nomark _)))))) (fun _ _ _ _ _ => pv 8))
      (pss_one (ps_ret (pe_ix ix_tup (pe_ix ix_list (pv 9) (pe_un un_neg pe_int) (fun _ _ => rfl)) (pv 4) (fun _ _ => rfl)))))), ?_⟩
    refine ⟨_, rfl, _, rfl, _, rfl, kd, ivs, rfl, hkd, fun H3 l3 tss s23 _ _ _ hl3 pt3 => ?_⟩
    refine ⟨x, l3, n, ds, ms, d, ks, rfl, hp.same s23, hd, ⟨_, SqL.of hl3, kinds_items s23 pt3 pk⟩, ok.l, d5, ok.n, hT.ext s23, fun rv H4 eN T4 ner yex => ?_⟩
    obtain ⟨ys, hys, lys, dys⟩ := yex
    have f04 : Fr (tbS c.Pt) no H H4 := (Fr.of s23).trans (Fr.ext eN T4)
    rw [strL_sv] at dys
    generalize hss : sv (d.2.map (·.2)) ks = ss at dys
    have lss : ss.length ≤ 201 := by rw [← hss]; have := sv_le (d.2.map (·.2)) ks; have := ok.n; omega
    have lyy : ys.length = ss.length := by rw [DpAll.len dys, List.length_map]
    refine set_sl (σ' := [some (.ref x), some (.str n), some (.ref kd), some (.int day), some (.int j), some (.ref rv), none, none, none, none]) rfl ?_
    refine ⟨_, rfl, rv, rfl, ⟨_, SqL.of hys⟩, fun D nD => ?_⟩
    have nol : ∀ (l : List Sv), (∀ s ∈ l, s ∈ ss) → ∀ e ∈ (l.map fun s => PyData.tuple s.2.2), NoL 3 e := fun l hl e he => by
      obtain ⟨s, hs, rfl⟩ := List.mem_map.mp he
      exact sv_nol (by rw [hss]; exact hl s hs)
    refine lc_build (walk_list (K := K) (a := rv) (xs := ys)) nD (fun i zs R => Same H4 R ∧ DpAll K R zs (((ss.take i).filter fun s => begB day s.1).map fun s => PyData.tuple s.2.2)) ⟨Same.refl _, .nil⟩ (fun _ _ _ _ z => SqL.of ((z.1.trans cd_sub) _ _ hys)) ?_ ?_
    · rintro i zs y R R' hi e ly ⟨sm, pz⟩ ⟨rfl, hy⟩
      obtain ⟨dv, hdv, dpv⟩ := DpAll.at_ dys hy
      rw [List.getElem?_map] at hdv
      obtain ⟨sI, hsI, rfl⟩ := Option.map_eq_some_iff.mp hdv
      obtain ⟨q, yv, rfl, hq, dyv⟩ := sv_item dpv
      have dy2 := Dp.same sm _ _ dyv
      have efl := flt_snoc (p := fun s : Sv => begB day s.1) hsI
      refine ⟨q, _, rfl, Same.seqT (sm.trans cd_sub) hq, rfl, _, _, rfl, _, _, rfl, _, _, rfl, rfl, rfl, _, rfl, _, rfl, ?_⟩
      cases hb : sI.1 with
      | none =>
        rw [show ovI none = V.non from rfl]
        refine iteT ?_
        refine ⟨_, rfl, LcNx.add e ly (by omega) ⟨sm, ?_⟩⟩
        rw [efl, if_pos (by unfold begB; rw [hb]), List.map_append]
        exact dpall_snoc pz dy2
      | some b =>
        rw [show ovI (some b) = V.int b from rfl]
        refine iteF ?_
        refine ⟨_, rfl, _, rfl, b, day, rfl, rfl, _, rfl, ?_⟩
        by_cases c : b ≤ day
        · rw [decide_eq_true c]
          refine iteT ⟨_, rfl, LcNx.add e ly (by omega) ⟨sm, ?_⟩⟩
          rw [efl, if_pos (by unfold begB; rw [hb]; exact decide_eq_true c), List.map_append]
          exact dpall_snoc pz dy2
        · rw [decide_eq_false c]
          refine iteF (LcNx.skip e ly ⟨sm, ?_⟩)
          rw [efl, if_neg (by unfold begB; rw [hb]; simp [c]), List.append_nil]
          exact pz
    · rintro zs H5 e5 ly ⟨sm, pz⟩
      rw [lyy, List.take_length] at pz
      have s45 : Same H4 H5 := sm.trans cd_sub
      have pz5 := DpAll.same cd_sub _ _ pz
      refine set_sl (σ' := [some (.ref x), some (.str n), some (.ref kd), some (.int day), some (.int j), some (.ref rv), none, none, none, some (.ref D)]) rfl ?_
      obtain ⟨s0, r0, e0, n0⟩ := sv_head (d.2.map (·.2)) ks
      have hne : (ss.filter fun s => begB day s.1) ≠ [] := by
        rw [← hss, e0, List.filter_cons_of_pos (by unfold begB; rw [n0])]
        exact List.cons_ne_nil _ _
      obtain ⟨sl, hsl⟩ : ∃ sl, (ss.filter fun s => begB day s.1).getLast? = some sl := ⟨_, List.getLast?_eq_some_getLast hne⟩
      obtain ⟨fr, hfr⟩ := List.getLast?_eq_some_iff.mp hsl
      have hmem : sl ∈ ss := (List.mem_filter.mp (by rw [hfr]; simp)).1
      rw [hfr, List.map_append] at pz5
      obtain ⟨za, v, hz, dpl⟩ : ∃ za v, zs = za ++ [v] ∧ Dp K H5 v (.tuple sl.2.2) := by
        have hl := DpAll.len pz5
        rw [List.length_append, List.length_map] at hl
        have hl1 : zs.length - 1 < zs.length := by
          have : ([sl].map fun s : Sv => PyData.tuple s.2.2).length = 1 := rfl
          omega
        obtain ⟨dd, h1, h2⟩ := DpAll.at_ pz5 (List.getElem?_eq_getElem hl1)
        have e1 : zs.getLast? = some zs[zs.length - 1] := by rw [List.getLast?_eq_getElem?]; exact List.getElem?_eq_getElem hl1
        obtain ⟨za, hza⟩ := List.getLast?_eq_some_iff.mp e1
        refine ⟨za, _, hza, ?_⟩
        have e2 : (fr.map fun s : Sv => PyData.tuple s.2.2).length = zs.length - 1 := by
          have : ([sl].map fun s : Sv => PyData.tuple s.2.2).length = 1 := rfl
          rw [List.length_map]
          omega
        rw [List.getElem?_append_right (by omega), e2, Nat.sub_self] at h1
        cases h1
        exact h2
      rw [← hss] at hmem
      have lv := sv_vals hmem
      rw [List.length_map] at lv
      cases dpl with
      | tup ht dall =>
        rename_i tp us
        have lu := DpAll.len dall
        have hju : j < us.length := by omega
        obtain ⟨dv, h1, h2⟩ := DpAll.at_ dall (List.getElem?_eq_getElem hju)
        refine ⟨_, rfl, _, rfl, D, zs, _, _, rfl, rfl, SqL.of e5, ?_, _, rfl, tp, us, _, _, rfl, rfl, ht, atI_nat (List.getElem?_eq_getElem hju), ?_⟩
        · rw [hz]; exact atI_last _ _
        · rw [← hss] at hsl
          have h3 := valR_eq ok.d hsl (i := j) (by rw [List.length_map]; exact hj)
          rw [h1] at h3
          rw [Option.some.inj h3] at h2
          exact k _ H5 (f04.trans (Fr.of s45)) h2
end
end Kd

namespace Kd
open PySem PySem.Spec PyProof.Rows L2 LamX
/-- the thing that a row is of -/
def thR : Rw → Option Th
  | .kind d key _ _ => some (d, key)
  | _ => none
theorem sh_tup3 {z y x : PyData} (hz : z.canLay0 = true ∧ z.depth = 0) (hy : y.canLay0 = true ∧ y.depth = 0) (hx : x.canLay0 = true ∧ x.depth = 0) : SeqAt.shaped (.tuple [z, y, x]) = true := by
  unfold SeqAt.shaped
  simp [PyData.canLay0, PyData.canLayAll0, PyData.depth, PyData.depthAll, hz.1, hz.2, hy.1, hy.2, hx.1, hx.2]
theorem sh_tup2 {z y : PyData} (hz : z.canLay0 = true ∧ z.depth = 0) (hy : y.canLay0 = true ∧ y.depth = 0) : SeqAt.shaped (.tuple [z, y]) = true := by
  unfold SeqAt.shaped
  simp [PyData.canLay0, PyData.canLayAll0, PyData.depth, PyData.depthAll, hz.1, hz.2, hy.1, hy.2]
theorem lay_tx {z : Str} (h : Tx z) : (PyData.str z).canLay0 = true ∧ (PyData.str z).depth = 0 := ⟨h.sok, rfl⟩
theorem row3_by {K : PySem.W.Frag} {σ : L2.St} {H : Hp} {i a b : Nat} {p : Addr} {r : Rw} {t : Th} {Q : Bool → Hp → Prop} (hp : r.at K H p) (ro : r.ok) (t1 : Tx t.1) (t2 : Tx t.2) (e : σ[i]? = some (some (.ref p))) (ea : σ[a]? = some (some (.str t.1))) (eb : σ[b]? = some (some (.str t.2)))
    (k : ∀ H', Same H H' → Q (decide (thR r = some t)) H') : tTest (tOp (rEqD K) (tSl (rSlA K) (tVar i) tNoPart (tPart (tC (.int 3)))) (tTup (tCons (tC (.str "kind")) (tCons (tVar a) (tCons (tVar b) tNil))))) σ H Q := by
  have lk3 := sh_tup3 (lay_tx tx_kind) (lay_tx t1) (lay_tx t2)
  cases r with
  | kind d key day vals =>
    obtain ⟨qv, h1, h2⟩ := id hp
    refine ⟨_, e, 3, rfl, p, _, rfl, h1, fun z => absurd z (show ¬ (HT.sIx 5 0 none = 0 ∧ HT.sIx 5 5 (some 3) = 5) by decide), fun _ t' nt => ?_⟩
    generalize e1 : upd H t' _ = H1
    obtain ⟨s1, et⟩ := new_of nt e1
    refine ⟨_, ea, _, eb, by show 3 ≤ sizeLine; decide, fun t2' nt2 => ?_⟩
    generalize e2 : upd H1 t2' _ = H2
    obtain ⟨s2, et2⟩ := new_of nt2 e2
    refine ⟨.tuple [.str "kind", .str d, .str key], .tuple [.str "kind", .str t.1, .str t.2], .tup (SqT.of (s2 _ _ et)) (.cons (.str _) (.cons (.str _) (.cons (.str _) .nil))), .tup (SqT.of et2) (.cons (.str _) (.cons (.str _) (.cons (.str _) .nil))), sh_tup3 (lay_tx tx_kind) (lay_tx ro.1) (lay_tx ro.2.1), lk3, _, rfl, ?_⟩
    have ev : PyData.eqv (.tuple [.str "kind", .str d, .str key]) (.tuple [.str "kind", .str t.1, .str t.2]) = decide (thR (.kind d key day vals) = some t) := by
      simp only [PyData.eqv, PyData.eqvAll, thR]
      rw [Bool.eq_iff_iff]
      obtain ⟨x, y⟩ := t
      simp
    rw [ev]
    exact k _ (s1.trans s2)
  | fact name day keys nums =>
    obtain ⟨q1, q2, h1, h2, h3⟩ := id hp
    refine ⟨_, e, 3, rfl, p, _, rfl, h1, fun z => absurd z (show ¬ (HT.sIx 5 0 none = 0 ∧ HT.sIx 5 5 (some 3) = 5) by decide), fun _ t' nt => ?_⟩
    generalize e1 : upd H t' _ = H1
    obtain ⟨s1, et⟩ := new_of nt e1
    refine ⟨_, ea, _, eb, by show 3 ≤ sizeLine; decide, fun t2' nt2 => ?_⟩
    generalize e2 : upd H1 t2' _ = H2
    obtain ⟨s2, et2⟩ := new_of nt2 e2
    refine ⟨.tuple [.str "fact", .str name, .int day], .tuple [.str "kind", .str t.1, .str t.2], .tup (SqT.of (s2 _ _ et)) (.cons (.str _) (.cons (.str _) (.cons (.int _) .nil))), .tup (SqT.of et2) (.cons (.str _) (.cons (.str _) (.cons (.str _) .nil))), sh_tup3 (lay_tx tx_fact) (lay_tx ro.1) ⟨rfl, rfl⟩, lk3, _, rfl, ?_⟩
    have ev : PyData.eqv (.tuple [.str "fact", .str name, .int day]) (.tuple [.str "kind", .str t.1, .str t.2]) = decide (thR (.fact name day keys nums) = some t) := by
      simp only [PyData.eqv, PyData.eqvAll, thR]
      simp
    rw [ev]
    exact k _ (s1.trans s2)
  | forget name =>
    have h1 : SqT K H p [.str "forget", .str name] := hp
    refine ⟨_, e, 3, rfl, p, _, rfl, h1, fun _ => ?_, fun z => absurd (show HT.sIx 2 0 none = 0 ∧ HT.sIx 2 2 (some 3) = 2 by decide) z⟩
    refine ⟨_, ea, _, eb, by show 3 ≤ sizeLine; decide, fun t2' nt2 => ?_⟩
    generalize e2 : upd H t2' _ = H2
    obtain ⟨s2, et2⟩ := new_of nt2 e2
    refine ⟨.tuple [.str "forget", .str name], .tuple [.str "kind", .str t.1, .str t.2], .tup (Same.seqT s2 h1) (.cons (.str _) (.cons (.str _) .nil)), .tup (SqT.of et2) (.cons (.str _) (.cons (.str _) (.cons (.str _) .nil))), sh_tup2 (lay_tx tx_forget) (lay_tx (show Tx name from ro)), lk3, _, rfl, ?_⟩
    have ev : PyData.eqv (.tuple [.str "forget", .str name]) (.tuple [.str "kind", .str t.1, .str t.2]) = decide (thR (.forget name) = some t) := by
      simp only [PyData.eqv, PyData.eqvAll, thR]
      simp
    rw [ev]
    exact k _ s2
section
variable {P : Program} {w : World} {K : PySem.W.Frag} {mg : Str → Option Value} {base : Heap} {f : Addr} {fd : FuncData}
/-! ### values_behind_rows -/
def RwsOk (ds : Dims) (ms : List Str) (rs : List Rw) : Prop := ∀ r ∈ rs, r.ok ∧ r.fits ds ms = true
theorem KsOk.none {d : Str × List (Str × Str)} : KsOk d [] := ⟨fun _ h => (nomatch h), fun _ h => (nomatch h), Nat.zero_le _, List.nodup_nil⟩
def ksStep (t : Th) (ks : List Kind) (r : Rw) : List Kind := match r with
  | .kind d key day vals => if (d, key) = t then pt ks day vals else ks
  | _ => ks
/-- a thing's kinds behind rows -/
def ksR (t : Th) (rows : List Rw) : List Kind := rows.foldl (ksStep t) []
theorem ksR_snoc (t : Th) (rows : List Rw) (r : Rw) : ksR t (rows ++ [r]) = ksStep t (ksR t rows) r := by
  unfold ksR
  rw [List.foldl_append]
  rfl
theorem ksStep_eq {t : Th} {ks : List Kind} {d key : Str} {day : Int} {vals : List Fv} (e : t = (d, key)) : ksStep t ks (.kind d key day vals) = pt ks day vals := by
  subst e
  exact if_pos rfl
theorem ksStep_ne {t : Th} {ks : List Kind} {r : Rw} (e : thR r ≠ some t) : ksStep t ks r = ks := by
  cases r with
  | kind d key day vals => exact if_neg fun h => e (congrArg some h)
  | fact _ _ _ _ => rfl
  | forget _ => rfl
/-- a value behind no row, one row, and so on -/
def valsR (way : Str) (i : Nat) (t : Th) (rows : List Rw) (day : Int) (n : Nat) : List PyData := (List.range n).map fun m => valR way i (ksR t (rows.take m)) day
theorem valsR_succ (way : Str) (i : Nat) (t : Th) (rows : List Rw) (day : Int) (n : Nat) : valsR way i t rows day (n + 1) = valsR way i t rows day n ++ [valR way i (ksR t (rows.take n)) day] := by
  unfold valsR
  rw [List.range_succ, List.map_append]
  rfl
def spVBR (K : PySem.W.Frag) (c : Cn) : Sp := fun vs H Q _ => ∃ (x rl tt : Addr) (MP : Addr → Prop) (t : Th) (ds : Dims) (ms : List Str) (d : Str × List (Str × Str)) (rs : List V) (rows : List Rw) (day : Int) (j : Nat), vs = [.ref x, .ref rl, .ref tt, .int day, .int j] ∧ PlanO K c.CP H MP x ds ms ∧ ds.find? (fun d => decide (d.1 = t.1)) = some d ∧ H rl = some (.lst rs) ∧ Paired (RwRef K H) rs rows ∧ RwsOk ds ms rows ∧ rows.length ≤ 199 ∧ SqT K H tt [.str t.1, .str t.2] ∧ Tx t.1 ∧ Tx t.2 ∧ d.2.length ≤ 5 ∧ j < d.2.length ∧ Tabs (tbS c.Pt) H ∧
  ∀ l us dv H', Fr (tbS c.Pt) (Fresh H) H H' → H' l = some (.lst us) → dv = valsR ((d.2.map (·.2)).getD j Str.empty) j t rows day (rows.length + 1) → DpAll K H' us dv → (∀ e ∈ dv, ValOk e) → 1 ≤ us.length → us.length ≤ 200 → Q (.ref l) H'
abbrev N_values_behind_rows : List Str := ["plan", "rows", "thing", "day", "place", "dimension", "key", "kinds", "told", "row"]
theorem sc_values_behind_rows : FnScope N_values_behind_rows ["plan", "rows", "thing", "day", "place"] (defScope s_values_behind_rows) := ⟨rfl, rfl, rfl, by decide +kernel, rfl, by decide +kernel, by decide +kernel⟩
/-! slots: 0 plan 1 rows 2 thing 3 day 4 place 5 dimension 6 key 7 kinds 8 told 9 row; cells:  -/
set_option maxHeartbeats 0 in
theorem ok_vbr {c : Cn} {fS : Addr} {fdS : FuncData} (F : FnP K "values_behind_rows" "values_behind_rows" s_values_behind_rows f fd) (c_value_on : Fun P w K mg base "value_on" 5 ["plan", "dimension", "kinds", "day", "place"] (spValOn K c) fS fdS) : FnOk P w K mg base CX0 6 f fd ["plan", "rows", "thing", "day", "place"] (spVBR K c) := by
  refine F.ok sc_values_behind_rows (fun vs H Q E h => ?_) (fun cdv A outer s H vs Q E hr h => ?_)
  · obtain ⟨x, rl, tt, MP, t, ds, ms, d, rs, rows, day, j, rfl, _⟩ := h
    rfl
  · obtain ⟨x, rl, tt, MP, t, ds, ms, d, rs, rows, day, j, rfl, hP, hd, hrl, pr, rok, rn, htt, t1, t2, d5, hj, hT, k⟩ := h
    have nd := sc_values_behind_rows.nd
    have hu := hr.units
    have hu1 : (A.deeper (envOfC "values_behind_rows" (defScope s_values_behind_rows) s.heap.objs.size f cdv)).units + 1 < cLine := by omega
    refine ⟨_, PSs.nox (pss_cons (ps_asg (pv 2) (pg_tup rfl (pgs_cons (pg_name (i := 5) nd rfl (Or.inl rfl)) (pgs_cons (pg_name (i := 6) nd rfl (Or.inl rfl)) pgs_nil))))
      (pss_cons (ps_set (i := 7) nd rfl (Or.inl rfl) pe_dnewK)
      (pss_cons (ps_set (i := 8) nd rfl (Or.inl rfl) (pe_lst (pa_cons (pe_call c_value_on.G (hr.mono (by decide)) rfl c_value_on.g c_value_on.k c_value_on.b .nil pass0 (pa_cons (pv 0) (pa_cons (pv 5) (pa_cons (pv 7) (pa_cons (pv 3) (pa_cons (pv 4) pa_nil)))))) pa_nil)))
      (pss_cons (ps_for PassesOwn.never rfl (pi_list (pv 1)) (pg_name (i := 9) nd rfl (Or.inl rfl))
        (pss_one (ps_if (pt_cmpR (op_eqD hr.units) (pe_slice sl_tupA (pv 9) po_none (po_some pe_int)) (pe_tup (pa_cons pe_str (pa_cons (pv 5) (pa_cons (pv 6) pa_nil)))) (nomark _))
          (pss_cons (ps_dput hu1 (pv 7) (pe_ix ix_tup (pv 9) pe_int (fun _ _ => rfl)) (pe_ix ix_tup (pv 9) pe_int (fun _ _ => rfl)) rfl)
          (pss_one (ps_expr (pe_bm PySem.F.plainAttrs_list PySem.F.slot_list_append PySem.F.type_list_append mt_append (pv 8) (pa_cons (pe_call c_value_on.G (hr.mono (by decide)) rfl c_value_on.g c_value_on.k c_value_on.b .nil pass0 (pa_cons (pv 0) (pa_cons (pv 5) (pa_cons (pv 7) (pa_cons (pv 3) (pa_cons (pv 4) pa_nil)))))) pa_nil)))))
          (pss_one (ps_expr (pe_bm PySem.F.plainAttrs_list PySem.F.slot_list_append PySem.F.type_list_append mt_append (pv 8) (pa_cons (pe_ix ix_list (pv 8) (pe_un un_neg pe_int) (fun _ _ => rfl)) pa_nil)))))))
      (pss_one (ps_ret (pv 8))))))), ?_⟩
    refine ⟨_, rfl, tt, _, rfl, htt, rfl, _, _, rfl, _, _, rfl, rfl, ?_⟩
    refine sl_eq (σ' := [some (.ref x), some (.ref rl), some (.ref tt), some (.int day), some (.int j), some (.str t.1), some (.str t.2), none, none, none]) rfl ?_
    intro kd nkd
    generalize e1 : upd H kd _ = H1
    obtain ⟨s1, ekd⟩ := new_of nkd e1
    refine set_sl (σ' := [some (.ref x), some (.ref rl), some (.ref tt), some (.int day), some (.int j), some (.str t.1), some (.str t.2), some (.ref kd), none, none]) rfl ?_
    refine ⟨_, rfl, _, rfl, _, rfl, _, rfl, _, rfl, x, kd, t.1, ds, ms, d, [], day, j, rfl, (hP.keep (Keep.of s1)).at, hd, ⟨_, ekd, .nil⟩, .none, d5, hj, hT.ext s1, fun v H2 f2 dp => ⟨by show 1 ≤ sizeLine; decide, fun D nD => ?_⟩⟩
    generalize e3 : upd H2 D _ = H3
    obtain ⟨s3, eD⟩ := new_of nD e3
    have f03 : Fr (tbS c.Pt) (fun b => b = kd ∨ b = D) H H3 := ((Fr.of s1).trans (f2.mono fun _ z => z.elim)).trans (Fr.of s3)
    have fkd : Fresh H kd := Fresh.of nkd
    have fD : Fresh H D := Fresh.back (M := no) ((Fr.of s1).trans f2) (fun z => z) (Fresh.of nD)
    have nrk : rl ≠ kd := fun z => by rw [z, nkd] at hrl; cases hrl
    have nrD : rl ≠ D := fun z => fD (.lst rs) (by rw [← z]; exact hrl) (fun _ z => nomatch z)
    have nkD : kd ≠ D := fun z => by
      have := f2.at ekd trivial (fun z => z)
      rw [z, nD] at this
      cases this
    have mP : ∀ b, MP b → ¬ (b = kd ∨ b = D) := fun b hb z => by
      rcases z with z | z
      · exact hP.1.not fkd (by rw [← z]; exact hb)
      · exact hP.1.not fD (by rw [← z]; exact hb)
    refine set_sl (σ' := [some (.ref x), some (.ref rl), some (.ref tt), some (.int day), some (.int j), some (.str t.1), some (.str t.2), some (.ref kd), some (.ref D), none]) rfl ?_
    have lrs : rs.length = rows.length := pr.length
    refine ⟨_, rfl, rl, rfl, ⟨_, SqL.of (f03.at hrl trivial (fun z => z.elim nrk nrD))⟩, for_list (K := K) (a := rl) (xs := rs) (fun i σ R => ∃ b9 us, σ = [some (.ref x), some (.ref rl), some (.ref tt), some (.int day), some (.int j), some (.str t.1), some (.str t.2), some (.ref kd), some (.ref D), b9] ∧
      InnerAt K R kd (ksR t (rows.take i)) ∧ (∀ k ∈ ksR t (rows.take i), k.2.length = d.2.length) ∧ KOk (ksR t (rows.take i)) ∧ (ksR t (rows.take i)).length ≤ i ∧ ((ksR t (rows.take i)).map (·.1)).Nodup ∧ R D = some (.lst us) ∧ DpAll K R us (valsR ((d.2.map (·.2)).getD j Str.empty) j t rows day (i + 1)) ∧ (∀ e ∈ valsR ((d.2.map (·.2)).getD j Str.empty) j t rows day (i + 1), ValOk e) ∧ us.length = i + 1 ∧ Fr (tbS c.Pt) (fun b => b = kd ∨ b = D) H R) ⟨none, [v], rfl, ⟨[], s3 _ _ (f2.at ekd trivial (fun z => z)), .nil⟩, fun _ h => (nomatch h), fun _ h => (nomatch h), Nat.le_refl _, List.nodup_nil, eD, .cons (Dp.same s3 _ _ dp) .nil, fun e he => by rw [List.mem_singleton.mp he]; exact valR_ok fun _ h => (nomatch h), rfl, f03⟩ (fun i σ R _ z => ?_) (fun i y σ R hy z => ?_) (fun σ R z => ?_)⟩
    · obtain ⟨_, _, _, _, _, _, _, _, _, _, _, _, fr⟩ := z
      exact SqL.of (fr.at hrl trivial (fun z => z.elim nrk nrD))
    · obtain ⟨b9, us, rfl, inn, kl, ko, kn, knd, hD, dus, vok, lus, fr⟩ := z
      have hi : i < rows.length := by rw [← lrs]; exact (List.getElem?_eq_some_iff.mp hy).1
      obtain ⟨r, hr1, p, rfl, hp⟩ := paired_at pr hy
      have kp : Keep no H R := fr.keep0
      have hpR := kp.rw_at hp
      obtain ⟨ro, rf⟩ := rok r (List.mem_of_getElem? hr1)
      have etk : ksR t (rows.take (i + 1)) = ksStep t (ksR t (rows.take i)) r := by
        obtain ⟨g1, g2⟩ := List.getElem?_eq_some_iff.mp hr1
        rw [List.take_succ_eq_append_getElem g1, g2, ksR_snoc]
      have evs := valsR_succ ((d.2.map (·.2)).getD j Str.empty) j t rows day (i + 1)
      rw [etk] at evs
      generalize hdv : valsR ((d.2.map (·.2)).getD j Str.empty) j t rows day (i + 1) = dv at dus vok evs
      have hdl := valsR_succ ((d.2.map (·.2)).getD j Str.empty) j t rows day i
      rw [hdv] at hdl
      rw [etk, evs]
      generalize ksR t (rows.take i) = ks at *
      refine set_sl (σ' := [some (.ref x), some (.ref rl), some (.ref tt), some (.int day), some (.int j), some (.str t.1), some (.str t.2), some (.ref kd), some (.ref D), some (.ref p)]) rfl ?_
      refine row3_by hpR ro t1 t2 rfl rfl rfl fun R1 sR => ?_
      have frR : Fr (tbS c.Pt) (fun b => b = kd ∨ b = D) H R1 := fr.trans (Fr.of sR)
      have nok : ∀ e ∈ dv, NoL 2 e := fun e he => (vok e he).n
      by_cases c1 : thR r = some t
      · rw [decide_eq_true c1]
        refine iteT0 rfl ?_
        cases r with
        | fact _ _ _ _ => cases c1
        | forget _ => cases c1
        | kind d1 key1 day1 vals1 =>
          obtain ⟨qv, h1, h2⟩ := Rw.same sR hpR
          have et : t = (d1, key1) := (Option.some.inj c1).symm
          rw [ksStep_eq et]
          have lv : vals1.length = d.2.length := by
            have hf : kfits ds d1 vals1.length = true := rf
            unfold kfits at hf
            rw [et] at hd
            rw [hd] at hf
            exact of_decide_eq_true hf
          obtain ⟨ivs, hk, pk⟩ := inn
          have hk1 := sR _ _ hk
          have pk1 := PySem.Paired.mono (fun _ _ => KvAt.keep (M := no) (Keep.of sR)) pk
          have li : ivs.length < sizeLine := small1000 (by rw [pk.length]; omega)
          refine ⟨_, rfl, p, _, 4, _, rfl, rfl, h1, atI_nat (j := 4) rfl, _, rfl, _, rfl, p, _, 3, _, rfl, rfl, h1, atI_nat (j := 3) rfl, kd, _, rfl, DPut.k (k := Sum.inl day1) hk1 li, ?_⟩
          generalize e4 : upd R1 kd _ = R2
          have kk2 := keep_put hk1 trivial e4
          have f4 : Fr (tbS c.Pt) (fun b => b = kd ∨ b = D) H R2 := frR.trans (by rw [← e4]; exact Fr.put hk1 trivial (.inl rfl))
          have in2 : InnerAt K R2 kd (pt ks day1 vals1) := ⟨_, by rw [← e4]; exact upd_same, paired_put (g := Sum.inl) (fun a b z => Sum.inl.inj z) (R := fun v (b : List Fv) => ∃ q, v = .ref q ∧ SqT K R2 q (b.map Fv.v)) ⟨qv, rfl, kk2.seqT h2⟩ (PySem.Paired.mono (fun _ _ => KvAt.keep kk2) pk1)⟩
          have hD2 : R2 D = some (.lst us) := kk2.at (sR _ _ hD) trivial nkD.symm
          have dus2 : DpAll K R2 us dv := kk2.dpall' _ _ _ nok (DpAll.same sR _ _ dus)
          have kn2 := pt_length ks day1 vals1
          have kl2 : ∀ k ∈ pt ks day1 vals1, k.2.length = d.2.length := fun k hk => by
            rcases mem_pt hk with rfl | ⟨hk, _⟩
            · exact lv
            · exact kl k hk
          have ko2 : KOk (pt ks day1 vals1) := fun k hk => by
            rcases mem_pt hk with rfl | ⟨hk, _⟩
            · exact fun v hv => Fv.ok.fvOk (ro.2.2.2.2 v hv)
            · exact ko k hk
          refine ⟨_, rfl, .inl ⟨rfl, _, SqL.of hD2⟩, _, rfl, _, rfl, _, rfl, _, rfl, _, rfl, x, kd, t.1, ds, ms, d, _, day, j, rfl, (hP.keep (f4.keep mP)).at, hd, in2, ⟨kl2, ko2, by omega, pt_nodup knd⟩, d5, hj, f4.tb hT, fun v R3 f5 dp5 => ?_⟩
          have vo5 := valR_ok (way := ((d.2.map (·.2)).getD j Str.empty)) (i := j) (day := day) ko2
          have hD3 := f5.at hD2 trivial (fun z => z)
          refine ⟨D, us, _, rfl, rfl, hD3, small1000 (by omega), ?_⟩
          generalize e6 : upd R3 D _ = R4
          have k6 := keep_put hD3 trivial e6
          refine ⟨_, us ++ [v], rfl, ?_, kl2, ko2, by omega, pt_nodup knd, by rw [← e6]; exact upd_same, ?_, fun e he => ?_, by rw [List.length_append, lus]; rfl, (f4.trans (f5.mono fun _ z => z.elim)).trans (by rw [← e6]; exact Fr.put hD3 trivial (.inr rfl))⟩
          · obtain ⟨iv2, hk2, pk2⟩ := in2
            exact ⟨iv2, k6.at (f5.at hk2 trivial (fun z => z)) trivial nkD, PySem.Paired.mono (fun _ _ => KvAt.keep k6) (PySem.Paired.mono (fun _ _ => KvAt.keep f5.keep0) pk2)⟩
          · exact dpall_snoc (k6.dpall' _ _ _ nok (f5.keep0.dpall' _ _ _ nok dus2)) (k6.dp vo5.n dp5)
          · rcases List.mem_append.mp he with he | he
            · exact vok e he
            · rw [List.mem_singleton.mp he]; exact vo5
      · rw [decide_eq_false c1, ksStep_ne c1]
        refine iteF0 (by simp) ?_
        have hD1 := sR _ _ hD
        have hlast : us.length - 1 < us.length := by omega
        have e1 : us.getLast? = some us[us.length - 1] := by rw [List.getLast?_eq_getElem?]; exact List.getElem?_eq_getElem hlast
        obtain ⟨dd, g1, g2⟩ := DpAll.at_ dus (List.getElem?_eq_getElem hlast)
        refine ⟨_, rfl, .inl ⟨rfl, _, SqL.of hD1⟩, _, rfl, _, rfl, D, us, _, _, rfl, rfl, SqL.of hD1, atI_end e1, D, us, _, rfl, rfl, hD1, small1000 (by omega), ?_⟩
        generalize e6 : upd R1 D _ = R4
        have k6 := keep_put hD1 trivial e6
        have dus1 := DpAll.same sR _ _ dus
        have dd1 := Dp.same sR _ _ g2
        have hm := List.mem_of_getElem? g1
        have edd : dd = valR ((d.2.map (·.2)).getD j Str.empty) j ks day := by
          have ldv := DpAll.len dus
          have lvs : (valsR ((d.2.map (·.2)).getD j Str.empty) j t rows day i).length = i := by unfold valsR; rw [List.length_map, List.length_range]
          rw [hdl, List.getElem?_append_right (by omega), lvs, show us.length - 1 - i = 0 by omega] at g1
          exact (Option.some.inj g1).symm
        rw [← edd]
        refine ⟨_, us ++ [us[us.length - 1]], rfl, ?_, kl, ko, by omega, knd, by rw [← e6]; exact upd_same, ?_, fun e he => ?_, by rw [List.length_append]; show us.length + 1 = _; omega, frR.trans (by rw [← e6]; exact Fr.put hD1 trivial (.inr rfl))⟩
        · obtain ⟨iv2, hk2, pk2⟩ := inn
          exact ⟨iv2, k6.at (sR _ _ hk2) trivial nkD, PySem.Paired.mono (fun _ _ => KvAt.keep k6) (PySem.Paired.mono (fun _ _ => KvAt.keep (M := no) (Keep.of sR)) pk2)⟩
        · exact dpall_snoc (k6.dpall' _ _ _ nok dus1) (k6.dp (vok _ hm).n dd1)
        · rcases List.mem_append.mp he with he | he
          · exact vok e he
          · rw [List.mem_singleton.mp he]; exact vok _ hm
    · obtain ⟨b9, us, rfl, inn, kl, ko, kn, knd, hD, dus, vok, lus, fr⟩ := z
      exact ⟨_, rfl, k D us _ R (fr.mono fun b hb => by rcases hb with z | z <;> rw [z] <;> assumption) hD (by rw [lrs]) dus vok (by omega) (by omega)⟩
end
end Kd

namespace Kd
open PySem PySem.Spec PyProof.Rows L2 LamX KdXc
section
variable {P : Program} {w : World} {K : PySem.W.Frag} {mg : Str → Option Value} {base : Heap} {f : Addr} {fd : FuncData}
/-! ### last_change -/
def goC (dv : List PyData) : Nat → Nat
  | 0 => 0
  | n + 1 => if PyData.eqv (dv.getD n .none) (dv.getD (dv.length - 1) .none) = true then goC dv n else n + 1
/-- from where on all are as the last one -/
def lastC (dv : List PyData) : Nat := goC dv (dv.length - 1)
theorem goC_pos {dv : List PyData} {n : Nat} (h : 0 < n) : goC dv n = if PyData.eqv (dv.getD (n - 1) .none) (dv.getD (dv.length - 1) .none) = true then goC dv (n - 1) else n := by
  cases n with
  | zero => omega
  | succ n => rfl
def spLastC (K : PySem.W.Frag) : Sp := fun vs H Q _ => ∃ (l : Addr) (us : List V) (dv : List PyData), vs = [.ref l] ∧ H l = some (.lst us) ∧ DpAll K H us dv ∧ (∀ e ∈ dv, ValOk e) ∧ 1 ≤ us.length ∧ us.length ≤ 200 ∧ Q (.int (lastC dv : Nat)) H
abbrev N_last_change : List Str := ["values", "place"]
theorem sc_last_change : FnScope N_last_change ["values"] (defScope s_last_change) := ⟨rfl, rfl, rfl, by decide +kernel, rfl, by decide +kernel, by decide +kernel⟩
/-! slots: 0 values 1 place; cells:  -/
def numJ : L2.St → Nat
  | [_, some (.int n)] => n.toNat
  | _ => 0
theorem ok_lastC (F : FnP K "last_change" "last_change" s_last_change f fd) (z_len : mg "len" = none) : FnOk P w K mg base CX0 1 f fd ["values"] (spLastC K) := by
  refine F.ok sc_last_change (fun vs H Q E h => ?_) (fun cdv A outer s H vs Q E hr h => ?_)
  · obtain ⟨l, us, dv, rfl, _⟩ := h
    rfl
  · obtain ⟨l, us, dv, rfl, hl, dus, vok, l1, l2, k⟩ := h
    have nd := sc_last_change.nd
    refine ⟨_, PSs.nox (pss_cons (ps_set (i := 1) nd rfl (Or.inl rfl) (pe_op op_sub (pe_callB call_len_seq (by rfl) z_len boot_len (pa_cons (pv 0) pa_nil)) pe_int))
      (pss_cons (ps_while PassesOwn.never (PW.pt (pw_and (pt_cmpR op_gt (pv 1) pe_int (nomark _)) (pw_and1 (pt_cmpR (op_eqD hr.units) (pe_ix ix_list (pv 0) (pe_op op_sub (pv 1) pe_int) (fun _ _ => rfl)) (pe_ix ix_list (pv 0) (pe_un un_neg pe_int) (fun _ _ => rfl)) (nomark _)))))
        (pss_one (ps_aug (i := 1) nd rfl (Or.inl rfl) pe_int ip_sub)))
      (pss_one (ps_ret (pv 1))))), ?_⟩
    refine ⟨_, rfl, l, us, rfl, .inl (SqL.of hl), _, _, rfl, rfl, ?_⟩
    refine set_sl (σ' := [some (.ref l), some (.int ((us.length - 1 : Nat) : Int))]) (congrArg (fun z : Int => [some (V.ref l), some (V.int z)]) (by omega : (us.length : Int) - 1 = ((us.length - 1 : Nat) : Int))) ?_
    have dlen := DpAll.len dus
    refine while_by (fun σ H2 => H2 = H ∧ ∃ n : Nat, n < us.length ∧ goC dv n = lastC dv ∧ σ = [some (.ref l), some (.int (n : Int))]) (fun σ _ => numJ σ) ⟨rfl, _, by omega, by unfold lastC; rw [← dlen], rfl⟩ ?_ ?_
    · rintro σ H2 ⟨rfl, n, hn, hg, rfl⟩
      refine ⟨_, rfl, _, _, rfl, rfl, _, rfl, ?_⟩
      by_cases c : 0 < n
      · rw [decide_eq_true (by omega : (n : Int) > 0)]
        refine iteT ?_
        have hm : us.length - 1 < us.length := by omega
        have hp : n - 1 < us.length := by omega
        obtain ⟨d1, g1, g2⟩ := DpAll.at_ dus (List.getElem?_eq_getElem hp)
        obtain ⟨d2, g3, g4⟩ := DpAll.at_ dus (List.getElem?_eq_getElem hm)
        have e1 : us.getLast? = some us[us.length - 1] := by rw [List.getLast?_eq_getElem?]; exact List.getElem?_eq_getElem hm
        refine ⟨_, rfl, _, rfl, _, _, rfl, rfl, l, us, _, _, rfl, rfl, SqL.of hl, ?_, _, rfl, _, rfl, l, us, _, _, rfl, rfl, SqL.of hl, atI_end e1, d1, d2, g2, g4, (vok _ (List.mem_of_getElem? g1)).sh, (vok _ (List.mem_of_getElem? g3)).sh, _, rfl, ?_⟩
        · rw [show (n : Int) - 1 = ((n - 1 : Nat) : Int) by omega]
          exact atI_nat (List.getElem?_eq_getElem hp)
        · have hg2 := goC_pos (dv := dv) c
          rw [List.getD_eq_getElem?_getD, List.getD_eq_getElem?_getD, ← dlen, g1, g3, hg] at hg2
          have hg2 : lastC dv = if PyData.eqv d1 d2 = true then goC dv (n - 1) else n := hg2
          cases q : PyData.eqv d1 d2 with
          | false =>
            rw [q] at hg2
            have hg2 : lastC dv = n := hg2
            rw [hg2] at k
            exact iteF ⟨_, rfl, k⟩
          | true =>
            rw [q] at hg2
            have hg2 : lastC dv = goC dv (n - 1) := hg2
            refine iteT ⟨_, rfl, _, _, rfl, rfl, ?_⟩
            refine sl_eq (σ' := [some (.ref l), some (.int ((n - 1 : Nat) : Int))]) (congrArg (fun z : Int => [some (V.ref l), some (V.int z)]) (by omega : (n : Int) - 1 = ((n - 1 : Nat) : Int))) ⟨⟨rfl, n - 1, by omega, hg2.symm, rfl⟩, ?_⟩
            show ((n - 1 : Nat) : Int).toNat < ((n : Nat) : Int).toNat
            omega
      · rw [decide_eq_false (by omega : ¬ (n : Int) > 0)]
        have h0 : n = 0 := by omega
        subst h0
        have hg : 0 = lastC dv := hg
        rw [← hg] at k
        exact iteF ⟨_, rfl, k⟩
    · rintro σ H2 Q1 Q2 hq ⟨v1, e1, i1, j1, e2, e3, b, e4, q⟩
      refine ⟨v1, e1, i1, j1, e2, e3, b, e4, ?_⟩
      cases b with
      | false => exact iteF (hq _ _ ((if_neg (by simp) : (if false = true then _ else _) = _).mp q))
      | true =>
        have q := (if_pos rfl : (if true = true then _ else _) = _).mp q
        obtain ⟨a1, a2, a3, a4, a5, a6, a7, a8, a9, b1, b2, b3, b4, b5, b6, b7, b8, b9, c1, c2, c3, c4, c5, c6, c7, c8, c9, d1, d2, d3, d4, d5, d6, d7, d8, d9, q⟩ := q
        exact iteT ⟨a1, a2, a3, a4, a5, a6, a7, a8, a9, b1, b2, b3, b4, b5, b6, b7, b8, b9, c1, c2, c3, c4, c5, c6, c7, c8, c9, d1, d2, d3, d4, d5, d6, d7, d8, d9, hq _ _ q⟩
/-! ### attribute_place -/
def spPlace (K : PySem.W.Frag) (c : Cn) : Sp := fun vs H Q _ => ∃ (x : Addr) (n at_ : Str) (ds : Dims) (ms : List Str) (d : Str × List (Str × Str)), vs = [.ref x, .str n, .str at_] ∧ PlanAt K c.CP H x ds ms ∧ ds.find? (fun d => decide (d.1 = n)) = some d ∧ d.2.length ≤ 200 ∧
  (at_ ∉ d.2.map (·.1) → ∀ H', Same H H' → Q .non H') ∧ (at_ ∈ d.2.map (·.1) → ∀ H', Same H H' → Q (.int ((d.2.map (·.1)).idxOf at_ : Nat)) H')
abbrev N_attribute_place : List Str := ["plan", "dimension", "attribute", "attributes", "name", "way", "names"]
theorem sc_attribute_place : FnScope N_attribute_place ["plan", "dimension", "attribute"] (defScope s_attribute_place) := ⟨rfl, rfl, rfl, by decide +kernel, rfl, by decide +kernel, by decide +kernel⟩
/-! slots: 0 plan 1 dimension 2 attribute 3 attributes 4 name 5 way 6 names; cells:  -/
theorem ok_place {c : Cn} {fA : Addr} {fdA : FuncData} (F : FnP K "attribute_place" "attribute_place" s_attribute_place f fd) (c_attributes_of : Fun P w K mg base "attributes_of" 2 ["plan", "dimension"] (spAttr K c.CP) fA fdA) : FnOk P w K mg base CX0 3 f fd ["plan", "dimension", "attribute"] (spPlace K c) := by
  refine F.ok sc_attribute_place (fun vs H Q E h => ?_) (fun cdv A outer s H vs Q E hr h => ?_)
  · obtain ⟨x, n, at_, ds, ms, d, rfl, _⟩ := h
    rfl
  · obtain ⟨x, n, at_, ds, ms, d, rfl, hp, hd, l200, kN, kI⟩ := h
    have nd := sc_attribute_place.nd
    refine ⟨_, PSs.nox (pss_cons (ps_set (i := 3) nd rfl (Or.inl rfl) (pe_call c_attributes_of.G (hr.mono (by decide)) rfl c_attributes_of.g c_attributes_of.k c_attributes_of.b .nil pass0 (pa_cons (pv 0) (pa_cons (pv 1) pa_nil))))
      (pss_cons (ps_if (pt_cmp (pc_isN (pv 3)))
        (pss_one (ps_ret pe_non))
        pss_nil)
      (pss_cons (ps_setLc (i := 6) (own := [("name", 4), ("way", 5)]) (g := gTup K 2 (gCons (gName 4) (gCons (gName 5) gNil))) (tt := tYes) (te := tVar 4) rfl nd rfl rfl (sw_true rfl rfl rfl (by decide +kernel)) (pi_tup (pv 3)) (blkOk_by (own := [("name", 4), ("way", 5)]) (N := N_attribute_place) (sc := defScope s_attribute_place) (by decide +kernel))
        (fun _ _ _ _ _ => pg_tup rfl (pgs_cons (pg_name (i := 4) nd rfl (Or.inl rfl)) (pgs_cons (pg_name (i := 5) nd rfl (Or.inl rfl)) pgs_nil))) (fun _ _ _ _ _ => pts_nil) (fun _ _ _ _ _ => pv 4))
      (pss_one (ps_ret (pe_ifExp (pt_cmpR op_in_seq (pv 2) (pv 6) (by rfl)) (pe_bm PySem.F.plainAttrs_list PySem.F.slot_list_index PySem.F.type_list_index mt_index (pv 6) (pa_cons (pv 2) pa_nil)) pe_non)))))), ?_⟩
    refine ⟨_, rfl, _, rfl, x, n, ds, ms, rfl, hp, fun d1 q H1 hd1 hq s1 => ?_, fun hn => by rw [hn] at hd; cases hd⟩
    rw [hd] at hd1
    cases hd1
    refine set_sl (σ' := [some (.ref x), some (.str n), some (.str at_), some (.ref q), none, none, none]) rfl ?_
    refine ⟨_, rfl, _, rfl, iteF0 (by simp) ?_⟩
    obtain ⟨ys, hys, py⟩ := hq
    have ly : ys.length = d.2.length := py.length
    refine ⟨_, rfl, q, rfl, ⟨_, hys⟩, fun D nD => ?_⟩
    refine lc_build (walk_tup (K := K) (a := q) (xs := ys)) nD (fun i zs R => Same H1 R ∧ zs = ((d.2.take i).map fun e => V.str e.1)) ⟨Same.refl _, rfl⟩ (fun _ _ _ _ z => Same.seqT (z.1.trans cd_sub) hys) ?_ ?_
    · rintro i zs y R R' hi e lz ⟨sm, rfl⟩ ⟨rfl, hy⟩
      obtain ⟨a, ha, p, rfl, h1⟩ := paired_at py hy
      refine ⟨p, _, rfl, Same.seqT (sm.trans cd_sub) h1, rfl, _, _, rfl, _, _, rfl, rfl, rfl, yes ⟨_, rfl, LcNx.add e lz (by omega) ⟨sm, ?_⟩⟩⟩
      obtain ⟨g1, g2⟩ := List.getElem?_eq_some_iff.mp ha
      rw [List.take_succ_eq_append_getElem g1, g2, List.map_append]
      rfl
    · rintro zs H2 e2 lz ⟨sm, rfl⟩
      rw [ly, List.take_length] at e2
      have s2 : Same H H2 := s1.trans (sm.trans cd_sub)
      have em : (d.2.map fun e => V.str e.1) = (d.2.map (·.1)).map V.str := by rw [List.map_map]; rfl
      rw [em] at e2
      refine set_sl (σ' := [some (.ref x), some (.str n), some (.str at_), some (.ref q), none, none, some (.ref D)]) rfl ?_
      refine ⟨_, rfl, _, rfl, D, _, rfl, .inl (SqL.of e2), rfl, flat_strs _, _, rfl, ?_⟩
      rw [inV_strs]
      by_cases c1 : at_ ∈ d.2.map (·.1)
      · rw [decide_eq_true c1]
        have hj := List.idxOf_lt_length_of_mem c1
        refine iteT ⟨_, rfl, .inl ⟨rfl, _, SqL.of e2⟩, _, rfl, D, _, _, (d.2.map (·.1)).idxOf at_, .str at_, rfl, rfl, SqL.of e2, rfl, flat_strs _, ?_, beq_self_eq_true _, fun m z hm hz => ?_, kI c1 H2 s2⟩
        · rw [List.getElem?_map, List.getElem?_eq_getElem hj, List.getElem_idxOf hj]
          rfl
        · rw [List.getElem?_map] at hz
          obtain ⟨b, hb, rfl⟩ := Option.map_eq_some_iff.mp hz
          obtain ⟨g1, g2⟩ := List.getElem?_eq_some_iff.mp hb
          have := List.not_of_lt_findIdx hm
          rw [g2] at this
          exact this
      · rw [decide_eq_false c1]
        exact iteF (kN c1 H2 s2)
end
end Kd

namespace KdXn
open PySem PySem.Spec PyProof.Rows L2 KdXc
section
variable {P : Program} {w : World} {K : PySem.W.Frag} {mg : Str → Option Value} {base : Heap} {k : Nat} {f : Addr} {fd : FuncData} {ps : List Str} {sp sp' : Sp}
/-- a def that may raise, where it does not -/
theorem fn_still (G : FnOk P w K mg base (L2.CX P w) k f fd ps sp) : FnOk P w K mg base CX0 k f fd ps (fun vs H Q _ => sp vs H Q (fun _ _ _ => False)) :=
  ⟨fun vs H Q E h => G.len vs H Q _ h, fun A outer s H args us vs Q E hr he hb hv hs => codeAny_mono (G.run A outer s H args us vs Q (fun _ _ _ => False) hr he hb hv hs) fun r s' z => by
    cases r with
    | error e =>
      obtain ⟨a, B, H', cls, d, _, _, _, _, _, _, _, z⟩ := z
      exact z
    | ok fl => cases fl <;> exact z⟩
/-- a weaker promise -/
theorem fn_weak {CX : CXT} (G : FnOk P w K mg base CX k f fd ps sp) (h : ∀ vs H Q E, sp' vs H Q E → sp vs H Q E) : FnOk P w K mg base CX k f fd ps sp' :=
  ⟨fun vs H Q E z => G.len vs H Q E (h _ _ _ _ z), fun A outer s H args us vs Q E hr he hb hv hs => G.run A outer s H args us vs Q E hr he hb hv (h _ _ _ _ hs)⟩
end
end KdXn

namespace Kd
open PySem PySem.Spec PyProof.Rows L2 LamX KdXc
section
variable {P : Program} {w : World} {K : PySem.W.Frag} {mg : Str → Option Value} {base : Heap} {f : Addr} {fd : FuncData}
/-! ### House.since -/
/-- what since tells -/
def sinceN (dm : Str × List (Str × Str)) (rows : List Rw) (t : Th) (day : Int) (at_ : Str) : Nat := lastC (valsR ((dm.2.map (·.2)).getD ((dm.2.map (·.1)).idxOf at_) Str.empty) ((dm.2.map (·.1)).idxOf at_) t rows day (rows.length + 1))
def spSince (K : PySem.W.Frag) (c : Cn) (NT NG : Addr) : Sp := fun vs H Q E => ∃ (x : Addr) (M : Addr → Prop) (ds : Dims) (ms : List Str) (S : Hs) (t : Th) (day : Int) (at_ : Str), vs = [.ref x, .str t.1, .str t.2, .int day, .str at_] ∧ HoO K c H M x ds ms S ∧ HsOk ds ms S ∧ RwsOk ds ms S.rows ∧ S.rows.length ≤ 199 ∧ Tx t.1 ∧ Tx t.2 ∧ Tx at_ ∧ Tabs (tbS c.Pt) H ∧
  (lk S.ts.nums t = none → ∀ d q H', Same H H' → H d = none → H' d = some (.xd (noF "NoThing" (.ref q))) → H' q = some (.tup [.str t.1, .str t.2]) → E (.ref NT) (some d) H') ∧
  (∀ dm, (lk S.ts.nums t).isSome = true → ds.find? (fun d => decide (d.1 = t.1)) = some dm → (at_ ∉ dm.2.map (·.1) → ∀ d q H', Same H H' → H d = none → H' d = some (.xd (noF "NoGroup" (.ref q))) → H' q = some (.tup [.str t.1, .str at_]) → E (.ref NG) (some d) H') ∧
    (at_ ∈ dm.2.map (·.1) → ∀ H', Fr (tbS c.Pt) (Fresh H) H H' → Q (.int (sinceN dm S.rows t day at_ : Nat)) H'))
abbrev N_House_since : List Str := ["self", "dimension", "key", "day", "attribute", "place"]
theorem sc_House_since : FnScope N_House_since ["self", "dimension", "key", "day", "attribute"] (defScope s_House_since) := ⟨rfl, rfl, rfl, by decide +kernel, rfl, by decide +kernel, by decide +kernel⟩
/-! slots: 0 self 1 dimension 2 key 3 day 4 attribute 5 place; cells:  -/
theorem ok_since {c : Cn} {NT fE NG fG fK fP fV fL : Addr} {fdE fdG fdK fdP fdV fdL : FuncData} (F : FnP K "since" "House.since" s_House_since f fd) (TX : HsTxt K c.CH) (TT : ThTxt K c.CT) (ET : ErrM P w K mg base "NoThing" NT fE fdE) (EG : ErrM P w K mg base "NoGroup" NG fG fdG) (mK : MFun P w K mg base c.CT "knows" 1 ["self", "thing"] (spKnows c.CT) fK fdK)
    (c_attribute_place : Fun P w K mg base "attribute_place" 3 ["plan", "dimension", "attribute"] (spPlace K c) fP fdP) (c_values_behind_rows : Fun P w K mg base "values_behind_rows" 6 ["plan", "rows", "thing", "day", "place"] (spVBR K c) fV fdV) (c_last_change : Fun P w K mg base "last_change" 1 ["values"] (spLastC K) fL fdL) : FnOk P w K mg base (L2.CX P w) 7 f fd ["self", "dimension", "key", "day", "attribute"] (spSince K c NT NG) := by
  refine F.ok sc_House_since (fun vs H Q E h => ?_) (fun cdv A outer s H vs Q E hr h => ?_)
  · obtain ⟨x, M, ds, ms, S, t, day, at_, rfl, _⟩ := h
    rfl
  · obtain ⟨x, M, ds, ms, S, t, day, at_, rfl, ⟨MT, MS, dx, p, th, kf, tr, wd, fa, wa, rs, rfl, X⟩, so, rok, rn, t1, t2, ta, hT, kE, k⟩ := h
    have nd := sc_House_since.nd
    refine ⟨_, (pss_cons (ps_if (pt_not (pt_val (pe_meth (pe_fld (pv 0) rfl) mK.cl mK.m mK.G (hr.mono (by decide)) mK.b .nil pass0 (pa_cons (pe_tup (pa_cons (pv 1) (pa_cons (pv 2) pa_nil))) pa_nil))))
        (pss_one (ps_raise rfl (takes_of rfl rfl rfl rfl) (pmk_err ET.T ET.G (hr.mono (by decide)) ET.b rfl ET.g (pe_tup (pa_cons (pv 1) (pa_cons (pv 2) pa_nil))))))
        pss_nil)
      (pss_cons (ps_set (i := 5) nd rfl (Or.inl rfl) (pe_call c_attribute_place.G (hr.mono (by decide)) rfl c_attribute_place.g c_attribute_place.k c_attribute_place.b .nil pass0 (pa_cons (pe_fld (pv 0) rfl) (pa_cons (pv 1) (pa_cons (pv 4) pa_nil)))))
      (pss_cons (ps_if (pt_cmp (pc_isN (pv 5)))
        (pss_one (ps_raise rfl (takes_of rfl rfl rfl rfl) (pmk_err EG.T EG.G (hr.mono (by decide)) EG.b rfl EG.g (pe_tup (pa_cons (pv 1) (pa_cons (pv 4) pa_nil))))))
        pss_nil)
      (pss_one (ps_ret (pe_call c_last_change.G (hr.mono (by decide)) rfl c_last_change.g c_last_change.k c_last_change.b .nil pass0 (pa_cons (pe_call c_values_behind_rows.G (hr.mono (by decide)) rfl c_values_behind_rows.g c_values_behind_rows.k c_values_behind_rows.b .nil pass0 (pa_cons (pe_fld (pv 0) rfl) (pa_cons (pe_fld (pv 0) rfl) (pa_cons (pe_tup (pa_cons (pv 1) (pa_cons (pv 2) pa_nil))) (pa_cons (pv 3) (pa_cons (pv 5) pa_nil)))))) pa_nil))))))), ?_⟩
    obtain ⟨dxt, kd, nb, ka, na, XT⟩ := X.th.x
    refine ⟨_, rfl, x, c.CH, dx, _, _, rfl, X.hx, TX.cl, TX.nT, hs_things p th kf tr wd, th, dxt, _, rfl, XT.hx, th_no (by decide +kernel) (by decide +kernel) (by decide +kernel) (by decide +kernel), _, rfl, _, rfl, by show 2 ≤ sizeLine; decide, fun r nr => ?_⟩
    generalize e1 : upd H r _ = H1
    obtain ⟨s1, er1⟩ := new_of nr e1
    have X1 := X.same s1
    have XT1x := s1 _ _ XT.hx
    have XT1n := s1 _ _ XT.hn
    refine ⟨th, dxt, p, kd, nb, r, _, t, _, rfl, XT1x, er1, XT1n, _, rfl, ?_⟩
    cases hlk : lk S.ts.nums t with
    | none =>
      have hv : valV (S.ts.nums.map fun e => (thK e.1, V.ref (na e.1))) (thK t) = none := by
        rw [val_map (r := fun t => V.ref (na t)) thK_inj, hlk]
        rfl
      rw [hv]
      refine iteT0 (by simp) ?_
      refine ⟨_, rfl, _, rfl, by show 2 ≤ sizeLine; decide, fun r2 nr2 => ?_⟩
      generalize e2 : upd H1 r2 _ = H2
      obtain ⟨s2, er2⟩ := new_of nr2 e2
      have s02 := s1.trans s2
      refine err_ok (fun a ha => .inr (.inr (.inr ⟨r2, _, rfl, SqT.of (same_new ha _ _ er2), by show 2 ≤ 40; decide, fun y hy => ?_⟩))) fun d hd => ?_
      · simp only [List.mem_cons, List.not_mem_nil, or_false] at hy
        rcases hy with rfl | rfl
        · exact .inl t1.flat
        · exact .inl t2.flat
      · have s3 := same_new (o := .xd (noF "NoThing" (.ref r2))) hd
        exact kE hlk d r2 _ (s02.trans s3) (s02.free hd) upd_same (s3 _ _ er2)
    | some vers =>
      have hv : valV (S.ts.nums.map fun e => (thK e.1, V.ref (na e.1))) (thK t) = some (.ref (na t)) := by
        rw [val_map (r := fun t => V.ref (na t)) thK_inj, hlk]
        rfl
      rw [hv]
      refine iteF0 (by simp) ?_
      obtain ⟨dm, hdm⟩ := so.tok.vd _ (lk_mem hlk)
      have hdm : ds.find? (fun d => decide (d.1 = t.1)) = some dm := hdm
      have d5 := so.tok.d5 dm (List.mem_of_find?_eq_some hdm)
      obtain ⟨kN, kI⟩ := k dm (by rw [hlk]; rfl) hdm
      refine ⟨_, rfl, x, c.CH, dx, _, _, rfl, X1.hx, TX.cl, TX.nP, hs_plan p th kf tr wd, _, rfl, _, rfl, p, t.1, at_, ds, ms, dm, rfl, X1.pl.at, hdm, by omega, fun hn H2 s2 => ?_, fun hin H2 s2 => ?_⟩
      · refine set_sl (σ' := [some (.ref x), some (.str t.1), some (.str t.2), some (.int day), some (.str at_), some .non]) rfl ?_
        refine ⟨_, rfl, _, rfl, iteT0 (by simp) ?_⟩
        refine ⟨_, rfl, _, rfl, by show 2 ≤ sizeLine; decide, fun r2 nr2 => ?_⟩
        generalize e3 : upd H2 r2 _ = H3
        obtain ⟨s3, er3⟩ := new_of nr2 e3
        have s03 := (s1.trans s2).trans s3
        refine err_ok (fun a ha => .inr (.inr (.inr ⟨r2, _, rfl, SqT.of (same_new ha _ _ er3), by show 2 ≤ 40; decide, fun y hy => ?_⟩))) fun d hd => ?_
        · simp only [List.mem_cons, List.not_mem_nil, or_false] at hy
          rcases hy with rfl | rfl
          · exact .inl t1.flat
          · exact .inl ta.flat
        · have s4 := same_new (o := .xd (noF "NoGroup" (.ref r2))) hd
          exact kN hn d r2 _ (s03.trans s4) (s03.free hd) upd_same (s4 _ _ er3)
      · have hj := List.idxOf_lt_length_of_mem hin
        rw [List.length_map] at hj
        unfold sinceN at kI
        generalize (dm.2.map (·.1)).idxOf at_ = j at hj kI ⊢
        refine set_sl (σ' := [some (.ref x), some (.str t.1), some (.str t.2), some (.int day), some (.str at_), some (.int j)]) rfl ?_
        refine ⟨_, rfl, _, rfl, iteF0 (by simp) ?_⟩
        have X2 := X1.same s2
        refine ⟨_, rfl, x, c.CH, dx, _, _, rfl, X2.hx, TX.cl, TX.nP, hs_plan p th kf tr wd, _, rfl, x, c.CH, dx, _, _, rfl, X2.hx, TX.cl, TX.nR, hs_rows p th kf tr wd, _, rfl, _, rfl, by show 2 ≤ sizeLine; decide, fun r2 nr2 => ?_⟩
        generalize e3 : upd H2 r2 _ = H3
        obtain ⟨s3, er3⟩ := new_of nr2 e3
        have s03 := (s1.trans s2).trans s3
        have X3 := X2.same s3
        refine ⟨_, rfl, _, rfl, p, tr, r2, MS, t, ds, ms, dm, rs, S.rows, day, j, rfl, X3.pl, hdm, X3.hr, X3.ri, rok, rn, SqT.of er3, t1, t2, d5, hj, hT.ext s03, fun l us dv H4 f4 hl4 edv dus vok l1 l2 => ?_⟩
        refine ⟨l, us, dv, rfl, hl4, dus, vok, l1, l2, ?_⟩
        rw [edv]
        exact kI hin H4 ((Fr.of s03).trans (f4.mono fun b hb => Fresh.back (M := no) (T := tbS c.Pt) (Fr.of s03) (fun z => z) hb))
/-- where nothing is refused -/
def spSinceK (K : PySem.W.Frag) (c : Cn) : Sp := fun vs H Q _ => ∃ (x : Addr) (M : Addr → Prop) (ds : Dims) (ms : List Str) (S : Hs) (t : Th) (day : Int) (at_ : Str) (dm : Str × List (Str × Str)), vs = [.ref x, .str t.1, .str t.2, .int day, .str at_] ∧ HoO K c H M x ds ms S ∧ HsOk ds ms S ∧ RwsOk ds ms S.rows ∧ S.rows.length ≤ 199 ∧ Tx t.1 ∧ Tx t.2 ∧ Tx at_ ∧ Tabs (tbS c.Pt) H ∧
  (lk S.ts.nums t).isSome = true ∧ ds.find? (fun d => decide (d.1 = t.1)) = some dm ∧ at_ ∈ dm.2.map (·.1) ∧ ∀ H', Fr (tbS c.Pt) (Fresh H) H H' → Q (.int (sinceN dm S.rows t day at_ : Nat)) H'
theorem since_calm {c : Cn} {NT NG : Addr} (G : FnOk P w K mg base (L2.CX P w) 7 f fd ["self", "dimension", "key", "day", "attribute"] (spSince K c NT NG)) : FnOk P w K mg base CX0 7 f fd ["self", "dimension", "key", "day", "attribute"] (spSinceK K c) := by
  refine KdXn.fn_weak (KdXn.fn_still G) ?_
  rintro vs H Q E ⟨x, M, ds, ms, S, t, day, at_, dm, rfl, hx, so, rok, rn, t1, t2, ta, hT, hs, hd, hi, k⟩
  refine ⟨x, M, ds, ms, S, t, day, at_, rfl, hx, so, rok, rn, t1, t2, ta, hT, fun hn => (by rw [hn] at hs; cases hs), fun dm2 _ hd2 => ?_⟩
  rw [hd] at hd2
  cases hd2
  exact ⟨fun hn => absurd hi hn, fun _ => k⟩
def kwS {α : Type} (us ws : List α) : List α := match us, ws with
  | [a], [b, c, d, e] => [a, e, d, c, b]
  | _, _ => []
theorem kwS_rel {vs : List V} {us : List Value} {zs : List V} {ws : List Value} (r1 : Vals vs us) (r2 : Vals zs ws) : Vals (kwS vs zs) (kwS us ws) := by
  cases r1 with
  | nil => exact .nil
  | cons h1 t1 =>
    cases t1 with
    | cons a b => exact .nil
    | nil =>
      cases r2 with
      | nil => exact .nil
      | cons h2 t2 =>
        cases t2 with
        | nil => exact .nil
        | cons h3 t3 =>
          cases t3 with
          | nil => exact .nil
          | cons h4 t4 =>
            cases t4 with
            | nil => exact .nil
            | cons h5 t5 =>
              cases t5 with
              | nil => exact .cons h1 (.cons h5 (.cons h4 (.cons h3 (.cons h2 .nil))))
              | cons h6 t6 => exact .nil
theorem since_kw (F : FnP K "since" "House.since" s_House_since f fd) : KBinds K fd ["self", "dimension", "key", "day", "attribute"] ["attribute", "day", "key", "dimension"] kwS kwS := by
  obtain ⟨oc, od, dV, kV, doc, pm, an, cdv, ct, osl, rfl, lk, hcd, hD, hK⟩ := F.ex
  rcases hD with ⟨_, rfl⟩ | ⟨e, _⟩
  · refine ⟨fun s us ws X l1 => BindsTo.of_looks fun M => ?_, kwS_rel⟩
    match us, ws, l1 with
    | [a], [b, c, d, e], _ => exact PySem.W.Looks.of_pure rfl
  · exact absurd rfl e
end
end Kd

namespace Kd
open PySem PySem.Spec PyProof.Rows L2 LamX
section
variable {P : Program} {w : World} {K : PySem.W.Frag} {mg : Str → Option Value} {base : Heap} {f : Addr} {fd : FuncData}
/-! ### _law_due -/
abbrev N_l_due : List Str := ["worths", "many"]
theorem sc_l_due : FnScope N_l_due ["worths"] (defScope s_l_due) := ⟨rfl, rfl, rfl, by decide +kernel, rfl, by decide +kernel, by decide +kernel⟩
/-! slots: 0 worths 1 many; cells:  -/
theorem ok_due29 (F : FnP K "_law_due" "_law_due" s_l_due f fd) (z_len : mg "len" = none) : FnOk P w K mg base CX0 1 f fd ["worths"] (spLastC K) := by
  refine F.ok sc_l_due (fun vs H Q E h => ?_) (fun cdv A outer s H vs Q E hr h => ?_)
  · obtain ⟨l, us, dv, rfl, _⟩ := h
    rfl
  · obtain ⟨l, us, dv, rfl, hl, dus, vok, l1, l2, k⟩ := h
    have nd := sc_l_due.nd
    refine ⟨_, PSs.nox (pss_cons (ps_set (i := 1) nd rfl (Or.inl rfl) (pe_op op_sub (pe_callB call_len_seq (by rfl) z_len boot_len (pa_cons (pv 0) pa_nil)) pe_int))
      (pss_cons (ps_while PassesOwn.never (PW.pt (pw_and (pt_cmpR op_gt (pv 1) pe_int (nomark _)) (pw_and1 (pt_cmpR (op_eqD hr.units) (pe_ix ix_list (pv 0) (pe_op op_sub (pv 1) pe_int) (fun _ _ => rfl)) (pe_ix ix_list (pv 0) (pe_un un_neg pe_int) (fun _ _ => rfl)) (nomark _)))))
        (pss_one (ps_set (i := 1) nd rfl (Or.inl rfl) (pe_op op_sub (pv 1) pe_int))))
      (pss_one (ps_ret (pv 1))))), ?_⟩
    refine ⟨_, rfl, l, us, rfl, .inl (SqL.of hl), _, _, rfl, rfl, ?_⟩
    refine set_sl (σ' := [some (.ref l), some (.int ((us.length - 1 : Nat) : Int))]) (congrArg (fun z : Int => [some (V.ref l), some (V.int z)]) (by omega : (us.length : Int) - 1 = ((us.length - 1 : Nat) : Int))) ?_
    have dlen := DpAll.len dus
    refine while_by (fun σ H2 => H2 = H ∧ ∃ n : Nat, n < us.length ∧ goC dv n = lastC dv ∧ σ = [some (.ref l), some (.int (n : Int))]) (fun σ _ => numJ σ) ⟨rfl, _, by omega, by unfold lastC; rw [← dlen], rfl⟩ ?_ ?_
    · rintro σ H2 ⟨rfl, n, hn, hg, rfl⟩
      refine ⟨_, rfl, _, _, rfl, rfl, _, rfl, ?_⟩
      by_cases c : 0 < n
      · rw [decide_eq_true (by omega : (n : Int) > 0)]
        refine iteT ?_
        have hm : us.length - 1 < us.length := by omega
        have hp : n - 1 < us.length := by omega
        obtain ⟨d1, g1, g2⟩ := DpAll.at_ dus (List.getElem?_eq_getElem hp)
        obtain ⟨d2, g3, g4⟩ := DpAll.at_ dus (List.getElem?_eq_getElem hm)
        have e1 : us.getLast? = some us[us.length - 1] := by rw [List.getLast?_eq_getElem?]; exact List.getElem?_eq_getElem hm
        refine ⟨_, rfl, _, rfl, _, _, rfl, rfl, l, us, _, _, rfl, rfl, SqL.of hl, ?_, _, rfl, _, rfl, l, us, _, _, rfl, rfl, SqL.of hl, atI_end e1, d1, d2, g2, g4, (vok _ (List.mem_of_getElem? g1)).sh, (vok _ (List.mem_of_getElem? g3)).sh, _, rfl, ?_⟩
        · rw [show (n : Int) - 1 = ((n - 1 : Nat) : Int) by omega]
          exact atI_nat (List.getElem?_eq_getElem hp)
        · have hg2 := goC_pos (dv := dv) c
          rw [List.getD_eq_getElem?_getD, List.getD_eq_getElem?_getD, ← dlen, g1, g3, hg] at hg2
          have hg2 : lastC dv = if PyData.eqv d1 d2 = true then goC dv (n - 1) else n := hg2
          cases q : PyData.eqv d1 d2 with
          | false =>
            rw [q] at hg2
            have hg2 : lastC dv = n := hg2
            rw [hg2] at k
            exact iteF ⟨_, rfl, k⟩
          | true =>
            rw [q] at hg2
            have hg2 : lastC dv = goC dv (n - 1) := hg2
            refine iteT ⟨_, rfl, _, _, rfl, rfl, ?_⟩
            refine sl_eq (σ' := [some (.ref l), some (.int ((n - 1 : Nat) : Int))]) (congrArg (fun z : Int => [some (V.ref l), some (V.int z)]) (by omega : (n : Int) - 1 = ((n - 1 : Nat) : Int))) ⟨⟨rfl, n - 1, by omega, hg2.symm, rfl⟩, ?_⟩
            show ((n - 1 : Nat) : Int).toNat < ((n : Nat) : Int).toNat
            omega
      · rw [decide_eq_false (by omega : ¬ (n : Int) > 0)]
        have h0 : n = 0 := by omega
        subst h0
        have hg : 0 = lastC dv := hg
        rw [← hg] at k
        exact iteF ⟨_, rfl, k⟩
    · rintro σ H2 Q1 Q2 hq ⟨v1, e1, i1, j1, e2, e3, b, e4, q⟩
      refine ⟨v1, e1, i1, j1, e2, e3, b, e4, ?_⟩
      cases b with
      | false => exact iteF (hq _ _ ((if_neg (by simp) : (if false = true then _ else _) = _).mp q))
      | true =>
        have q := (if_pos rfl : (if true = true then _ else _) = _).mp q
        obtain ⟨a1, a2, a3, a4, a5, a6, a7, a8, a9, b1, b2, b3, b4, b5, b6, b7, b8, b9, c1, c2, c3, c4, c5, c6, c7, c8, c9, d1, d2, d3, d4, d5, d6, d7, d8, d9, q⟩ := q
        exact iteT ⟨a1, a2, a3, a4, a5, a6, a7, a8, a9, b1, b2, b3, b4, b5, b6, b7, b8, b9, c1, c2, c3, c4, c5, c6, c7, c8, c9, d1, d2, d3, d4, d5, d6, d7, d8, d9, hq _ _ q⟩
end
end Kd

namespace Kd
open PySem PySem.Spec PyProof.Rows L2 LamX
theorem kv_val {K : PySem.W.Frag} {H : Hp} : ∀ {kvs : List (L2.Key × V)} {ks : List Kind}, Paired (KvAt K H) kvs ks → (ks.map (·.1)).Nodup → ∀ k ∈ ks, ∃ q, valV kvs (Sum.inl k.1) = some (.ref q) ∧ SqT K H q (k.2.map Fv.v)
  | _, _, .nil, _, k, hk => by cases hk
  | _, _, .cons (a := kv) (b := k0) ⟨e1, q, e2, h1⟩ t, hn, k, hk => by
    rw [List.map_cons, List.nodup_cons] at hn
    by_cases c : k0.1 = k.1
    · rcases List.mem_cons.mp hk with rfl | hk
      · refine ⟨q, ?_, h1⟩
        unfold valV
        rw [List.find?_cons_of_pos (by rw [e1]; simp)]
        show some kv.2 = _
        rw [e2]
      · exact absurd (by rw [c]; exact List.mem_map_of_mem (f := (·.1)) hk) hn.1
    · rcases List.mem_cons.mp hk with rfl | hk
      · exact absurd rfl c
      · obtain ⟨q2, h2, h3⟩ := kv_val t hn.2 k hk
        refine ⟨q2, ?_, h3⟩
        unfold valV at h2 ⊢
        rw [List.find?_cons_of_neg (by rw [e1]; simpa using c)]
        exact h2
theorem getD_at {vals : List Fv} {j : Nat} (h : j < vals.length) : (vals.map Fv.v)[j]? = some (vals.getD j (.i 0)).v := by
  rw [List.getElem?_map, List.getD_eq_getElem?_getD, List.getElem?_eq_getElem h]
  rfl
theorem eqv_fvR (a b : Fv) : PyData.eqv a.d b.d = decide (a = b) := eqv_fv a b
section
variable {P : Program} {w : World} {K : PySem.W.Frag} {mg : Str → Option Value} {base : Heap} {f : Addr} {fd : FuncData}
/-! ### _law_value -/
def spValueR (K : PySem.W.Frag) : Sp := fun vs H Q _ => ∃ (wx tt lo kd : Addr) (es : WEs) (xs : List V) (ds : Dims) (kn : List (Th × List Kind)) (ka : Th → Addr) (t : Th) (d : Str × List (Str × Str)) (day : Int) (j : Nat), vs = [.ref wx, .ref tt, .int day, .int j] ∧ H wx = some (.dK es) ∧ valV es (Sum.inr "dims") = some (.ref lo) ∧ valV es (Sum.inr "kinds") = some (.ref kd) ∧
  H lo = some (.lst xs) ∧ Paired (DimAt K H) xs ds ∧ ds.length ≤ 4 ∧ H kd = some (.dT (kn.map fun e => (thK e.1, V.ref (ka e.1)))) ∧ (∀ e ∈ kn, InnerAt K H (ka e.1) e.2) ∧ H tt = some (.tup [.str t.1, .str t.2]) ∧ ds.find? (fun d => decide (d.1 = t.1)) = some d ∧ (∀ a ∈ d.2, a.2 ∈ wayL) ∧ j < d.2.length ∧ KsOk d ((lk kn t).getD []) ∧ ((lk kn t).getD []).length < 64 ∧
  ∀ v H', Same H H' → Dp K H' v (valR ((d.2.map (·.2)).getD j Str.empty) j ((lk kn t).getD []) day) → Q v H'
abbrev N_l_value : List Str := ["world", "thing", "date", "at", "dim", "some", "trait", "way", "kinds", "days", "one", "worths", "worth", "others"]
theorem sc_l_value : FnScope N_l_value ["world", "thing", "date", "at"] (defScope s_l_value) := ⟨rfl, rfl, rfl, by decide +kernel, rfl, by decide +kernel, by decide +kernel⟩
/-! slots: 0 world 1 thing 2 date 3 at 4 dim 5 some 6 trait 7 way 8 kinds 9 days 10 one 11 worths 12 worth 13 others; cells: at date kinds thing worths -/
set_option maxHeartbeats 0 in
theorem ok_valueR (F : FnP K "_law_value" "_law_value" s_l_value f fd) (z_sorted : mg "sorted" = none) : FnOk P w K mg base CX0 1 f fd ["world", "thing", "date", "at"] (spValueR K) := by
  refine F.ok sc_l_value (fun vs H Q E h => ?_) (fun cdv A outer s H vs Q E hr h => ?_)
  · obtain ⟨wx, tt, lo, kd, es, xs, ds, kn, ka, t, d, day, j, rfl, _⟩ := h
    rfl
  · obtain ⟨wx, tt, lo, kd, es, xs, ds, kn, ka, t, d, day, j, rfl, hw, vd, vk, hlo, pd, d4, hkd, hin, htt, hd, hwy, hj, ok, k64, k⟩ := h
    have nd := sc_l_value.nd
    have hu := hr.units
    have hu1 : (A.deeper (envOfC "_law_value" (defScope s_l_value) s.heap.objs.size f cdv)).units + 1 < cLine := by omega
    refine ⟨_, PSs.nox (pss_cons (ps_asg (pe_ix ix_tup (pe_ix ix_list (pe_lc (own := [("dim", 4), ("some", 5)]) (g := gTup K 2 (gCons (gName 4) (gCons (gName 5) gNil))) (tt := tTest (tOp rEq (tVar 4) (tOp (rIxT K) (tVar 1) (tC (.int 0))))) (te := tVar 5) rfl nd (pi_list (pe_dget (hu_of hr) (pv 0) pe_str (fun _ _ => rfl))) (blkOk_by (own := [("dim", 4), ("some", 5)]) (N := N_l_value) (sc := defScope s_l_value) (by decide +kernel))
        (fun _ _ _ _ _ => pg_tup rfl (pgs_cons (pg_name (i := 4) nd rfl (Or.inl rfl)) (pgs_cons (pg_name (i := 5) nd rfl (Or.inl rfl)) pgs_nil))) (fun _ _ _ _ _ => pts_one (pt_cmpR op_eq (pv 4) (pe_ix ix_tup (pv 1) pe_int (fun _ _ => rfl)) (nomark _))) (fun _ _ _ _ _ => pv 5)) pe_int (fun _ _ => rfl)) (pv 3) (fun _ _ => rfl)) (pg_tup rfl (pgs_cons (pg_name (i := 6) nd rfl (Or.inl rfl)) (pgs_cons (pg_name (i := 7) nd rfl (Or.inl rfl)) pgs_nil))))
      (pss_cons (ps_set (i := 8) nd rfl (Or.inr rfl) (pe_dget2 (hu_of hr) (pe_dget (hu_of hr) (pv 0) pe_str (fun _ _ => rfl)) (pv 1) pe_dnewK ⟨rfl, rfl, rfl, rfl⟩))
      (pss_cons (ps_set (i := 9) nd rfl (Or.inl rfl) (pe_callB (call_sortedDI rfl) (by rfl) z_sorted (by decide +kernel) (pa_cons (pv 8) pa_nil)))
      (pss_cons (ps_if (pt_cmpR (op_eqD hr.units) (pv 9) (pe_lst pa_nil) (nomark _))
        (pss_one (ps_ret (pe_ifExp (pt_cmpR op_eq (pv 7) pe_str (nomark _)) (pe_tup (pa_cons pe_non (pa_cons pe_non pa_nil))) pe_non)))
        pss_nil)
      (pss_cons (ps_set (i := 11) nd rfl (Or.inr rfl) (pe_lc (own := [("one", 10)]) (g := gName 10) (tt := tYes) (te := tOp (rIxT K) (tDGet (tVar 8) (tVar 10)) (tVar 3)) rfl nd (pi_list (pv 9)) (blkOk_by (own := [("one", 10)]) (N := N_l_value) (sc := defScope s_l_value) (by decide +kernel))
        (fun _ _ _ _ _ => pg_name (i := 10) nd rfl (Or.inl rfl)) (fun _ _ _ _ _ => pts_nil) (fun _ _ _ _ _ => pe_ix ix_tup (pe_dget (hu_of hr) (pv 8) (pv 10) (fun _ _ => rfl)) (pv 3) (fun _ _ => rfl))))
      (pss_cons (ps_if (pt_cmpR op_eq (pv 7) pe_str (nomark _))
        (pss_one (ps_ret (pe_ix ix_list (pv 11) pe_int (fun _ _ => rfl))))
        pss_nil)
      (pss_cons (ps_if (pt_cmpR op_eq (pv 7) pe_str (nomark _))
        (pss_one (ps_ret (pe_ix ix_list (pv 11) (pe_un un_neg pe_int) (fun _ _ => rfl))))
        pss_nil)
      (pss_cons (ps_if (pt_cmpR op_eq (pv 7) pe_str (nomark _))
        (pss_one (ps_ret (pe_ix ix_list (pe_op op_cat (pe_lst (pa_cons pe_non pa_nil)) (pe_lc (own := [("one", 10)]) (g := gName 10) (tt := tTest (tOp (rI0 fun i j => .bl (decide (i ≤ j))) (tVar 10) (tVar 2))) (te := tOp (rIxT K) (tDGet (tVar 8) (tVar 10)) (tVar 3)) rfl nd (pi_list (pv 9)) (blkOk_by (own := [("one", 10)]) (N := N_l_value) (sc := defScope s_l_value) (by decide +kernel))
        (fun _ _ _ _ _ => pg_name (i := 10) nd rfl (Or.inl rfl)) (fun _ _ _ _ _ => pts_one (pt_cmpR op_le (pv 10) (pv 2) (nomark _))) (fun _ _ _ _ _ => pe_ix ix_tup (pe_dget (hu_of hr) (pv 8) (pv 10) (fun _ _ => rfl)) (pv 3) (fun _ _ => rfl)))) (pe_un un_neg pe_int) (fun _ _ => rfl))))
        pss_nil)
      (pss_cons (ps_setLc (i := 13) (own := [("worth", 12)]) (g := gName 12) (tt := tTest (tOp (rNeD K) (tVar 12) (tOp (rIxL K) (tVar 11) (tUn (rU fun i => .int (-i)) (tC (.int 1)))))) (te := tVar 12) rfl nd rfl rfl (sw_true rfl rfl rfl (by decide +kernel)) (pi_list (pv 11)) (blkOk_by (own := [("worth", 12)]) (N := N_l_value) (sc := defScope s_l_value) (by decide +kernel))
        (fun _ _ _ _ _ => pg_name (i := 12) nd rfl (Or.inl rfl)) (fun _ _ _ _ _ => pts_one (pt_cmpR (op_neD hr.units) (pv 12) (pe_ix ix_list (pv 11) (pe_un un_neg pe_int) (fun _ _ => rfl)) (nomark _))) (fun _ _ _ _ _ => pv 12))
      (pss_one (ps_ret (pe_tup (pa_cons (pe_ix ix_list (pv 11) (pe_un un_neg pe_int) (fun _ _ => rfl)) (pa_cons (pe_ix ix_list (pe_op op_cat (pe_lst (pa_cons pe_non pa_nil)) (pv 13)) (pe_un un_neg pe_int) (fun _ _ => rfl)) pa_nil)))))))))))))), ?_⟩
    have lxs := pd.length
    -- the attribute
    refine ⟨_, rfl, wx, _, rfl, wd_get hw vd, lo, rfl, ⟨_, SqL.of hlo⟩, fun D nD => ?_⟩
    refine lc_build (walk_list (K := K) (a := lo) (xs := xs)) nD (fun i zs R => Same H R ∧ Paired (fun (y : V) (e : Str × List (Str × Str)) => ∃ q, y = .ref q ∧ AttsAt K R q e.2) zs ((ds.take i).filter fun e => decide (e.1 = t.1))) ⟨Same.refl _, .nil⟩ (fun _ _ _ _ q => SqL.of ((q.1.trans cd_sub) _ _ hlo)) ?_ ?_
    · rintro i zs y R R' hi e ly ⟨sm, pz⟩ ⟨rfl, hy⟩
      obtain ⟨d1, hd1, p, q, rfl, h1, h2⟩ := paired_at pd hy
      have efl := flt_snoc (p := fun e : Str × List (Str × Str) => decide (e.1 = t.1)) hd1
      refine ⟨p, _, rfl, Same.seqT (sm.trans cd_sub) h1, rfl, _, _, rfl, _, _, rfl, rfl, rfl, _, rfl, _, rfl, tt, _, _, _, rfl, rfl, SqT.of ((sm.trans cd_sub) _ _ htt), atI_nat (j := 0) rfl, rfl, _, rfl, ?_⟩
      by_cases c : d1.1 = t.1
      · rw [decide_eq_true (congrArg V.str c)]
        refine iteT ⟨_, rfl, LcNx.add e ly (by omega) ⟨sm, ?_⟩⟩
        rw [efl, if_pos (decide_eq_true c)]
        exact PySem.Paired.snoc pz ⟨q, rfl, AttsAt.same sm h2⟩
      · rw [decide_eq_false (fun z => c (V.str.inj z))]
        refine iteF (LcNx.skip e ly ⟨sm, ?_⟩)
        rw [efl, if_neg (by rw [decide_eq_false c]; decide), List.append_nil]
        exact pz
    rintro zs H1 e1 ly ⟨sm, pz⟩
    rw [lxs, List.take_length] at pz
    have s1 : Same H H1 := sm.trans cd_sub
    have hhd : (ds.filter fun e => decide (e.1 = t.1))[0]? = some d := by rw [← List.head?_eq_getElem?, List.head?_filter]; exact hd
    have hz0 : 0 < zs.length := by
      rw [pz.length]
      exact (List.getElem?_eq_some_iff.mp hhd).1
    obtain ⟨d2, g1, qd, g2, ys, hys, py⟩ := paired_at pz (List.getElem?_eq_getElem hz0)
    rw [hhd] at g1
    cases g1
    have hys1 : SqT K H1 qd ys := Same.seqT cd_sub hys
    have lys := py.length
    have hjy : j < ys.length := by omega
    obtain ⟨a, ha, pa, hpa, h2⟩ := paired_at py (List.getElem?_eq_getElem hjy)
    have h2 : SqT K H1 pa [.str a.1, .str a.2] := Same.seqT cd_sub h2
    have way : (d.2.map (·.2)).getD j Str.empty = a.2 := by
      rw [List.getD_eq_getElem?_getD, List.getElem?_map, ha]
      rfl
    have hway := hwy a (List.mem_of_getElem? ha)
    rw [way] at k
    refine ⟨D, zs, _, _, rfl, rfl, SqL.of e1, atI_nat (j := 0) (by rw [List.getElem?_eq_getElem hz0, g2]), _, rfl, qd, ys, _, _, rfl, rfl, hys1, atI_nat (by rw [List.getElem?_eq_getElem hjy, hpa]), pa, _, rfl, h2, rfl, _, _, rfl, _, _, rfl, rfl, ?_⟩
    refine sl_eq (σ' := [some (.ref wx), some (.ref tt), some (.int day), some (.int j), none, none, some (.str a.1), some (.str a.2), none, none, none, none, none, none]) rfl ?_
    -- kinds
    refine ⟨_, rfl, wx, _, rfl, wd_get (s1 _ _ hw) vk, kd, rfl, .inr ⟨_, .inl (s1 _ _ hkd)⟩, _, rfl, fun c0 nc0 => ?_⟩
    generalize x2 : upd H1 c0 _ = H2
    obtain ⟨s2, ec0⟩ := new_of nc0 x2
    have s02 := s1.trans s2
    refine ⟨_, DGet.t (k := thK t) (s02 _ _ hkd) (s02 _ _ htt), ?_⟩
    obtain ⟨di, kvs, edi, hdi, pdi⟩ : ∃ di kvs, (valV (kn.map fun e => (thK e.1, V.ref (ka e.1))) (thK t)).getD (.ref c0) = .ref di ∧ H2 di = some (.dK kvs) ∧ Paired (KvAt K H2) kvs ((lk kn t).getD []) := by
      rw [val_map (r := fun t => V.ref (ka t)) thK_inj]
      cases e : lk kn t with
      | none => exact ⟨c0, [], rfl, ec0, .nil⟩
      | some ks =>
        obtain ⟨kvs, a1, a2⟩ := hin (t, ks) (lk_mem e)
        exact ⟨ka t, kvs, rfl, s02 _ _ a1, PySem.Paired.mono (fun _ _ => KvAt.keep (M := no) (Keep.of s02)) a2⟩
    rw [edi]
    generalize (lk kn t).getD [] = ks at *
    refine set_sl (σ' := [some (.ref wx), some (.ref tt), some (.int day), some (.int j), none, none, some (.str a.1), some (.str a.2), some (.ref di), none, none, none, none, none]) rfl ?_
    -- days
    have hkeys : kvs.map (·.1) = (ks.map (·.1)).map Sum.inl := by
      have : ∀ {kvs : List (L2.Key × V)} {ks : List Kind}, Paired (KvAt K H2) kvs ks → kvs.map (·.1) = (ks.map (·.1)).map Sum.inl := by
        intro kvs ks p
        induction p with
        | nil => rfl
        | cons h t ih => rw [List.map_cons, List.map_cons, List.map_cons, ih, h.1]
      exact this pdi
    refine ⟨_, rfl, di, kvs, ks.map (·.1), rfl, .inl hdi, hkeys, by rw [List.length_map]; exact k64, fun dy dl hperm hsort ndl => ?_⟩
    have hr1 := rise_of ok.d
    have edy : dy = (srt ks).map (·.1) := by
      have hp2 : dy.Perm ((srt ks).map (·.1)) := hperm.trans ((srt_perm ks).map _).symm
      refine rise_eq ?_ (List.Pairwise.map _ (fun _ _ h => h) hr1) fun z => hp2.mem_iff
      have hnd : dy.Nodup := hperm.nodup_iff.mpr ok.d
      exact (List.Pairwise.and hsort hnd).imp fun ⟨h1, h2⟩ => by omega
    subst edy
    generalize x3 : upd H2 dl _ = H3
    obtain ⟨s3, edl⟩ := new_of ndl x3
    have s03 := s02.trans s3
    refine set_sl (σ' := [some (.ref wx), some (.ref tt), some (.int day), some (.int j), none, none, some (.str a.1), some (.str a.2), some (.ref di), some (.ref dl), none, none, none, none]) rfl ?_
    have lS : (srt ks).length = ks.length := (srt_perm ks).length_eq
    have okS : KOk (srt ks) := fun k hk => ok.o k ((srt_perm ks).mem_iff.mp hk)
    have klS : ∀ k ∈ srt ks, k.2.length = d.2.length := fun k hk => ok.l k ((srt_perm ks).mem_iff.mp hk)
    have hval : ∀ k ∈ srt ks, ∃ q, valV kvs (Sum.inl k.1) = some (.ref q) ∧ SqT K H2 q (k.2.map Fv.v) := fun k hk => kv_val pdi ok.d k ((srt_perm ks).mem_iff.mp hk)
    unfold valR at k
    generalize hS : srt ks = S at *
    -- none
    refine ⟨_, rfl, by show 0 ≤ sizeLine; decide, fun p4 np4 => ?_⟩
    generalize x4 : upd H3 p4 _ = H4
    obtain ⟨s4, ep4⟩ := new_of np4 x4
    have s04 := s03.trans s4
    have dpI : ∀ (l : List Int), DpAll K H4 (l.map V.int) (l.map PyData.int) := fun l => by
      induction l with
      | nil => exact .nil
      | cons z r ih => exact .cons (.int z) ih
    refine ⟨.list ((S.map fun k : Kind => k.1).map PyData.int), .list [], .lst (SqL.of (s4 _ _ edl)) (dpI _), .lst (SqL.of ep4) .nil, shB_ints _, by decide, _, rfl, ?_⟩
    rw [eqv_ints_nil]
    by_cases hS0 : S = []
    · subst hS0
      refine iteT0 (by rfl) ?_
      refine ⟨_, rfl, rfl, _, rfl, ?_⟩
      by_cases c : a.2 = "before"
      · rw [decide_eq_true (congrArg V.str c)]
        refine iteT ⟨by show 2 ≤ sizeLine; decide, fun p5 np5 => ?_⟩
        have hv : wvD a.2 j [] ((upto day []).getLast?.map (·.2)) = .tuple [.none, .none] := by
          unfold wvD
          rw [if_neg (by rw [c]; decide +kernel), if_pos c]
          rfl
        rw [hv] at k
        exact k _ _ (s04.trans (same_new np5)) (.tup (SqT.of upd_same) (.cons .non (.cons .non .nil)))
      · rw [decide_eq_false (fun z => c (V.str.inj z))]
        refine iteF ?_
        have hv : wvD a.2 j [] ((upto day []).getLast?.map (·.2)) = .none := by
          unfold wvD
          split
          · rfl
          · split <;> rfl
        rw [hv] at k
        exact k _ _ s04 .non
    have hne : ((S.map fun k : Kind => k.1).isEmpty) = false := by
      cases S with
      | nil => exact absurd rfl hS0
      | cons _ _ => rfl
    refine iteF0 (by rw [hne]; decide) ?_
    have ldS : S.length < 64 := by omega
    have edl4 := s4 _ _ edl
    have hdi4 := (s3.trans s4) _ _ hdi
    have hval4 : ∀ k ∈ S, ∃ q, valV kvs (Sum.inl k.1) = some (.ref q) ∧ SqT K H4 q (k.2.map Fv.v) := fun k hk => by
      obtain ⟨q, h1, h2⟩ := hval k hk
      exact ⟨q, h1, Same.seqT (s3.trans s4) h2⟩
    -- worths
    refine ⟨_, rfl, dl, rfl, ⟨_, SqL.of edl4⟩, fun wl nwl => ?_⟩
    refine lc_build (walk_list (K := K) (a := dl) (xs := (S.map fun k : Kind => k.1).map V.int)) nwl (fun i zs R => Same H4 R ∧ zs = ((S.take i).map fun k => (k.2.getD j (.i 0)).v)) ⟨Same.refl _, rfl⟩ (fun _ _ _ _ q => SqL.of ((q.1.trans cd_sub) _ _ edl4)) ?_ ?_
    · rintro i zs y R R' hi e ly ⟨sm, rfl⟩ ⟨rfl, hy⟩
      rw [List.getElem?_map, List.getElem?_map] at hy
      obtain ⟨z1, hz1, rfl⟩ := Option.map_eq_some_iff.mp hy
      obtain ⟨k1, hk1, rfl⟩ := Option.map_eq_some_iff.mp hz1
      have hm := List.mem_of_getElem? hk1
      obtain ⟨q, h1, h2⟩ := hval4 k1 hm
      have u := sm.trans cd_sub
      rw [List.length_map, List.length_map] at hi
      refine ⟨rfl, yes ⟨_, rfl, _, rfl, di, _, rfl, .inl ⟨_, Sum.inl k1.1, .inl (u _ _ hdi4), rfl, h1.symm⟩, _, rfl, q, _, _, _, rfl, rfl, Same.seqT u h2, atI_nat (getD_at (by rw [klS k1 hm]; exact hj)), LcNx.add e ly (by omega) ⟨sm, ?_⟩⟩⟩
      obtain ⟨g1, g2⟩ := List.getElem?_eq_some_iff.mp hk1
      rw [List.take_succ_eq_append_getElem g1, g2, List.map_append]
      rfl
    rintro zs H5 ewl ly ⟨sm, rfl⟩
    rw [List.length_map, List.length_map, List.take_length] at ewl
    have ecol : (S.map fun k => (k.2.getD j (.i 0)).v) = (col j S).map Fv.v := by unfold col; rw [List.map_map]; rfl
    rw [ecol] at ewl
    have s45 := sm.trans cd_sub
    have s05 := s04.trans s45
    have edl5 := s45 _ _ edl4
    have hdi5 := s45 _ _ hdi4
    have lcol : (col j S).length = S.length := by unfold col; rw [List.length_map]
    have okc : ∀ v ∈ col j S, fvOk v = true := col_ok okS j
    have hlt : S.length - 1 < S.length := by
      have : 0 < S.length := List.length_pos_iff.mpr hS0
      omega
    obtain ⟨vl, hvl⟩ : ∃ vl, (col j S).getLast? = some vl := by
      have : col j S ≠ [] := fun h => by rw [h] at lcol; simp at lcol; exact hS0 (List.eq_nil_of_length_eq_zero lcol.symm)
      exact ⟨_, List.getLast?_eq_some_getLast this⟩
    have hvl2 : ((col j S).map Fv.v).getLast? = some vl.v := by rw [last_map, hvl]; rfl
    refine set_sl (σ' := [some (.ref wx), some (.ref tt), some (.int day), some (.int j), none, none, some (.str a.1), some (.str a.2), some (.ref di), some (.ref dl), none, some (.ref wl), none, none]) rfl ?_
    -- first
    refine ⟨_, rfl, rfl, _, rfl, ?_⟩
    by_cases c1 : a.2 = "first"
    · rw [decide_eq_true (congrArg V.str c1)]
      refine iteT ?_
      obtain ⟨vh, hvh⟩ : ∃ vh, (col j S).head? = some vh := by
        have : col j S ≠ [] := fun h => by rw [h] at hvl; cases hvl
        exact ⟨_, List.head?_eq_some_head this⟩
      have hv : wvD a.2 j S ((upto day S).getLast?.map (·.2)) = vh.d := by
        unfold wvD
        rw [if_neg (by rw [c1]; decide +kernel), if_neg (by rw [c1]; decide +kernel), if_pos c1, hvh]
        rfl
      rw [hv] at k
      refine ⟨_, rfl, wl, _, _, _, rfl, rfl, SqL.of ewl, atI_nat (j := 0) (by rw [List.getElem?_map, ← List.head?_eq_getElem?, hvh]; rfl), k _ _ s05 (Fv.dp vh)⟩
    rw [decide_eq_false (fun z => c1 (V.str.inj z))]
    refine iteF (nx_of ?_)
    -- last
    refine ⟨_, rfl, rfl, _, rfl, ?_⟩
    by_cases c2 : a.2 = "last"
    · rw [decide_eq_true (congrArg V.str c2)]
      refine iteT ?_
      have hv : wvD a.2 j S ((upto day S).getLast?.map (·.2)) = vl.d := by
        unfold wvD
        rw [if_neg (by rw [c2]; decide +kernel), if_neg (by rw [c2]; decide +kernel), if_neg (by rw [c2]; decide +kernel), hvl]
        rfl
      rw [hv] at k
      exact ⟨_, rfl, _, rfl, wl, _, _, _, rfl, rfl, SqL.of ewl, atI_end hvl2, k _ _ s05 (Fv.dp vl)⟩
    rw [decide_eq_false (fun z => c2 (V.str.inj z))]
    refine iteF (nx_of ?_)
    -- day
    refine ⟨_, rfl, rfl, _, rfl, ?_⟩
    by_cases c3 : a.2 = "day"
    · rw [decide_eq_true (congrArg V.str c3)]
      refine iteT ?_
      refine ⟨by show 1 ≤ sizeLine; decide, fun n1 nn1 => ?_⟩
      generalize x6 : upd H5 n1 _ = H6
      obtain ⟨s6, en1⟩ := new_of nn1 x6
      refine ⟨_, rfl, dl, rfl, ⟨_, SqL.of (s6 _ _ edl5)⟩, fun C nC => ?_⟩
      refine lc_build (walk_list (K := K) (a := dl) (xs := (S.map fun k : Kind => k.1).map V.int)) nC (fun i zs R => Same H6 R ∧ zs = ((upto day (S.take i)).map fun k => (k.2.getD j (.i 0)).v)) ⟨Same.refl _, rfl⟩ (fun _ _ _ _ q => SqL.of ((q.1.trans cd_sub) _ _ (s6 _ _ edl5))) ?_ ?_
      · rintro i zs y R R' hi e ly ⟨sm2, rfl⟩ ⟨rfl, hy⟩
        rw [List.getElem?_map, List.getElem?_map] at hy
        obtain ⟨z1, hz1, rfl⟩ := Option.map_eq_some_iff.mp hy
        obtain ⟨k1, hk1, rfl⟩ := Option.map_eq_some_iff.mp hz1
        have hm := List.mem_of_getElem? hk1
        obtain ⟨q, h1, h2⟩ := hval4 k1 hm
        have u := (s45.trans s6).trans (sm2.trans cd_sub)
        rw [List.length_map, List.length_map] at hi
        have efl : upto day (S.take (i + 1)) = upto day (S.take i) ++ if decide (k1.1 ≤ day) = true then [k1] else [] := flt_snoc (p := fun k : Kind => decide (k.1 ≤ day)) hk1
        refine ⟨rfl, _, rfl, _, rfl, _, _, rfl, rfl, _, rfl, ?_⟩
        by_cases c : k1.1 ≤ day
        · rw [decide_eq_true c]
          refine iteT ⟨_, rfl, _, rfl, di, _, rfl, .inl ⟨_, Sum.inl k1.1, .inl (u _ _ hdi4), rfl, h1.symm⟩, _, rfl, q, _, _, _, rfl, rfl, Same.seqT u h2, atI_nat (getD_at (by rw [klS k1 hm]; exact hj)), LcNx.add e ly (by omega) ⟨sm2, ?_⟩⟩
          rw [efl, if_pos (decide_eq_true c), List.map_append]
          rfl
        · rw [decide_eq_false c]
          refine iteF (LcNx.skip e ly ⟨sm2, ?_⟩)
          rw [efl, if_neg (by rw [decide_eq_false c]; decide), List.append_nil]
      rintro zs H7 eC ly ⟨sm2, rfl⟩
      rw [List.length_map, List.length_map, List.take_length] at eC
      have s67 := sm2.trans cd_sub
      have lup : (upto day S).length ≤ S.length := List.length_filter_le _ _
      refine ⟨n1, C, _, _, rfl, rfl, s67 _ _ en1, eC, Nat.le_of_lt (small1000 (by rw [List.length_map]; show 1 + _ ≤ _; omega)), fun p8 np8 => ?_⟩
      generalize x8 : upd H7 p8 _ = H8
      obtain ⟨s8, ep8⟩ := new_of np8 x8
      have s08 := ((s05.trans s6).trans s67).trans s8
      have hv : wvD a.2 j S ((upto day S).getLast?.map (·.2)) = optD (((upto day S).getLast?).map fun k => k.2.getD j (.i 0)) := by
        unfold wvD
        rw [if_pos c3]
        cases (upto day S).getLast? <;> rfl
      rw [hv] at k
      cases q : (upto day S).getLast? with
      | none =>
        rw [q] at k
        rw [List.getLast?_eq_none_iff.mp q] at ep8
        exact ⟨_, rfl, p8, _, _, _, rfl, rfl, SqL.of ep8, atI_end rfl, k _ _ s08 .non⟩
      | some kl =>
        rw [q] at k
        refine ⟨_, rfl, p8, _, _, _, rfl, rfl, SqL.of ep8, atI_end (a := (kl.2.getD j (.i 0)).v) ?_, k _ _ s08 (Fv.dp _)⟩
        rw [List.getLast?_append, List.getLast?_map, q]
        rfl
    rw [decide_eq_false (fun z => c3 (V.str.inj z))]
    refine iteF (nx_of ?_)
    -- before
    have c4 : a.2 = "before" := by
      simp only [wayL, List.mem_cons, List.not_mem_nil, or_false] at hway
      rcases hway with h | h | h | h | h
      all_goals first | exact absurd h c1 | exact absurd h c2 | exact absurd h c3 | exact h
    have shv : ∀ v ∈ col j S, SeqAt.shaped v.d = true := fun v hv => by
      obtain ⟨h1, h2⟩ := fv_lay (okc v hv)
      unfold SeqAt.shaped
      rw [h1, h2]
      rfl
    have hvlm := List.mem_of_getLast? hvl
    refine ⟨_, rfl, wl, rfl, ⟨_, SqL.of ewl⟩, fun ol nol => ?_⟩
    refine lc_build (walk_list (K := K) (a := wl) (xs := (col j S).map Fv.v)) nol (fun i zs R => Same H5 R ∧ zs = (((col j S).take i).filter fun c => !decide (c = vl)).map Fv.v) ⟨Same.refl _, rfl⟩ (fun _ _ _ _ q => SqL.of ((q.1.trans cd_sub) _ _ ewl)) ?_ ?_
    · rintro i zs y R R' hi e ly ⟨sm2, rfl⟩ ⟨rfl, hy⟩
      rw [List.getElem?_map] at hy
      obtain ⟨v1, hv1, rfl⟩ := Option.map_eq_some_iff.mp hy
      rw [List.length_map] at hi
      have u := sm2.trans cd_sub
      have efl := flt_snoc (p := fun c : Fv => !decide (c = vl)) hv1
      refine ⟨rfl, _, rfl, _, rfl, _, rfl, wl, _, _, _, rfl, rfl, SqL.of (u _ _ ewl), atI_end hvl2, v1.d, vl.d, Fv.dp v1, Fv.dp vl, shv v1 (List.mem_of_getElem? hv1), shv vl hvlm, _, rfl, ?_⟩
      rw [eqv_fvR]
      by_cases c : v1 = vl
      · rw [decide_eq_true c]
        refine iteF0 (by decide) (LcNx.skip e ly ⟨sm2, ?_⟩)
        rw [efl, if_neg (by rw [decide_eq_true c]; decide), List.append_nil]
      · rw [decide_eq_false c]
        refine iteT0 (by decide) ⟨_, rfl, LcNx.add e ly (by omega) ⟨sm2, ?_⟩⟩
        rw [efl, if_pos (by rw [decide_eq_false c]; decide), List.map_append]
        rfl
    rintro zs H6 eol ly ⟨sm2, rfl⟩
    rw [List.length_map, List.take_length] at eol
    have s56 := sm2.trans cd_sub
    refine set_sl (σ' := [some (.ref wx), some (.ref tt), some (.int day), some (.int j), none, none, some (.str a.1), some (.str a.2), some (.ref di), some (.ref dl), none, some (.ref wl), none, some (.ref ol)]) rfl ?_
    refine ⟨_, rfl, _, rfl, wl, _, _, _, rfl, rfl, SqL.of (s56 _ _ ewl), atI_end hvl2, by show 1 ≤ sizeLine; decide, fun n1 nn1 => ?_⟩
    generalize x7 : upd H6 n1 _ = H7
    obtain ⟨s7, en1⟩ := new_of nn1 x7
    have lfl : ((col j S).filter fun c => !decide (c = vl)).length ≤ (col j S).length := List.length_filter_le _ _
    refine ⟨_, rfl, n1, ol, _, _, rfl, rfl, en1, s7 _ _ eol, Nat.le_of_lt (small1000 (by rw [List.length_map]; show 1 + _ ≤ _; omega)), fun p8 np8 => ?_⟩
    generalize x8 : upd H7 p8 _ = H8
    obtain ⟨s8, ep8⟩ := new_of np8 x8
    have s08 := ((s05.trans s56).trans s7).trans s8
    have hv : wvD a.2 j S ((upto day S).getLast?.map (·.2)) = .tuple [vl.d, optD ((col j S).filter fun c => !decide (c = vl)).getLast?] := by
      unfold wvD
      rw [if_neg c3, if_pos c4]
      unfold unl
      rw [hvl]
      rfl
    rw [hv] at k
    have last : (([V.non] ++ ((col j S).filter fun c => !decide (c = vl)).map Fv.v)).getLast? = some (optV ((col j S).filter fun c => !decide (c = vl)).getLast?) := by
      rw [List.getLast?_append, List.getLast?_map]
      cases ((col j S).filter fun c => !decide (c = vl)).getLast? <;> rfl
    refine ⟨_, rfl, p8, _, _, _, rfl, rfl, SqL.of ep8, atI_end last, by show 2 ≤ sizeLine; decide, fun p9 np9 => ?_⟩
    exact k _ _ (s08.trans (same_new np9)) (.tup (SqT.of upd_same) (.cons (Fv.dp vl) (.cons (optV_dp _) .nil)))
end
end Kd

namespace Kd
open PySem PySem.Spec PyProof.Rows L2 LamX
theorem ks_put {W : Wm} {r : Rw} {t : Th} : (lk (W.put r).kinds t).getD [] = ksStep t ((lk W.kinds t).getD []) r := by
  cases r with
  | kind d key day vals =>
    show (lk (pt W.kinds (d, key) (pt (W.ks (d, key)) day vals)) t).getD [] = _
    rw [lk_pt]
    by_cases c : t = (d, key)
    · rw [if_pos c, ksStep_eq c]
      subst c
      rfl
    · rw [if_neg c, ksStep_ne (r := .kind d key day vals) (fun h => c (Option.some.inj (show some (d, key) = some t from h)).symm)]
  | fact _ _ _ _ => rfl
  | forget _ => rfl
theorem ks_not {W : Wm} {r : Rw} {t : Th} (h : W.takes r = false) : (lk W.kinds t).getD [] = ksStep t ((lk W.kinds t).getD []) r := by
  cases r with
  | kind _ _ _ _ => cases h
  | fact _ _ _ _ => cases h
  | forget _ => rfl
/-- what a thing's kinds are like, behind rows that fit -/
theorem ksR_ok {ds : Dims} {ms : List Str} {t : Th} {d : Str × List (Str × Str)} (hd : ds.find? (fun d => decide (d.1 = t.1)) = some d) {rows : List Rw} (h : RwsOk ds ms rows) : ∀ n, n ≤ rows.length → (∀ k ∈ ksR t (rows.take n), k.2.length = d.2.length) ∧ KOk (ksR t (rows.take n)) ∧ (ksR t (rows.take n)).length ≤ n ∧ ((ksR t (rows.take n)).map (·.1)).Nodup
  | 0, _ => ⟨fun _ h => (nomatch h), fun _ h => (nomatch h), Nat.le_refl _, List.nodup_nil⟩
  | n + 1, hn => by
    obtain ⟨h1, h2, h3, h4⟩ := ksR_ok hd h n (Nat.le_of_succ_le hn)
    rw [List.take_succ_eq_append_getElem (by omega), ksR_snoc]
    obtain ⟨ro, rf⟩ := h _ (List.getElem_mem (by omega : n < rows.length))
    generalize rows[n] = r at ro rf ⊢
    generalize ksR t (rows.take n) = ks at *
    by_cases c : thR r = some t
    · cases r with
      | fact _ _ _ _ => cases c
      | forget _ => cases c
      | kind d1 key1 day1 vals1 =>
        have et : t = (d1, key1) := (Option.some.inj c).symm
        rw [ksStep_eq et]
        have lv : vals1.length = d.2.length := by
          have hf : kfits ds d1 vals1.length = true := rf
          unfold kfits at hf
          rw [et] at hd
          rw [hd] at hf
          exact of_decide_eq_true hf
        refine ⟨fun k hk => ?_, fun k hk => ?_, by have := pt_length ks day1 vals1; omega, pt_nodup h4⟩
        · rcases mem_pt hk with rfl | ⟨hk, _⟩
          · exact lv
          · exact h1 k hk
        · rcases mem_pt hk with rfl | ⟨hk, _⟩
          · exact fun v hv => Fv.ok.fvOk (ro.2.2.2.2 v hv)
          · exact h2 k hk
    · rw [ksStep_ne c]
      exact ⟨h1, h2, Nat.le_succ_of_le h3, h4⟩
section
variable {P : Program} {w : World} {K : PySem.W.Frag} {mg : Str → Option Value} {base : Heap} {f : Addr} {fd : FuncData}
def wesT (lo mo kd fc rw : Addr) : WEs := [(Sum.inr "dims", .ref lo), (Sum.inr "sums", .ref mo), (Sum.inr "kinds", .ref kd), (Sum.inr "facts", .ref fc), (Sum.inr "rows", .ref rw)]
theorem Fresh.frb {T : TB} {H H1 : Hp} {b : Addr} (f : Fr T (Fresh H) H H1) (h : Fresh H1 b) : Fresh H b := fun o e t => h o (f.st b o e t (.inr fun q => q o e t)) t
theorem WmOk.mono {W : Wm} {n n' : Nat} (h : WmOk W n) (l : n ≤ n') : WmOk W n' := ⟨Nat.le_trans h.kl l, fun e he => Nat.le_trans (h.ki e he) l, Nat.le_trans h.fl l, Nat.le_trans h.rl l⟩
/-! ### _law_worths -/
def spWorths (K : PySem.W.Frag) : Sp := fun vs H Q _ => ∃ (wx tt lo mo rw0 : Addr) (es : WEs) (xs : List V) (ds : Dims) (ms : List Str) (rs : List V) (rows : List Rw) (t : Th) (d : Str × List (Str × Str)) (day : Int) (j : Nat), vs = [.ref wx, .ref tt, .int day, .int j] ∧ H wx = some (.dK es) ∧ valV es (Sum.inr "dims") = some (.ref lo) ∧ valV es (Sum.inr "sums") = some (.ref mo) ∧ valV es (Sum.inr "rows") = some (.ref rw0) ∧
  H lo = some (.lst xs) ∧ Paired (DimAt K H) xs ds ∧ ds.length ≤ 4 ∧ H rw0 = some (.lst rs) ∧ Paired (RwRef K H) rs rows ∧ RwsOk ds ms rows ∧ rows.length < 64 ∧ H tt = some (.tup [.str t.1, .str t.2]) ∧ ds.find? (fun d => decide (d.1 = t.1)) = some d ∧ (∀ a ∈ d.2, a.2 ∈ wayL) ∧ j < d.2.length ∧
  ∀ l us H', (∀ T : TB, Fr T (Fresh H) H H') → H' l = some (.lst us) → us.length = rows.length + 1 → DpAll K H' us (valsR ((d.2.map (·.2)).getD j Str.empty) j t rows day (rows.length + 1)) → Q (.ref l) H'
abbrev N_l_worths : List Str := ["world", "thing", "date", "at", "twin", "found", "row"]
theorem sc_l_worths : FnScope N_l_worths ["world", "thing", "date", "at"] (defScope s_l_worths) := ⟨rfl, rfl, rfl, by decide +kernel, rfl, by decide +kernel, by decide +kernel⟩
/-! slots: 0 world 1 thing 2 date 3 at 4 twin 5 found 6 row; cells:  -/
set_option maxHeartbeats 0 in
theorem ok_worths {fV fK : Addr} {dV dK : FuncData} (F : FnP K "_law_worths" "_law_worths" s_l_worths f fd) (c_value : Fun P w K mg base "_law_value" 1 ["world", "thing", "date", "at"] (spValueR K) fV dV) (c_kept : Fun P w K mg base "_law_kept" 1 ["world", "row"] (spKept K) fK dK) : FnOk P w K mg base CX0 2 f fd ["world", "thing", "date", "at"] (spWorths K) := by
  refine F.ok sc_l_worths (fun vs H Q E h => ?_) (fun cdv A outer s H vs Q E hr h => ?_)
  · obtain ⟨wx, tt, lo, mo, rw0, es, xs, ds, ms, rs, rows, t, d, day, j, rfl, _⟩ := h
    rfl
  · obtain ⟨wx, tt, lo, mo, rw0, es, xs, ds, ms, rs, rows, t, d, day, j, rfl, hw, vd, vs, vr, hlo, pd, d4, hrw, pr, rok, r64, htt, hd, hwy, hj, k⟩ := h
    have nd := sc_l_worths.nd
    refine ⟨_, PSs.nox (pss_cons (ps_set (i := 4) nd rfl (Or.inl rfl) (pe_disp (pps_cons pe_str (pe_dget (hu_of hr) (pv 0) pe_str (fun _ _ => rfl)) (pps_cons pe_str (pe_dget (hu_of hr) (pv 0) pe_str (fun _ _ => rfl)) (pps_cons pe_str pe_dnewT (pps_cons pe_str pe_dnewK (pps_cons pe_str (pe_lst pa_nil) pps_nil))))) rfl rfl (by simp) (by decide)))
      (pss_cons (ps_set (i := 5) nd rfl (Or.inl rfl) (pe_lst (pa_cons (pe_call c_value.G (hr.mono (by decide)) rfl c_value.g c_value.k c_value.b .nil pass0 (pa_cons (pv 4) (pa_cons (pv 1) (pa_cons (pv 2) (pa_cons (pv 3) pa_nil))))) pa_nil)))
      (pss_cons (ps_for PassesOwn.never rfl (pi_list (pe_dget (hu_of hr) (pv 0) pe_str (fun _ _ => rfl))) (pg_name (i := 6) nd rfl (Or.inl rfl))
        (pss_cons (ps_expr (pe_call c_kept.G (hr.mono (by decide)) rfl c_kept.g c_kept.k c_kept.b .nil pass0 (pa_cons (pv 4) (pa_cons (pv 6) pa_nil))))
        (pss_one (ps_expr (pe_bm PySem.F.plainAttrs_list PySem.F.slot_list_append PySem.F.type_list_append mt_append (pv 5) (pa_cons (pe_call c_value.G (hr.mono (by decide)) rfl c_value.g c_value.k c_value.b .nil pass0 (pa_cons (pv 4) (pa_cons (pv 1) (pa_cons (pv 2) (pa_cons (pv 3) pa_nil))))) pa_nil))))))
      (pss_one (ps_ret (pv 5)))))), ?_⟩
    have kok := ksR_ok hd rok
    -- the twin
    intro tw ntw
    generalize x1 : upd H tw _ = H1
    obtain ⟨s1, etw⟩ := new_of ntw x1
    refine ⟨_, rfl, wx, _, rfl, wd_get (s1 _ _ hw) vd, _, rfl, wx, _, rfl, wd_get (s1 _ _ hw) vs, fun kd nkd => ?_⟩
    generalize x2 : upd H1 kd _ = H2
    obtain ⟨s2, ekd⟩ := new_of nkd x2
    intro fc nfc
    generalize x3 : upd H2 fc _ = H3
    obtain ⟨s3, efc⟩ := new_of nfc x3
    refine ⟨by show 0 ≤ sizeLine; decide, fun rw nrw => ?_⟩
    generalize x4 : upd H3 rw _ = H4
    obtain ⟨s4, erw⟩ := new_of nrw x4
    have s04 := ((s1.trans s2).trans s3).trans s4
    refine ⟨((s2.trans s3).trans s4) _ _ etw, wesT lo mo kd fc rw, rfl, by show 5 ≤ 15; decide, ?_⟩
    have em : mergeK [] (wesT lo mo kd fc rw) = wesT lo mo kd fc rw := by kernel_rfl
    rw [em]
    have etw4 := ((s2.trans s3).trans s4) _ _ etw
    have f04 : ∀ T : TB, Fr T (Fresh H) H H4 := fun T => Fr.of s04
    generalize x5 : upd H4 tw _ = H5
    have k5 := keep_put etw4 trivial x5
    have f05 : ∀ T : TB, Fr T (Fresh H) H H5 := fun T => (f04 T).trans (by rw [← x5]; exact Fr.put etw4 trivial (Fresh.of ntw))
    have nkt : kd ≠ tw := ne_of (s2 _ _ etw) ekd (fun z => nomatch z) |>.symm
    have nft : fc ≠ tw := fun z => by rw [z, (s2 _ _ etw)] at nfc; cases nfc
    have nrt : rw ≠ tw := fun z => by rw [z, ((s2.trans s3) _ _ etw)] at nrw; cases nrw
    have nH : ∀ b, wdM tw kd fc rw (fun _ => tw) Wm.none b → Fresh H b := by
      have back : ∀ {G : Hp}, Same H G → ∀ {b : Addr}, G b = none → Fresh H b := fun s b hb o e => by rw [s _ _ e] at hb; cases hb
      rintro b (z | z | z | z | ⟨e, he, _⟩)
      · rw [z]; exact Fresh.of ntw
      · rw [z]; exact back s1 nkd
      · rw [z]; exact back (s1.trans s2) nfc
      · rw [z]; exact back ((s1.trans s2).trans s3) nrw
      · cases he
    have X5 : WdX K H5 tw (wesT lo mo kd fc rw) kd fc rw (fun _ => tw) (fun _ => tw) [] Wm.none :=
      { hx := by rw [← x5]; exact upd_same, ek := by kernel_rfl, ef := by kernel_rfl, er := by kernel_rfl, hk := k5.at ((s3.trans s4) _ _ ekd) trivial nkt, kk := fun e he => (nomatch he), ki := fun e he => (nomatch he),
        hf := k5.at (s4 _ _ efc) trivial nft, fi := fun e he => (nomatch he), hr := k5.at erw trivial nrt, ri := .nil, xf := nft.symm, kx := fun e he => (nomatch he) }
    have evd : valV (wesT lo mo kd fc rw) (Sum.inr "dims") = some (.ref lo) := by kernel_rfl
    generalize wesT lo mo kd fc rw = es5 at X5 evd
    have dims : ∀ {G : Hp}, (∀ T : TB, Fr T (Fresh H) H G) → G lo = some (.lst xs) ∧ Paired (DimAt K G) xs ds := fun f => ⟨(f []).at hlo trivial (fun q => q _ hlo (fun _ z => nomatch z)), PySem.Paired.mono (fun _ _ z => dim_keep (f []).keep0 z) pd⟩
    refine set_sl (σ' := [some (.ref wx), some (.ref tt), some (.int day), some (.int j), some (.ref tw), none, none]) rfl ?_
    have ko0 := kok 0 (Nat.zero_le _)
    obtain ⟨hl5, pd5⟩ := dims f05
    refine ⟨_, rfl, _, rfl, _, rfl, _, rfl, tw, tt, lo, kd, es5, xs, ds, [], (fun _ => tw), t, d, day, j, rfl, X5.hx, evd, X5.ek, hl5, pd5, d4, X5.hk, fun e he => (nomatch he), (f05 []).tup htt, hd, hwy, hj, ⟨fun _ h => (nomatch h), fun _ h => (nomatch h), Nat.zero_le _, List.nodup_nil⟩, by show 0 < 64; decide, fun v H6 s6 dv => ⟨by show 1 ≤ sizeLine; decide, fun Fa nFa => ?_⟩⟩
    generalize x7 : upd H6 Fa _ = H7
    obtain ⟨s7, eFa⟩ := new_of nFa x7
    have s57 := s6.trans s7
    have X7 := X5.same s57
    have f07 : ∀ T : TB, Fr T (Fresh H) H H7 := fun T => (f05 T).trans (Fr.of s57)
    have fFa : Fresh H Fa := Fresh.frb ((f05 []).trans (Fr.of s6)) (Fresh.of nFa)
    refine set_sl (σ' := [some (.ref wx), some (.ref tt), some (.int day), some (.int j), some (.ref tw), some (.ref Fa), none]) rfl ?_
    have lrs : rs.length = rows.length := pr.length
    have hw7 : ∀ {G : Hp}, (∀ T : TB, Fr T (Fresh H) H G) → G wx = some (.dK es) := fun f => (f []).at hw trivial (fun q => q _ hw (fun _ z => nomatch z))
    have hr7 : ∀ {G : Hp}, (∀ T : TB, Fr T (Fresh H) H G) → G rw0 = some (.lst rs) := fun f => (f []).at hrw trivial (fun q => q _ hrw (fun _ z => nomatch z))
    have nF7 : ∀ b, wdM tw kd fc rw (fun _ => tw) Wm.none b → Fresh H b ∧ b ≠ Fa := fun b hb => ⟨nH b hb, fun z => by
      obtain ⟨o, e, _⟩ := (X5.same s6).live b hb
      rw [z, nFa] at e
      cases e⟩
    refine ⟨_, rfl, wx, _, rfl, wd_get (hw7 f07) vr, rw0, rfl, ⟨_, SqL.of (hr7 f07)⟩, for_list (K := K) (a := rw0) (xs := rs) (fun i σ R => ∃ (y6 : Option V) (us : List V) (ka : Th → Addr) (fo : Str → Addr) (rsT : List V) (W : Wm), σ = [some (.ref wx), some (.ref tt), some (.int day), some (.int j), some (.ref tw), some (.ref Fa), y6] ∧ (∀ T : TB, Fr T (Fresh H) H R) ∧ WdX K R tw es5 kd fc rw ka fo rsT W ∧ (∀ b, wdM tw kd fc rw ka W b → Fresh H b ∧ b ≠ Fa) ∧ WmOk W i ∧ (lk W.kinds t).getD [] = ksR t (rows.take i) ∧ R Fa = some (.lst us) ∧ DpAll K R us (valsR ((d.2.map (·.2)).getD j Str.empty) j t rows day (i + 1)) ∧ us.length = i + 1)
      ⟨none, [v], _, _, _, _, rfl, f07, X7, nF7, ⟨Nat.le_refl _, fun e h => (nomatch h), Nat.le_refl _, Nat.le_refl _⟩, rfl, eFa, .cons (Dp.same s7 _ _ dv) .nil, rfl⟩ (fun i σ R _ q => ?_) (fun i y σ R hy q => ?_) (fun σ R q => ?_)⟩
    · obtain ⟨_, _, _, _, _, _, _, f, _⟩ := q
      exact SqL.of (hr7 f)
    · obtain ⟨y6, us, ka, fo, rsT, W, rfl, fR, XR, nR, wk, ek, hFa, dus, lus⟩ := q
      obtain ⟨r, hr1, p, rfl, ra⟩ := paired_at pr hy
      have hi : i + 1 ≤ rows.length := (List.getElem?_eq_some_iff.mp hr1).1
      have raR := (fR []).keep0.rw_at ra
      have etk : ksR t (rows.take (i + 1)) = ksStep t (ksR t (rows.take i)) r := by
        obtain ⟨g1, g2⟩ := List.getElem?_eq_some_iff.mp hr1
        rw [List.take_succ_eq_append_getElem g1, g2, ksR_snoc]
      have nok : ∀ e ∈ valsR ((d.2.map (·.2)).getD j Str.empty) j t rows day (i + 1), NoL 2 e := fun e he => by
        obtain ⟨m, hm, rfl⟩ := List.mem_map.mp he
        have := List.mem_range.mp hm
        exact (valR_ok (kok m (by omega)).2.1).n
      refine set_sl (σ' := [some (.ref wx), some (.ref tt), some (.int day), some (.int j), some (.ref tw), some (.ref Fa), some (.ref p)]) rfl ?_
      refine ⟨_, rfl, _, rfl, tw, p, kd, fc, rw, es5, ka, fo, rsT, W, r, rfl, XR, raR, wk.mono (by omega), fun hf => ?_, fun ht ka' fo' rs' R2 f6 nw6 X6 => ?_⟩
      · skip
        have hFaK := hFa
        have dusK := dus
        have fK := fR
        have XK := XR
        obtain ⟨hlK, pdK⟩ := dims fK
        have ekK : (lk W.kinds t).getD [] = ksR t (rows.take (i + 1)) := by rw [etk, ← ek]; exact ks_not hf
        have kk := kok (i + 1) hi
        refine ⟨_, rfl, .inl ⟨rfl, _, SqL.of hFaK⟩, _, rfl, _, rfl, _, rfl, _, rfl, tw, tt, lo, kd, es5, xs, ds, W.kinds, ka, t, d, day, j, rfl, XK.hx, evd, XK.ek, hlK, pdK, d4, XK.hk, XK.kk, (fK []).tup htt, hd, hwy, hj, by rw [ekK]; exact ⟨kk.1, kk.2.1, by have := kk.2.2.1; omega, kk.2.2.2⟩, by rw [ekK]; have := kk.2.2.1; omega, fun v R3 s3 dv3 => ⟨Fa, us, _, rfl, rfl, s3 _ _ hFaK, small1000 (by omega), ?_⟩⟩
        rw [ekK] at dv3
        generalize x8 : upd R3 Fa _ = R4
        have k4 := keep_put (s3 _ _ hFaK) trivial x8
        have X4 := (XK.same s3).keep (Keep.mono k4 (fun b hb => (nR b hb).2))
        refine ⟨_, us ++ [v], ka, _, _, W, rfl, fun T => ((fK T).trans (Fr.of s3)).trans (by rw [← x8]; exact Fr.put (s3 _ _ hFaK) trivial fFa), X4, nR, wk.mono (Nat.le_succ _), ekK, by rw [← x8]; exact upd_same, ?_, by rw [List.length_append, lus]; rfl⟩
        rw [valsR_succ ((d.2.map (·.2)).getD j Str.empty) j t rows day (i + 1)]
        exact dpall_snoc (k4.dpall' _ _ _ nok (DpAll.same s3 _ _ dusK)) (k4.dp (valR_ok kk.2.1).n dv3)
      · have f62 : ∀ T : TB, Fr T (Fresh H) H R2 := fun T => (fR T).trans ((f6 T).mono fun b hb => (nR b hb).1)
        have nR2 : ∀ b, wdM tw kd fc rw ka' (W.put r) b → Fresh H b ∧ b ≠ Fa := fun b hb => (nw6 b hb).elim (nR b) fun h => ⟨Fresh.frb (fR []) (Fresh.of h), fun z => by rw [z, hFa] at h; cases h⟩
        have nFa6 : ¬ wdM tw kd fc rw ka W Fa := fun z => (nR Fa z).2 rfl
        have hFaK := (f6 []).at hFa trivial nFa6
        have dusK := (f6 []).keep0.dpall' _ _ _ nok dus
        have fK := f62
        have XK := X6
        obtain ⟨hlK, pdK⟩ := dims fK
        have ekK : (lk (W.put r).kinds t).getD [] = ksR t (rows.take (i + 1)) := by rw [etk, ← ek]; exact ks_put
        have kk := kok (i + 1) hi
        refine ⟨_, rfl, .inl ⟨rfl, _, SqL.of hFaK⟩, _, rfl, _, rfl, _, rfl, _, rfl, tw, tt, lo, kd, es5, xs, ds, (W.put r).kinds, ka', t, d, day, j, rfl, XK.hx, evd, XK.ek, hlK, pdK, d4, XK.hk, XK.kk, (fK []).tup htt, hd, hwy, hj, by rw [ekK]; exact ⟨kk.1, kk.2.1, by have := kk.2.2.1; omega, kk.2.2.2⟩, by rw [ekK]; have := kk.2.2.1; omega, fun v R3 s3 dv3 => ⟨Fa, us, _, rfl, rfl, s3 _ _ hFaK, small1000 (by omega), ?_⟩⟩
        rw [ekK] at dv3
        generalize x8 : upd R3 Fa _ = R4
        have k4 := keep_put (s3 _ _ hFaK) trivial x8
        have X4 := (XK.same s3).keep (Keep.mono k4 (fun b hb => (nR2 b hb).2))
        refine ⟨_, us ++ [v], ka', _, _, (W.put r), rfl, fun T => ((fK T).trans (Fr.of s3)).trans (by rw [← x8]; exact Fr.put (s3 _ _ hFaK) trivial fFa), X4, nR2, wk.put r, ekK, by rw [← x8]; exact upd_same, ?_, by rw [List.length_append, lus]; rfl⟩
        rw [valsR_succ ((d.2.map (·.2)).getD j Str.empty) j t rows day (i + 1)]
        exact dpall_snoc (k4.dpall' _ _ _ nok (DpAll.same s3 _ _ dusK)) (k4.dp (valR_ok kk.2.1).n dv3)
    · obtain ⟨y6, us, ka, fo, rsT, W, rfl, fR, XR, nR, wk, ek, hFa, dus, lus⟩ := q
      rw [lrs] at dus lus
      exact ⟨_, rfl, k Fa us R fR hFa lus dus⟩
end
end Kd

namespace Kd
open PySem PySem.Spec PyProof.Rows L2 LamX
section
variable {P : Program} {w : World} {K : PySem.W.Frag} {mg : Str → Option Value} {base : Heap} {f : Addr} {fd : FuncData}
/-! ### House.tell, where nothing is refused -/
def spTellK (K : PySem.W.Frag) (c : Cn) : Sp := fun vs H Q _ => ∃ (x pr : Addr) (M : Addr → Prop) (ds : Dims) (ms : List Str) (S : Hs) (r : Rw), vs = [.ref x, .ref pr] ∧ HoO K c H M x ds ms S ∧ r.at K H pr ∧ r.ok ∧ HsOk ds ms S ∧ S.rows.length < 190 ∧ Tabs (tbS c.Pt) H ∧ S.takes ds ms r = true ∧
  ∀ H' M' v, Fr (tbS c.Pt) M H H' → Nw M M' H → HoO K c H' M' x ds ms (S.tell ds r) → Dp K H' v (S.tellD ds r) → Q v H'
theorem tell_calm {c : Cn} {NR NF : Addr} (G : FnOk P w K mg base (L2.CX P w) 8 f fd ["self", "row"] (spTell K c NR NF)) : FnOk P w K mg base CX0 8 f fd ["self", "row"] (spTellK K c) := by
  refine KdXn.fn_weak (KdXn.fn_still G) ?_
  rintro vs H Q E ⟨x, pr, M, ds, ms, S, r, rfl, hx, hp, ok, so, l, tb, tk, k⟩
  refine ⟨x, pr, M, ds, ms, S, r, rfl, hx, hp, ok, so, l, tb, fun hf => ?_, fun name hr hl => ?_, fun _ => k⟩
  · unfold Hs.takes at tk
    rw [hf] at tk
    cases tk
  · unfold Hs.takes at tk
    rw [hr] at tk
    rw [Bool.and_eq_true] at tk
    have h2 : (lk S.facts name).isSome = true := tk.2
    rw [hl] at h2
    cases h2
/-! ### House.versions of a known thing -/
/-! slots: 0 self 1 dimension 2 key; cells:  -/
end
end Kd

namespace Kd
open PySem PySem.Spec PyProof.Rows L2 LamX
section
variable {P : Program} {w : World} {K : PySem.W.Frag} {mg : Str → Option Value} {base : Heap} {f : Addr} {fd : FuncData}
/-! ### House.keys_of a dimension of the plan -/
def spKeysOf (K : PySem.W.Frag) (c : Cn) : Sp := fun vs H Q _ => ∃ (x : Addr) (M : Addr → Prop) (ds : Dims) (ms : List Str) (S : Hs) (z : Str) (d : Str × List (Str × Str)), vs = [.ref x, .str z] ∧ HoO K c H M x ds ms S ∧ ds.find? (fun d => decide (d.1 = z)) = some d ∧ S.ts.dimN z < 64 ∧ S.ts.nums.length ≤ 3999 ∧
  ∀ l H', Same H H' → H l = none → H' l = some (.lst ((S.keysOf z).map V.str)) → Q (.ref l) H'
abbrev N_House_keys_of : List Str := ["self", "dimension", "name", "key"]
theorem sc_House_keys_of : FnScope N_House_keys_of ["self", "dimension"] (defScope s_House_keys_of) := ⟨rfl, rfl, rfl, by decide +kernel, rfl, by decide +kernel, by decide +kernel⟩
/-! slots: 0 self 1 dimension 2 name 3 key; cells: dimension -/
theorem ok_keysOf {c : Cn} {fA : Addr} {fdA : FuncData} (F : FnP K "keys_of" "House.keys_of" s_House_keys_of f fd) (TX : HsTxt K c.CH) (TT : ThTxt K c.CT) (c_attributes_of : Fun P w K mg base "attributes_of" 2 ["plan", "dimension"] (spAttr K c.CP) fA fdA) (z_sorted : mg "sorted" = none) : FnOk P w K mg base CX0 3 f fd ["self", "dimension"] (spKeysOf K c) := by
  refine F.ok sc_House_keys_of (fun vs H Q E h => ?_) (fun cdv A outer s H vs Q E hr h => ?_)
  · obtain ⟨x, M, ds, ms, S, z, d, rfl, _⟩ := h
    rfl
  · obtain ⟨x, M, ds, ms, S, z, d, rfl, ⟨MT, MS, dx, p, th, kf, tr, wd, fa, wa, rs, rfl, X⟩, hd, l64, lnn, k⟩ := h
    have nd := sc_House_keys_of.nd
    refine ⟨_, PSs.nox (pss_cons (ps_if (pt_cmp (pc_isN (pe_call c_attributes_of.G (hr.mono (by decide)) rfl c_attributes_of.g c_attributes_of.k c_attributes_of.b .nil pass0 (pa_cons (pe_fld (pv 0) rfl) (pa_cons (pv 1) pa_nil)))))
        (pss_one ps_never)
        pss_nil)
      (pss_one (ps_ret (pe_callB cr_sortedS (by rfl) z_sorted (by decide +kernel) (pa_cons (pe_lock (pe_lc (own := [("name", 2), ("key", 3)]) (g := gTup K 2 (gCons (gName 2) (gCons (gName 3) gNil))) (tt := tTest (tOp rEq (tVar 2) (tVar 1))) (te := tVar 3) rfl nd (pi_keys (pe_fld (pe_fld (pv 0) rfl) rfl)) (blkOk_by (own := [("name", 2), ("key", 3)]) (N := N_House_keys_of) (sc := defScope s_House_keys_of) (by decide +kernel))
        (fun _ _ _ _ _ => pg_tup rfl (pgs_cons (pg_name (i := 2) nd rfl (Or.inl rfl)) (pgs_cons (pg_name (i := 3) nd rfl (Or.inl rfl)) pgs_nil))) (fun _ _ _ _ _ => pts_one (pt_cmpR op_eq (pv 2) (pv 1) (nomark _))) (fun _ _ _ _ _ => pv 3))) pa_nil))))), ?_⟩
    refine ⟨_, rfl, x, c.CH, dx, _, _, rfl, X.hx, TX.cl, TX.nP, hs_plan p th kf tr wd, _, rfl, p, z, ds, ms, rfl, X.pl.at, fun d1 q H1 hd1 hq s1 => ?_, fun hn => by rw [hd] at hn; cases hn⟩
    refine ⟨_, rfl, iteF ?_⟩
    have X1 := X.same s1
    obtain ⟨dxt, kd, nb, ka, na, XT⟩ := X1.th.x
    refine ⟨nb, _, XT.hn, trivial, fun od => ?_⟩
    generalize e2 : upd H1 nb _ = H2
    have en2 : H2 nb = some (.frz od (.dT (S.ts.nums.map fun e => (thK e.1, V.ref (na e.1))))) := by rw [← e2]; exact upd_same
    have o2 : ∀ b, b ≠ nb → H2 b = H1 b := fun b hb => by rw [← e2]; exact upd_ne hb
    have nxn : x ≠ nb := ne_of X1.hx XT.hn (fun z => nomatch z)
    have nxt : th ≠ nb := ne_of XT.hx XT.hn (fun z => nomatch z)
    refine ⟨_, rfl, x, c.CH, dx, _, _, rfl, by rw [o2 x nxn]; exact X1.hx, TX.cl, TX.nT, hs_things p th kf tr wd, th, c.CT, dxt, _, _, rfl, by rw [o2 th nxt]; exact XT.hx, TT.cl, TT.nN, th_num p kd nb _, nb, od, rfl, .inr ⟨_, en2, fun D nD => ?_⟩⟩
    refine lc_build (walk_keysT (d := nb) (o := od) (kvs := S.ts.nums.map fun e => (thK e.1, V.ref (na e.1)))) nD (fun i ys R => Same H2 R ∧ ys = (((S.ts.nums.take i).filter fun e => decide (e.1.1 = z)).map fun e => V.str e.1.2)) ⟨Same.refl _, rfl⟩ (fun _ _ _ _ z => (z.1.trans cd_sub) _ _ en2) ?_ ?_
    · rintro i ys y R R' hi e ly ⟨sm, rfl⟩ ⟨rfl, kk, vv, qq, hkv, rfl, hqq⟩
      rw [List.length_map] at hi
      rw [List.getElem?_map] at hkv
      obtain ⟨en, hen, eq⟩ := Option.map_eq_some_iff.mp hkv
      cases eq
      have hqq : R' qq = some (.tup [.str en.1.1, .str en.1.2]) := hqq
      have efl := flt_snoc (p := fun e : Th × List Ver => decide (e.1.1 = z)) hen
      refine ⟨qq, _, rfl, SqT.of hqq, rfl, _, _, rfl, _, _, rfl, rfl, rfl, _, rfl, _, rfl, rfl, _, rfl, ?_⟩
      by_cases q : en.1.1 = z
      · rw [decide_eq_true (by rw [q])]
        refine iteT ⟨_, rfl, LcNx.add e ly (by omega) ⟨sm, ?_⟩⟩
        rw [efl, if_pos (decide_eq_true q), List.map_append]
        rfl
      · rw [decide_eq_false (fun z => q (V.str.inj z))]
        refine iteF (LcNx.skip e ly ⟨sm, ?_⟩)
        rw [efl, if_neg (by rw [decide_eq_false q]; decide), List.append_nil]
    · rintro ys H3 e3 ly ⟨sm, rfl⟩
      rw [List.length_map, List.take_length] at e3
      have s23 : Same H2 H3 := sm.trans cd_sub
      refine ⟨s23 _ _ en2, ?_⟩
      have nDn : D ≠ nb := fun z => by rw [z, en2] at nD; cases nD
      generalize e4 : upd H3 nb _ = H4
      have s14 : Same H1 H4 := fun b o eb => by
        rw [← e4]
        by_cases q : b = nb
        · rw [q] at eb ⊢
          rw [XT.hn] at eb
          rw [upd_same]
          exact eb
        · rw [upd_ne q]
          exact s23 _ _ (by rw [o2 b q]; exact eb)
      have eD4 : H4 D = some (.lst ((S.ts.keysL z).map V.str)) := by
        rw [← e4, upd_ne nDn, e3]
        unfold Ts.keysL
        rw [List.map_map]
        rfl
      refine ⟨D, S.ts.keysL z, rfl, SqL.of eD4, by unfold Ts.keysL; rw [List.length_map]; exact l64, fun ns l hperm hsort nl => ?_⟩
      have ens : ns = S.keysOf z := sorted_eq hperm hsort
      subst ens
      generalize e5 : upd H4 l _ = H5
      obtain ⟨s5, el⟩ := new_of nl e5
      have s05 := (s1.trans s14).trans s5
      exact k l H5 s05 ((s1.trans s14).free nl) el
end
end Kd

/-! what stands behind each step of the laws with a kept world and a house -/
namespace Kd
open PySem PySem.Spec PyProof.Rows L2 LamX
theorem facts_tellB {ds : Dims} {ms : List Str} {S : Hs} {r : Rw} (W : Wm) (e : S.facts = W.facts) (tk : S.takes ds ms r = true) : (S.tell ds r).facts = (W.put r).facts := by
  cases r with
  | kind d key day vals => exact e
  | fact name day keys nums =>
    show pt S.facts name _ = pt W.facts name _
    rw [e]
  | forget name =>
    unfold Hs.takes at tk
    rw [Bool.and_eq_true] at tk
    have h2 : (lk S.facts name).isSome = true := tk.2
    cases c : lk S.facts name with
    | none => rw [c] at h2; cases h2
    | some fc =>
      have h3 : S.tell ds (.forget name) = (S.told (.forget name)).forgetS ds name fc := by
        show (match lk S.facts name with | some fc => (S.told (.forget name)).forgetS ds name fc | none => S) = _
        rw [c]
      rw [h3]
      show dp S.facts name = dp W.facts name
      rw [e]
theorem rows_putB (W : Wm) (r : Rw) : (W.put r).rows = W.rows ++ [r] := by cases r <;> rfl
theorem takesB {ds : Dims} {ms : List Str} {S : Hs} {W : Wm} {r : Rw} (e : S.facts = W.facts) (f : r.fits ds ms = true) : S.takes ds ms r = W.takes r := by
  unfold Hs.takes
  rw [f, Bool.true_and]
  cases r with
  | kind d key day vals => rfl
  | fact name day keys nums => rfl
  | forget name =>
    show (lk S.facts name).isSome = (lk W.facts name).isSome
    rw [e]
section
variable {K : PySem.W.Frag} {c : Cn} {R R' : Hp} {a g wx xh : Addr} {m m' : Nat} {es : WEs} {x : Fx} {kd fc rw : Addr} {ka ka' : Th → Addr} {fo fo' : Str → Addr} {rs rs' : List V} {W W' : Wm} {M M' N : Addr → Prop} {S S' : Hs} {T : TB}
structure Lb (K : PySem.W.Frag) (c : Cn) (R : Hp) (a g wx xh : Addr) (m : Nat) (es : WEs) (x : Fx) (kd fc rw : Addr) (ka : Th → Addr) (fo : Str → Addr) (rs : List V) (W : Wm) (M : Addr → Prop) (S : Hs) : Prop where
  B : Bag R a g m
  fx : FxAt K R x
  wd : WdX K R wx es kd fc rw ka fo rs W
  ho : HoO K c R M xh x.ds x.ms S
  tb : Tabs (tbS c.Pt) R
  w1 : ∀ b, wdM wx kd fc rw ka W b → ¬ dkM a g b
  w2 : ∀ b, wdM wx kd fc rw ka W b → ¬ fxM x b
  w3 : ∀ b, wdM wx kd fc rw ka W b → ¬ M b
  m1 : ∀ b, M b → ¬ dkM a g b
  m2 : ∀ b, M b → ¬ fxM x b
  f1 : ∀ b, fxM x b → ¬ dkM a g b
theorem Bag.fr (t : Bag R a g m) (f : Fr T N R R') (h : ∀ b, dkM a g b → ¬ N b) : Bag R' a g m := by
  obtain ⟨fo, k, gs, h1, h2, h3⟩ := t.ex
  exact ⟨fo, k, gs, f.at h1 trivial (h a (.inl rfl)), f.at h2 trivial (h g (.inr rfl)), h3⟩
/-- a step that touches nothing of the state -/
theorem Lb.fr (z : Lb K c R a g wx xh m es x kd fc rw ka fo rs W M S) (f : Fr (tbS c.Pt) N R R') (h1 : ∀ b, dkM a g b → ¬ N b) (h2 : ∀ b, fxM x b → ¬ N b) (h3 : ∀ b, wdM wx kd fc rw ka W b → ¬ N b) (h4 : ∀ b, M b → ¬ N b) : Lb K c R' a g wx xh m es x kd fc rw ka fo rs W M S :=
  ⟨z.B.fr f h1, z.fx.keep (f.keep h2), z.wd.keep (f.keep h3), z.ho.keep (f.keep h4), f.tb z.tb, z.w1, z.w2, z.w3, z.m1, z.m2, z.f1⟩
theorem Lb.same (z : Lb K c R a g wx xh m es x kd fc rw ka fo rs W M S) (s : Same R R') : Lb K c R' a g wx xh m es x kd fc rw ka fo rs W M S :=
  z.fr (N := no) (Fr.of s) (fun _ _ q => q) (fun _ _ q => q) (fun _ _ q => q) (fun _ _ q => q)
theorem Lb.fresh (z : Lb K c R a g wx xh m es x kd fc rw ka fo rs W M S) (f : Fr (tbS c.Pt) (Fresh R) R R') : Lb K c R' a g wx xh m es x kd fc rw ka fo rs W M S :=
  z.fr f (fun b hb q => z.B.two.live.not q hb) (fun b hb q => z.fx.live.not q hb) (fun b hb q => z.wd.live.not q hb) (fun b hb q => z.ho.live.not q hb)
theorem Lb.mono (z : Lb K c R a g wx xh m es x kd fc rw ka fo rs W M S) (h : m ≤ m') : Lb K c R a g wx xh m' es x kd fc rw ka fo rs W M S := { z with B := z.B.mono h }
theorem Lb.draw (z : Lb K c R a g wx xh m es x kd fc rw ka fo rs W M S) (b : Bag R' a g m') (s : Same (ct a g R) (ct a g R')) : Lb K c R' a g wx xh m' es x kd fc rw ka fo rs W M S := by
  have f : Fr (tbS c.Pt) (dkM a g) R R' := z.B.two.fr s
  exact ⟨b, z.fx.keep (f.keep z.f1), z.wd.keep (f.keep z.w1), z.ho.keep (f.keep z.m1), f.tb z.tb, z.w1, z.w2, z.w3, z.m1, z.m2, z.f1⟩
/-- a row is kept -/
theorem Lb.put (z : Lb K c R a g wx xh m es x kd fc rw ka fo rs W M S) (f : Fr (tbS c.Pt) (wdM wx kd fc rw ka W) R R') (nw : ∀ b, wdM wx kd fc rw ka' W' b → wdM wx kd fc rw ka W b ∨ R b = none) (X : WdX K R' wx es kd fc rw ka' fo' rs' W') : Lb K c R' a g wx xh m es x kd fc rw ka' fo' rs' W' M S :=
  ⟨z.B.fr f fun b hb q => z.w1 b q hb, z.fx.keep (f.keep fun b hb q => z.w2 b q hb), X, z.ho.keep (f.keep fun b hb q => z.w3 b q hb), f.tb z.tb,
    fun b hb q => (nw b hb).elim (fun h => z.w1 b h q) fun h => z.B.two.live.notN h q, fun b hb q => (nw b hb).elim (fun h => z.w2 b h q) fun h => z.fx.live.notN h q, fun b hb q => (nw b hb).elim (fun h => z.w3 b h q) fun h => z.ho.live.notN h q, z.m1, z.m2, z.f1⟩
/-- the house has told -/
theorem Lb.told (z : Lb K c R a g wx xh m es x kd fc rw ka fo rs W M S) (f : Fr (tbS c.Pt) M R R') (nw : Nw M M' R) (O : HoO K c R' M' xh x.ds x.ms S') : Lb K c R' a g wx xh m es x kd fc rw ka fo rs W M' S' :=
  ⟨z.B.fr f fun b hb q => z.m1 b q hb, z.fx.keep (f.keep fun b hb q => z.m2 b q hb), z.wd.keep (f.keep z.w3), O, f.tb z.tb, z.w1, z.w2,
    fun b hb q => (nw b q).elim (z.w3 b hb) fun h => z.wd.live.not h hb, fun b hb q => (nw b hb).elim (fun h => z.m1 b h q) fun h => z.B.two.live.not h q, fun b hb q => (nw b hb).elim (fun h => z.m2 b h q) fun h => z.fx.live.not h q, z.f1⟩
/-- what the mirrors keep -/
structure Lm (x : Fx) (W : Wm) (S : Hs) (n : Nat) : Prop where
  fe : S.facts = W.facts
  re : S.rows = W.rows
  so : HsOk x.ds x.ms S
  ro : RwsOk x.ds x.ms S.rows
  wo : WmOk W n
  rn : S.rows.length ≤ n
theorem Lm.tell {n : Nat} {r : Rw} (h : Lm x W S n) (ok : r.ok) (f : r.fits x.ds x.ms = true) (tk : W.takes r = true) : Lm x (W.put r) (S.tell x.ds r) (n + 1) := by
  have tk2 : S.takes x.ds x.ms r = true := by rw [takesB h.fe f]; exact tk
  obtain ⟨so2, rw2⟩ := h.so.tell ok tk2
  refine ⟨facts_tellB W h.fe tk2, by rw [rw2, rows_putB, h.re], so2, fun q hq => ?_, h.wo.put r, by rw [rw2, List.length_append]; have := h.rn; show _ + 1 ≤ _; omega⟩
  rw [rw2] at hq
  rcases List.mem_append.mp hq with hq | hq
  · exact h.ro q hq
  · rw [List.mem_singleton.mp hq]; exact ⟨ok, f⟩
theorem Lm.mono {n n' : Nat} (h : Lm x W S n) (l : n ≤ n') : Lm x W S n' := ⟨h.fe, h.re, h.so, h.ro, ⟨Nat.le_trans h.wo.kl l, fun e he => Nat.le_trans (h.wo.ki e he) l, Nat.le_trans h.wo.fl l, Nat.le_trans h.wo.rl l⟩, Nat.le_trans h.rn l⟩
theorem keys_in {S : Hs} {z key : Str} : key ∈ S.keysOf z ↔ (lk S.ts.nums (z, key)).isSome = true := by
  unfold Hs.keysOf
  have hm : key ∈ srtS (S.ts.keysL z) ↔ key ∈ S.ts.keysL z := (List.mergeSort_perm _ _).mem_iff
  rw [hm]
  unfold Ts.keysL
  constructor
  · intro h
    obtain ⟨e, he, rfl⟩ := List.mem_map.mp h
    obtain ⟨h1, h2⟩ := List.mem_filter.mp he
    have h2 := of_decide_eq_true h2
    rw [← lk_any, List.any_eq_true]
    exact ⟨e, h1, decide_eq_true (Prod.ext h2 rfl)⟩
  · intro h
    obtain ⟨v, hv⟩ := Option.isSome_iff_exists.mp h
    exact List.mem_map.mpr ⟨_, List.mem_filter.mpr ⟨lk_mem hv, decide_eq_true rfl⟩, rfl⟩
end
end Kd

namespace Kd
open PySem PySem.Spec PyProof.Rows L2 LamX
theorem natZ {r : Int} (h : 0 ≤ r) : ∃ n : Nat, r = n := ⟨r.toNat, by omega⟩
theorem passB {X : Cx} {E : XK} : ∀ σ : L2.St, PassesAt CX0 X σ E := fun _ _ _ _ _ _ _ h => h.elim
theorem shapedB_self {d : PyData} (h : SeqAt.shaped d = true) : PyData.eqv d d = true := SeqAt.eqv_refl d (SeqAt.canLay_of_shaped h)
section
variable {P : Program} {w : World} {K : PySem.W.Frag} {mg : Str → Option Value} {base : Heap} {f : Addr} {fd : FuncData}
def spLaw (K : PySem.W.Frag) (Pt : Addr) : Sp := fun vs H Q _ => ∃ (l : Addr) (ns : List Int), vs = [.ref l] ∧ SqL K H l (ns.map V.int) ∧ ns.length ≤ 63 ∧ Tabs (tbS Pt) H ∧ ∀ H', Q (.bl true) H'
abbrev N_law : List Str := ["script", "bag", "wide", "world", "house", "turn", "row", "dim", "some", "one", "k", "days", "at", "date", "due", "found"]
theorem sc_law : FnScope N_law ["script"] (defScope s_law) := ⟨rfl, rfl, rfl, by decide +kernel, rfl, by decide +kernel, by decide +kernel⟩
/-! slots: 0 script 1 bag 2 wide 3 world 4 house 5 turn 6 row 7 dim 8 some 9 one 10 k 11 days 12 at 13 date 14 due 15 found; cells: bag world -/
set_option maxHeartbeats 0 in
theorem ok_law {c : Cn} {f1 f2 f3 f4 f5 f6 f7 f8 m1 m2 m3 m4 : Addr} {d1 d2 d3 d4 d5 d6 d7 d8 e1 e2 e3 e4 : FuncData} (F : FnP K "law" "law" s_law f fd)
    (c_bag : Fun P w K mg base "_law_bag" 1 ["script"] (spBag K) f1 d1) (c_world : Fun P w K mg base "_law_world" 3 ["bag", "wide"] (spWorld5 K) f2 d2) (c_house : Fun P w K mg base "_law_house" 9 ["world"] (spHouse5 K c) f3 d3) (c_draw : Fun P w K mg base "_law_draw" 1 ["bag", "many"] spDraw5 f4 d4)
    (c_row : Fun P w K mg base "_law_row" 2 ["bag", "world"] (spRow5 K) f5 d5) (c_kept : Fun P w K mg base "_law_kept" 1 ["world", "row"] (spKept K) f6 d6) (c_worths : Fun P w K mg base "_law_worths" 2 ["world", "thing", "date", "at"] (spWorths K) f7 d7) (c_due : Fun P w K mg base "_law_due" 1 ["worths"] (spLastC K) f8 d8)
    (mTe : MFun P w K mg base c.CH "tell" 8 ["self", "row"] (spTellK K c) m1 e1) (mKe : MFun P w K mg base c.CH "keys_of" 3 ["self", "dimension"] (spKeysOf K c) m2 e2) (mRo : MFun P w K mg base c.CH "rows" 1 ["self"] (spRowsH K c) m3 e3) (mSi : MFun P w K mg base c.CH "since" 7 ["self", "dimension", "key", "day", "attribute"] (spSinceK K c) m4 e4)
    (kK : KBinds K e4 ["self", "dimension", "key", "day", "attribute"] ["attribute", "day", "key", "dimension"] kwS kwS) (z_range : mg "range" = none) (z_len : mg "len" = none) (z_isinstance : mg "isinstance" = none) (z_bool : mg "bool" = none) : FnOk P w K mg base CX0 10 f fd ["script"] (spLaw K c.Pt) := by
  refine F.ok sc_law (fun vs H Q E h => ?_) (fun cdv A outer s H vs Q E hr h => ?_)
  · obtain ⟨l, ns, rfl, _⟩ := h
    rfl
  · obtain ⟨l, ns, rfl, hS, hn, hTb, k⟩ := h
    have nd := sc_law.nd
    have hu := hr.units
    have hu1 : (A.deeper (envOfC "law" (defScope s_law) s.heap.objs.size f cdv)).units + 1 < cLine := by omega
    refine ⟨_, PSs.nox (pss_cons (ps_set (i := 1) nd rfl (Or.inr rfl) (pe_call c_bag.G (hr.mono (by decide)) rfl c_bag.g c_bag.k c_bag.b .nil pass0 (pa_cons (pv 0) pa_nil)))
      (pss_cons (ps_set (i := 2) nd rfl (Or.inl rfl) (pe_op op_fdiv (pe_call c_draw.G (hr.mono (by decide)) rfl c_draw.g c_draw.k c_draw.b .nil pass0 (pa_cons (pv 1) (pa_cons pe_int pa_nil))) pe_int))
      (pss_cons (ps_set (i := 3) nd rfl (Or.inr rfl) (pe_call c_world.G (hr.mono (by decide)) rfl c_world.g c_world.k c_world.b .nil pass0 (pa_cons (pv 1) (pa_cons (pv 2) pa_nil))))
      (pss_cons (ps_set (i := 4) nd rfl (Or.inl rfl) (pe_call c_house.G (hr.mono (by decide)) rfl c_house.g c_house.k c_house.b .nil pass0 (pa_cons (pv 3) pa_nil)))
      (pss_cons (ps_for PassesOwn.never rfl (pi_range1 rfl z_range (pa_cons (pe_call c_draw.G (hr.mono (by decide)) rfl c_draw.g c_draw.k c_draw.b .nil pass0 (pa_cons (pv 1) (pa_cons (pe_ix ix_list (pe_lst (pa_cons pe_int (pa_cons pe_int pa_nil))) (pv 2) (fun _ _ => rfl)) pa_nil))) pa_nil)) (pg_name (i := 5) nd rfl (Or.inl rfl))
        (pss_cons (ps_set (i := 6) nd rfl (Or.inl rfl) (pe_call c_row.G (hr.mono (by decide)) rfl c_row.g c_row.k c_row.b .nil pass0 (pa_cons (pv 1) (pa_cons (pv 3) pa_nil))))
        (pss_one (ps_if (pt_val (pe_call c_kept.G (hr.mono (by decide)) rfl c_kept.g c_kept.k c_kept.b .nil pass0 (pa_cons (pv 3) (pa_cons (pv 6) pa_nil))))
          (pss_one (ps_expr (pe_meth (pv 4) mTe.cl mTe.m mTe.G (hr.mono (by decide)) mTe.b .nil pass0 (pa_cons (pv 6) pa_nil))))
          pss_nil))))
      (pss_cons (ps_for PassesOwn.never rfl (pi_list (pe_dget (hu_of hr) (pv 3) pe_str (fun _ _ => rfl))) (pg_tup rfl (pgs_cons (pg_name (i := 7) nd rfl (Or.inl rfl)) (pgs_cons (pg_name (i := 8) nd rfl (Or.inl rfl)) pgs_nil)))
        (pss_one (ps_for PassesOwn.never rfl (pi_list (pe_slice sl_list (pe_meth (pv 4) mKe.cl mKe.m mKe.G (hr.mono (by decide)) mKe.b .nil pass0 (pa_cons (pv 7) pa_nil)) po_none (po_some (pe_ix ix_list (pe_lst (pa_cons pe_int (pa_cons pe_int pa_nil))) (pv 2) (fun _ _ => rfl))))) (pg_name (i := 9) nd rfl (Or.inl rfl))
          (pss_cons (ps_set (i := 11) nd rfl (Or.inl rfl) (pe_op op_cat (pe_lc (own := [("k", 10)]) (g := gName 10) (tt := tYes) (te := tOp (rI0 fun i j => .int (i + j)) (tOp (rIxL K) (tDGet (tVar 3) (tC (.str "days"))) (tCall spDraw5 [] E0 (tCons (tVar 1) (tCons (tC (.int 7)) tNil)))) (tCall spDraw5 [] E0 (tCons (tVar 1) (tCons (tC (.int 2)) tNil)))) rfl nd (pi_range1 rfl z_range (pa_cons (pe_op op_sub pe_int (pv 2)) pa_nil)) (blkOk_by (own := [("k", 10)]) (N := N_law) (sc := defScope s_law) (by decide +kernel))
        (fun _ _ _ _ _ => pg_name (i := 10) nd rfl (Or.inl rfl)) (fun _ _ _ _ _ => pts_nil) (fun _ _ _ _ _ => pe_op op_add (pe_ix ix_list (pe_dget (hu_of hr) (pv 3) pe_str (fun _ _ => rfl)) (pe_call c_draw.G (hr.mono (by decide)) rfl c_draw.g c_draw.k c_draw.b .nil pass0 (pa_cons (pv 1) (pa_cons pe_int pa_nil))) (fun _ _ => rfl)) (pe_call c_draw.G (hr.mono (by decide)) rfl c_draw.g c_draw.k c_draw.b .nil pass0 (pa_cons (pv 1) (pa_cons pe_int pa_nil))))) (pe_lst (pa_cons (pe_op op_pow pe_int pe_int) pa_nil))))
          (pss_one (ps_for PassesOwn.never rfl (pi_range1 rfl z_range (pa_cons (pe_callB call_len_seq (by rfl) z_len boot_len (pa_cons (pv 8) pa_nil)) pa_nil)) (pg_name (i := 12) nd rfl (Or.inl rfl))
            (pss_one (ps_for PassesOwn.never rfl (pi_list (pv 11)) (pg_name (i := 13) nd rfl (Or.inl rfl))
              (pss_cons (ps_set (i := 14) nd rfl (Or.inl rfl) (pe_call c_due.G (hr.mono (by decide)) rfl c_due.g c_due.k c_due.b .nil pass0 (pa_cons (pe_call c_worths.G (hr.mono (by decide)) rfl c_worths.g c_worths.k c_worths.b .nil pass0 (pa_cons (pv 3) (pa_cons (pe_tup (pa_cons (pv 7) (pa_cons (pv 9) pa_nil))) (pa_cons (pv 13) (pa_cons (pv 12) pa_nil))))) pa_nil)))
              (pss_cons (ps_set (i := 15) nd rfl (Or.inl rfl) (pe_meth (pv 4) mSi.cl mSi.m mSi.G (hr.mono (by decide)) mSi.b .nil pass0 (pa_cons (pv 7) (pa_cons (pv 9) (pa_cons (pv 13) (pa_cons (pe_ix ix_tup (pe_ix ix_tup (pv 8) (pv 12) (fun _ _ => rfl)) pe_int (fun _ _ => rfl)) pa_nil))))))
              (pss_cons (ps_if (PW.pt (pw_or (pt_cmpR op_ne (pv 15) (pv 14) (nomark _)) (pw_or1 (pt_val (pe_callB call_isi (by rfl) z_isinstance (by decide +kernel) (pa_cons (pv 15) (pa_cons (pe_bltn (v := .ty "bool") (by rfl) z_bool (by decide +kernel) rfl) pa_nil)))))))
                (pss_one (ps_ret pe_bl))
                pss_nil)
              (pss_one (ps_if (pt_cmpR op_ne (KdMs.pe_methKS (E := fun _ => E) (pv 4) mSi.cl mSi.m mSi.G (hr.mono (by decide)) kK passB (pk_cons (pe_ix ix_tup (pe_ix ix_tup (pv 8) (pv 12) (fun _ _ => rfl)) pe_int (fun _ _ => rfl)) (pk_cons (pv 13) (pk_cons (pv 9) (pk_cons (pv 7) pk_nil))))) (pv 14) (nomark _))
                (pss_one (ps_ret pe_bl))
                pss_nil)))))))))))))
      (pss_one (ps_ret (pe_cmpR (op_eqD hr.units) (pe_meth0 (pv 4) mRo.cl mRo.m mRo.G (hr.mono (by decide)) mRo.b .nil pass0) (pe_dget (hu_of hr) (pv 3) pe_str (fun _ _ => rfl)) (nomark _)))))))))), ?_⟩
    refine ⟨_, rfl, l, ns, rfl, hS, hn, fun a g H1 na ng B1 s1 => ?_⟩
    have Tb1 := hTb.ext s1
    refine set_sl (σ' := [some (.ref l), some (.ref a), none, none, none, none, none, none, none, none, none, none, none, none, none, none]) rfl ?_
    -- wide
    refine ⟨_, rfl, a, g, 0, 8, rfl, B1, by omega, by decide, by decide, fun rv Hw r0 r1 Bw sw => ?_⟩
    refine ⟨_, _, rfl, rfl, ⟨by decide, by decide⟩, ?_⟩
    obtain ⟨wd, hwd, ewd⟩ : ∃ wd : Nat, wd ≤ 1 ∧ rv / 7 = (wd : Int) := ⟨(rv / 7).toNat, by omega, by omega⟩
    have Tbw := tabs_drawG B1.two sw Tb1
    refine set_sl (σ' := [some (.ref l), some (.ref a), some (.int (wd : Int)), none, none, none, none, none, none, none, none, none, none, none, none, none]) (by rw [← ewd]; rfl) ?_
    refine ⟨_, rfl, _, rfl, a, g, _, wd, rfl, Bw, by omega, hwd, fun wx es kd fc rw x H2 B2 s2 fx ox wdX ws wf nx df => ?_⟩
    have Tb2 := tabs_drawG Bw.two s2 Tbw
    refine set_sl (σ' := [some (.ref l), some (.ref a), some (.int (wd : Int)), some (.ref wx), none, none, none, none, none, none, none, none, none, none, none, none]) rfl ?_
    refine ⟨_, rfl, wx, es, x, rfl, fx, wdX.hx, ws, ox.g, Tb2, fun H3 xh M0 f3 mF O => ?_⟩
    refine set_sl (σ' := [some (.ref l), some (.ref a), some (.int (wd : Int)), some (.ref wx), some (.ref xh), none, none, none, none, none, none, none, none, none, none, none]) rfl ?_
    have hw : ∀ b, wdM wx kd fc rw (fun _ => wx) Wm.none b → (b = wx ∨ b = kd ∨ b = fc ∨ b = rw) := by
      rintro b (h | h | h | h | ⟨e, he, _⟩)
      · exact .inl h
      · exact .inr (.inl h)
      · exact .inr (.inr (.inl h))
      · exact .inr (.inr (.inr h))
      · cases he
    have z0 : Lb K c H3 a g wx xh 2001 es x kd fc rw (fun _ => wx) (fun _ => wx) [] Wm.none M0 Hs.none :=
      ⟨(B2.fr f3 fun b hb q => B2.two.live.not q hb).mono (by omega), fx.keep (f3.keep fun b hb q => fx.live.not q hb), wdX.keep (f3.keep fun b hb q => wdX.live.not q hb), O, f3.tb Tb2,
        fun b hb q => Bw.two.live.notN (nx b (.inr (hw b hb))) q, fun b hb q => df b q (hw b hb), fun b hb q => wdX.live.not (mF b q) hb, fun b hb q => B2.two.live.not (mF b hb) q, fun b hb q => fx.live.not (mF b hb) q, fun b hb q => Bw.two.live.notN (nx b (.inl hb)) q⟩
    have G := ox.g
    have l0 : Lm x Wm.none Hs.none 0 := ⟨rfl, rfl, HsOk.start G.d4 G.al (fun d hd => (G.dn d hd).tx) G.du, fun r h => (nomatch h), ⟨Nat.le_refl _, fun e h => (nomatch h), Nat.le_refl _, Nat.le_refl _⟩, Nat.le_refl _⟩
    have wa : wx ≠ a := fun q => Bw.two.live.notN (nx wx (.inr (.inl rfl))) (.inl q)
    have wg : wx ≠ g := fun q => Bw.two.live.notN (nx wx (.inr (.inl rfl))) (.inr q)
    have ap : ∀ b, fxM x b → b ≠ a ∧ b ≠ g := fun b hb => ⟨fun q => z0.f1 b hb (.inl q), fun q => z0.f1 b hb (.inr q)⟩
    -- rows
    refine ⟨_, rfl, by show 2 ≤ sizeLine; decide, fun p1 np1 => ?_⟩
    generalize x1 : upd H3 p1 _ = H4
    obtain ⟨u1, ep1⟩ := new_of np1 x1
    obtain ⟨mm, hmm, b1, b2⟩ : ∃ mm : Int, ([V.int 21, V.int 61] : List V)[wd]? = some (.int mm) ∧ 0 < mm ∧ mm ≤ 61 := by
      rcases (by omega : wd = 0 ∨ wd = 1) with rfl | rfl
      · exact ⟨21, rfl, by decide, by decide⟩
      · exact ⟨61, rfl, by decide, by decide⟩
    have z1 := z0.same u1
    refine ⟨_, rfl, p1, _, _, _, rfl, rfl, SqL.of ep1, atI_nat hmm, a, g, _, mm, rfl, z1.B, by omega, b1, by omega, fun r R0 r0 r1 B0 s0 => ?_⟩
    obtain ⟨N, rfl⟩ := natZ r0
    refine ⟨_, rfl, by omega, by omega, ?_⟩
    rw [Int.toNat_natCast]
    have y0 := z1.draw B0 s0
    refine for_range (lo := 0) (n := N) (fun i σ R => ∃ (ka : Th → Addr) (fo : Str → Addr) (rs : List V) (W : Wm) (M : Addr → Prop) (S : Hs) (y5 y6 : Option V), σ = [some (.ref l), some (.ref a), some (.int (wd : Int)), some (.ref wx), some (.ref xh), y5, y6, none, none, none, none, none, none, none, none, none] ∧ Lb K c R a g wx xh (2002 + 40 * i) es x kd fc rw ka fo rs W M S ∧ Lm x W S i) ⟨_, _, _, _, _, _, none, none, rfl, y0, l0⟩ ?_ ?_
    · rintro i σ R hi ⟨ka, fo, rs, W, M, S, y5, y6, rfl, z, lm⟩
      refine set_sl (σ' := [some (.ref l), some (.ref a), some (.int (wd : Int)), some (.ref wx), some (.ref xh), some (.int (0 + (i : Int))), y6, none, none, none, none, none, none, none, none, none]) rfl ?_
      refine ⟨_, rfl, _, rfl, a, g, wx, _, es, x, rfl, z.B, by omega, ⟨z.fx, z.wd.hx, ws, wf, ap, wa, wg⟩, ox, fun p r R1 ra ok rf B5 s5 => ?_⟩
      refine set_sl (σ' := [some (.ref l), some (.ref a), some (.int (wd : Int)), some (.ref wx), some (.ref xh), some (.int (0 + (i : Int))), some (.ref p), none, none, none, none, none, none, none, none, none]) rfl ?_
      have z1 := (z.draw B5 s5).mono (m' := 2002 + 40 * (i + 1)) (by omega)
      refine ⟨_, rfl, _, rfl, wx, p, kd, fc, rw, es, ka, fo, rs, W, r, rfl, z1.wd, ra, (lm.mono (by omega : i ≤ 900)).wo, fun hf => ⟨_, rfl, iteF (nx_of ?_)⟩, fun ht ka' fo' rs' R2 f6 nw6 X6 => ⟨_, rfl, iteT ?_⟩⟩
      · exact ⟨ka, fo, rs, W, M, S, _, _, rfl, z1, lm.mono (Nat.le_succ _)⟩
      · have z2 := z1.put (f6 _) nw6 X6
        have ra2 := (f6 (tbS c.Pt)).keep0.rw_at ra
        obtain ⟨MT1, MS1, dx1, p_1, th1, kf1, tr1, wd1, fa1, wa1, rs1, eM1, X1⟩ := id z2.ho
        have rn := lm.rn
        have tk2 : S.takes x.ds x.ms r = true := by rw [takesB lm.fe rf]; exact ht
        refine ⟨_, rfl, xh, dx1, _, rfl, X1.hx, hs_no (by decide +kernel), _, rfl, xh, p, M, x.ds, x.ms, S, r, rfl, z2.ho, ra2, ok, lm.so, by omega, z2.tb, tk2, fun R3 M3 v3 f7 nw7 O7 dv7 => ?_⟩
        exact ⟨ka', fo', rs', _, M3, _, _, _, rfl, z2.told f7 nw7 O7, lm.tell ok rf ht⟩
    · rintro σ R ⟨ka, fo, rs, W, M, S, y5, y6, rfl, z, lm⟩
      have lm := lm.mono (by omega : N ≤ 60)
      have z := z.mono (m' := 5000) (by omega)
      have so := lm.so
      have rn := lm.rn
      have d4 := G.d4
      obtain ⟨m9, hm9⟩ : ∃ m9 : Int, ([V.int 9, V.int 2] : List V)[wd]? = some (.int m9) := by
        rcases (by omega : wd = 0 ∨ wd = 1) with rfl | rfl
        · exact ⟨9, rfl⟩
        · exact ⟨2, rfl⟩
      -- dims
      refine ⟨_, rfl, wx, _, rfl, wd_get z.wd.hx ws.d, x.lo, rfl, ⟨_, SqL.of z.fx.l⟩, for_list (K := K) (a := x.lo) (xs := x.xs) (fun i σ R => ∃ (y7 y8 y9 y10 y11 y12 y13 y14 y15 : Option V), σ = [some (.ref l), some (.ref a), some (.int (wd : Int)), some (.ref wx), some (.ref xh), y5, y6, y7, y8, y9, y10, y11, y12, y13, y14, y15] ∧ Lb K c R a g wx xh (5000 + 300 * i) es x kd fc rw ka fo rs W M S) ⟨_, _, _, _, _, _, _, _, _, rfl, z⟩ (fun i σ R _ q => ?_) (fun i y σ R hy q => ?_) (fun σ R q => ?_)⟩
      · obtain ⟨_, _, _, _, _, _, _, _, _, _, z⟩ := q
        exact SqL.of z.fx.l
      · obtain ⟨y7, y8, y9, y10, y11, y12, y13, y14, y15, rfl, z⟩ := q
        have hi : i < x.ds.length := by rw [← z.fx.d.length]; exact (List.getElem?_eq_some_iff.mp hy).1
        obtain ⟨d, hd, pd, qd, rfl, t1, zs2, q1, q2⟩ := paired_at z.fx.d hy
        have hdm := List.mem_of_getElem? hd
        have hfd := find_at hd G.du
        have l5 := G.al d hdm
        have lz2 := q2.length
        refine ⟨pd, _, rfl, t1, rfl, _, _, rfl, _, _, rfl, rfl, ?_⟩
        refine sl_eq (σ' := [some (.ref l), some (.ref a), some (.int (wd : Int)), some (.ref wx), some (.ref xh), y5, y6, some (.str d.1), some (.ref qd), y9, y10, y11, y12, y13, y14, y15]) rfl ?_
        obtain ⟨MT1, MS1, dx1, p_1, th1, kf1, tr1, wd1, fa1, wa1, rs1, eM1, X1⟩ := id z.ho
        have ndl := so.nd d.1
        have nnl := so.tok.nl
        refine ⟨_, rfl, xh, dx1, _, rfl, X1.hx, hs_no (by decide +kernel), _, rfl, xh, M, x.ds, x.ms, S, d.1, d, rfl, z.ho, hfd, by omega, by omega, fun kl R1 u1 nk ek => ?_⟩
        refine ⟨by show 2 ≤ sizeLine; decide, fun p1 np1 => ?_⟩
        generalize x1 : upd R1 p1 _ = R2
        obtain ⟨u2, ep1⟩ := new_of np1 x1
        refine ⟨_, rfl, p1, _, _, _, rfl, rfl, SqL.of ep1, atI_nat hm9, _, rfl, kl, _, rfl, SqL.of (u2 _ _ ek), fun q nq => ?_⟩
        generalize x2 : upd R2 q _ = R3
        obtain ⟨u3, eq⟩ := new_of nq x2
        have lcut := cutV_length ((S.keysOf d.1).map V.str) none (some m9)
        have mcut : ∀ y ∈ cutV ((S.keysOf d.1).map V.str) none (some m9), y ∈ (S.keysOf d.1).map V.str := fun y hy => by
          unfold cutV at hy
          exact List.mem_of_mem_drop (List.mem_of_mem_take hy)
        have lks : (S.keysOf d.1).length ≤ 60 := by
          unfold Hs.keysOf
          rw [show (srtS (S.ts.keysL d.1)).length = (S.ts.keysL d.1).length from (List.mergeSort_perm _ _).length_eq]
          unfold Ts.keysL
          rw [List.length_map]
          exact Nat.le_trans ndl rn
        rw [List.length_map] at lcut
        generalize cutV ((S.keysOf d.1).map V.str) none (some m9) = cut at *
        have zk := ((z.same u1).same u2).same u3
        have fq : ¬ dkM a g q := ((z.same u1).same u2).B.two.live.notN nq
        refine ⟨q, rfl, ⟨_, SqL.of eq⟩, for_list (K := K) (a := q) (xs := cut) (fun jx σ R => ∃ (y9 y10 y11 y12 y13 y14 y15 : Option V), σ = [some (.ref l), some (.ref a), some (.int (wd : Int)), some (.ref wx), some (.ref xh), y5, y6, some (.str d.1), some (.ref qd), y9, y10, y11, y12, y13, y14, y15] ∧ Lb K c R a g wx xh (5000 + 300 * i + 4 * jx) es x kd fc rw ka fo rs W M S ∧ AttsAt K R qd d.2 ∧ R q = some (.lst cut)) ⟨_, _, _, _, _, _, _, rfl, zk, atts_keep (M := no) (Keep.of ((u1.trans u2).trans u3)) ⟨zs2, q1, q2⟩, eq⟩ (fun _ _ _ _ q => ?_) (fun jx y σ R hy q => ?_) (fun σ R q => ?_)⟩
        · obtain ⟨_, _, _, _, _, _, _, _, _, _, e⟩ := q
          exact SqL.of e
        · obtain ⟨y9, y10, y11, y12, y13, y14, y15, rfl, z, aq, eq⟩ := q
          have hjx := (List.getElem?_eq_some_iff.mp hy).1
          obtain ⟨key, hkey, rfl⟩ := List.mem_map.mp (mcut y (List.mem_of_getElem? hy))
          have hsome := keys_in.mp hkey
          have tkey : Tx key := by
            obtain ⟨v, hv⟩ := Option.isSome_iff_exists.mp hsome
            exact (so.nx _ (lk_mem hv)).2
          have tdim : Tx d.1 := (G.dn d hdm).tx
          refine set_sl (σ' := [some (.ref l), some (.ref a), some (.int (wd : Int)), some (.ref wx), some (.ref xh), y5, y6, some (.str d.1), some (.ref qd), some (.str key), y10, y11, y12, y13, y14, y15]) rfl ?_
          have Qa : q ≠ a := fun h => fq (.inl h)
          have Qg : q ≠ g := fun h => fq (.inr h)
          have ldy := ox.d7
          -- days
          refine ⟨_, rfl, _, _, rfl, rfl, _, rfl, by omega, by omega, fun D nD => ?_⟩
          obtain ⟨nDa, nDg⟩ := z.B.na nD
          refine lc_build (walk_range (lo := 0)) nD (fun k ys R' => ∃ zs : List Int, ys = zs.map V.int ∧ zs.length = k ∧ Bag R' a g (5000 + 300 * i + 4 * jx + 2 * k) ∧ Same (ct a g R) (ct a g R')) ⟨[], rfl, rfl, z.B, Same.refl _⟩ (fun _ _ _ _ _ => trivial) ?_ ?_
          · rintro k ys yy H5 H5' hk e5 l5' ⟨zs, rfl, lz, T5, s5⟩ ⟨rfl, rfl⟩
            have hk2 : k < 2 := by omega
            have zS := (z.draw T5 s5).same (cd_sub (D := D))
            refine ⟨rfl, yes ?_⟩
            refine ⟨_, rfl, wx, _, rfl, wd_get zS.wd.hx wf.d, _, rfl, a, g, _, 7, rfl, T5.same cd_sub, by omega, by decide, by decide, fun rv H7 r0 r1 T7 s7 => ?_⟩
            obtain ⟨j5, rfl⟩ := natZ r0
            have hj5 : j5 < x.dys.length := by omega
            have z7 := zS.draw T7 s7
            refine ⟨x.dy, _, _, _, rfl, rfl, SqL.of z7.fx.dy, atI_nat (by rw [List.getElem?_map, List.getElem?_eq_getElem hj5]; rfl), _, rfl, a, g, _, 2, rfl, T7, by omega, by decide, by decide, fun rv2 H8 r2 r3 T8 s8 => ⟨_, _, rfl, rfl, ?_⟩⟩
            refine LcNx.add (ctkeepG (s7.trans s8) e5 nDa nDg) l5' (by omega) ⟨zs ++ [x.dys[j5] + rv2], by rw [List.map_append]; rfl, by rw [List.length_append]; show zs.length + 1 = k + 1; omega, (T8.cd nDa nDg).mono (by omega), ctcd5 nD s5 (s7.trans s8)⟩
          rintro ys H5 e5 l5 ⟨zs, rfl, lz, T5, s5⟩
          have s55 : Same (ct a g R) (ct a g H5) := s5.trans (ct_same cd_sub)
          have z5 := z.draw (T5.same cd_sub) s55
          have eq5 := ctkeepG s55 eq Qa Qg
          have aq5 := atts_keep (z.B.two.keep0 s55) aq
          refine ⟨_, _, rfl, rfl, ⟨by decide, by decide, by decide⟩, by show 1 ≤ sizeLine; decide, fun p6 np6 => ?_⟩
          generalize x6 : upd H5 p6 _ = H6
          obtain ⟨u6, ep6⟩ := new_of np6 x6
          refine ⟨D, p6, _, _, rfl, rfl, u6 _ _ e5, ep6, Nat.le_of_lt (small1000 (by rw [List.length_map]; show zs.length + 1 ≤ _; omega)), fun dl ndl => ?_⟩
          generalize x7 : upd H6 dl _ = H7
          obtain ⟨u7, edl⟩ := new_of ndl x7
          have z7 := ((z5.same u6).same u7).mono (m' := 5000 + 300 * i + 4 * (jx + 1)) (by omega)
          have eq7 := u7 _ _ (u6 _ _ eq5)
          have aq7 := atts_keep (M := no) (Keep.of (u6.trans u7)) aq5
          refine set_sl (σ' := [some (.ref l), some (.ref a), some (.int (wd : Int)), some (.ref wx), some (.ref xh), y5, y6, some (.str d.1), some (.ref qd), some (.str key), y10, some (.ref dl), y12, y13, y14, y15]) rfl ?_
          have edt : (zs.map V.int ++ [V.int (10 ^ (59 : Int).toNat)]) = (zs ++ [10 ^ (59 : Int).toNat]).map V.int := by rw [List.map_append]; rfl
          rw [edt] at edl
          generalize zs ++ [10 ^ (59 : Int).toNat] = dates at edl
          obtain ⟨zs7, q17, q27⟩ := id aq7
          have lz7 := q27.length
          -- at
          refine ⟨_, rfl, qd, zs7, rfl, .inr q17, _, rfl, by omega, by omega, ?_⟩
          rw [Int.toNat_natCast, lz7]
          refine for_range (lo := 0) (n := d.2.length) (fun j σ R => ∃ (y12 y13 y14 y15 : Option V), σ = [some (.ref l), some (.ref a), some (.int (wd : Int)), some (.ref wx), some (.ref xh), y5, y6, some (.str d.1), some (.ref qd), some (.str key), y10, some (.ref dl), y12, y13, y14, y15] ∧ Lb K c R a g wx xh (5000 + 300 * i + 4 * (jx + 1)) es x kd fc rw ka fo rs W M S ∧ AttsAt K R qd d.2 ∧ R q = some (.lst cut) ∧ R dl = some (.lst (dates.map V.int))) ⟨_, _, _, _, rfl, z7, aq7, eq7, edl⟩ ?_ ?_
          · rintro j σ R hj ⟨y12, y13, y14, y15, rfl, z, aq, eq, edl⟩
            refine set_sl (σ' := [some (.ref l), some (.ref a), some (.int (wd : Int)), some (.ref wx), some (.ref xh), y5, y6, some (.str d.1), some (.ref qd), some (.str key), y10, some (.ref dl), some (.int (j : Int)), y13, y14, y15]) (congrArg (fun v : Int => ([some (.ref l), some (.ref a), some (.int (wd : Int)), some (.ref wx), some (.ref xh), y5, y6, some (.str d.1), some (.ref qd), some (.str key), y10, some (.ref dl), some (.int v), y13, y14, y15] : L2.St)) (Int.zero_add (j : Int))) ?_
            refine ⟨_, rfl, dl, rfl, ⟨_, SqL.of edl⟩, for_list (K := K) (a := dl) (xs := dates.map V.int) (fun m σ R => ∃ (y13 y14 y15 : Option V), σ = [some (.ref l), some (.ref a), some (.int (wd : Int)), some (.ref wx), some (.ref xh), y5, y6, some (.str d.1), some (.ref qd), some (.str key), y10, some (.ref dl), some (.int (j : Int)), y13, y14, y15] ∧ Lb K c R a g wx xh (5000 + 300 * i + 4 * (jx + 1)) es x kd fc rw ka fo rs W M S ∧ AttsAt K R qd d.2 ∧ R q = some (.lst cut) ∧ R dl = some (.lst (dates.map V.int))) ⟨_, _, _, rfl, z, aq, eq, edl⟩ (fun _ _ _ _ q => ?_) (fun m y σ R hy q => ?_) (fun σ R q => ?_)⟩
            · obtain ⟨_, _, _, _, _, _, _, e⟩ := q
              exact SqL.of e
            · obtain ⟨y13, y14, y15, rfl, z, aq, eq, edl⟩ := q
              obtain ⟨date, hdate, rfl⟩ := Option.map_eq_some_iff.mp (by rw [List.getElem?_map] at hy; exact hy)
              refine set_sl (σ' := [some (.ref l), some (.ref a), some (.int (wd : Int)), some (.ref wx), some (.ref xh), y5, y6, some (.str d.1), some (.ref qd), some (.str key), y10, some (.ref dl), some (.int (j : Int)), some (.int date), y14, y15]) rfl ?_
              have re := lm.re
              have rok : RwsOk x.ds x.ms W.rows := by rw [← re]; exact lm.ro
              have rn2 : W.rows.length ≤ 60 := by rw [← re]; exact rn
              refine ⟨_, rfl, _, rfl, _, rfl, by show 2 ≤ sizeLine; decide, fun tt ntt => ?_⟩
              generalize x8 : upd R tt _ = R8
              obtain ⟨u8, ett⟩ := new_of ntt x8
              have z8 := z.same u8
              refine ⟨_, rfl, _, rfl, wx, tt, x.lo, x.mo, rw, es, x.xs, x.ds, x.ms, rs, W.rows, (d.1, key), d, date, j, rfl, z8.wd.hx, ws.d, ws.s, z8.wd.er, z8.fx.l, z8.fx.d, d4, z8.wd.hr, z8.wd.ri, rok, by omega, ett, hfd, fun a ha => (G.an d hdm a ha).2, hj, fun lw us R9 f9 hlw lus dus => ?_⟩
              have kok := ksR_ok (t := (d.1, key)) hfd rok
              generalize hD0 : lastC (valsR ((d.2.map (·.2)).getD j Str.empty) j (d.1, key) W.rows date (W.rows.length + 1)) = D0
              refine ⟨lw, us, _, rfl, hlw, dus, fun e he => ?_, by omega, by omega, ?_⟩
              · obtain ⟨m, hm, rfl⟩ := List.mem_map.mp he
                have := List.mem_range.mp hm
                exact valR_ok (kok m (by omega)).2.1
              rw [hD0]
              have z9 := z8.fresh (f9 _)
              have liv : ∀ {G G' : Hp} {b : Addr} {L : List V}, Fr (tbS c.Pt) (Fresh G) G G' → G b = some (.lst L) → G' b = some (.lst L) := fun f e => f.at e trivial (fun h => h _ e (fun _ z => nomatch z))
              have eq9 := liv (f9 _) (u8 _ _ eq)
              have edl9 := liv (f9 _) (u8 _ _ edl)
              have aq9 := atts_keep (f9 (tbS c.Pt)).keep0 (atts_keep (M := no) (Keep.of u8) aq)
              refine set_sl (σ' := [some (.ref l), some (.ref a), some (.int (wd : Int)), some (.ref wx), some (.ref xh), y5, y6, some (.str d.1), some (.ref qd), some (.str key), y10, some (.ref dl), some (.int (j : Int)), some (.int date), some (.int (D0 : Int)), y15]) rfl ?_
              obtain ⟨MT1, MS1, dx1, p_1, th1, kf1, tr1, wd1, fa1, wa1, rs1, eM1, X1⟩ := id z9.ho
              obtain ⟨zs9, q19, q29⟩ := id aq9
              have lz9 := q29.length
              have hj9 : j < zs9.length := by omega
              obtain ⟨at_, hat, pa, epa, h1⟩ := paired_at q29 (List.getElem?_eq_getElem hj9)
              have hatm := List.mem_of_getElem? hat
              have hin : at_.1 ∈ d.2.map (·.1) := List.mem_map_of_mem (f := (·.1)) hatm
              have tat := (G.an d hdm at_ hatm).1.tx
              have hidx : (d.2.map (·.1)).idxOf at_.1 = j := by
                have hl : j < (d.2.map (·.1)).length := by rw [List.length_map]; exact hj
                have e1 : (d.2.map (·.1))[j] = at_.1 := by
                  obtain ⟨g1, g2⟩ := List.getElem?_eq_some_iff.mp hat
                  rw [List.getElem_map, g2]
                have hi := List.idxOf_lt_length_of_mem hin
                have e2 := List.getElem_idxOf hi
                exact (List.getElem_inj (xs := d.2.map (·.1)) (G.au d hdm) (i := (d.2.map (·.1)).idxOf at_.1) (j := j) (h₀ := hi) (h₁ := hl)).mp (by rw [e1]; exact e2)
              have hsn : sinceN d S.rows (d.1, key) date at_.1 = D0 := by
                unfold sinceN
                rw [hidx, re]
                exact hD0
              refine ⟨_, rfl, xh, dx1, _, rfl, X1.hx, hs_no (by decide +kernel), _, rfl, _, rfl, _, rfl, _, rfl, _, rfl, qd, zs9, _, _, rfl, rfl, q19, atI_nat (by rw [List.getElem?_eq_getElem hj9, epa]), pa, _, _, _, rfl, rfl, h1, atI_nat (j := 0) rfl, xh, M, x.ds, x.ms, S, (d.1, key), date, at_.1, d, rfl, z9.ho, so, lm.ro, by omega, tdim, tkey, tat, z9.tb, hsome, hfd, hin, fun RA fA => ?_⟩
              rw [hsn]
              have zA := z9.fresh fA
              have eqA := liv fA eq9
              have edlA := liv fA edl9
              have aqA := atts_keep fA.keep0 aq9
              refine set_sl (σ' := [some (.ref l), some (.ref a), some (.int (wd : Int)), some (.ref wx), some (.ref xh), y5, y6, some (.str d.1), some (.ref qd), some (.str key), y10, some (.ref dl), some (.int (j : Int)), some (.int date), some (.int (D0 : Int)), some (.int (D0 : Int))]) rfl ?_
              refine ⟨_, rfl, _, rfl, rfl, _, rfl, iteF0 (by simp) ?_⟩
              refine ⟨_, rfl, _, _, _, _, false, rfl, .ty "bool", .base (.int _), kit_ty (by decide +kernel), _, rfl, iteF0 (by decide) (nx_of ?_)⟩
              obtain ⟨MT2, MS2, dx2, p_2, th2, kf2, tr2, wd2, fa2, wa2, rs2, eM2, X2⟩ := id zA.ho
              refine ⟨_, rfl, xh, dx2, _, rfl, X2.hx, hs_no (by decide +kernel), _, rfl, _, rfl, qd, zs9, _, _, rfl, rfl, fA.keep0.seqT q19, atI_nat (by rw [List.getElem?_eq_getElem hj9, epa]), pa, _, _, _, rfl, rfl, fA.keep0.seqT h1, atI_nat (j := 0) rfl, _, rfl, _, rfl, _, rfl, xh, M, x.ds, x.ms, S, (d.1, key), date, at_.1, d, rfl, zA.ho, so, lm.ro, by omega, tdim, tkey, tat, zA.tb, hsome, hfd, hin, fun RB fB => ?_⟩
              rw [hsn]
              refine ⟨_, rfl, rfl, _, rfl, iteF0 (by simp) (nx_of ?_)⟩
              exact ⟨_, _, _, rfl, zA.fresh fB, atts_keep fB.keep0 aqA, liv fB eqA, liv fB edlA⟩
            · obtain ⟨y13, y14, y15, rfl, z, aq, eq, edl⟩ := q
              exact ⟨_, _, _, _, rfl, z, aq, eq, edl⟩
          · rintro σ R ⟨y12, y13, y14, y15, rfl, z, aq, eq, edl⟩
            exact ⟨_, _, _, _, _, _, _, rfl, z, aq, eq⟩
        · obtain ⟨y9, y10, y11, y12, y13, y14, y15, rfl, z, aq, eq⟩ := q
          exact ⟨_, _, _, _, _, _, _, _, _, rfl, z.mono (by omega)⟩
      · obtain ⟨y7, y8, y9, y10, y11, y12, y13, y14, y15, rfl, z⟩ := q
        obtain ⟨MT1, MS1, dx1, p_1, th1, kf1, tr1, wd1, fa1, wa1, rs1, eM1, X1⟩ := id z.ho
        refine ⟨_, rfl, xh, dx1, _, rfl, X1.hx, hs_no (by decide +kernel), xh, M, x.ds, x.ms, S, rfl, z.ho, fun l9 rs9 nl9 p9 => ?_⟩
        have s9 := same_new (o := .lst rs9) nl9
        have z9 := z.same s9
        refine ⟨_, rfl, wx, _, rfl, wd_get z9.wd.hx z9.wd.er, ?_⟩
        have re := lm.re
        have dp1 := rows_dp (PySem.Paired.mono (fun _ _ => RwRef.keep (M := no) (Keep.of s9)) p9)
        have dp2 := rows_dp z9.wd.ri
        have sh : SeqAt.shaped (.list (S.rows.map rwD)) = true := rws_shaped fun r hr => (lm.ro r hr).1
        rw [← re] at dp2
        refine ⟨.list (S.rows.map rwD), .list (S.rows.map rwD), .lst (SqL.of upd_same) dp1, .lst (SqL.of z9.wd.hr) dp2, sh, sh, ?_⟩
        rw [shapedB_self sh]
        exact k _
end
end Kd

namespace Kd
open PySem PySem.Spec PyProof.Rows L2
/-! ### what the head says of a tuple of texts and of a class -/
end Kd

namespace Kd
open PySem PySem.Spec PyProof.Rows L2 LamX
def d_DayError_init : He.DefD := ⟨("DayError", some "__init__"), "__init__", "DayError.__init__", defArgs s_DayError_init, defBody s_DayError_init, defScope s_DayError_init, [], []⟩
def d_NoRow_init : He.DefD := ⟨("NoRow", some "__init__"), "__init__", "NoRow.__init__", defArgs s_NoRow_init, defBody s_NoRow_init, defScope s_NoRow_init, [], []⟩
def d_NoFact_init : He.DefD := ⟨("NoFact", some "__init__"), "__init__", "NoFact.__init__", defArgs s_NoFact_init, defBody s_NoFact_init, defScope s_NoFact_init, [], []⟩
def d_NoThing_init : He.DefD := ⟨("NoThing", some "__init__"), "__init__", "NoThing.__init__", defArgs s_NoThing_init, defBody s_NoThing_init, defScope s_NoThing_init, [], []⟩
def d_NoGroup_init : He.DefD := ⟨("NoGroup", some "__init__"), "__init__", "NoGroup.__init__", defArgs s_NoGroup_init, defBody s_NoGroup_init, defScope s_NoGroup_init, [], []⟩
def d_is_name : He.DefD := ⟨("is_name", none), "is_name", "is_name", defArgs s_is_name, defBody s_is_name, defScope s_is_name, [], []⟩
def d_is_made_of : He.DefD := ⟨("is_made_of", none), "is_made_of", "is_made_of", defArgs s_is_made_of, defBody s_is_made_of, defScope s_is_made_of, [], []⟩
def d_Plan_init : He.DefD := ⟨("Plan", some "__init__"), "__init__", "Plan.__init__", defArgs s_Plan_init, defBody s_Plan_init, defScope s_Plan_init, [.adr (He.dflAt ("Plan", some "__init__") 0)], []⟩
def d_Plan_dimensions : He.DefD := ⟨("Plan", some "dimensions"), "dimensions", "Plan.dimensions", defArgs s_Plan_dimensions, defBody s_Plan_dimensions, defScope s_Plan_dimensions, [], []⟩
def d_Plan_measures : He.DefD := ⟨("Plan", some "measures"), "measures", "Plan.measures", defArgs s_Plan_measures, defBody s_Plan_measures, defScope s_Plan_measures, [], []⟩
def d_first_fault : He.DefD := ⟨("first_fault", none), "first_fault", "first_fault", defArgs s_first_fault, defBody s_first_fault, defScope s_first_fault, [], []⟩
def d_are_faulty : He.DefD := ⟨("are_faulty", none), "are_faulty", "are_faulty", defArgs s_are_faulty, defBody s_are_faulty, defScope s_are_faulty, [], []⟩
def d_attributes_of : He.DefD := ⟨("attributes_of", none), "attributes_of", "attributes_of", defArgs s_attributes_of, defBody s_attributes_of, defScope s_attributes_of, [], []⟩
def d_attribute_place : He.DefD := ⟨("attribute_place", none), "attribute_place", "attribute_place", defArgs s_attribute_place, defBody s_attribute_place, defScope s_attribute_place, [], []⟩
def d_things_named : He.DefD := ⟨("things_named", none), "things_named", "things_named", defArgs s_things_named, defBody s_things_named, defScope s_things_named, [], []⟩
def d_look : He.DefD := ⟨("look", none), "look", "look", defArgs s_look, defBody s_look, defScope s_look, [], []⟩
def d_has_form : He.DefD := ⟨("has_form", none), "has_form", "has_form", defArgs s_has_form, defBody s_has_form, defScope s_has_form, [], []⟩
def d_kind_fits : He.DefD := ⟨("kind_fits", none), "kind_fits", "kind_fits", defArgs s_kind_fits, defBody s_kind_fits, defScope s_kind_fits, [], []⟩
def d_fact_fits : He.DefD := ⟨("fact_fits", none), "fact_fits", "fact_fits", defArgs s_fact_fits, defBody s_fact_fits, defScope s_fact_fits, [], []⟩
def d_stretches : He.DefD := ⟨("stretches", none), "stretches", "stretches", defArgs s_stretches, defBody s_stretches, defScope s_stretches, [], []⟩
def d_opening_kinds : He.DefD := ⟨("opening_kinds", none), "opening_kinds", "opening_kinds", defArgs s_opening_kinds, defBody s_opening_kinds, defScope s_opening_kinds, [], []⟩
def d_changes_day : He.DefD := ⟨("changes_day", none), "changes_day", "changes_day", defArgs s_changes_day, defBody s_changes_day, defScope s_changes_day, [], []⟩
def d_version_values : He.DefD := ⟨("version_values", none), "version_values", "version_values", defArgs s_version_values, defBody s_version_values, defScope s_version_values, [], []⟩
def d_day_value : He.DefD := ⟨("day_value", none), "day_value", "day_value", defArgs s_day_value, defBody s_day_value, defScope s_day_value, [], []⟩
def d_steady_value : He.DefD := ⟨("steady_value", none), "steady_value", "steady_value", defArgs s_steady_value, defBody s_steady_value, defScope s_steady_value, [], []⟩
def d_last_and_unlike : He.DefD := ⟨("last_and_unlike", none), "last_and_unlike", "last_and_unlike", defArgs s_last_and_unlike, defBody s_last_and_unlike, defScope s_last_and_unlike, [], []⟩
def d_values_behind_rows : He.DefD := ⟨("values_behind_rows", none), "values_behind_rows", "values_behind_rows", defArgs s_values_behind_rows, defBody s_values_behind_rows, defScope s_values_behind_rows, [], []⟩
def d_value_on : He.DefD := ⟨("value_on", none), "value_on", "value_on", defArgs s_value_on, defBody s_value_on, defScope s_value_on, [], []⟩
def d_last_change : He.DefD := ⟨("last_change", none), "last_change", "last_change", defArgs s_last_change, defBody s_last_change, defScope s_last_change, [], []⟩
def d_Things_init : He.DefD := ⟨("Things", some "__init__"), "__init__", "Things.__init__", defArgs s_Things_init, defBody s_Things_init, defScope s_Things_init, [], []⟩
def d_Things_knows : He.DefD := ⟨("Things", some "knows"), "knows", "Things.knows", defArgs s_Things_knows, defBody s_Things_knows, defScope s_Things_knows, [], []⟩
def d_Things_take_kind : He.DefD := ⟨("Things", some "take_kind"), "take_kind", "Things.take_kind", defArgs s_Things_take_kind, defBody s_Things_take_kind, defScope s_Things_take_kind, [], []⟩
def d_Things_meet : He.DefD := ⟨("Things", some "meet"), "meet", "Things.meet", defArgs s_Things_meet, defBody s_Things_meet, defScope s_Things_meet, [], []⟩
def d_Things_part : He.DefD := ⟨("Things", some "part"), "part", "Things.part", defArgs s_Things_part, defBody s_Things_part, defScope s_Things_part, [], []⟩
def d_Things_number_anew : He.DefD := ⟨("Things", some "number_anew"), "number_anew", "Things.number_anew", defArgs s_Things_number_anew, defBody s_Things_number_anew, defScope s_Things_number_anew, [], []⟩
def d_Things_with_numbers : He.DefD := ⟨("Things", some "with_numbers"), "with_numbers", "Things.with_numbers", defArgs s_Things_with_numbers, defBody s_Things_with_numbers, defScope s_Things_with_numbers, [], []⟩
def d_Things_version_on : He.DefD := ⟨("Things", some "version_on"), "version_on", "Things.version_on", defArgs s_Things_version_on, defBody s_Things_version_on, defScope s_Things_version_on, [], []⟩
def d_House_init : He.DefD := ⟨("House", some "__init__"), "__init__", "House.__init__", defArgs s_House_init, defBody s_House_init, defScope s_House_init, [], []⟩
def d_House_tell : He.DefD := ⟨("House", some "tell"), "tell", "House.tell", defArgs s_House_tell, defBody s_House_tell, defScope s_House_tell, [], []⟩
def d_House_take_kind : He.DefD := ⟨("House", some "take_kind"), "take_kind", "House.take_kind", defArgs s_House_take_kind, defBody s_House_take_kind, defScope s_House_take_kind, [], []⟩
def d_House_take_fact : He.DefD := ⟨("House", some "take_fact"), "take_fact", "House.take_fact", defArgs s_House_take_fact, defBody s_House_take_fact, defScope s_House_take_fact, [], []⟩
def d_House_take_forget : He.DefD := ⟨("House", some "take_forget"), "take_forget", "House.take_forget", defArgs s_House_take_forget, defBody s_House_take_forget, defScope s_House_take_forget, [], []⟩
def d_House_part_from : He.DefD := ⟨("House", some "part_from"), "part_from", "House.part_from", defArgs s_House_part_from, defBody s_House_part_from, defScope s_House_part_from, [], []⟩
def d_House_fact_days : He.DefD := ⟨("House", some "fact_days"), "fact_days", "House.fact_days", defArgs s_House_fact_days, defBody s_House_fact_days, defScope s_House_fact_days, [], []⟩
def d_House_led : He.DefD := ⟨("House", some "led"), "led", "House.led", defArgs s_House_led, defBody s_House_led, defScope s_House_led, [], []⟩
def d_House_keys_of : He.DefD := ⟨("House", some "keys_of"), "keys_of", "House.keys_of", defArgs s_House_keys_of, defBody s_House_keys_of, defScope s_House_keys_of, [], []⟩
def d_House_rows : He.DefD := ⟨("House", some "rows"), "rows", "House.rows", defArgs s_House_rows, defBody s_House_rows, defScope s_House_rows, [], []⟩
def d_House_since : He.DefD := ⟨("House", some "since"), "since", "House.since", defArgs s_House_since, defBody s_House_since, defScope s_House_since, [], []⟩
def d_l_bag : He.DefD := ⟨("_law_bag", none), "_law_bag", "_law_bag", defArgs s_l_bag, defBody s_l_bag, defScope s_l_bag, [], []⟩
def d_l_draw : He.DefD := ⟨("_law_draw", none), "_law_draw", "_law_draw", defArgs s_l_draw, defBody s_l_draw, defScope s_l_draw, [], []⟩
def d_l_names : He.DefD := ⟨("_law_names", none), "_law_names", "_law_names", defArgs s_l_names, defBody s_l_names, defScope s_l_names, [], []⟩
def d_l_text : He.DefD := ⟨("_law_text", none), "_law_text", "_law_text", defArgs s_l_text, defBody s_l_text, defScope s_l_text, [], []⟩
def d_l_world : He.DefD := ⟨("_law_world", none), "_law_world", "_law_world", defArgs s_l_world, defBody s_l_world, defScope s_l_world, [], []⟩
def d_l_row : He.DefD := ⟨("_law_row", none), "_law_row", "_law_row", defArgs s_l_row, defBody s_l_row, defScope s_l_row, [], []⟩
def d_l_kept : He.DefD := ⟨("_law_kept", none), "_law_kept", "_law_kept", defArgs s_l_kept, defBody s_l_kept, defScope s_l_kept, [], []⟩
def d_l_value : He.DefD := ⟨("_law_value", none), "_law_value", "_law_value", defArgs s_l_value, defBody s_l_value, defScope s_l_value, [], []⟩
def d_l_house : He.DefD := ⟨("_law_house", none), "_law_house", "_law_house", defArgs s_l_house, defBody s_l_house, defScope s_l_house, [], []⟩
def d_l_due : He.DefD := ⟨("_law_due", none), "_law_due", "_law_due", defArgs s_l_due, defBody s_l_due, defScope s_l_due, [], []⟩
def d_l_worths : He.DefD := ⟨("_law_worths", none), "_law_worths", "_law_worths", defArgs s_l_worths, defBody s_l_worths, defScope s_l_worths, [], []⟩
def d_law : He.DefD := ⟨("law", none), "law", "law", defArgs s_law, defBody s_law, defScope s_law, [], []⟩
def fn : List He.DefD := [d_DayError_init, d_NoRow_init, d_NoFact_init, d_NoThing_init, d_NoGroup_init, d_is_name, d_is_made_of, d_Plan_init, d_Plan_dimensions, d_Plan_measures, d_first_fault, d_are_faulty, d_attributes_of, d_attribute_place, d_things_named, d_look, d_has_form, d_kind_fits, d_fact_fits, d_stretches, d_opening_kinds, d_changes_day, d_version_values, d_day_value, d_steady_value, d_last_and_unlike, d_values_behind_rows, d_value_on, d_last_change, d_Things_init, d_Things_knows, d_Things_take_kind, d_Things_meet, d_Things_part, d_Things_number_anew, d_Things_with_numbers, d_Things_version_on, d_House_init, d_House_tell, d_House_take_kind, d_House_take_fact, d_House_take_forget, d_House_part_from, d_House_fact_days, d_House_led, d_House_keys_of, d_House_rows, d_House_since, d_l_bag, d_l_draw, d_l_names, d_l_text, d_l_world, d_l_row, d_l_kept, d_l_value, d_l_house, d_l_due, d_l_worths, d_law]
def fa : List He.Fa := [(.glo "DayError" : He.Fa), (.glo "NoRow" : He.Fa), (.glo "NoFact" : He.Fa), (.glo "NoThing" : He.Fa), (.glo "NoGroup" : He.Fa), (.glo "Plan" : He.Fa), (.glo "Things" : He.Fa), (.glo "House" : He.Fa), (.glo "is_name" : He.Fa), (.glo "is_made_of" : He.Fa), (.glo "first_fault" : He.Fa), (.glo "are_faulty" : He.Fa), (.glo "attributes_of" : He.Fa), (.glo "attribute_place" : He.Fa), (.glo "things_named" : He.Fa), (.glo "look" : He.Fa), (.glo "has_form" : He.Fa), (.glo "kind_fits" : He.Fa), (.glo "fact_fits" : He.Fa), (.glo "stretches" : He.Fa), (.glo "opening_kinds" : He.Fa), (.glo "changes_day" : He.Fa), (.glo "version_values" : He.Fa), (.glo "day_value" : He.Fa), (.glo "steady_value" : He.Fa), (.glo "last_and_unlike" : He.Fa), (.glo "values_behind_rows" : He.Fa), (.glo "value_on" : He.Fa), (.glo "last_change" : He.Fa), (.glo "_law_bag" : He.Fa), (.glo "_law_draw" : He.Fa), (.glo "_law_names" : He.Fa), (.glo "_law_text" : He.Fa), (.glo "_law_world" : He.Fa), (.glo "_law_row" : He.Fa), (.glo "_law_kept" : He.Fa), (.glo "_law_value" : He.Fa), (.glo "_law_house" : He.Fa), (.glo "_law_due" : He.Fa), (.glo "_law_worths" : He.Fa), (.glo "law" : He.Fa), (.str "SMALL_LETTERS" "abcdefghijklmnopqrstuvwxyz" : He.Fa), (.int "LONGEST_NAME" 8 : He.Fa), (.int "MOST_DIMENSIONS" 4 : He.Fa), (.int "MOST_ATTRIBUTES" 5 : He.Fa), (.int "MOST_MEASURES" 4 : He.Fa), (.free "ValueError" : He.Fa), (.free "all" : He.Fa), (.free "any" : He.Fa), (.free "bool" : He.Fa), (.free "enumerate" : He.Fa), (.free "isinstance" : He.Fa), (.free "len" : He.Fa), (.free "list" : He.Fa), (.free "range" : He.Fa), (.free "repr" : He.Fa), (.free "set" : He.Fa), (.free "sorted" : He.Fa), (.free "sum" : He.Fa), (.free "tuple" : He.Fa), (.free "zip" : He.Fa), (.cls "Plan" : He.Fa), (.mkr "Plan" : He.Fa), (.noat "Plan" "dimension_list" : He.Fa), (.noat "Plan" "measure_list" : He.Fa), (.meth "Plan" "dimensions" : He.Fa), (.meth "Plan" "measures" : He.Fa), (.cls "Things" : He.Fa), (.mkr "Things" : He.Fa), (.noat "Things" "given" : He.Fa), (.noat "Things" "kinds" : He.Fa), (.noat "Things" "numbered" : He.Fa), (.noat "Things" "plan" : He.Fa), (.meth "Things" "knows" : He.Fa), (.meth "Things" "take_kind" : He.Fa), (.meth "Things" "meet" : He.Fa), (.meth "Things" "part" : He.Fa), (.meth "Things" "number_anew" : He.Fa), (.meth "Things" "with_numbers" : He.Fa), (.meth "Things" "version_on" : He.Fa), (.cls "House" : He.Fa), (.mkr "House" : He.Fa), (.noat "House" "kept_facts" : He.Fa), (.noat "House" "plan" : He.Fa), (.noat "House" "things" : He.Fa), (.noat "House" "told_rows" : He.Fa), (.noat "House" "watchers" : He.Fa), (.meth "House" "tell" : He.Fa), (.meth "House" "take_kind" : He.Fa), (.meth "House" "take_fact" : He.Fa), (.meth "House" "take_forget" : He.Fa), (.meth "House" "part_from" : He.Fa), (.meth "House" "fact_days" : He.Fa), (.meth "House" "led" : He.Fa), (.meth "House" "keys_of" : He.Fa), (.meth "House" "rows" : He.Fa), (.meth "House" "since" : He.Fa)]
def loose : List PySem.Str := [("_wall" : PySem.Str), ("DayError" : PySem.Str), ("NoPlan" : PySem.Str), ("NoRow" : PySem.Str), ("NoFact" : PySem.Str), ("NoThing" : PySem.Str), ("Twice" : PySem.Str), ("NoGroup" : PySem.Str), ("NoMeasure" : PySem.Str), ("NoWatch" : PySem.Str), ("NoTime" : PySem.Str), ("SMALL_LETTERS" : PySem.Str), ("LONGEST_NAME" : PySem.Str), ("is_name" : PySem.Str), ("is_made_of" : PySem.Str), ("MOST_DIMENSIONS" : PySem.Str), ("MOST_ATTRIBUTES" : PySem.Str), ("MOST_MEASURES" : PySem.Str), ("Plan" : PySem.Str), ("first_fault" : PySem.Str), ("are_faulty" : PySem.Str), ("attributes_of" : PySem.Str), ("attribute_place" : PySem.Str), ("things_named" : PySem.Str), ("look" : PySem.Str), ("has_form" : PySem.Str), ("kind_fits" : PySem.Str), ("fact_fits" : PySem.Str), ("stretches" : PySem.Str), ("opening_kinds" : PySem.Str), ("changes_day" : PySem.Str), ("version_values" : PySem.Str), ("day_value" : PySem.Str), ("steady_value" : PySem.Str), ("last_and_unlike" : PySem.Str), ("values_behind_rows" : PySem.Str), ("value_on" : PySem.Str), ("last_change" : PySem.Str), ("Things" : PySem.Str), ("Watch" : PySem.Str), ("look_at_watch" : PySem.Str), ("group_places" : PySem.Str), ("tally" : PySem.Str), ("measured" : PySem.Str), ("sorted_groups" : PySem.Str), ("reprs_of" : PySem.Str), ("sum_lines" : PySem.Str), ("House" : PySem.Str), ("_law_bag" : PySem.Str), ("_law_draw" : PySem.Str), ("_law_names" : PySem.Str), ("_law_text" : PySem.Str), ("_law_world" : PySem.Str), ("_law_row" : PySem.Str), ("_law_kept" : PySem.Str), ("_law_value" : PySem.Str), ("_law_sums" : PySem.Str), ("_law_groups" : PySem.Str), ("_law_house" : PySem.Str), ("_law_due" : PySem.Str), ("_law_worths" : PySem.Str)]
/-! ### the head: the facts, and that a def's default is the empty tuple -/
def exB0 (K : PySem.W.Frag) : Bool := match K.lookup (He.dflAt ("Plan", some "__init__") 0 K) with
  | some ⟨.type c, _, .seq its _, _⟩ => decide (c = "tuple") && decide (its.toList = [])
  | _ => false
theorem exB0_ok {K : PySem.W.Frag} (h : exB0 K = true) (H : Hp) : SqT K H (He.dflAt ("Plan", some "__init__") 0 K) [] := by
  unfold exB0 at h
  cases q : K.lookup (He.dflAt ("Plan", some "__init__") 0 K) with
  | none => rw [q] at h; cases h
  | some o =>
    obtain ⟨oc, od, dt, sl⟩ := o
    rw [q] at h
    cases oc with
    | type c =>
      cases dt with
      | seq its n =>
        obtain ⟨h1, h2⟩ := He.ba (show (decide (c = "tuple") && decide (its.toList = [])) = true from h)
        have h3 : its.toList = [] := of_decide_eq_true h2
        refine .inr ⟨_, its, n, q, congrArg Value.type (of_decide_eq_true h1), rfl, ?_, by rw [h3]; exact .nil⟩
        have h4 : its.size = 0 := by rw [← Array.length_toList, h3]; rfl
        rw [h4]
        exact Nat.zero_le _
      | _ => cases h
    | _ => cases dt <;> cases h
abbrev cc (K : PySem.W.Frag) : Cn := ⟨He.ga K "Things", He.ga K "Plan", He.ga K "House", He.ga K "Watch", (He.cT K ("stretches", none)).2⟩
def exX (K : PySem.W.Frag) : Bool := KdXc.cfnB K (He.ga K "DayError") (He.fAd K ("DayError", some "__init__")) "__init__" && (KdXc.veB K && (KdXc.errB K (He.ga K "NoRow") (He.fAd K ("NoRow", some "__init__")) && (KdXc.errB K (He.ga K "NoFact") (He.fAd K ("NoFact", some "__init__")) && (KdXc.errB K (He.ga K "NoThing") (He.fAd K ("NoThing", some "__init__")) && (KdXc.errB K (He.ga K "NoGroup") (He.fAd K ("NoGroup", some "__init__")))))))
def exB (K : PySem.W.Frag) : Bool := exB0 K && exX K
theorem exB_ok {K : PySem.W.Frag} (h : exB K = true) (H : Hp) : SqT K H (He.dflAt ("Plan", some "__init__") 0 K) [] := exB0_ok (He.ba h).1 H
def tf : List He.Defn := [("stretches", none)]
/-! the addresses that are looked at, by their distance, each once: what was met is kept as the bits of a number -/
def addsF {α : Type} : List Addr → Nat → List Addr → (List Addr → Nat → α) → α
  | [], m, acc, k => k acc m
  | a :: r, m, acc, k => HandSHeadRun.frNat a fun a => match Nat.beq (Nat.land (Nat.shiftRight m a) 1) 1 with
    | true => addsF r m acc k
    | false => HandSHeadRun.frNat (Nat.lor m (Nat.shiftLeft 1 a)) fun m => addsF r m (a :: acc) k
def refsL (g : Addr → Option Obj) (fr : List Addr) : List Addr := fr.flatMap fun a => match g a with
  | some o => He.refsD o
  | none => []
def growF (g : Addr → Option Obj) : Nat → List Addr → Nat → List Addr → List Addr
  | 0, _, _, all => all
  | n + 1, fr, m, all => addsF (refsL g fr) m [] fun new m => growF g n new m (new ++ all)
def asC (g : Addr → Option Obj) : List Addr := addsF [mainGlobals, cStatics] 0 [] fun new m => growF g 6 new m new
def obY (g : Addr → Option Obj) (as : List Addr) : He.AlX := (He.obsT fa fn [] (He.frT g as), exB (He.frT g as) && He.tabsB g tf (He.frT g as))
theorem saysY {w : World} {h : Heap} {as : List Addr} (e : obY h.get? as = He.valX fn [] w) : He.SaysX fa fn [] tf exB w h (He.frT h.get? as) := by
  have e2 : (exB (He.frT h.get? as) && He.tabsB h.get? tf (He.frT h.get? as)) = true := congrArg Prod.snd e
  obtain ⟨u1, u2⟩ := He.ba e2
  have u3 : ∀ p ∈ tf, PySem.W.codeHdIn (He.frT h.get? as) (He.cT (He.frT h.get? as) p).1 (He.cT (He.frT h.get? as) p).2 = true ∧ ∃ o, h.get? (He.cT (He.frT h.get? as) p).2 = some o ∧ He.emptyTab o = true := fun p hp => by
    obtain ⟨u4, u5⟩ := He.ba (List.all_eq_true.mp u2 p hp)
    cases q : h.get? (He.cT (He.frT h.get? as) p).2 with
    | none => rw [q] at u5; cases u5
    | some o => rw [q] at u5; exact ⟨u4, o, rfl, u5⟩
  refine ⟨congrArg Prod.fst e, u1, fun p hp => (u3 p hp).1, fun p hp => ?_, fun p hp => ?_⟩
  · obtain ⟨_, o, q, z⟩ := u3 p hp
    exact He.frT_none q z
  · obtain ⟨_, o, q, z⟩ := u3 p hp
    rw [q, He.emptyTab_eq z]
def hkE : PySem.W.Hook where
  α := He.AlX
  obs := fun s => obY s.heap.get? (asC s.heap.get?)
  val := fun u => He.valX fn [] u
  says := fun u h => ∃ K : PySem.W.Frag, K.In h ∧ He.SaysX fa fn [] tf exB u h K
  of := fun _ _ q => ⟨_, He.frT_in, saysY q⟩
  keeps := fun _ _ _ ⟨K, u1, u2⟩ u3 => ⟨K, PySem.W.Frag.In.keeps u1 u3, ⟨u2.t, u2.more, u2.hd, u2.out, fun p hp => u3 _ _ (u2.empty p hp)⟩⟩
abbrev R : PySem.W.OpenRow := PySem.W.OpenLaw.row PySem.Challenge.rw_kindsofday_k29_known_since
def ob (s : PySem.W.SharedT) : He.AlX := obY (HandSHeadRun.getT s) (asC (HandSHeadRun.getT s))
theorem ob_eq (s : PySem.W.SharedT) : ob s = hkE.obs s.abs := by
  have e : HandSHeadRun.getT s = s.abs.heap.get? := funext (HandSHeadRun.getT_eq s)
  unfold ob
  rw [e]
  rfl
/-! the run, in parts: each looks at one part of what is seen -/
noncomputable abbrev endS (w : World) (os : OsState) : Option PySem.W.SharedT := HandSHeadRun.endF (HandSHeadRun.stepQ (HandSHeadRun.denQ HandSHeadRun.tabQ) R.prog w) 9000 R.prog w os
def KS (s : PySem.W.SharedT) : PySem.W.Frag := He.frT (HandSHeadRun.getT s) (asC (HandSHeadRun.getT s))
open PySem.W PySem.Calls HandSHeadRun in
theorem runA (w : World) (os : OsState) : (endS w os).map (fun s => (looksF R.prog (boot_heap w.params) s.abs, seenQ (PySem.W.view R.prog [70]) loose (importedModules R.prog.main.body) (fun s => xlAt (PySem.W.view R.prog [70]) [] s && recOk R.toRowW.records s) s.abs)) = some (true, openGood (PySem.W.view R.prog [70]) loose) := by
  kernel_rfl
theorem runB (w : World) (os : OsState) : (endS w os).map (fun s => fa.all fun f => f.ok (KS s)) = some true := by
  kernel_rfl
theorem runC (w : World) (os : OsState) : (endS w os).map (fun s => fn.all fun d => d.ok (KS s)) = some true := by
  kernel_rfl
theorem runD (w : World) (os : OsState) : (endS w os).map (fun s => fn.map fun d => He.fnW (KS s) d.at_) = some (fn.map He.DefD.val) := by
  kernel_rfl
theorem runF (w : World) (os : OsState) : (endS w os).map (fun s => exB (KS s) && He.tabsB (HandSHeadRun.getT s) tf (KS s)) = some true := by
  kernel_rfl
theorem map_at1 {α β : Type} {o : Option α} {s : α} {p : α → β} {v : β} (h : o.map p = some v) (e : o = some s) : p s = v := by
  rw [e] at h
  exact Option.some.inj h
theorem run (w : World) : HandSHeadRun.RunEq R (PySem.W.view R.prog [70]) hkE ob 9000 loose w := by
  intro os
  obtain ⟨s, hs, hA⟩ := Option.map_eq_some_iff.mp (runA w os)
  have hB := map_at1 (runB w os) hs
  have hC := map_at1 (runC w os) hs
  have hD := map_at1 (runD w os) hs
  have hF := map_at1 (runF w os) hs
  have e : ob s = hkE.val w := by
    show ((((fa.all fun f => f.ok (KS s)) && (fn.all fun d => d.ok (KS s)), fn.map fun d => He.fnW (KS s) d.at_), []), exB (KS s) && He.tabsB (HandSHeadRun.getT s) tf (KS s)) = (((true, fn.map He.DefD.val), []), true)
    rw [hB, hC, hD, hF]
    rfl
  show (endS w os).map _ = _
  rw [hs]
  show some (_, _, ob s) = some (_, _, hkE.val w)
  rw [e, ← (Prod.mk.inj hA).1, ← (Prod.mk.inj hA).2]
  exact rfl
theorem code_at {K : PySem.W.Frag} {x qual : Str} {ps : Arguments} {bd : List Stmt} {sc : Scope} {dv : List V} {kw : List (Str × V)} {p : Str × Option Str} {fd : FuncData} (F : FunD K x qual ps bd sc dv kw (He.fAd K p) fd) : fd.code = .ref (He.cT K p).1 := by
  obtain ⟨oc, od, dV, kV, doc, pm, an, cdv, ct, osl, rfl, lk, hcd, _, _⟩ := F.ex
  obtain ⟨c, e⟩ := He.codeIn_ref hcd
  subst e
  have q := He.codeOf_eq (c := c) lk rfl
  show Value.ref c = Value.ref (He.codeOf K p)
  rw [q]
theorem facts {P : Program} {w : World} {K : PySem.W.Frag} {h : Heap} {mg : Str → Option Value} {f : Addr} (X : K.In h) (G : h.Ns mainGlobals mg) (hfa : mg ("law" : Str) = some (.ref f)) (c : He.SaysD fa fn K) (ce : exB K = true) :
    ∃ fd : FuncData, (∀ (s : Shared) (v : Value), BindsTo s fd ⟨[v], []⟩ [("script", v)]) ∧ ∀ base : Heap, K.In base → base.Ns mainGlobals mg → (∀ p ∈ tf, TabB base mg (He.cT K p).1 (He.cT K p).2) → FnOk P w K mg base CX0 10 f fd ["script"] (spLaw K (He.cT K ("stretches", none)).2) := by
  obtain ⟨fd_DayError_init, F_DayError_init⟩ := c.def_ 0 (d := d_DayError_init) rfl
  obtain ⟨fd_NoRow_init, F_NoRow_init⟩ := c.def_ 1 (d := d_NoRow_init) rfl
  obtain ⟨fd_NoFact_init, F_NoFact_init⟩ := c.def_ 2 (d := d_NoFact_init) rfl
  obtain ⟨fd_NoThing_init, F_NoThing_init⟩ := c.def_ 3 (d := d_NoThing_init) rfl
  obtain ⟨fd_NoGroup_init, F_NoGroup_init⟩ := c.def_ 4 (d := d_NoGroup_init) rfl
  obtain ⟨fd_is_name, F_is_name⟩ := c.def_ 5 (d := d_is_name) rfl
  obtain ⟨fd_is_made_of, F_is_made_of⟩ := c.def_ 6 (d := d_is_made_of) rfl
  obtain ⟨fd_Plan_init, F_Plan_init⟩ := c.def_ 7 (d := d_Plan_init) rfl
  obtain ⟨fd_Plan_dimensions, F_Plan_dimensions⟩ := c.def_ 8 (d := d_Plan_dimensions) rfl
  obtain ⟨fd_Plan_measures, F_Plan_measures⟩ := c.def_ 9 (d := d_Plan_measures) rfl
  obtain ⟨fd_first_fault, F_first_fault⟩ := c.def_ 10 (d := d_first_fault) rfl
  obtain ⟨fd_are_faulty, F_are_faulty⟩ := c.def_ 11 (d := d_are_faulty) rfl
  obtain ⟨fd_attributes_of, F_attributes_of⟩ := c.def_ 12 (d := d_attributes_of) rfl
  obtain ⟨fd_attribute_place, F_attribute_place⟩ := c.def_ 13 (d := d_attribute_place) rfl
  obtain ⟨fd_things_named, F_things_named⟩ := c.def_ 14 (d := d_things_named) rfl
  obtain ⟨fd_look, F_look⟩ := c.def_ 15 (d := d_look) rfl
  obtain ⟨fd_has_form, F_has_form⟩ := c.def_ 16 (d := d_has_form) rfl
  obtain ⟨fd_kind_fits, F_kind_fits⟩ := c.def_ 17 (d := d_kind_fits) rfl
  obtain ⟨fd_fact_fits, F_fact_fits⟩ := c.def_ 18 (d := d_fact_fits) rfl
  obtain ⟨fd_stretches, F_stretches⟩ := c.def_ 19 (d := d_stretches) rfl
  obtain ⟨fd_opening_kinds, F_opening_kinds⟩ := c.def_ 20 (d := d_opening_kinds) rfl
  obtain ⟨fd_changes_day, F_changes_day⟩ := c.def_ 21 (d := d_changes_day) rfl
  obtain ⟨fd_version_values, F_version_values⟩ := c.def_ 22 (d := d_version_values) rfl
  obtain ⟨fd_day_value, F_day_value⟩ := c.def_ 23 (d := d_day_value) rfl
  obtain ⟨fd_steady_value, F_steady_value⟩ := c.def_ 24 (d := d_steady_value) rfl
  obtain ⟨fd_last_and_unlike, F_last_and_unlike⟩ := c.def_ 25 (d := d_last_and_unlike) rfl
  obtain ⟨fd_values_behind_rows, F_values_behind_rows⟩ := c.def_ 26 (d := d_values_behind_rows) rfl
  obtain ⟨fd_value_on, F_value_on⟩ := c.def_ 27 (d := d_value_on) rfl
  obtain ⟨fd_last_change, F_last_change⟩ := c.def_ 28 (d := d_last_change) rfl
  obtain ⟨fd_Things_init, F_Things_init⟩ := c.def_ 29 (d := d_Things_init) rfl
  obtain ⟨fd_Things_knows, F_Things_knows⟩ := c.def_ 30 (d := d_Things_knows) rfl
  obtain ⟨fd_Things_take_kind, F_Things_take_kind⟩ := c.def_ 31 (d := d_Things_take_kind) rfl
  obtain ⟨fd_Things_meet, F_Things_meet⟩ := c.def_ 32 (d := d_Things_meet) rfl
  obtain ⟨fd_Things_part, F_Things_part⟩ := c.def_ 33 (d := d_Things_part) rfl
  obtain ⟨fd_Things_number_anew, F_Things_number_anew⟩ := c.def_ 34 (d := d_Things_number_anew) rfl
  obtain ⟨fd_Things_with_numbers, F_Things_with_numbers⟩ := c.def_ 35 (d := d_Things_with_numbers) rfl
  obtain ⟨fd_Things_version_on, F_Things_version_on⟩ := c.def_ 36 (d := d_Things_version_on) rfl
  obtain ⟨fd_House_init, F_House_init⟩ := c.def_ 37 (d := d_House_init) rfl
  obtain ⟨fd_House_tell, F_House_tell⟩ := c.def_ 38 (d := d_House_tell) rfl
  obtain ⟨fd_House_take_kind, F_House_take_kind⟩ := c.def_ 39 (d := d_House_take_kind) rfl
  obtain ⟨fd_House_take_fact, F_House_take_fact⟩ := c.def_ 40 (d := d_House_take_fact) rfl
  obtain ⟨fd_House_take_forget, F_House_take_forget⟩ := c.def_ 41 (d := d_House_take_forget) rfl
  obtain ⟨fd_House_part_from, F_House_part_from⟩ := c.def_ 42 (d := d_House_part_from) rfl
  obtain ⟨fd_House_fact_days, F_House_fact_days⟩ := c.def_ 43 (d := d_House_fact_days) rfl
  obtain ⟨fd_House_led, F_House_led⟩ := c.def_ 44 (d := d_House_led) rfl
  obtain ⟨fd_House_keys_of, F_House_keys_of⟩ := c.def_ 45 (d := d_House_keys_of) rfl
  obtain ⟨fd_House_rows, F_House_rows⟩ := c.def_ 46 (d := d_House_rows) rfl
  obtain ⟨fd_House_since, F_House_since⟩ := c.def_ 47 (d := d_House_since) rfl
  obtain ⟨fd_l_bag, F_l_bag⟩ := c.def_ 48 (d := d_l_bag) rfl
  obtain ⟨fd_l_draw, F_l_draw⟩ := c.def_ 49 (d := d_l_draw) rfl
  obtain ⟨fd_l_names, F_l_names⟩ := c.def_ 50 (d := d_l_names) rfl
  obtain ⟨fd_l_text, F_l_text⟩ := c.def_ 51 (d := d_l_text) rfl
  obtain ⟨fd_l_world, F_l_world⟩ := c.def_ 52 (d := d_l_world) rfl
  obtain ⟨fd_l_row, F_l_row⟩ := c.def_ 53 (d := d_l_row) rfl
  obtain ⟨fd_l_kept, F_l_kept⟩ := c.def_ 54 (d := d_l_kept) rfl
  obtain ⟨fd_l_value, F_l_value⟩ := c.def_ 55 (d := d_l_value) rfl
  obtain ⟨fd_l_house, F_l_house⟩ := c.def_ 56 (d := d_l_house) rfl
  obtain ⟨fd_l_due, F_l_due⟩ := c.def_ 57 (d := d_l_due) rfl
  obtain ⟨fd_l_worths, F_l_worths⟩ := c.def_ 58 (d := d_l_worths) rfl
  obtain ⟨fd_law, F_law⟩ := c.def_ 59 (d := d_law) rfl
  have e := hfa.symm.trans (He.glo_ok X G (c.fact 40 (f := .glo "law") rfl))
  cases e
  have b := FunD.bindsA (ps := ["script"]) F_law fun _ _ _ _ _ _ us hl => match us, hl with | [_], _ => rfl
  have b_DayError_init : Binds K fd_DayError_init ["self", "what"] [] := FunD.bindsN F_DayError_init fun _ _ _ _ _ _ us hl => match us, hl with | [_, _], _ => rfl
  have b_NoRow_init : Binds K fd_NoRow_init ["self", "what"] [] := FunD.bindsN F_NoRow_init fun _ _ _ _ _ _ us hl => match us, hl with | [_, _], _ => rfl
  have b_NoFact_init : Binds K fd_NoFact_init ["self", "what"] [] := FunD.bindsN F_NoFact_init fun _ _ _ _ _ _ us hl => match us, hl with | [_, _], _ => rfl
  have b_NoThing_init : Binds K fd_NoThing_init ["self", "what"] [] := FunD.bindsN F_NoThing_init fun _ _ _ _ _ _ us hl => match us, hl with | [_, _], _ => rfl
  have b_NoGroup_init : Binds K fd_NoGroup_init ["self", "what"] [] := FunD.bindsN F_NoGroup_init fun _ _ _ _ _ _ us hl => match us, hl with | [_, _], _ => rfl
  have b_is_name : Binds K fd_is_name ["text"] [] := FunD.bindsN F_is_name fun _ _ _ _ _ _ us hl => match us, hl with | [_], _ => rfl
  have b_is_made_of : Binds K fd_is_made_of ["text", "signs"] [] := FunD.bindsN F_is_made_of fun _ _ _ _ _ _ us hl => match us, hl with | [_, _], _ => rfl
  have b_Plan_dimensions : Binds K fd_Plan_dimensions ["self"] [] := FunD.bindsN F_Plan_dimensions fun _ _ _ _ _ _ us hl => match us, hl with | [_], _ => rfl
  have b_Plan_measures : Binds K fd_Plan_measures ["self"] [] := FunD.bindsN F_Plan_measures fun _ _ _ _ _ _ us hl => match us, hl with | [_], _ => rfl
  have b_first_fault : Binds K fd_first_fault ["dimensions", "measures"] [] := FunD.bindsN F_first_fault fun _ _ _ _ _ _ us hl => match us, hl with | [_, _], _ => rfl
  have b_are_faulty : Binds K fd_are_faulty ["names", "most"] [] := FunD.bindsN F_are_faulty fun _ _ _ _ _ _ us hl => match us, hl with | [_, _], _ => rfl
  have b_attributes_of : Binds K fd_attributes_of ["plan", "dimension"] [] := FunD.bindsN F_attributes_of fun _ _ _ _ _ _ us hl => match us, hl with | [_, _], _ => rfl
  have b_attribute_place : Binds K fd_attribute_place ["plan", "dimension", "attribute"] [] := FunD.bindsN F_attribute_place fun _ _ _ _ _ _ us hl => match us, hl with | [_, _, _], _ => rfl
  have b_things_named : Binds K fd_things_named ["plan", "keys"] [] := FunD.bindsN F_things_named fun _ _ _ _ _ _ us hl => match us, hl with | [_, _], _ => rfl
  have b_look : Binds K fd_look ["plan", "row"] [] := FunD.bindsN F_look fun _ _ _ _ _ _ us hl => match us, hl with | [_, _], _ => rfl
  have b_has_form : Binds K fd_has_form ["plan", "row"] [] := FunD.bindsN F_has_form fun _ _ _ _ _ _ us hl => match us, hl with | [_, _], _ => rfl
  have b_kind_fits : Binds K fd_kind_fits ["plan", "dimension", "values"] [] := FunD.bindsN F_kind_fits fun _ _ _ _ _ _ us hl => match us, hl with | [_, _, _], _ => rfl
  have b_fact_fits : Binds K fd_fact_fits ["plan", "keys", "numbers"] [] := FunD.bindsN F_fact_fits fun _ _ _ _ _ _ us hl => match us, hl with | [_, _, _], _ => rfl
  have b_stretches : Binds K fd_stretches ["plan", "dimension", "kinds"] [] := FunD.bindsN F_stretches fun _ _ _ _ _ _ us hl => match us, hl with | [_, _, _], _ => rfl
  have b_opening_kinds : Binds K fd_opening_kinds ["ways", "ordered"] [] := FunD.bindsN F_opening_kinds fun _ _ _ _ _ _ us hl => match us, hl with | [_, _], _ => rfl
  have b_changes_day : Binds K fd_changes_day ["ways", "old", "new"] [] := FunD.bindsN F_changes_day fun _ _ _ _ _ _ us hl => match us, hl with | [_, _, _], _ => rfl
  have b_version_values : Binds K fd_version_values ["ways", "steady", "opening"] [] := FunD.bindsN F_version_values fun _ _ _ _ _ _ us hl => match us, hl with | [_, _, _], _ => rfl
  have b_day_value : Binds K fd_day_value ["at", "opening"] [] := FunD.bindsN F_day_value fun _ _ _ _ _ _ us hl => match us, hl with | [_, _], _ => rfl
  have b_steady_value : Binds K fd_steady_value ["way", "column"] [] := FunD.bindsN F_steady_value fun _ _ _ _ _ _ us hl => match us, hl with | [_, _], _ => rfl
  have b_last_and_unlike : Binds K fd_last_and_unlike ["column"] [] := FunD.bindsN F_last_and_unlike fun _ _ _ _ _ _ us hl => match us, hl with | [_], _ => rfl
  have b_values_behind_rows : Binds K fd_values_behind_rows ["plan", "rows", "thing", "day", "place"] [] := FunD.bindsN F_values_behind_rows fun _ _ _ _ _ _ us hl => match us, hl with | [_, _, _, _, _], _ => rfl
  have b_value_on : Binds K fd_value_on ["plan", "dimension", "kinds", "day", "place"] [] := FunD.bindsN F_value_on fun _ _ _ _ _ _ us hl => match us, hl with | [_, _, _, _, _], _ => rfl
  have b_last_change : Binds K fd_last_change ["values"] [] := FunD.bindsN F_last_change fun _ _ _ _ _ _ us hl => match us, hl with | [_], _ => rfl
  have b_Things_init : Binds K fd_Things_init ["self", "plan"] [] := FunD.bindsN F_Things_init fun _ _ _ _ _ _ us hl => match us, hl with | [_, _], _ => rfl
  have b_Things_knows : Binds K fd_Things_knows ["self", "thing"] [] := FunD.bindsN F_Things_knows fun _ _ _ _ _ _ us hl => match us, hl with | [_, _], _ => rfl
  have b_Things_take_kind : Binds K fd_Things_take_kind ["self", "thing", "day", "values"] [] := FunD.bindsN F_Things_take_kind fun _ _ _ _ _ _ us hl => match us, hl with | [_, _, _, _], _ => rfl
  have b_Things_meet : Binds K fd_Things_meet ["self", "thing"] [] := FunD.bindsN F_Things_meet fun _ _ _ _ _ _ us hl => match us, hl with | [_, _], _ => rfl
  have b_Things_part : Binds K fd_Things_part ["self", "thing"] [] := FunD.bindsN F_Things_part fun _ _ _ _ _ _ us hl => match us, hl with | [_, _], _ => rfl
  have b_Things_number_anew : Binds K fd_Things_number_anew ["self", "thing"] [] := FunD.bindsN F_Things_number_anew fun _ _ _ _ _ _ us hl => match us, hl with | [_, _], _ => rfl
  have b_Things_with_numbers : Binds K fd_Things_with_numbers ["self", "versions", "old"] [] := FunD.bindsN F_Things_with_numbers fun _ _ _ _ _ _ us hl => match us, hl with | [_, _, _], _ => rfl
  have b_Things_version_on : Binds K fd_Things_version_on ["self", "thing", "day"] [] := FunD.bindsN F_Things_version_on fun _ _ _ _ _ _ us hl => match us, hl with | [_, _, _], _ => rfl
  have b_House_init : Binds K fd_House_init ["self", "plan"] [] := FunD.bindsN F_House_init fun _ _ _ _ _ _ us hl => match us, hl with | [_, _], _ => rfl
  have b_House_tell : Binds K fd_House_tell ["self", "row"] [] := FunD.bindsN F_House_tell fun _ _ _ _ _ _ us hl => match us, hl with | [_, _], _ => rfl
  have b_House_take_kind : Binds K fd_House_take_kind ["self", "thing", "day", "values"] [] := FunD.bindsN F_House_take_kind fun _ _ _ _ _ _ us hl => match us, hl with | [_, _, _, _], _ => rfl
  have b_House_take_fact : Binds K fd_House_take_fact ["self", "name", "day", "keys", "numbers"] [] := FunD.bindsN F_House_take_fact fun _ _ _ _ _ _ us hl => match us, hl with | [_, _, _, _, _], _ => rfl
  have b_House_take_forget : Binds K fd_House_take_forget ["self", "name"] [] := FunD.bindsN F_House_take_forget fun _ _ _ _ _ _ us hl => match us, hl with | [_, _], _ => rfl
  have b_House_part_from : Binds K fd_House_part_from ["self", "things"] [] := FunD.bindsN F_House_part_from fun _ _ _ _ _ _ us hl => match us, hl with | [_, _], _ => rfl
  have b_House_fact_days : Binds K fd_House_fact_days ["self", "thing"] [] := FunD.bindsN F_House_fact_days fun _ _ _ _ _ _ us hl => match us, hl with | [_, _], _ => rfl
  have b_House_led : Binds K fd_House_led ["self", "day", "keys"] [] := FunD.bindsN F_House_led fun _ _ _ _ _ _ us hl => match us, hl with | [_, _, _], _ => rfl
  have b_House_keys_of : Binds K fd_House_keys_of ["self", "dimension"] [] := FunD.bindsN F_House_keys_of fun _ _ _ _ _ _ us hl => match us, hl with | [_, _], _ => rfl
  have b_House_rows : Binds K fd_House_rows ["self"] [] := FunD.bindsN F_House_rows fun _ _ _ _ _ _ us hl => match us, hl with | [_], _ => rfl
  have b_House_since : Binds K fd_House_since ["self", "dimension", "key", "day", "attribute"] [] := FunD.bindsN F_House_since fun _ _ _ _ _ _ us hl => match us, hl with | [_, _, _, _, _], _ => rfl
  have b_l_bag : Binds K fd_l_bag ["script"] [] := FunD.bindsN F_l_bag fun _ _ _ _ _ _ us hl => match us, hl with | [_], _ => rfl
  have b_l_draw : Binds K fd_l_draw ["bag", "many"] [] := FunD.bindsN F_l_draw fun _ _ _ _ _ _ us hl => match us, hl with | [_, _], _ => rfl
  have b_l_names : Binds K fd_l_names ["bag", "many"] [] := FunD.bindsN F_l_names fun _ _ _ _ _ _ us hl => match us, hl with | [_, _], _ => rfl
  have b_l_text : Binds K fd_l_text ["bag"] [] := FunD.bindsN F_l_text fun _ _ _ _ _ _ us hl => match us, hl with | [_], _ => rfl
  have b_l_world : Binds K fd_l_world ["bag", "wide"] [] := FunD.bindsN F_l_world fun _ _ _ _ _ _ us hl => match us, hl with | [_, _], _ => rfl
  have b_l_row : Binds K fd_l_row ["bag", "world"] [] := FunD.bindsN F_l_row fun _ _ _ _ _ _ us hl => match us, hl with | [_, _], _ => rfl
  have b_l_kept : Binds K fd_l_kept ["world", "row"] [] := FunD.bindsN F_l_kept fun _ _ _ _ _ _ us hl => match us, hl with | [_, _], _ => rfl
  have b_l_value : Binds K fd_l_value ["world", "thing", "date", "at"] [] := FunD.bindsN F_l_value fun _ _ _ _ _ _ us hl => match us, hl with | [_, _, _, _], _ => rfl
  have b_l_house : Binds K fd_l_house ["world"] [] := FunD.bindsN F_l_house fun _ _ _ _ _ _ us hl => match us, hl with | [_], _ => rfl
  have b_l_due : Binds K fd_l_due ["worths"] [] := FunD.bindsN F_l_due fun _ _ _ _ _ _ us hl => match us, hl with | [_], _ => rfl
  have b_l_worths : Binds K fd_l_worths ["world", "thing", "date", "at"] [] := FunD.bindsN F_l_worths fun _ _ _ _ _ _ us hl => match us, hl with | [_, _, _, _], _ => rfl
  have g_DayError := He.glo_ok X G (c.fact 0 (f := .glo "DayError") rfl)
  have g_NoRow := He.glo_ok X G (c.fact 1 (f := .glo "NoRow") rfl)
  have g_NoFact := He.glo_ok X G (c.fact 2 (f := .glo "NoFact") rfl)
  have g_NoThing := He.glo_ok X G (c.fact 3 (f := .glo "NoThing") rfl)
  have g_NoGroup := He.glo_ok X G (c.fact 4 (f := .glo "NoGroup") rfl)
  have g_Plan := He.glo_ok X G (c.fact 5 (f := .glo "Plan") rfl)
  have g_Things := He.glo_ok X G (c.fact 6 (f := .glo "Things") rfl)
  have g_House := He.glo_ok X G (c.fact 7 (f := .glo "House") rfl)
  have g_is_name := He.glo_ok X G (c.fact 8 (f := .glo "is_name") rfl)
  have g_is_made_of := He.glo_ok X G (c.fact 9 (f := .glo "is_made_of") rfl)
  have g_first_fault := He.glo_ok X G (c.fact 10 (f := .glo "first_fault") rfl)
  have g_are_faulty := He.glo_ok X G (c.fact 11 (f := .glo "are_faulty") rfl)
  have g_attributes_of := He.glo_ok X G (c.fact 12 (f := .glo "attributes_of") rfl)
  have g_attribute_place := He.glo_ok X G (c.fact 13 (f := .glo "attribute_place") rfl)
  have g_things_named := He.glo_ok X G (c.fact 14 (f := .glo "things_named") rfl)
  have g_look := He.glo_ok X G (c.fact 15 (f := .glo "look") rfl)
  have g_has_form := He.glo_ok X G (c.fact 16 (f := .glo "has_form") rfl)
  have g_kind_fits := He.glo_ok X G (c.fact 17 (f := .glo "kind_fits") rfl)
  have g_fact_fits := He.glo_ok X G (c.fact 18 (f := .glo "fact_fits") rfl)
  have g_stretches := He.glo_ok X G (c.fact 19 (f := .glo "stretches") rfl)
  have g_opening_kinds := He.glo_ok X G (c.fact 20 (f := .glo "opening_kinds") rfl)
  have g_changes_day := He.glo_ok X G (c.fact 21 (f := .glo "changes_day") rfl)
  have g_version_values := He.glo_ok X G (c.fact 22 (f := .glo "version_values") rfl)
  have g_day_value := He.glo_ok X G (c.fact 23 (f := .glo "day_value") rfl)
  have g_steady_value := He.glo_ok X G (c.fact 24 (f := .glo "steady_value") rfl)
  have g_last_and_unlike := He.glo_ok X G (c.fact 25 (f := .glo "last_and_unlike") rfl)
  have g_values_behind_rows := He.glo_ok X G (c.fact 26 (f := .glo "values_behind_rows") rfl)
  have g_value_on := He.glo_ok X G (c.fact 27 (f := .glo "value_on") rfl)
  have g_last_change := He.glo_ok X G (c.fact 28 (f := .glo "last_change") rfl)
  have g_l_bag := He.glo_ok X G (c.fact 29 (f := .glo "_law_bag") rfl)
  have g_l_draw := He.glo_ok X G (c.fact 30 (f := .glo "_law_draw") rfl)
  have g_l_names := He.glo_ok X G (c.fact 31 (f := .glo "_law_names") rfl)
  have g_l_text := He.glo_ok X G (c.fact 32 (f := .glo "_law_text") rfl)
  have g_l_world := He.glo_ok X G (c.fact 33 (f := .glo "_law_world") rfl)
  have g_l_row := He.glo_ok X G (c.fact 34 (f := .glo "_law_row") rfl)
  have g_l_kept := He.glo_ok X G (c.fact 35 (f := .glo "_law_kept") rfl)
  have g_l_value := He.glo_ok X G (c.fact 36 (f := .glo "_law_value") rfl)
  have g_l_house := He.glo_ok X G (c.fact 37 (f := .glo "_law_house") rfl)
  have g_l_due := He.glo_ok X G (c.fact 38 (f := .glo "_law_due") rfl)
  have g_l_worths := He.glo_ok X G (c.fact 39 (f := .glo "_law_worths") rfl)
  obtain ⟨t_SMALL_LETTERS, g_SMALL_LETTERS⟩ := He.str_ok X G (c.fact 41 (f := .str "SMALL_LETTERS" "abcdefghijklmnopqrstuvwxyz") rfl)
  obtain ⟨t_LONGEST_NAME, g_LONGEST_NAME⟩ := He.int_ok X G (c.fact 42 (f := .int "LONGEST_NAME" 8) rfl)
  obtain ⟨t_MOST_DIMENSIONS, g_MOST_DIMENSIONS⟩ := He.int_ok X G (c.fact 43 (f := .int "MOST_DIMENSIONS" 4) rfl)
  obtain ⟨t_MOST_ATTRIBUTES, g_MOST_ATTRIBUTES⟩ := He.int_ok X G (c.fact 44 (f := .int "MOST_ATTRIBUTES" 5) rfl)
  obtain ⟨t_MOST_MEASURES, g_MOST_MEASURES⟩ := He.int_ok X G (c.fact 45 (f := .int "MOST_MEASURES" 4) rfl)
  have z_ValueError := He.free_ok X G (c.fact 46 (f := .free "ValueError") rfl)
  have z_all := He.free_ok X G (c.fact 47 (f := .free "all") rfl)
  have z_any := He.free_ok X G (c.fact 48 (f := .free "any") rfl)
  have z_bool := He.free_ok X G (c.fact 49 (f := .free "bool") rfl)
  have z_enumerate := He.free_ok X G (c.fact 50 (f := .free "enumerate") rfl)
  have z_isinstance := He.free_ok X G (c.fact 51 (f := .free "isinstance") rfl)
  have z_len := He.free_ok X G (c.fact 52 (f := .free "len") rfl)
  have z_list := He.free_ok X G (c.fact 53 (f := .free "list") rfl)
  have z_range := He.free_ok X G (c.fact 54 (f := .free "range") rfl)
  have z_repr := He.free_ok X G (c.fact 55 (f := .free "repr") rfl)
  have z_set := He.free_ok X G (c.fact 56 (f := .free "set") rfl)
  have z_sorted := He.free_ok X G (c.fact 57 (f := .free "sorted") rfl)
  have z_sum := He.free_ok X G (c.fact 58 (f := .free "sum") rfl)
  have z_tuple := He.free_ok X G (c.fact 59 (f := .free "tuple") rfl)
  have z_zip := He.free_ok X G (c.fact 60 (f := .free "zip") rfl)
  have cls_Plan := He.cls_ok (c.fact 61 (f := .cls "Plan") rfl)
  have mk_Plan := He.mkr_ok (c.fact 62 (f := .mkr "Plan") rfl)
  have no_Plan_dimension_list := He.noat_ok (c.fact 63 (f := .noat "Plan" "dimension_list") rfl)
  have no_Plan_measure_list := He.noat_ok (c.fact 64 (f := .noat "Plan" "measure_list") rfl)
  have me_Plan_dimensions := He.meth_ok (c.fact 65 (f := .meth "Plan" "dimensions") rfl)
  have me_Plan_measures := He.meth_ok (c.fact 66 (f := .meth "Plan" "measures") rfl)
  have cls_Things := He.cls_ok (c.fact 67 (f := .cls "Things") rfl)
  have mk_Things := He.mkr_ok (c.fact 68 (f := .mkr "Things") rfl)
  have no_Things_given := He.noat_ok (c.fact 69 (f := .noat "Things" "given") rfl)
  have no_Things_kinds := He.noat_ok (c.fact 70 (f := .noat "Things" "kinds") rfl)
  have no_Things_numbered := He.noat_ok (c.fact 71 (f := .noat "Things" "numbered") rfl)
  have no_Things_plan := He.noat_ok (c.fact 72 (f := .noat "Things" "plan") rfl)
  have me_Things_knows := He.meth_ok (c.fact 73 (f := .meth "Things" "knows") rfl)
  have me_Things_take_kind := He.meth_ok (c.fact 74 (f := .meth "Things" "take_kind") rfl)
  have me_Things_meet := He.meth_ok (c.fact 75 (f := .meth "Things" "meet") rfl)
  have me_Things_part := He.meth_ok (c.fact 76 (f := .meth "Things" "part") rfl)
  have me_Things_number_anew := He.meth_ok (c.fact 77 (f := .meth "Things" "number_anew") rfl)
  have me_Things_with_numbers := He.meth_ok (c.fact 78 (f := .meth "Things" "with_numbers") rfl)
  have me_Things_version_on := He.meth_ok (c.fact 79 (f := .meth "Things" "version_on") rfl)
  have cls_House := He.cls_ok (c.fact 80 (f := .cls "House") rfl)
  have mk_House := He.mkr_ok (c.fact 81 (f := .mkr "House") rfl)
  have no_House_kept_facts := He.noat_ok (c.fact 82 (f := .noat "House" "kept_facts") rfl)
  have no_House_plan := He.noat_ok (c.fact 83 (f := .noat "House" "plan") rfl)
  have no_House_things := He.noat_ok (c.fact 84 (f := .noat "House" "things") rfl)
  have no_House_told_rows := He.noat_ok (c.fact 85 (f := .noat "House" "told_rows") rfl)
  have no_House_watchers := He.noat_ok (c.fact 86 (f := .noat "House" "watchers") rfl)
  have me_House_tell := He.meth_ok (c.fact 87 (f := .meth "House" "tell") rfl)
  have me_House_take_kind := He.meth_ok (c.fact 88 (f := .meth "House" "take_kind") rfl)
  have me_House_take_fact := He.meth_ok (c.fact 89 (f := .meth "House" "take_fact") rfl)
  have me_House_take_forget := He.meth_ok (c.fact 90 (f := .meth "House" "take_forget") rfl)
  have me_House_part_from := He.meth_ok (c.fact 91 (f := .meth "House" "part_from") rfl)
  have me_House_fact_days := He.meth_ok (c.fact 92 (f := .meth "House" "fact_days") rfl)
  have me_House_led := He.meth_ok (c.fact 93 (f := .meth "House" "led") rfl)
  have me_House_keys_of := He.meth_ok (c.fact 94 (f := .meth "House" "keys_of") rfl)
  have me_House_rows := He.meth_ok (c.fact 95 (f := .meth "House" "rows") rfl)
  have me_House_since := He.meth_ok (c.fact 96 (f := .meth "House" "since") rfl)
  refine ⟨fd_law, fun s v => b s [v] rfl, fun base _ _ TB => ?_⟩
  have T : PlTxt K (He.ga K "Plan") := ⟨cls_Plan, no_Plan_dimension_list, no_Plan_measure_list⟩
  have TX : HsTxt K (cc K).CH := ⟨cls_House, no_House_plan, no_House_things, no_House_kept_facts, no_House_told_rows, no_House_watchers⟩
  have TT : ThTxt K (cc K).CT := ⟨cls_Things, no_Things_plan, no_Things_kinds, no_Things_numbered, no_Things_given⟩
  have hx := (He.ba ce).2
  obtain ⟨hD_, hx⟩ := He.ba hx
  obtain ⟨hV_, hx⟩ := He.ba hx
  obtain ⟨h_NoRow, hx⟩ := He.ba hx
  obtain ⟨h_NoFact, hx⟩ := He.ba hx
  obtain ⟨h_NoThing, hx⟩ := He.ba hx
  have h_NoGroup := hx
  have T_NoRow := KdXc.errB_ok h_NoRow
  have D_NoRow := ok_DayError (P := P) (w := w) (mg := mg) (base := base) F_DayError_init T_NoRow z_ValueError (KdXc.valB_ok hV_) z_repr
  have E_NoRow : ErrM P w K mg base "NoRow" _ _ fd_NoRow_init := ⟨T_NoRow, ok_NoRow F_NoRow_init T_NoRow D_NoRow (KdXc.cfnB_ok hD_) b_DayError_init g_DayError, b_NoRow_init, g_NoRow⟩
  have T_NoFact := KdXc.errB_ok h_NoFact
  have D_NoFact := ok_DayError (P := P) (w := w) (mg := mg) (base := base) F_DayError_init T_NoFact z_ValueError (KdXc.valB_ok hV_) z_repr
  have E_NoFact : ErrM P w K mg base "NoFact" _ _ fd_NoFact_init := ⟨T_NoFact, ok_NoFact F_NoFact_init T_NoFact D_NoFact (KdXc.cfnB_ok hD_) b_DayError_init g_DayError, b_NoFact_init, g_NoFact⟩
  have T_NoThing := KdXc.errB_ok h_NoThing
  have D_NoThing := ok_DayError (P := P) (w := w) (mg := mg) (base := base) F_DayError_init T_NoThing z_ValueError (KdXc.valB_ok hV_) z_repr
  have E_NoThing : ErrM P w K mg base "NoThing" _ _ fd_NoThing_init := ⟨T_NoThing, ok_NoThing F_NoThing_init T_NoThing D_NoThing (KdXc.cfnB_ok hD_) b_DayError_init g_DayError, b_NoThing_init, g_NoThing⟩
  have T_NoGroup := KdXc.errB_ok h_NoGroup
  have D_NoGroup := ok_DayError (P := P) (w := w) (mg := mg) (base := base) F_DayError_init T_NoGroup z_ValueError (KdXc.valB_ok hV_) z_repr
  have E_NoGroup : ErrM P w K mg base "NoGroup" _ _ fd_NoGroup_init := ⟨T_NoGroup, ok_NoGroup F_NoGroup_init T_NoGroup D_NoGroup (KdXc.cfnB_ok hD_) b_DayError_init g_DayError, b_NoGroup_init, g_NoGroup⟩
  have G_is_made_of := ok_made (P := P) (w := w) (mg := mg) (base := base) F_is_made_of z_all
  have G_is_name := ok_is_name (P := P) (w := w) (mg := mg) (base := base) F_is_name G_is_made_of F_is_made_of.kp b_is_made_of g_is_made_of z_len g_SMALL_LETTERS g_LONGEST_NAME
  have G_are_faulty := ok_are_faulty (P := P) (w := w) (mg := mg) (base := base) F_are_faulty G_is_name F_is_name.kp b_is_name g_is_name z_len z_set z_all
  have G_first_fault := ok_first (P := P) (w := w) (mg := mg) (base := base) F_first_fault G_are_faulty F_are_faulty.kp b_are_faulty g_are_faulty g_MOST_DIMENSIONS g_MOST_ATTRIBUTES g_MOST_MEASURES
  have G_Plan_init := ok_init (P := P) (w := w) (mg := mg) (base := base) F_Plan_init T G_first_fault F_first_fault.kp b_first_fault g_first_fault z_tuple z_list
  have PC : PlanC P w K mg base _ _ _ _ := ⟨T, mk_Plan, G_Plan_init, g_Plan, F_Plan_init, exB_ok ce⟩
  have G_Plan_dimensions := ok_dims (P := P) (w := w) (mg := mg) (base := base) F_Plan_dimensions T z_list
  have G_Plan_measures := ok_meas (P := P) (w := w) (mg := mg) (base := base) F_Plan_measures T z_list
  have G_attributes_of := ok_attr (P := P) (w := w) (mg := mg) (base := base) F_attributes_of T G_Plan_dimensions b_Plan_dimensions me_Plan_dimensions
  have c_attributes_of : Fun P w K mg base _ _ _ _ _ _ := ⟨G_attributes_of, F_attributes_of.kp, b_attributes_of, g_attributes_of⟩
  have G_changes_day := ok_chg (P := P) (w := w) (mg := mg) (base := base) F_changes_day z_any z_enumerate
  have G_opening_kinds := ok_open (P := P) (w := w) (mg := mg) (base := base) F_opening_kinds G_changes_day F_changes_day.kp b_changes_day g_changes_day z_zip
  have G_last_and_unlike := ok_last (P := P) (w := w) (mg := mg) (base := base) F_last_and_unlike
  have G_day_value := ok_dayv (P := P) (w := w) (mg := mg) (base := base) F_day_value
  have G_steady_value := ok_stv (P := P) (w := w) (mg := mg) (base := base) F_steady_value G_last_and_unlike F_last_and_unlike.kp b_last_and_unlike g_last_and_unlike
  have G_version_values := ok_vv (P := P) (w := w) (mg := mg) (base := base) F_version_values G_day_value F_day_value.kp b_day_value g_day_value z_enumerate z_tuple
  have G_stretches := ok_str (P := P) (w := w) (mg := mg) (base := base) F_stretches (code_at F_stretches) (TB _ (List.mem_cons_self ..)) G_attributes_of F_attributes_of.kp b_attributes_of g_attributes_of G_opening_kinds F_opening_kinds.kp b_opening_kinds g_opening_kinds G_version_values F_version_values.kp b_version_values g_version_values G_steady_value F_steady_value.kp b_steady_value g_steady_value z_enumerate z_sorted z_zip
  have c_stretches : Fun P w K mg base _ _ _ _ _ _ := ⟨G_stretches, F_stretches.kp, b_stretches, g_stretches⟩
  have G_things_named := ok_named (P := P) (w := w) (mg := mg) (base := base) F_things_named T G_Plan_dimensions b_Plan_dimensions me_Plan_dimensions z_zip
  have c_things_named : Fun P w K mg base _ _ _ _ _ _ := ⟨G_things_named, F_things_named.kp, b_things_named, g_things_named⟩
  have G_Things_init := ok_things (P := P) (w := w) (mg := mg) (base := base) F_Things_init TT
  have C_Things : ClsC P w K mg base "Things" _ _ _ _ _ _ := ⟨mk_Things, G_Things_init, b_Things_init, g_Things⟩
  have G_Things_knows := ok_knows (P := P) (w := w) (mg := mg) (base := base) F_Things_knows TT
  have m_Things_knows : MFun P w K mg base _ "knows" _ _ _ _ _ := ⟨G_Things_knows, b_Things_knows, cls_Things, me_Things_knows⟩
  have G_Things_version_on := ok_verOn (P := P) (w := w) (mg := mg) (base := base) F_Things_version_on TT
  have m_Things_version_on : MFun P w K mg base _ "version_on" _ _ _ _ _ := ⟨G_Things_version_on, b_Things_version_on, cls_Things, me_Things_version_on⟩
  have G_Things_with_numbers := ok_withN (P := P) (w := w) (mg := mg) (base := base) (T := tbS (cc K).Pt) F_Things_with_numbers TT
  have m_Things_with_numbers : MFun P w K mg base _ "with_numbers" _ _ _ _ _ := ⟨G_Things_with_numbers, b_Things_with_numbers, cls_Things, me_Things_with_numbers⟩
  have G_Things_number_anew := ok_anew (P := P) (w := w) (mg := mg) (base := base) F_Things_number_anew TT m_Things_with_numbers c_stretches z_list z_len
  have m_Things_number_anew : MFun P w K mg base _ "number_anew" _ _ _ _ _ := ⟨G_Things_number_anew, b_Things_number_anew, cls_Things, me_Things_number_anew⟩
  have G_Things_take_kind := ok_takeK (P := P) (w := w) (mg := mg) (base := base) F_Things_take_kind TT m_Things_number_anew
  have m_Things_take_kind : MFun P w K mg base _ "take_kind" _ _ _ _ _ := ⟨G_Things_take_kind, b_Things_take_kind, cls_Things, me_Things_take_kind⟩
  have G_Things_meet := ok_meet (P := P) (w := w) (mg := mg) (base := base) F_Things_meet m_Things_number_anew m_Things_knows
  have m_Things_meet : MFun P w K mg base _ "meet" _ _ _ _ _ := ⟨G_Things_meet, b_Things_meet, cls_Things, me_Things_meet⟩
  have G_Things_part := ok_part (P := P) (w := w) (mg := mg) (base := base) (T := tbS (cc K).Pt) F_Things_part TT z_len
  have m_Things_part : MFun P w K mg base _ "part" _ _ _ _ _ := ⟨G_Things_part, b_Things_part, cls_Things, me_Things_part⟩
  have G_House_fact_days := ok_fdays (P := P) (w := w) (mg := mg) (base := base) (c := cc K) F_House_fact_days TX c_things_named z_list
  have m_House_fact_days : MFun P w K mg base _ "fact_days" _ _ _ _ _ := ⟨G_House_fact_days, b_House_fact_days, cls_House, me_House_fact_days⟩
  have G_House_led := ok_led (P := P) (w := w) (mg := mg) (base := base) (c := cc K) F_House_led TX c_things_named m_Things_version_on z_tuple
  have m_House_led : MFun P w K mg base _ "led" _ _ _ _ _ := ⟨G_House_led, b_House_led, cls_House, me_House_led⟩
  have G_House_part_from := ok_partF (P := P) (w := w) (mg := mg) (base := base) (c := cc K) F_House_part_from TX TT m_House_fact_days m_Things_part z_sum
  have m_House_part_from : MFun P w K mg base _ "part_from" _ _ _ _ _ := ⟨G_House_part_from, b_House_part_from, cls_House, me_House_part_from⟩
  have G_House_take_kind := ok_hkind (P := P) (w := w) (mg := mg) (base := base) (c := cc K) F_House_take_kind TX m_House_fact_days m_Things_version_on m_Things_take_kind z_len z_zip
  have m_House_take_kind : MFun P w K mg base _ "take_kind" _ _ _ _ _ := ⟨G_House_take_kind, b_House_take_kind, cls_House, me_House_take_kind⟩
  have G_House_take_fact := ok_hfact (P := P) (w := w) (mg := mg) (base := base) (c := cc K) F_House_take_fact TX c_things_named m_Things_meet m_House_part_from m_House_led z_sum
  have m_House_take_fact : MFun P w K mg base _ "take_fact" _ _ _ _ _ := ⟨G_House_take_fact, b_House_take_fact, cls_House, me_House_take_fact⟩
  have G_House_take_forget := ok_hforget (P := P) (w := w) (mg := mg) (base := base) (c := cc K) F_House_take_forget TX c_things_named m_House_part_from
  have m_House_take_forget : MFun P w K mg base _ "take_forget" _ _ _ _ _ := ⟨G_House_take_forget, b_House_take_forget, cls_House, me_House_take_forget⟩
  have G_kind_fits := ok_kf (P := P) (w := w) (mg := mg) (base := base) F_kind_fits c_attributes_of z_len
  have c_kind_fits : Fun P w K mg base _ _ _ _ _ _ := ⟨G_kind_fits, F_kind_fits.kp, b_kind_fits, g_kind_fits⟩
  have G_fact_fits := ok_ff (P := P) (w := w) (mg := mg) (base := base) F_fact_fits T G_Plan_dimensions b_Plan_dimensions me_Plan_dimensions G_Plan_measures b_Plan_measures me_Plan_measures z_len
  have c_fact_fits : Fun P w K mg base _ _ _ _ _ _ := ⟨G_fact_fits, F_fact_fits.kp, b_fact_fits, g_fact_fits⟩
  have G_has_form := ok_form (P := P) (w := w) (mg := mg) (base := base) F_has_form c_kind_fits c_fact_fits
  have c_has_form : Fun P w K mg base _ _ _ _ _ _ := ⟨G_has_form, F_has_form.kp, b_has_form, g_has_form⟩
  have G_look := ok_look (P := P) (w := w) (mg := mg) (base := base) F_look c_has_form E_NoRow
  have c_look : FunX P w K mg base _ _ _ _ _ _ := ⟨G_look, F_look.kp, b_look, g_look⟩
  have G_House_tell := ok_tell (P := P) (w := w) (mg := mg) (base := base) (c := cc K) F_House_tell TX c_look E_NoFact m_House_take_kind m_House_take_fact m_House_take_forget
  have G_House_rows := ok_rowsH (P := P) (w := w) (mg := mg) (base := base) (c := cc K) F_House_rows TX z_list
  have m_House_rows : MFun P w K mg base _ "rows" _ _ _ _ _ := ⟨G_House_rows, b_House_rows, cls_House, me_House_rows⟩
  have G_House_init := ok_hinit (P := P) (w := w) (mg := mg) (base := base) (c := cc K) F_House_init TX PC C_Things G_Plan_dimensions b_Plan_dimensions me_Plan_dimensions G_Plan_measures b_Plan_measures me_Plan_measures
  have C_House : ClsC P w K mg base "House" _ _ _ _ _ _ := ⟨mk_House, G_House_init, b_House_init, g_House⟩
  have G_l_bag := ok_bag (P := P) (w := w) (mg := mg) (base := base) F_l_bag
  have c_l_bag : Fun P w K mg base _ _ _ _ _ _ := ⟨G_l_bag, F_l_bag.kp, b_l_bag, g_l_bag⟩
  have G_l_draw := ok_draw (P := P) (w := w) (mg := mg) (base := base) F_l_draw
  have c_l_draw : Fun P w K mg base _ _ _ _ _ _ := ⟨G_l_draw, F_l_draw.kp, b_l_draw, g_l_draw⟩
  have G_l_text := ok_text (P := P) (w := w) (mg := mg) (base := base) F_l_text c_l_draw z_range
  have c_l_text : Fun P w K mg base _ _ _ _ _ _ := ⟨G_l_text, F_l_text.kp, b_l_text, g_l_text⟩
  have G_l_names := ok_names (P := P) (w := w) (mg := mg) (base := base) F_l_names c_l_draw z_range
  have c_l_names : Fun P w K mg base _ _ _ _ _ _ := ⟨G_l_names, F_l_names.kp, b_l_names, g_l_names⟩
  have G_l_world := ok_world (P := P) (w := w) (mg := mg) (base := base) F_l_world c_l_draw c_l_names c_l_text z_range z_tuple
  have c_l_world : Fun P w K mg base _ _ _ _ _ _ := ⟨G_l_world, F_l_world.kp, b_l_world, g_l_world⟩
  have G_l_row := ok_row (P := P) (w := w) (mg := mg) (base := base) F_l_row c_l_draw z_len z_tuple
  have c_l_row : Fun P w K mg base _ _ _ _ _ _ := ⟨G_l_row, F_l_row.kp, b_l_row, g_l_row⟩
  have G_l_kept := ok_kept (P := P) (w := w) (mg := mg) (base := base) F_l_kept
  have c_l_kept : Fun P w K mg base _ _ _ _ _ _ := ⟨G_l_kept, F_l_kept.kp, b_l_kept, g_l_kept⟩
  have G_l_house := ok_house5 (P := P) (w := w) (mg := mg) (base := base) (c := cc K) F_l_house PC C_House z_list
  have c_l_house : Fun P w K mg base _ _ _ _ _ _ := ⟨G_l_house, F_l_house.kp, b_l_house, g_l_house⟩
  have G_value_on := ok_valOn (P := P) (w := w) (mg := mg) (base := base) (c := cc K) F_value_on c_stretches z_list
  have c_value_on : Fun P w K mg base _ _ _ _ _ _ := ⟨G_value_on, F_value_on.kp, b_value_on, g_value_on⟩
  have G_values_behind_rows := ok_vbr (P := P) (w := w) (mg := mg) (base := base) (c := cc K) F_values_behind_rows c_value_on
  have c_values_behind_rows : Fun P w K mg base _ _ _ _ _ _ := ⟨G_values_behind_rows, F_values_behind_rows.kp, b_values_behind_rows, g_values_behind_rows⟩
  have G_last_change := ok_lastC (P := P) (w := w) (mg := mg) (base := base) F_last_change z_len
  have c_last_change : Fun P w K mg base _ _ _ _ _ _ := ⟨G_last_change, F_last_change.kp, b_last_change, g_last_change⟩
  have G_attribute_place := ok_place (P := P) (w := w) (mg := mg) (base := base) (c := cc K) F_attribute_place c_attributes_of
  have c_attribute_place : Fun P w K mg base _ _ _ _ _ _ := ⟨G_attribute_place, F_attribute_place.kp, b_attribute_place, g_attribute_place⟩
  have G_House_since := ok_since (P := P) (w := w) (mg := mg) (base := base) (c := cc K) F_House_since TX TT E_NoThing E_NoGroup m_Things_knows c_attribute_place c_values_behind_rows c_last_change
  have G_l_due := ok_due29 (P := P) (w := w) (mg := mg) (base := base) F_l_due z_len
  have c_l_due : Fun P w K mg base _ _ _ _ _ _ := ⟨G_l_due, F_l_due.kp, b_l_due, g_l_due⟩
  have G_l_value := ok_valueR (P := P) (w := w) (mg := mg) (base := base) F_l_value z_sorted
  have c_l_value : Fun P w K mg base _ _ _ _ _ _ := ⟨G_l_value, F_l_value.kp, b_l_value, g_l_value⟩
  have G_l_worths := ok_worths (P := P) (w := w) (mg := mg) (base := base) F_l_worths c_l_value c_l_kept
  have c_l_worths : Fun P w K mg base _ _ _ _ _ _ := ⟨G_l_worths, F_l_worths.kp, b_l_worths, g_l_worths⟩
  have G_House_keys_of := ok_keysOf (P := P) (w := w) (mg := mg) (base := base) (c := cc K) F_House_keys_of TX TT c_attributes_of z_sorted
  have m_House_keys_of : MFun P w K mg base _ "keys_of" _ _ _ _ _ := ⟨G_House_keys_of, b_House_keys_of, cls_House, me_House_keys_of⟩
  exact ok_law (c := cc K) F_law c_l_bag c_l_world c_l_house c_l_draw c_l_row c_l_kept c_l_worths c_l_due (⟨tell_calm (c := cc K) G_House_tell, b_House_tell, cls_House, me_House_tell⟩) m_House_keys_of m_House_rows (⟨since_calm (c := cc K) G_House_since, b_House_since, cls_House, me_House_since⟩) (since_kw F_House_since) z_range z_len z_isinstance z_bool
end Kd
open PySem PySem.W PySem.Calls PyProof.Rows
theorem PySem.Challenge.cw_kindsofday_k29_known_since_holds : PySem.Challenge.rw_kindsofday_k29_known_since.Holds := by
  w_on; o_law
  refine HandSHeadRun.head_any (r := OpenLaw.row PySem.Challenge.rw_kindsofday_k29_known_since) (q := view (OpenLaw.row PySem.Challenge.rw_kindsofday_k29_known_since).prog [70]) (H := Kd.hkE) (ob := Kd.ob) (M := 9000) (loose := Kd.loose) (d := HandSHeadRun.topDef (OpenLaw.row PySem.Challenge.rw_kindsofday_k29_known_since).prog 70) (kwd := []) Kd.ob_eq
    (by kernel_rfl) (fun s => by kernel_rfl) Kd.run (by kernel_rfl) (by kernel_rfl) (by kernel_rfl) (by rfl) (by first | assumption | decide +kernel) (by decide +kernel) ⟨rfl, rfl, rfl, rfl, rfl, by decide +kernel⟩ ?hw ?hc
  case hw => w_witness2
  case hc =>
    refine LamX.walk_ofTsE (l := PySem.Challenge.rw_kindsofday_k29_known_since) (n := 63) (k := 10) (x := "script") (CX := fun _ => L2.CX0) rfl (by decide) (by kernel_rfl) ⟨rfl, by decide, by decide⟩ ?F (fun _ _ _ _ _ z => z)
    intro w mg fa h Y G hmg0
    obtain ⟨K, KX, c⟩ := Y
    have hmg : mg ("law" : PySem.Str) = some (.ref fa) := by
      have e : (HandSHeadRun.topDef (OpenLaw.row PySem.Challenge.rw_kindsofday_k29_known_since).prog 70).name = ("law" : PySem.Str) := by kernel_rfl
      rw [← e]
      exact hmg0
    obtain ⟨fd, hb, hF⟩ := Kd.facts (P := (PySem.Challenge.rw_kindsofday_k29_known_since).prog) (w := w) KX G hmg c.t.d c.more
    refine ⟨K, KX, fd, Kd.tf.map (He.cT K), Kd.spLaw K (He.cT K ("stretches", none)).2, ?_, ?_, ?_, hb, fun H a ns hl _ hT hS => ⟨a, ns, rfl, hS, hl, fun p hp => ?_, fun _ => rfl⟩, fun base hK hN hTB => hF base hK hN fun p hp => hTB _ (List.mem_map_of_mem hp)⟩
    · intro p hp
      obtain ⟨q, hq, rfl⟩ := List.mem_map.mp hp
      exact c.empty q hq
    · intro p hp
      obtain ⟨q, hq, rfl⟩ := List.mem_map.mp hp
      exact c.out q hq
    · intro p hp
      obtain ⟨q, hq, rfl⟩ := List.mem_map.mp hp
      exact PySem.W.codeHd_of_K KX (c.hd q hq)
    · rw [List.mem_singleton.mp hp]
      exact LamX.TabS.nil (hT _ (List.mem_map_of_mem (List.mem_cons_self ..)))
