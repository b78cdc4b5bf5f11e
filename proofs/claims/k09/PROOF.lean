import PyProof.Rows.All
import Wide.All
import OpenK.AllK
import Wide.FinOn
import HandS.ForMost
import HandS.Strs
import HandS.Zip
import HandS.IsInst
import HandS.Walk
import HandS.Defaults
import HandS.MakeKw
import HandS.Wide
import HandS.WideBits
import HandS.More
import HandS.HeadHook2
import KE.KLam
import KE.SortKeyHeap
import HandS.Lambda
import HandS.ExcSuper
import KE.GoesNew
import KE.GoesMore
import HandS.FStrTup
import HandS.ExcInit
import HandS.RaiseMore
import HandS.OwnEq
import HandS.ForExc
import HandS.ExcField
import HandS.HeadHook1
import KE.KExcIs
import PyProof.ReprNest
import HandS.MakeKwOnly
import HandS.ExcValue
import HandS.Style
import HandS.Dict
import HandS.Conv
import HandS.SortRule
import KE.KStateDown
import HandS.Head0
import HandS.Head1
import HandS.Head2
import HandS.HeadEnd
import HandS.HeadHook3
import HandS.HeadHook4
import HandS.HeadWalk
import PySem.Challenge.RW_kindsofday_k09_nothing_kept
set_option Elab.async false
set_option linter.all false
set_option maxRecDepth 100000
set_option maxHeartbeats 0
/-! len(set(xs)) where xs is a list or a tuple of texts of any number -/
namespace KdS
open PySem PySem.Spec PyProof.Rows
/-- how many unlike ones the first i have -/
def dcn (xs : List Str) : Nat → Nat
  | 0 => 0
  | i + 1 => if (xs.take i).any (· == xs.getD i Str.empty) = true then dcn xs i else dcn xs i + 1
theorem dcn_le (xs : List Str) : ∀ i, dcn xs i ≤ i
  | 0 => Nat.le_refl _
  | i + 1 => by
    have h := dcn_le xs i
    unfold dcn
    split <;> omega
theorem take_any (xs : List Str) {i : Nat} (h : i < xs.length) (k : Str) : (xs.take (i + 1)).any (· == k) = ((xs.take i).any (· == k) || decide (k = xs.getD i Str.empty)) := by
  have e : xs.getD i Str.empty = xs[i] := by simp [h]
  rw [List.take_succ_eq_append_getElem h, List.any_append, e]
  have e2 : ([xs[i]].any fun x => x == k) = decide (k = xs[i]) := by
    by_cases q : k = xs[i]
    · simp [q]
    · have q2 : ¬ xs[i] = k := fun z => q z.symm
      simp [q, q2]
  rw [e2]
theorem dcn_nodup {xs : List Str} (hn : xs.Nodup) : ∀ i, i ≤ xs.length → dcn xs i = i
  | 0, _ => rfl
  | i + 1, h => by
    have ih := dcn_nodup hn i (by omega)
    unfold dcn
    rw [if_neg, ih]
    intro hc
    obtain ⟨y, hy, e⟩ := List.any_eq_true.mp hc
    have hi : i < xs.length := h
    have eg : xs.getD i Str.empty = xs[i] := by simp [hi]
    rw [eg] at e
    have e1 : y = xs[i] := by simpa using e
    obtain ⟨j, hj, ej⟩ := List.getElem_of_mem hy
    rw [List.length_take] at hj
    rw [List.getElem_take] at ej
    have e3 : xs[j]'(by omega) = xs[i] := ej.trans e1
    have := (List.getElem_inj hn).mp e3
    omega
/-- unlike ones are fewer where one stands twice -/
theorem dcn_dup {xs : List Str} {j i : Nat} (hji : j < i) (hi : i < xs.length) (e : xs[j]'(by omega) = xs[i]) : ∀ n, i < n → dcn xs n < n
  | 0, h => by omega
  | n + 1, h => by
    by_cases q : n = i
    · subst q
      have h1 := dcn_le xs n
      unfold dcn
      rw [if_pos]
      · omega
      · refine List.any_eq_true.mpr ⟨xs[j]'(by omega), ?_, by simp [hi, e]⟩
        exact List.mem_iff_getElem.mpr ⟨j, by rw [List.length_take]; omega, by rw [List.getElem_take]⟩
    · have h1 := dcn_dup hji hi e n (by omega)
      unfold dcn
      split <;> omega
section
variable {prog : Program} {w : World} {A : Around} {R : Result → Shared → Prop} {I : Addr} {fp wr : List Addr} {G : Array GenState → Array GenState → Prop} {n : Nat} {P : Nat → Value → Prop} {St : Nat → Shared → Prop}
/-- what the set at S holds behind i items -/
abbrev Held (prog : Program) (w : World) (S : Addr) (xs : List Str) (i : Nat) (h : Heap) : Prop := h.SetOf (PySem.strKind prog w) S (fun k => (xs.take i).any (· == k)) (dcn xs i)
theorem Held.kept {S : Addr} {xs : List Str} {i : Nat} {h h' : Heap} (q : Held prog w S xs i h) (k : ∀ o, h.get? S = some o → h'.get? S = some o) : Held prog w S xs i h' := by
  obtain ⟨o, es, ep, t, ho, rest⟩ := q
  exact ⟨o, es, ep, t, k o ho, rest⟩
theorem grow (W : WalksS prog w A.in1 I fp wr G n P St) (S : Addr) (nS : S ∉ fp) (xs : List Str) (hx : xs.length = n) (hb : n + 1 < scanBound) (hv : ∀ i v, P i v → ∃ t, v = .str (xs.getD i Str.empty) t) :
    ∀ (k i : Nat) (s : Shared), n - i = k → i ≤ n → St i s → Held prog w S xs i s.heap → (∀ s', Moved (S :: wr) G s s' → Held prog w S xs n s'.heap → R (.ok (.ret .none)) s') →
      codeAny (model prog w) A (.builtin "set.update.loop" ⟨[.ref S, .ref I], []⟩) R s := by
  have nW : S ∉ wr := fun z => nS (W.sub _ z)
  have up : ∀ b ∈ wr, b ∈ S :: wr := fun b z => List.mem_cons_of_mem _ z
  intro k
  induction k with
  | zero =>
    intro i s hk hi st hS out
    obtain rfl : i = n := by omega
    refine codeAny_builtin PyProof.Rows.F.entry_set_update_loop (by
      rw [Around.under_plainId PyProof.Rows.F.plain_set_update_loop _]
      show wpAny _ A.in1 (pyNext (.ref I) >>= _) _ _ s
      exact wpAny_bind (W.done s _ _ st fun s1 mv => wpAny_pure (out s1 (mv.mono up) (hS.kept fun o q => mv.heap S _ nW q))))
  | succ k ih =>
    intro i s hk hi st hS out
    have hlt : i < n := by omega
    refine codeAny_builtin PyProof.Rows.F.entry_set_update_loop (by
      rw [Around.under_plainId PyProof.Rows.F.plain_set_update_loop _]
      show wpAny _ A.in1 (pyNext (.ref I) >>= _) _ _ s
      refine wpAny_bind (W.item i s _ _ hlt st fun v s1 hP st1 mv => ?_)
      obtain ⟨t, rfl⟩ := hv i v hP
      have hS1 : Held prog w S xs i s1.heap := hS.kept fun o q => mv.heap S _ nW q
      show wpAny _ A.in1 (holding [Value.str (xs.getD i Str.empty) t] (setAdd S (.str (xs.getD i Str.empty) t)) >>= _) _ _ s1
      refine wpAny_bind (wpAny_holding ?_)
      unfold setAdd
      refine wpAny_holding (wpAny_bind ((PySem.strKind prog w).pyHash (k := xs.getD i Str.empty) (strKind_is _ _ _ _) ?_))
      refine wpAny_setAddHashed_of (knd := PySem.strKind prog w) (s := { s1 with toks := s1.toks + 1 }) (strKind_is _ _ _ _) rfl hS1 (by have := dcn_le xs i; omega) fun h2 sb hS2 => ?_
      have hS3 : Held prog w S xs (i + 1) h2 := SetOf_congr hS2 (fun k => (take_any xs (by omega) k).symm) rfl
      refine wpAny_pure ⟨plainId_quiet PyProof.Rows.F.plain_set_update_loop _, ih (i + 1) _ (by omega) hlt (W.frame _ s1 _ _ st1 (Nat.le_succ _) fun b z o q => ?_) hS3 fun s4 mv4 hS4 => ?_⟩
      · rw [sb.2 b (fun z2 : b = S => nS (z2 ▸ z))]
        exact q
      · refine out s4 (Moved.trans W.gtrans ((mv.mono up).then_heap (Nat.le_succ _) fun b o z q => ?_) mv4) hS4
        rw [sb.2 b (fun z2 : b = S => z (by rw [z2]; exact List.mem_cons_self))]
        exact q)
end
section
variable {prog : Program} {w : World} {A : Around} {E : Value → Shared → Prop} {s : Shared}
abbrev setObj (led : Bool) : Obj := { cls := .type "set", dict := none, data := .set #[] 0 (.fresh 0 0 led) }
set_option maxHeartbeats 3200000 in
/-- set(v), by what __init__ does with the new empty set -/
theorem set_by {v : Value} {Q : Value → Shared → Prop} {P : Shared → Prop} (hi : ∀ led : Bool, wpAny (model prog w) A.in1.in1 (Builtin.«set.__init__» ⟨[.ref s.heap.objs.size, v], []⟩) (fun r s2 => r = .done (.ret .none) ∧ P s2) E { s with heap := s.heap.push (setObj led) })
    (h : ∀ s2, P s2 → Q (.ref s.heap.objs.size) s2) : wpAny (model prog w) A (call (.type "set") [v]) Q E s := by
  obtain ⟨c, tl, hmro⟩ := PySem.F.called_set.mro
  have f1 := PySem.F.called_set.made
  have f2 := PySem.F.called_set.sub
  have f3 := PySem.F.called_set.notType
  have f4 := PySem.F.called_set.canCreate
  have f5 := PySem.F.typeCall_set_1 v
  refine wpAny_call (codeAny_of_tree (show wpAny _ _ (callAny (.type "set") _) _ _ _ from wpAny_pure ⟨Code.quiet_builtin _ (by decide +kernel), codeAny_builtin PySem.F.entry_type_call (by
    rw [Around.under_plain (weight_type_call_type "set" [v] []) rfl]
    repeat (any_goals (first | assumption | wp_step))
    refine codeAny_mono (code_set_new_1 v (E := E) (Q₁ := fun ob s1 => ∃ led : Bool, ob = .ref s.heap.objs.size ∧ s1 = { s with heap := s.heap.push (setObj led) }) fun led => ⟨led, rfl, rfl⟩) fun r s1 hr => ?_
    cases r with
    | error e => exact hr
    | ok fl =>
      cases fl with
      | ret ob =>
        obtain ⟨led, rfl, rfl⟩ := hr
        have g0 : (s.heap.push (setObj led)).get? s.heap.objs.size = some (setObj led) := Heap.get?_push_size _ rfl
        have gT : Shared.TypeIs { s with heap := s.heap.push (setObj led) } (.ref s.heap.objs.size) "set" := ⟨_, g0, rfl⟩
        have f6 := PySem.F.called_set.init.lookup
        have f7 := PySem.F.called_set.init.bind (.ref s.heap.objs.size)
        repeat (any_goals (first | assumption | wp_step))
        refine codeAny_mono (codeAny_call_builtin (R := wants (fun r s2 => r = .none ∧ P s2) E) PySem.F.called_set.init.plain PySem.F.entry_set_init (check_set_init_1 gT (wpAny_mono (hi led) (fun r s2 q => ?_) fun _ _ q => q))) fun r2 s2 q2 => ?_
        · obtain ⟨rfl, q⟩ := q
          exact ⟨rfl, q⟩
        · cases r2 with
          | error e => exact q2
          | ok fl2 =>
            cases fl2 with
            | ret r3 =>
              obtain ⟨rfl, q⟩ := q2
              repeat (any_goals (first | assumption | wp_step))
              exact h _ q
            | _ => exact q2.elim
      | _ => exact hr.elim)⟩))
/-- the list's way and the tuple's way of __init__: what is held behind it -/
def After (prog : Program) (w : World) (s : Shared) (xs : List Str) (s2 : Shared) : Prop := ∃ h2 tk, s2 = { s with heap := h2, toks := tk } ∧ Held prog w s.heap.objs.size xs xs.length h2 ∧ ∀ b o, b < s.heap.objs.size → s.heap.get? b = some o → h2.get? b = some o
theorem fresh_held {led : Bool} {it : Obj} {xs : List Str} : Held prog w s.heap.objs.size xs 0 ((s.heap.push (setObj led)).push it) :=
  SetOf_congr ((PyProof.Rows.setObjOf_fresh (knd := PySem.strKind prog w) led).setOf (Heap.get?_push_of_some _ (Heap.get?_push_size _ rfl)) (by unfold scanBound; omega)) (fun _ => rfl) rfl
theorem after_moved {G : Array GenState → Array GenState → Prop} {led : Bool} {it : Obj} {xs : List Str} {s2 : Shared} (hG : ∀ a b, G a b → b = a)
    (mv : Moved (s.heap.objs.size :: [(s.heap.push (setObj led)).objs.size]) G { s with heap := (s.heap.push (setObj led)).push it } s2) (q : Held prog w s.heap.objs.size xs xs.length s2.heap) : After prog w s xs s2 := by
  obtain ⟨h2, g2, d2, t2, o2⟩ := s2
  obtain rfl : g2 = s.gens := hG _ _ mv.gens
  obtain rfl : d2 = s.drawn := mv.drawn
  obtain rfl : o2 = s.os := mv.os
  refine ⟨h2, t2, rfl, q, fun b o hb e => mv.heap b o (fun z => ?_) (Heap.get?_push_of_some _ (Heap.get?_push_of_some _ e))⟩
  rw [Heap.size_push] at z
  rcases List.mem_cons.mp z with z | z
  · exact absurd z (Nat.ne_of_lt hb)
  · exact absurd (List.mem_singleton.mp z) (Nat.ne_of_lt (Nat.lt_succ_of_lt hb))
theorem strAt {items : Array Value} {xs : List Str} (hi : StrsAre items.toList xs) (i : Nat) (v : Value) (hv : items[i]? = some v) : ∃ t, v = .str (xs.getD i Str.empty) t := SS.strs_at hi i v (by rw [Array.getElem?_toList]; exact hv)
set_option maxHeartbeats 3200000 in
theorem init_list {l : Addr} {items : Array Value} {xs : List Str} {led : Bool} (hh : A.in1.in1.in1.handled = none) (hl : s.heap.IsList l items) (hi : StrsAre items.toList xs) (hb : xs.length + 1 < scanBound) :
    wpAny (model prog w) A.in1.in1 (Builtin.«set.__init__» ⟨[.ref s.heap.objs.size, .ref l], []⟩) (fun r s2 => r = .done (.ret .none) ∧ After prog w s xs s2) E { s with heap := s.heap.push (setObj led) } := by
  have hsz : xs.length = items.size := by rw [← StrsAre.len_eq hi, Array.length_toList]
  obtain ⟨⟨oc, od, dt, sl⟩, ho, hc, m, hd⟩ := hl
  simp only at hc hd
  subst hc hd
  have ho1 := Heap.get?_push_of_some (setObj led) ho
  have hl1 : (s.heap.push (setObj led)).IsList l items := ⟨_, ho1, rfl, m, rfl⟩
  have f1 := PySem.F.sub_list_set
  have f2 := PySem.F.sub_list_frozenset
  have f3 : (Value.type "list" == Value.type "dict") = false := by decide
  unfold Builtin.«set.__init__» noKeywords Builtin.Frozenset.updateFrom
  generalize hPI : pyIter = PI
  wp_walk
  subst hPI
  refine wpAny_pyIter_list hl1 (wpAny_bind (wpAny_runValue ?_))
  have hS : l < s.heap.objs.size := Heap.lt_size ho
  have n1 : l ≠ (s.heap.push (setObj led)).objs.size := by rw [Heap.size_push]; exact Nat.ne_of_lt (Nat.lt_succ_of_lt hS)
  have n2 : s.heap.objs.size ∉ [(s.heap.push (setObj led)).objs.size, l] := by
    rw [Heap.size_push]
    intro z
    rcases List.mem_cons.mp z with z | z
    · exact absurd z (Nat.ne_of_lt (Nat.lt_succ_self _))
    · exact absurd (List.mem_singleton.mp z) (Nat.ne_of_gt hS)
  refine grow ((Walks.list hh _ l n1 items).toS) s.heap.objs.size n2 xs hsz (by omega) (strAt hi) (items.size - 0) 0 _ (by omega) (Nat.zero_le _) ⟨⟨_, Heap.get?_push_size _ rfl, rfl, rfl⟩, hl1.push _⟩ fresh_held fun s2 mv q => ?_
  rw [← hsz] at q
  exact wpAny_pure (wpAny_pure ⟨rfl, after_moved (fun _ _ z => z) mv q⟩)
set_option maxHeartbeats 3200000 in
theorem init_tup {l : Addr} {items : Array Value} {xs : List Str} {led : Bool} (hh : A.in1.in1.in1.handled = none) (hl : s.heap.IsTuple l items) (hi : StrsAre items.toList xs) (hb : xs.length + 1 < scanBound) :
    wpAny (model prog w) A.in1.in1 (Builtin.«set.__init__» ⟨[.ref s.heap.objs.size, .ref l], []⟩) (fun r s2 => r = .done (.ret .none) ∧ After prog w s xs s2) E { s with heap := s.heap.push (setObj led) } := by
  have hsz : xs.length = items.size := by rw [← StrsAre.len_eq hi, Array.length_toList]
  obtain ⟨⟨oc, od, dt, sl⟩, ho, hc, m, hd⟩ := hl
  simp only at hc hd
  subst hc hd
  have ho1 := Heap.get?_push_of_some (setObj led) ho
  have hl1 : (s.heap.push (setObj led)).IsTuple l items := ⟨_, ho1, rfl, m, rfl⟩
  have f1 := PySem.F.sub_tuple_set
  have f2 := PySem.F.sub_tuple_frozenset
  have f3 : (Value.type "tuple" == Value.type "dict") = false := by decide
  unfold Builtin.«set.__init__» noKeywords Builtin.Frozenset.updateFrom
  generalize hPI : pyIter = PI
  wp_walk
  subst hPI
  refine wpAny_pyIter_tuple hl1 (wpAny_bind (wpAny_runValue ?_))
  have hS : l < s.heap.objs.size := Heap.lt_size ho
  have n1 : l ≠ (s.heap.push (setObj led)).objs.size := by rw [Heap.size_push]; exact Nat.ne_of_lt (Nat.lt_succ_of_lt hS)
  have n2 : s.heap.objs.size ∉ [(s.heap.push (setObj led)).objs.size, l] := by
    rw [Heap.size_push]
    intro z
    rcases List.mem_cons.mp z with z | z
    · exact absurd z (Nat.ne_of_lt (Nat.lt_succ_self _))
    · exact absurd (List.mem_singleton.mp z) (Nat.ne_of_gt hS)
  refine grow ((Walks.tuple hh _ l n1 items).toS) s.heap.objs.size n2 xs hsz (by omega) (strAt hi) (items.size - 0) 0 _ (by omega) (Nat.zero_le _) ⟨⟨_, Heap.get?_push_size _ rfl, rfl, rfl⟩, hl1.push _⟩ fresh_held fun s2 mv q => ?_
  rw [← hsz] at q
  exact wpAny_pure (wpAny_pure ⟨rfl, after_moved (fun _ _ z => z) mv q⟩)
end
end KdS
namespace Kd
open PySem PySem.Spec PyProof.Rows L2
theorem strs_vals : ∀ {xs : List Str} {us : List Value}, Vals (xs.map V.str) us → StrsAre us xs
  | [], _, .nil => .nil
  | x :: xs, _, .cons r t => by
    obtain ⟨k, rfl⟩ := r
    exact .cons x k (strs_vals t)
/-- a list or a tuple of texts -/
def Txs (K : PySem.W.Frag) (H : Hp) (l : Addr) (xs : List Str) : Prop := SqL K H l (xs.map V.str) ∨ SqT K H l (xs.map V.str)
def tLenSetS (K : PySem.W.Frag) (ta : TE) : TE := fun σ H Q => ta σ H fun x H1 => ∃ (l : Addr) (xs : List Str), x = .ref l ∧ Txs K H1 l xs ∧ xs.length ≤ 4000 ∧ Q (.int (KdS.dcn xs xs.length : Nat)) H1
theorem pe_lenSetS {X : Cx} {a : Expr} {ta : TE} {p p2 q pos : Pos} (hg : Gl X "len") (hm : X.mg "len" = none) (hg2 : Gl X "set") (hm2 : X.mg "set" = none) (ha : PE X a ta) (hc : X.calm = true := by rfl)
    (na : starEach [a] X.env = (false, eval a X.env) :: starEach [] X.env := by rfl) : PE X (.Call (.Name "len" p) [.Call (.Name "set" p2) [a] [] q] [] pos) (tLenSetS X.K ta) := by
  refine ⟨fun pins s σ H Q I h => Call_ (ld_blt I hg hm boot_len (PyProof.Rows.callWith_builtin1 (PyProof.Rows.args_cons ?_ rfl) rfl rfl))⟩
  refine Call_ (ld_blt I hg2 hm2 boot_set (PyProof.Rows.callWith_type1 (PyProof.Rows.args_cons (thn (ha.run pins s σ H _ I h) fun v s1 ⟨x, H1, I1, r1, q1⟩ => PyProof.Rows.args_nil ?_) na) na rfl))
  obtain ⟨l, xs, rfl, hq, hl, q1⟩ := q1
  cases r1
  have hh := I1.ok.hd hc
  have hb : xs.length + 1 < scanBound := by unfold scanBound; omega
  refine KdS.set_by (P := KdS.After X.prog X.w s1 xs) (fun led => ?_) fun s2 af => ?_
  · rcases hq with hq | hq
    · obtain ⟨its, r, pl, hz⟩ := I1.list hq
      exact KdS.init_list (by simp [hh]) pl.isList (by simpa using strs_vals r) hb
    · obtain ⟨its, r, pl, hz⟩ := I1.tuple hq
      exact KdS.init_tup (by simp [hh]) pl (by simpa using strs_vals r) hb
  · obtain ⟨h2, tk, rfl, hS, hk⟩ := af
    obtain ⟨o, es, ep, t, ho, hex, hd, _, _, _, hf, hn⟩ := hS
    have I2 : Inv X pins σ H1 { s1 with heap := h2, toks := tk } := I1.kept fun b o e => hk b o (Heap.lt_size e) e
    have hle := KdS.dcn_le xs xs.length
    exact PyProof.Rows.args_nil (call_len_set ho hex hd hf (by rw [hn] <;> omega) ⟨.int (KdS.dcn xs xs.length : Nat), H1, I2.tok _, ⟨_, by rw [hn]⟩, q1⟩)
end Kd

namespace Kd
open PySem PySem.Spec PyProof.Rows L2
/-! ### heaps -/
section
variable {K : PySem.W.Frag} {H H' : Hp} {a g b p l : Addr} {o : HO}
theorem same_new (h : H p = Option.none) : Same H (upd H p o) := fun b u e => by rw [upd_ne (ne_of_none e h)]; exact e
theorem Same.to_new {H1 : Hp} (s : Same H H1) (h : H1 p = Option.none) : Same H (upd H1 p o) := s.trans (same_new h)
theorem Same.seqT {xs : List V} (e : Same H H') (h : SqT K H a xs) : SqT K H' a xs := by
  rcases h with (h | ⟨o, h⟩) | h
  · exact .inl (.inl (e _ _ h))
  · exact .inl (.inr ⟨o, e _ _ h⟩)
  · exact .inr h
theorem Same.txs {xs : List Str} (e : Same H H') (h : Txs K H l xs) : Txs K H' l xs := h.elim (fun q => .inl (e.seq q)) fun q => .inr (Same.seqT e q)
/-- the two objects of a tray cut out -/
def ct (a g : Addr) (H : Hp) : Hp := fun b => if b = a ∨ b = g then Option.none else H b
theorem ct_sub : Same (ct a g H) H := fun b o e => by
  unfold ct at e
  split at e
  · cases e
  · exact e
theorem ct_ne (e : ct a g H b = some o) : b ≠ a ∧ b ≠ g := by
  unfold ct at e
  split at e
  · cases e
  · rename_i h
    exact ⟨fun z => h (.inl z), fun z => h (.inr z)⟩
theorem ct_of (e : H b = some o) (ha : b ≠ a) (hg : b ≠ g) : ct a g H b = some o := by
  unfold ct
  rw [if_neg (fun z => z.elim ha hg)]
  exact e
theorem ct_upd (ha : p ≠ a) (hg : p ≠ g) : ct a g (upd H p o) = upd (ct a g H) p o := by
  funext b
  unfold ct upd
  by_cases e : b = p
  · subst e
    rw [if_neg (fun z => z.elim ha hg), if_pos rfl, if_pos rfl]
  · rw [if_neg e, if_neg e]
theorem ct_upda : ct a g (upd H a o) = ct a g H := by
  funext b
  unfold ct upd
  by_cases e : b = a
  · rw [if_pos (.inl e), if_pos (.inl e)]
  · rw [if_neg e]
theorem ct_updg : ct a g (upd H g o) = ct a g H := by
  funext b
  unfold ct upd
  by_cases e : b = g
  · rw [if_pos (.inr e), if_pos (.inr e)]
  · rw [if_neg e]
theorem ct_same (s : Same H H') : Same (ct a g H) (ct a g H') := fun b o e => ct_of (s b o (ct_sub b o e)) (ct_ne e).1 (ct_ne e).2
theorem ct_none (h : H p = Option.none) : ct a g H p = Option.none := by
  unfold ct
  split
  · rfl
  · exact h
end
/-! ### data -/
section
variable {K : PySem.W.Frag} {H H' : Hp}
mutual
theorem Dp.same (e : Same H H') : ∀ (d : PyData) (v : V), Dp K H v d → Dp K H' v d
  | .none, _, h => by cases h; exact .non
  | .bool b, _, h => by cases h; exact .bl b
  | .int i, _, h => by cases h; exact .int i
  | .str x, _, h => by cases h; exact .str x
  | .list ds, _, h => by
    cases h with
    | lst q r => exact .lst (e.seq q) (DpAll.same e ds _ r)
  | .tuple ds, _, h => by
    cases h with
    | tup q r => exact .tup (Same.seqT e q) (DpAll.same e ds _ r)
  | .dict _, _, h => by cases h
theorem DpAll.same (e : Same H H') : ∀ (ds : List PyData) (vs : List V), DpAll K H vs ds → DpAll K H' vs ds
  | [], _, h => by cases h; exact .nil
  | d :: ds, _, h => by
    cases h with
    | cons q r => exact .cons (Dp.same e d _ q) (DpAll.same e ds _ r)
end
theorem DpAll.len : ∀ {vs : List V} {ds : List PyData}, DpAll K H vs ds → vs.length = ds.length
  | _, _, .nil => rfl
  | _, _, .cons _ r => congrArg Nat.succ (DpAll.len r)
theorem DpAll.at_ : ∀ {vs : List V} {ds : List PyData} {i : Nat} {v : V}, DpAll K H vs ds → vs[i]? = some v → ∃ d, ds[i]? = some d ∧ Dp K H v d
  | _, _, i, v, .nil, e => by simp at e
  | _, _, 0, v, .cons q _, e => ⟨_, rfl, by have e2 : _ = v := Option.some.inj e; rw [← e2]; exact q⟩
  | _, _, i + 1, v, .cons _ r, e => DpAll.at_ (i := i) r e
theorem DpAll.strs : ∀ (xs : List Str), DpAll K H (xs.map V.str) (xs.map PyData.str)
  | [] => .nil
  | x :: xs => .cons (.str x) (DpAll.strs xs)
theorem tyL {a : Addr} {xs : List V} (h : SqL K H a xs) : TyX K H (.ref a) (.type "list") := by
  rcases h with (h | ⟨o, h⟩) | ⟨o, its, n, h1, h2, _⟩
  · exact .base (.lst h)
  · exact .base (.frz h)
  · exact .kList h1 h2
theorem tyT {a : Addr} {xs : List V} (h : SqT K H a xs) : TyX K H (.ref a) (.type "tuple") := by
  rcases h with (h | ⟨o, h⟩) | ⟨o, its, n, h1, h2, _⟩
  · exact .base (.tup h)
  · exact .fTuple h
  · exact .kTuple h1 h2
end
/-! ### texts of small letters -/
def Low (z : Str) : Prop := ∀ c ∈ z.cps.toList, 97 ≤ c ∧ c ≤ 122
structure IsNm (z : Str) : Prop where
  low : Low z
  pos : 1 ≤ z.length
  le8 : z.length ≤ 8
theorem Low.append {x y : Str} (h1 : Low x) (h2 : Low y) : Low (x ++ y) := fun c hc => by
  have e : (x ++ y).cps.toList = x.cps.toList ++ y.cps.toList := TL.tl_append x y
  rw [e] at hc
  exact (List.mem_append.mp hc).elim (h1 c) (h2 c)
theorem len_append (x y : Str) : (x ++ y).length = x.length + y.length := by
  show (x.cps ++ y.cps).size = x.cps.size + y.cps.size
  exact Array.size_append
theorem Low.cut {z : Str} (h : Low z) (lo hi : Option Int) : Low (cutS z lo hi) := fun c hc => by
  unfold cutS at hc
  exact h c (List.mem_of_mem_drop (List.mem_of_mem_take hc))
theorem Low.one {c : Nat} (h : 97 ≤ c ∧ c ≤ 122) : Low ⟨#[c]⟩ := fun d hd => by
  have e : d = c := by simpa using hd
  rw [e]
  exact h
theorem Low.empty : Low Str.empty := fun c hc => by
  have : c ∈ ([] : List Nat) := hc
  cases this
/-- the written letters -/
abbrev abc : Str := "abcdefghijklmnopqrstuvwxyz"
theorem abc_list : abc.cps.toList = List.range' 97 26 := by decide +kernel
theorem abc_len : abc.length = 26 := by decide +kernel
theorem mem_abc {c : Nat} : c ∈ abc.cps.toList ↔ 97 ≤ c ∧ c ≤ 122 := by
  rw [abc_list, List.mem_range'_1]
  omega
theorem abc_at {i : Nat} (h : i < 26) : abc.cps.toList[i]? = some (97 + i) := by
  rw [abc_list, List.getElem?_range' h]
  congr 1
  omega
theorem Low.abc : Low abc := fun c hc => mem_abc.mp hc
theorem IsNm.one {c : Nat} (h : 97 ≤ c ∧ c ≤ 122) : IsNm ⟨#[c]⟩ := ⟨.one h, by show 1 ≤ 1; decide, by show 1 ≤ 8; decide⟩
theorem join_list_eq (y : Str) (h : y.cps.toList = []) (parts : List Str) : (Txt.join y parts).cps.toList = (parts.map fun z => z.cps.toList).flatten := by
  rw [TL.join_eq]
  have e := TL.tl_join y parts
  have e2 : ∀ l : List (List Nat), TL.joinL [] l = l.flatten := fun l => by
    induction l with
    | nil => rfl
    | cons p r ih =>
      cases r with
      | nil => simp [TL.joinL]
      | cons q r2 =>
        show p ++ ([] ++ TL.joinL [] (q :: r2)) = _
        rw [ih]
        simp
  have e3 : TL.tl y = [] := h
  rw [e3, e2] at e
  exact e
/-! ### a comprehension, by what it has made and the heap without it -/
/-- the heap without the object at D -/
def cd (D : Addr) (H : Hp) : Hp := ct D D H
theorem cd_sub {D : Addr} {H : Hp} : Same (cd D H) H := ct_sub
theorem cd_upd {D : Addr} {H : Hp} {o : HO} : cd D (upd H D o) = cd D H := ct_upda
theorem cd_free {D : Addr} {H : Hp} (h : H D = Option.none) : cd D H = H := by
  funext b
  unfold cd ct
  by_cases e : b = D
  · subst e
    rw [if_pos (.inl rfl), h]
  · rw [if_neg (fun z => z.elim e e)]
theorem cd_at {D : Addr} {H : Hp} : cd D H D = Option.none := by
  unfold cd ct
  rw [if_pos (.inl rfl)]
theorem cd_of {D b : Addr} {H : Hp} {o : HO} (e : H b = some o) (n : b ≠ D) : cd D H b = some o := ct_of e n n
theorem cd_same {D : Addr} {H H' : Hp} (s : Same H H') : Same (cd D H) (cd D H') := ct_same s
/-- what was there ahead of D is in the rest -/
theorem Same.cd {H0 H : Hp} {D : Addr} (s : Same H0 H) (h : H0 D = Option.none) : Same H0 (cd D H) := fun b o e => cd_of (s b o e) (ne_of_none e h)
theorem Same.upd {H0 H : Hp} {D : Addr} {o : HO} (s : Same H0 H) (h : H0 D = Option.none) : Same H0 (upd H D o) := fun b u e => by rw [upd_ne (ne_of_none e h)]; exact s b u e
/-- between two turns: the list at D is ys, no longer than the turns, and Pv of the heap without it -/
def LcNx (D : Addr) (Pv : Nat → List V → Hp → Prop) (i : Nat) (H : Hp) : Prop := ∃ ys, H D = some (.lst ys) ∧ ys.length ≤ i ∧ Pv i ys (cd D H)
theorem LcNx.add {D : Addr} {Pv : Nat → List V → Hp → Prop} {i : Nat} {ys : List V} {y : V} {H : Hp} (e : H D = some (.lst ys)) (l : ys.length ≤ i) (hi : i < 4000) (p : Pv (i + 1) (ys ++ [y]) (cd D H)) :
    ∃ acc, H D = some (.lst acc) ∧ acc.length < sizeLine ∧ LcNx D Pv (i + 1) (upd H D (.lst (acc ++ [y]))) :=
  ⟨ys, e, Nat.lt_of_le_of_lt (by omega : ys.length ≤ 4000) (by decide), ys ++ [y], upd_same, by rw [List.length_append]; show ys.length + 1 ≤ i + 1; omega, by rw [cd_upd]; exact p⟩
theorem LcNx.skip {D : Addr} {Pv : Nat → List V → Hp → Prop} {i : Nat} {ys : List V} {H : Hp} (e : H D = some (.lst ys)) (l : ys.length ≤ i) (p : Pv (i + 1) ys (cd D H)) : LcNx D Pv (i + 1) H := ⟨ys, e, by omega, p⟩
theorem lc_build {J : It} {n : Nat} {G : Hp → Prop} {Y : Nat → Hp → V → Hp → Prop} (w : Walk J n G Y) {g : TG} {tt : TT} {te : TE} {vs : List Nat} {σ : L2.St} {H1 : Hp} {D : Addr} {Qd : Hp → Prop} (hD : H1 D = Option.none)
    (Pv : Nat → List V → Hp → Prop) (h0 : Pv 0 [] H1) (hG : ∀ i ys H, i ≤ n → Pv i ys (cd D H) → G H)
    (hs : ∀ i ys x H H', i < n → H D = some (.lst ys) → ys.length ≤ i → Pv i ys (cd D H) → Y i H x H' → g x (wipe σ vs) H' fun σ2 H2 => wipe σ2 vs = wipe σ vs ∧ tt σ2 H2 fun b H3 =>
      if b = true then te σ2 H3 fun y H4 => ∃ acc, H4 D = some (.lst acc) ∧ acc.length < sizeLine ∧ LcNx D Pv (i + 1) (L2.upd H4 D (.lst (acc ++ [y]))) else LcNx D Pv (i + 1) H3) (hd : ∀ ys H, H D = some (.lst ys) → ys.length ≤ n → Pv n ys (cd D H) → Qd H) :
    ∃ W : Nat → Nat → Hp → Prop, (∃ m, W 0 m (L2.upd H1 D (.lst []))) ∧ ∀ i m H, W i m H →
      (J.stop i H ∧ Qd H) ∨ (J.go i H ∧ ∃ Nx : Hp → Prop, (∀ H', Nx H' → ∃ m', m' < m ∧ W (i + 1) m' H') ∧ ∀ x H', J.yld i H x H' → g x (wipe σ vs) H' fun σ2 H2 => wipe σ2 vs = wipe σ vs ∧ tt σ2 H2 fun b H3 =>
        if b = true then te σ2 H3 fun y H4 => ∃ acc, H4 D = some (.lst acc) ∧ acc.length < sizeLine ∧ Nx (L2.upd H4 D (.lst (acc ++ [y]))) else Nx H3) :=
  lc_it w (LcNx D Pv) ⟨[], upd_same, Nat.le_refl _, by rw [cd_upd, cd_free hD]; exact h0⟩ (fun i H hi ⟨ys, _, _, p⟩ => hG i ys H hi p) (fun i x H H' hi ⟨ys, e, l, p⟩ hY => hs i ys x H H' hi e l p hY) (fun H ⟨ys, e, l, p⟩ => hd ys H e l p)
theorem yes {σ : L2.St} {H : Hp} {A B : Hp → Prop} (h : A H) : tYes σ H fun b H3 => if b = true then A H3 else B H3 := by
  show if true = true then A H else B H
  rw [if_pos rfl]
  exact h
theorem le_line {n : Nat} (h : n ≤ 4000) : n ≤ sizeLine := Nat.le_trans h (by decide)
theorem cd_is0 {D : Addr} {H H0 : Hp} (e : cd D H = H0) : Same H0 H := by rw [← e]; exact cd_sub
theorem seqT_list0 {K : PySem.W.Frag} {H : Hp} {l r : Addr} {L xs : List V} (hl : H l = some (.lst L)) (h : SqT K H r xs) : SqT K (cd l H) r xs := by
  rcases h with (q | ⟨o, q⟩) | q
  · exact .inl (.inl (cd_of q (ne_of q hl (fun z => nomatch z))))
  · exact .inl (.inr ⟨o, cd_of q (ne_of q hl (fun z => nomatch z))⟩)
  · exact .inr q
end Kd

namespace Kd
open PySem PySem.Spec PyProof.Rows L2
def top (i : Nat) : Stmt := PySem.Challenge.pw_kindsofday_k09_nothing_kept.main.body.getD i (.Pass ⟨0, 0, 0, 0⟩)
abbrev s_DayError_init : Stmt := inClass (top 1) 0
abbrev s_NoPlan_init : Stmt := inClass (top 2) 0
abbrev s_NoRow_init : Stmt := inClass (top 3) 0
abbrev s_NoFact_init : Stmt := inClass (top 4) 0
abbrev s_NoThing_init : Stmt := inClass (top 5) 0
abbrev s_Twice_init : Stmt := inClass (top 6) 0
abbrev s_NoGroup_init : Stmt := inClass (top 7) 0
abbrev s_NoMeasure_init : Stmt := inClass (top 8) 0
abbrev s_NoWatch_init : Stmt := inClass (top 9) 0
abbrev s_NoTime_init : Stmt := inClass (top 10) 0
abbrev s_NoText_init : Stmt := inClass (top 11) 0
abbrev s_NoDeskRow_init : Stmt := inClass (top 12) 0
abbrev s_is_name : Stmt := top 16
abbrev s_is_made_of : Stmt := top 17
abbrev s_Plan_init : Stmt := inClass (top 22) 0
abbrev s_Plan_dimensions : Stmt := inClass (top 22) 1
abbrev s_Plan_measures : Stmt := inClass (top 22) 2
abbrev s_Plan_eq : Stmt := inClass (top 22) 3
abbrev s_Plan_ne : Stmt := inClass (top 22) 4
abbrev s_first_fault : Stmt := top 23
abbrev s_are_faulty : Stmt := top 24
abbrev s_attributes_of : Stmt := top 25
abbrev s_stretches : Stmt := top 27
abbrev s_opening_kinds : Stmt := top 28
abbrev s_changes_day : Stmt := top 29
abbrev s_version_values : Stmt := top 30
abbrev s_day_value : Stmt := top 31
abbrev s_steady_value : Stmt := top 32
abbrev s_last_and_unlike : Stmt := top 33
abbrev s_l_deck : Stmt := top 35
abbrev s_l_take : Stmt := top 36
abbrev s_l_name : Stmt := top 37
abbrev s_l_names : Stmt := top 38
abbrev s_l_one_of : Stmt := top 39
abbrev s_l_plan : Stmt := top 40
abbrev s_l_day : Stmt := top 41
abbrev s_l_value : Stmt := top 42
abbrev s_l_values : Stmt := top 43
abbrev s_l_same : Stmt := top 44
abbrev s_l_refused : Stmt := top 45
abbrev s_law : Stmt := top 46
abbrev FnP (K : PySem.W.Frag) (x qual : Str) (st : Stmt) (f : Addr) (fd : FuncData) : Prop := FunD K x qual (defArgs st) (defBody st) (defScope st) [] [] f fd
section
variable {P : Program} {w : World} {K : PySem.W.Frag} {mg : Str → Option Value} {base : Heap} {f : Addr} {fd : FuncData}
/-! ### is_name -/
def nmB (z : Str) : Bool := decide (1 ≤ z.length) && (decide (z.length ≤ 8) && z.cps.toList.all fun c => decide (97 ≤ c ∧ c ≤ 122))
def spIsName : Sp := fun vs H Q _ => ∃ z : Str, vs = [.str z] ∧ z.length ≤ 4000 ∧ ∀ H', Same H H' → Q (.bl (nmB z)) H'
/-! ### is_made_of -/
def madeB (z s : Str) : Bool := z.cps.toList.all fun c => decide (c ∈ s.cps.toList)
theorem made_abc (z : Str) : madeB z abc = z.cps.toList.all fun c => decide (97 ≤ c ∧ c ≤ 122) := by
  unfold madeB
  congr 1
  funext c
  simp only [mem_abc]
def spMade : Sp := fun vs H Q _ => ∃ z s : Str, vs = [.str z, .str s] ∧ z.length ≤ 4000 ∧ ∀ H', Same H H' → Q (.bl (madeB z s)) H'
theorem sc_made : FnScope ["text", "signs", "sign"] ["text", "signs"] (defScope s_is_made_of) := ⟨rfl, rfl, rfl, by decide +kernel, rfl, by decide +kernel, by decide +kernel⟩
theorem ok_made (F : FnP K "is_made_of" "is_made_of" s_is_made_of f fd) (ga : mg "all" = none) : FnOk P w K mg base CX0 1 f fd ["text", "signs"] spMade := by
  refine F.ok sc_made (fun vs H Q E h => ?_) (fun cdv A outer s H vs Q E hr h => ?_)
  · obtain ⟨z, s, rfl, _⟩ := h
    rfl
  · obtain ⟨z, s2, rfl, hz, k⟩ := h
    refine ⟨_, PSs.nox (pss_one (ps_ret (pe_callB (cr_all rfl) (by rfl) ga (by decide +kernel) (pa_cons (pe_lc (own := [("sign", 2)]) (g := gName 2) (tt := tYes) rfl sc_made.nd (pi_str (pv 0)) (blkOk_by (own := [("sign", 2)]) (N := ["text", "signs", "sign"]) (sc := defScope s_is_made_of) (by decide +kernel))
        (fun _ _ _ _ _ => pg_name (i := 2) sc_made.nd rfl (Or.inl rfl)) (fun _ _ _ _ _ => pts_nil) (fun _ _ _ _ _ => pe_cmpR op_in_sign (pv 2) (pv 1) (by rfl))) pa_nil)))), ?_⟩
    have ez : z.length = z.cps.toList.length := by rw [Array.length_toList]; rfl
    refine ⟨_, rfl, z, rfl, fun D hD => lc_build walk_str hD (fun i ys R => Same H R ∧ ys = (z.cps.toList.take i).map fun c => V.bl (decide (c ∈ s2.cps.toList))) ⟨Same.refl H, rfl⟩ (fun _ _ _ _ _ => trivial) ?_ ?_⟩
    · rintro i ys x H2 H2' hi e l ⟨sm, rfl⟩ ⟨rfl, c, hc, rfl⟩
      refine ⟨rfl, yes ?_⟩
      refine ⟨_, rfl, _, rfl, c, s2, rfl, rfl, LcNx.add e l (by have : z.length = z.cps.size := rfl; omega) ⟨sm, ?_⟩⟩
      have hc2 : z.cps.toList[i]? = some c := by rw [Array.getElem?_toList]; exact hc
      obtain ⟨h1, h2⟩ := List.getElem?_eq_some_iff.mp hc2
      rw [List.take_succ_eq_append_getElem h1, List.map_append, h2]
      rfl
    · rintro ys H2 e l ⟨sm, rfl⟩
      refine ⟨D, (z.cps.toList.take z.cps.size).map fun c => decide (c ∈ s2.cps.toList), rfl, SqL.of (by rw [List.map_map]; exact e), ?_⟩
      have e1 : madeB z s2 = (((z.cps.toList.take z.cps.size).map fun c => decide (c ∈ s2.cps.toList)).all id) := by
        have et : z.cps.toList.take z.cps.size = z.cps.toList := List.take_of_length_le (by rw [Array.length_toList]; exact Nat.le_refl _)
        unfold madeB
        rw [et, List.all_map]
        rfl
      rw [← e1]
      exact k H2 (sm.trans cd_sub)
theorem sc_is_name : FnScope ["text"] ["text"] (defScope s_is_name) := ⟨rfl, rfl, rfl, by decide +kernel, rfl, by decide +kernel, by decide +kernel⟩
theorem ok_is_name {fM : Addr} {fdM : FuncData} (F : FnP K "is_name" "is_name" s_is_name f fd) (GM : FnOk P w K mg base CX0 1 fM fdM ["text", "signs"] spMade) (kM : PySem.W.keepIn K (.ref fM) = true) (bM : Binds K fdM ["text", "signs"] []) (gM : mg "is_made_of" = some (.ref fM)) (gl : mg "len" = none) {t1 t2 : Nat} (gS : mg "SMALL_LETTERS" = some (.str abc t1)) (gL : mg "LONGEST_NAME" = some (.int 8 t2)) : FnOk P w K mg base CX0 2 f fd ["text"] spIsName := by
  refine F.ok sc_is_name (fun vs H Q E h => ?_) (fun cdv A outer s H vs Q E hr h => ?_)
  · obtain ⟨z, rfl, _⟩ := h
    rfl
  · obtain ⟨z, rfl, hz, k⟩ := h
    refine ⟨_, PSs.nox (pss_one (ps_ret (pe_and (pe_chain op_le op_le pe_int (pe_callB call_len_str (by rfl) gl boot_len (pa_cons (pv 0) pa_nil)) (pe_glob (v := .int 8) rfl gL ⟨_, rfl⟩))
      (pe_one (pe_call GM hr rfl gM kM bM .nil pass0 (pa_cons (pv 0) (pa_cons (pe_glob (v := .str abc) rfl gS ⟨_, rfl⟩) pa_nil))))))), ?_⟩
    refine ⟨_, rfl, z, rfl, le_line hz, _, _, rfl, rfl, _, rfl, ?_⟩
    refine ite2 (fun c1 => ?_) (fun c1 => ?_)
    · have c1 : (1 : Int) ≤ (z.length : Int) := of_decide_eq_true c1
      refine ⟨_, _, rfl, rfl, _, rfl, ?_⟩
      refine ite2 (fun c2 => ?_) (fun c2 => ?_)
      · have c2 : (z.length : Int) ≤ 8 := of_decide_eq_true c2
        refine ⟨_, rfl, z, abc, rfl, hz, fun H2 s2 => ?_⟩
        have e1 : nmB z = madeB z abc := by
          unfold nmB
          rw [made_abc, decide_eq_true (by omega : 1 ≤ z.length), decide_eq_true (by omega : z.length ≤ 8)]
          simp only [Bool.true_and]
        rw [← e1]
        exact k H2 s2
      · have c2 : ¬ (z.length : Int) ≤ 8 := fun q => c2 (decide_eq_true q)
        have e1 : nmB z = false := by
          unfold nmB
          rw [decide_eq_false (by omega : ¬ z.length ≤ 8), Bool.false_and, Bool.and_false]
        rw [e1] at k
        exact k H (Same.refl H)
    · have c1 : ¬ (1 : Int) ≤ (z.length : Int) := fun q => c1 (decide_eq_true q)
      have e1 : nmB z = false := by
        unfold nmB
        rw [decide_eq_false (by omega : ¬ 1 ≤ z.length), Bool.false_and]
      rw [e1] at k
      exact ⟨_, rfl, iteF (k H (Same.refl H))⟩
/-! ### are_faulty -/
def fltB (xs : List Str) (m : Int) : Bool := decide (m < (xs.length : Int)) || (decide (((KdS.dcn xs xs.length : Nat) : Int) < (xs.length : Int)) || !(xs.all nmB))
def spFaulty (K : PySem.W.Frag) : Sp := fun vs H Q _ => ∃ (l : Addr) (xs : List Str) (m : Int), vs = [.ref l, .int m] ∧ Txs K H l xs ∧ xs.length ≤ 4000 ∧ (∀ z ∈ xs, z.length ≤ 4000) ∧ ∀ H', Same H H' → Q (.bl (fltB xs m)) H'
theorem sc_are_faulty : FnScope ["names", "most", "name"] ["names", "most"] (defScope s_are_faulty) := ⟨rfl, rfl, rfl, by decide +kernel, rfl, by decide +kernel, by decide +kernel⟩
theorem flt_end {xs : List Str} {m : Int} (h1 : ¬ m < (xs.length : Int)) (h2 : ¬ ((KdS.dcn xs xs.length : Nat) : Int) < (xs.length : Int)) : fltB xs m = !((xs.take xs.length).map nmB).all id := by
  unfold fltB
  rw [decide_eq_false h1, decide_eq_false h2, List.take_length, List.all_map, Bool.false_or, Bool.false_or]
  rfl
theorem strs_at {xs : List Str} {i : Nat} {x : V} (h : (xs.map V.str)[i]? = some x) : ∃ z, x = .str z ∧ xs[i]? = some z := by
  rw [List.getElem?_map] at h
  cases e : xs[i]? with
  | none => rw [e] at h; cases h
  | some z => rw [e] at h; exact ⟨z, (Option.some.inj h).symm, rfl⟩
theorem take_nm {xs : List Str} {i : Nat} {z : Str} (h : xs[i]? = some z) : ((xs.take i).map fun z => V.bl (nmB z)) ++ [V.bl (nmB z)] = (xs.take (i + 1)).map fun z => V.bl (nmB z) := by
  obtain ⟨h1, h2⟩ := List.getElem?_eq_some_iff.mp h
  rw [List.take_succ_eq_append_getElem h1, List.map_append, h2]
  rfl
theorem ok_are_faulty {fI : Addr} {fdI : FuncData} (F : FnP K "are_faulty" "are_faulty" s_are_faulty f fd) (GI : FnOk P w K mg base CX0 2 fI fdI ["text"] spIsName) (kI : PySem.W.keepIn K (.ref fI) = true) (bI : Binds K fdI ["text"] []) (gI : mg "is_name" = some (.ref fI))
    (gl : mg "len" = none) (gs : mg "set" = none) (ga : mg "all" = none) : FnOk P w K mg base CX0 3 f fd ["names", "most"] (spFaulty K) := by
  refine F.ok sc_are_faulty (fun vs H Q E h => ?_) (fun cdv A outer s H vs Q E hr h => ?_)
  · obtain ⟨l, xs, m, rfl, _⟩ := h
    rfl
  · obtain ⟨l, xs, m, rfl, hx, hn, hz, k⟩ := h
    rcases hx with hx | hx
    · refine ⟨_, PSs.nox (pss_cons (ps_if (PW.pt (pw_or (pt_cmpR op_gt (pe_callB call_len_seq (by rfl) gl boot_len (pa_cons (pv 0) pa_nil)) (pv 1) (nomark _)) (pw_or1 (pt_cmpR op_lt (pe_lenSetS rfl gl rfl gs (pv 0)) (pe_callB call_len_seq (by rfl) gl boot_len (pa_cons (pv 0) pa_nil)) (nomark _))))) (pss_one (ps_ret pe_bl)) pss_nil)
        (pss_one (ps_ret (pe_not (pe_callB (cr_all rfl) (by rfl) ga (by decide +kernel) (pa_cons (pe_lc (own := [("name", 2)]) (g := gName 2) (tt := tYes) rfl sc_are_faulty.nd (pi_list (pv 0)) (blkOk_by (own := [("name", 2)]) (N := ["names", "most", "name"]) (sc := defScope s_are_faulty) (by decide +kernel))
          (fun _ _ _ _ _ => pg_name (i := 2) sc_are_faulty.nd rfl (Or.inl rfl)) (fun _ _ _ _ _ => pts_nil) (fun _ _ _ _ _ => pe_call GI hr rfl gI kI bI .nil pass0 (pa_cons (pv 2) pa_nil))) pa_nil)))))), ?_⟩
      refine ⟨_, rfl, l, _, rfl, .inl hx, _, rfl, _, _, rfl, rfl, _, rfl, ?_⟩
      refine ite2 (fun c1 => ?_) (fun c1 => ?_)
      · have c1 : m < ((xs.map V.str).length : Int) := of_decide_eq_true c1
        rw [List.length_map] at c1
        have e1 : fltB xs m = true := by unfold fltB; rw [decide_eq_true c1, Bool.true_or]
        rw [e1] at k
        exact iteT (k H (Same.refl H))
      · have c1 : ¬ m < ((xs.map V.str).length : Int) := fun q => c1 (decide_eq_true q)
        rw [List.length_map] at c1
        refine ⟨_, rfl, l, xs, rfl, .inl hx, hn, _, rfl, l, _, rfl, .inl hx, _, _, rfl, rfl, _, rfl, ?_⟩
        refine ite2 (fun c2 => ?_) (fun c2 => ?_)
        · have c2 : ((KdS.dcn xs xs.length : Nat) : Int) < ((xs.map V.str).length : Int) := of_decide_eq_true c2
          rw [List.length_map] at c2
          have e1 : fltB xs m = true := by unfold fltB; rw [decide_eq_true c2, Bool.true_or, Bool.or_true]
          rw [e1] at k
          exact k H (Same.refl H)
        · have c2 : ¬ ((KdS.dcn xs xs.length : Nat) : Int) < ((xs.map V.str).length : Int) := fun q => c2 (decide_eq_true q)
          rw [List.length_map] at c2
          refine ⟨_, rfl, l, rfl, ⟨_, hx⟩, fun D hD => lc_build (walk_list (K := K) (a := l)) hD (fun i ys R => Same H R ∧ ys = (xs.take i).map fun z => V.bl (nmB z)) ⟨Same.refl H, rfl⟩ (fun _ _ _ _ p => Same.seq (p.1.trans cd_sub) hx) ?_ ?_⟩
          · rintro i ys x H2 H2' hi e ly ⟨sm, rfl⟩ ⟨rfl, hy⟩
            obtain ⟨z, rfl, hy2⟩ := strs_at hy
            refine ⟨rfl, yes ?_⟩
            refine ⟨_, rfl, z, rfl, hz z (List.mem_of_getElem? hy2), fun H3 s3 => LcNx.add (s3 _ _ e) ly (by rw [List.length_map] at hi; omega) ⟨sm.trans (cd_same s3), ?_⟩⟩
            exact take_nm hy2
          · rintro ys H2 e ly ⟨sm, rfl⟩
            rw [List.length_map] at e
            refine ⟨D, (xs.take xs.length).map nmB, rfl, SqL.of (by rw [List.map_map]; exact e), _, rfl, ?_⟩
            have e2 := flt_end c1 c2
            rw [e2] at k
            exact k H2 (sm.trans cd_sub)
    · refine ⟨_, PSs.nox (pss_cons (ps_if (PW.pt (pw_or (pt_cmpR op_gt (pe_callB call_len_seq (by rfl) gl boot_len (pa_cons (pv 0) pa_nil)) (pv 1) (nomark _)) (pw_or1 (pt_cmpR op_lt (pe_lenSetS rfl gl rfl gs (pv 0)) (pe_callB call_len_seq (by rfl) gl boot_len (pa_cons (pv 0) pa_nil)) (nomark _))))) (pss_one (ps_ret pe_bl)) pss_nil)
        (pss_one (ps_ret (pe_not (pe_callB (cr_all rfl) (by rfl) ga (by decide +kernel) (pa_cons (pe_lc (own := [("name", 2)]) (g := gName 2) (tt := tYes) rfl sc_are_faulty.nd (pi_tup (pv 0)) (blkOk_by (own := [("name", 2)]) (N := ["names", "most", "name"]) (sc := defScope s_are_faulty) (by decide +kernel))
          (fun _ _ _ _ _ => pg_name (i := 2) sc_are_faulty.nd rfl (Or.inl rfl)) (fun _ _ _ _ _ => pts_nil) (fun _ _ _ _ _ => pe_call GI hr rfl gI kI bI .nil pass0 (pa_cons (pv 2) pa_nil))) pa_nil)))))), ?_⟩
      refine ⟨_, rfl, l, _, rfl, .inr hx, _, rfl, _, _, rfl, rfl, _, rfl, ?_⟩
      refine ite2 (fun c1 => ?_) (fun c1 => ?_)
      · have c1 : m < ((xs.map V.str).length : Int) := of_decide_eq_true c1
        rw [List.length_map] at c1
        have e1 : fltB xs m = true := by unfold fltB; rw [decide_eq_true c1, Bool.true_or]
        rw [e1] at k
        exact iteT (k H (Same.refl H))
      · have c1 : ¬ m < ((xs.map V.str).length : Int) := fun q => c1 (decide_eq_true q)
        rw [List.length_map] at c1
        refine ⟨_, rfl, l, xs, rfl, .inr hx, hn, _, rfl, l, _, rfl, .inr hx, _, _, rfl, rfl, _, rfl, ?_⟩
        refine ite2 (fun c2 => ?_) (fun c2 => ?_)
        · have c2 : ((KdS.dcn xs xs.length : Nat) : Int) < ((xs.map V.str).length : Int) := of_decide_eq_true c2
          rw [List.length_map] at c2
          have e1 : fltB xs m = true := by unfold fltB; rw [decide_eq_true c2, Bool.true_or, Bool.or_true]
          rw [e1] at k
          exact k H (Same.refl H)
        · have c2 : ¬ ((KdS.dcn xs xs.length : Nat) : Int) < ((xs.map V.str).length : Int) := fun q => c2 (decide_eq_true q)
          rw [List.length_map] at c2
          refine ⟨_, rfl, l, rfl, ⟨_, hx⟩, fun D hD => lc_build (walk_tup (K := K) (a := l)) hD (fun i ys R => Same H R ∧ ys = (xs.take i).map fun z => V.bl (nmB z)) ⟨Same.refl H, rfl⟩ (fun _ _ _ _ p => Same.seqT (p.1.trans cd_sub) hx) ?_ ?_⟩
          · rintro i ys x H2 H2' hi e ly ⟨sm, rfl⟩ ⟨rfl, hy⟩
            obtain ⟨z, rfl, hy2⟩ := strs_at hy
            refine ⟨rfl, yes ?_⟩
            refine ⟨_, rfl, z, rfl, hz z (List.mem_of_getElem? hy2), fun H3 s3 => LcNx.add (s3 _ _ e) ly (by rw [List.length_map] at hi; omega) ⟨sm.trans (cd_same s3), ?_⟩⟩
            exact take_nm hy2
          · rintro ys H2 e ly ⟨sm, rfl⟩
            rw [List.length_map] at e
            refine ⟨D, (xs.take xs.length).map nmB, rfl, SqL.of (by rw [List.map_map]; exact e), _, rfl, ?_⟩
            have e2 := flt_end c1 c2
            rw [e2] at k
            exact k H2 (sm.trans cd_sub)
/-! ### a plan's lists in the heap -/
def AttAt (K : PySem.W.Frag) (H : Hp) (y : V) (a : Str × Str) : Prop := ∃ r, y = .ref r ∧ SqT K H r [.str a.1, .str a.2]
def AttsAt (K : PySem.W.Frag) (H : Hp) (q : Addr) (as : List (Str × Str)) : Prop := ∃ ys, SqT K H q ys ∧ Paired (AttAt K H) ys as
def DimAt (K : PySem.W.Frag) (H : Hp) (x : V) (d : Str × List (Str × Str)) : Prop := ∃ p q, x = .ref p ∧ SqT K H p [.str d.1, .ref q] ∧ AttsAt K H q d.2
def DimsAt (K : PySem.W.Frag) (H : Hp) (l : Addr) (ds : List (Str × List (Str × Str))) : Prop := ∃ xs, SqL K H l xs ∧ Paired (DimAt K H) xs ds
theorem AttAt.same {H H' : Hp} {y : V} {a : Str × Str} (e : Same H H') : AttAt K H y a → AttAt K H' y a := fun ⟨r, h1, h2⟩ => ⟨r, h1, Same.seqT e h2⟩
theorem AttsAt.same {H H' : Hp} {q : Addr} {as : List (Str × Str)} (e : Same H H') : AttsAt K H q as → AttsAt K H' q as := fun ⟨ys, h1, h2⟩ => ⟨ys, Same.seqT e h1, PySem.Paired.mono (fun _ _ => AttAt.same e) h2⟩
theorem DimAt.same {H H' : Hp} {x : V} {d : Str × List (Str × Str)} (e : Same H H') : DimAt K H x d → DimAt K H' x d := fun ⟨p, q, h1, h2, h3⟩ => ⟨p, q, h1, Same.seqT e h2, h3.same e⟩
theorem DimsAt.same {H H' : Hp} {l : Addr} {ds : List (Str × List (Str × Str))} (e : Same H H') : DimsAt K H l ds → DimsAt K H' l ds := fun ⟨xs, h1, h2⟩ => ⟨xs, e.seq h1, PySem.Paired.mono (fun _ _ => DimAt.same e) h2⟩
theorem paired_at {α β : Type} {R : α → β → Prop} : ∀ {l : List α} {m : List β} {i : Nat} {a : α}, Paired R l m → l[i]? = some a → ∃ b, m[i]? = some b ∧ R a b
  | _, _, i, a, .nil, e => by simp at e
  | _, _, 0, a, .cons h _, e => ⟨_, rfl, by have e2 : _ = a := Option.some.inj e; rw [← e2]; exact h⟩
  | _, _, i + 1, a, .cons _ r, e => paired_at (i := i) r e
theorem take_snoc {α β : Type} {g : α → β} {l : List α} {i : Nat} {a : α} (h : l[i]? = some a) : (l.take i).map g ++ [g a] = (l.take (i + 1)).map g := by
  obtain ⟨h1, h2⟩ := List.getElem?_eq_some_iff.mp h
  rw [List.take_succ_eq_append_getElem h1, List.map_append, h2]
  rfl
structure Szd (ds : List (Str × List (Str × Str))) (ms : List Str) : Prop where
  dl : ds.length ≤ 4000
  dn : ∀ d ∈ ds, d.1.length ≤ 4000 ∧ d.2.length ≤ 4000 ∧ ∀ a ∈ d.2, a.1.length ≤ 4000
  ml : ms.length ≤ 4000
  mn : ∀ m ∈ ms, m.length ≤ 4000
/-! ### first_fault -/
def ffV (ds : List (Str × List (Str × Str))) (ms : List Str) : V := if (ds.isEmpty || fltB (ds.map (·.1)) 4) = true then .str "dimensions" else if ds.any (fun d => fltB (d.2.map (·.1)) 5) = true then .str "attributes" else if fltB ms 4 = true then .str "measures" else .non
def spFirst (K : PySem.W.Frag) : Sp := fun vs H Q _ => ∃ (l m : Addr) (ds : List (Str × List (Str × Str))) (ms : List Str), vs = [.ref l, .ref m] ∧ DimsAt K H l ds ∧ Txs K H m ms ∧ Szd ds ms ∧ ∀ H', Same H H' → Q (ffV ds ms) H'
theorem sc_first : FnScope ["dimensions", "measures", "name", "attributes", "names", "attribute", "way"] ["dimensions", "measures"] (defScope s_first_fault) := ⟨rfl, rfl, rfl, by decide +kernel, rfl, by decide +kernel, by decide +kernel⟩
theorem ok_first {fF : Addr} {fdF : FuncData} (F : FnP K "first_fault" "first_fault" s_first_fault f fd) (GF : FnOk P w K mg base CX0 3 fF fdF ["names", "most"] (spFaulty K)) (kF : PySem.W.keepIn K (.ref fF) = true) (bF : Binds K fdF ["names", "most"] []) (gF : mg "are_faulty" = some (.ref fF))
    {t1 t2 t3 : Nat} (g1 : mg "MOST_DIMENSIONS" = some (.int 4 t1)) (g2 : mg "MOST_ATTRIBUTES" = some (.int 5 t2)) (g3 : mg "MOST_MEASURES" = some (.int 4 t3)) : FnOk P w K mg base CX0 4 f fd ["dimensions", "measures"] (spFirst K) := by
  refine F.ok sc_first (fun vs H Q E h => ?_) (fun cdv A outer s H vs Q E hr h => ?_)
  · obtain ⟨l, m, ds, ms, rfl, _⟩ := h
    rfl
  · obtain ⟨l, m, ds, ms, rfl, ⟨xs, hl, hp⟩, hm, sz, k⟩ := h
    have nd := sc_first.nd
    refine ⟨_, PSs.nox (pss_cons (ps_setLc (i := 4) (own := [("name", 2), ("attributes", 3)]) (g := gTup K 2 (gCons (gName 2) (gCons (gName 3) gNil))) (tt := tYes) rfl nd rfl rfl (sw_true rfl rfl rfl (by decide +kernel)) (pi_list (pv 0)) (blkOk_by (own := [("name", 2), ("attributes", 3)]) (N := ["dimensions", "measures", "name", "attributes", "names", "attribute", "way"]) (sc := defScope s_first_fault) (by decide +kernel))
        (fun _ _ _ _ _ => pg_tup rfl (pgs_cons (pg_name (i := 2) nd rfl (Or.inl rfl)) (pgs_cons (pg_name (i := 3) nd rfl (Or.inl rfl)) pgs_nil))) (fun _ _ _ _ _ => pts_nil) (fun _ _ _ _ _ => pv 2))
      (pss_cons (ps_if (PW.pt (pw_or (pt_not (pt_truth (pv 4) (by intro _; rfl))) (pw_or1 (pt_val (pe_call GF hr rfl gF kF bF .nil pass0 (pa_cons (pv 4) (pa_cons (pe_glob (v := .int 4) rfl g1 ⟨_, rfl⟩) pa_nil))))))) (pss_one (ps_ret pe_str)) pss_nil)
      (pss_cons (ps_for PassesOwn.never rfl (pi_list (pv 0)) (pg_tup rfl (pgs_cons (pg_name (i := 2) nd rfl (Or.inl rfl)) (pgs_cons (pg_name (i := 3) nd rfl (Or.inl rfl)) pgs_nil)))
        (pss_one (ps_if (pt_val (pe_call GF hr rfl gF kF bF .nil pass0 (pa_cons (pe_lc (own := [("attribute", 5), ("way", 6)]) (g := gTup K 2 (gCons (gName 5) (gCons (gName 6) gNil))) (tt := tYes) rfl nd (pi_tup (pv 3)) (blkOk_by (own := [("attribute", 5), ("way", 6)]) (N := ["dimensions", "measures", "name", "attributes", "names", "attribute", "way"]) (sc := defScope s_first_fault) (by decide +kernel))
          (fun _ _ _ _ _ => pg_tup rfl (pgs_cons (pg_name (i := 5) nd rfl (Or.inl rfl)) (pgs_cons (pg_name (i := 6) nd rfl (Or.inl rfl)) pgs_nil))) (fun _ _ _ _ _ => pts_nil) (fun _ _ _ _ _ => pv 5)) (pa_cons (pe_glob (v := .int 5) rfl g2 ⟨_, rfl⟩) pa_nil)))) (pss_one (ps_ret pe_str)) pss_nil)))
      (pss_cons (ps_if (pt_val (pe_call GF hr rfl gF kF bF .nil pass0 (pa_cons (pv 1) (pa_cons (pe_glob (v := .int 4) rfl g3 ⟨_, rfl⟩) pa_nil)))) (pss_one (ps_ret pe_str)) pss_nil)
      (pss_one (ps_ret pe_non)))))), ?_⟩
    refine ⟨_, rfl, l, rfl, ⟨_, hl⟩, fun D hD => lc_build (walk_list (K := K) (a := l)) hD (fun i ys R => Same H R ∧ ys = (ds.take i).map fun d => V.str d.1) ⟨Same.refl H, rfl⟩ (fun _ _ _ _ p => Same.seq (p.1.trans cd_sub) hl) ?_ ?_⟩
    · rintro i ys x H2 H2' hi e ly ⟨sm, rfl⟩ ⟨rfl, hy⟩
      obtain ⟨d, hd, p, q, rfl, h1, h2⟩ := paired_at hp hy
      have sz1 := sz.dl
      have hlen := hp.length
      refine ⟨p, _, rfl, Same.seqT (sm.trans cd_sub) h1, rfl, _, _, rfl, _, _, rfl, rfl, rfl, yes ?_⟩
      refine ⟨_, rfl, LcNx.add e ly (by omega) ⟨sm, take_snoc hd⟩⟩
    · rintro ys H2 e ly ⟨sm, rfl⟩
      have hlen := hp.length
      have eN : (ds.take xs.length).map (fun d => V.str d.1) = (ds.map (·.1)).map V.str := by
        rw [hlen, List.take_length, List.map_map]
        rfl
      rw [eN] at e
      have s2 : Same H H2 := sm.trans cd_sub
      have l1 := sz.dl
      have hnm : ∀ z ∈ ds.map (·.1), z.length ≤ 4000 := fun z hz => by
        obtain ⟨d, hd, rfl⟩ := List.mem_map.mp hz
        exact (sz.dn d hd).1
      refine ⟨_, rfl, _, .inl ⟨_, SqL.of e, rfl⟩, ?_⟩
      by_cases e0 : ds = []
      · subst e0
        exact iteT (iteT (k H2 s2))
      · have ne : (!((ds.map (·.1)).map V.str).isEmpty) = true := by
          cases ds with
          | nil => exact absurd rfl e0
          | cons d r => rfl
        rw [ne]
        refine iteF ⟨_, rfl, D, ds.map (·.1), 4, rfl, .inl (SqL.of e), by rw [List.length_map]; exact l1, hnm, fun H3 s3 => ⟨_, rfl, ?_⟩⟩
        have ie : ds.isEmpty = false := by
          cases ds with
          | nil => exact absurd rfl e0
          | cons d r => rfl
        have s03 : Same H H3 := s2.trans s3
        by_cases c1 : fltB (ds.map (·.1)) 4 = true
        · rw [c1]
          have ev : ffV ds ms = .str "dimensions" := by unfold ffV; rw [ie, c1]; rfl
          rw [ev] at k
          exact iteT (k H3 s03)
        · have c1 : fltB (ds.map (·.1)) 4 = false := by simpa using c1
          rw [c1]
          refine iteF ?_
          refine ⟨_, rfl, l, rfl, ⟨_, s03.seq hl⟩, for_list (K := K) (a := l) (xs := xs) (fun i σ H4 => ∃ u v, σ = [some (.ref l), some (.ref m), u, v, some (.ref D), none, none] ∧ Same H H4 ∧ (ds.take i).any (fun d => fltB (d.2.map (·.1)) 5) = false) ⟨_, _, rfl, s03, rfl⟩ (fun i σ H4 _ ⟨_, _, _, s4, _⟩ => s4.seq hl) ?_ ?_⟩
          · rintro i x σ H4 hi ⟨u, v, rfl, s4, na⟩
            obtain ⟨d, hd, p, q, rfl, h1, ys, h2, h3⟩ := paired_at hp hi
            have hdm := List.mem_of_getElem? hd
            obtain ⟨_, la, lz⟩ := sz.dn d hdm
            have hyl := h3.length
            refine ⟨p, _, rfl, Same.seqT s4 h1, rfl, _, _, rfl, _, _, rfl, rfl, ?_⟩
            refine ⟨_, rfl, q, rfl, ⟨_, Same.seqT s4 h2⟩, fun B hB => lc_build (walk_tup (K := K) (a := q)) hB (fun i ys R => Same H4 R ∧ ys = (d.2.take i).map fun d => V.str d.1) ⟨Same.refl H4, rfl⟩ (fun _ _ _ _ p => Same.seqT (s4.trans (p.1.trans cd_sub)) h2) ?_ ?_⟩
            · rintro j zs x H5 H5' hj e5 lz5 ⟨s5, rfl⟩ ⟨rfl, hy⟩
              obtain ⟨a, ha, r, rfl, h4⟩ := paired_at h3 hy
              refine ⟨r, _, rfl, Same.seqT (s4.trans (s5.trans cd_sub)) h4, rfl, _, _, rfl, _, _, rfl, rfl, rfl, yes ?_⟩
              refine ⟨_, rfl, LcNx.add e5 lz5 (by omega) ⟨s5, take_snoc ha⟩⟩
            · rintro zs H5 e5 lz5 ⟨s5, rfl⟩
              have eA : (d.2.take ys.length).map (fun d => V.str d.1) = (d.2.map (·.1)).map V.str := by
                rw [hyl, List.take_length, List.map_map]
                rfl
              rw [eA] at e5
              refine ⟨B, d.2.map (·.1), 5, rfl, .inl (SqL.of e5), by rw [List.length_map]; exact la, fun z hz => ?_, fun H6 s6 => ⟨_, rfl, ?_⟩⟩
              · obtain ⟨a, ha, rfl⟩ := List.mem_map.mp hz
                exact lz a ha
              · have s06 : Same H H6 := (s4.trans (s5.trans cd_sub)).trans s6
                by_cases c2 : fltB (d.2.map (·.1)) 5 = true
                · rw [c2]
                  have ea : ds.any (fun d => fltB (d.2.map (·.1)) 5) = true := List.any_eq_true.mpr ⟨d, hdm, c2⟩
                  have ev : ffV ds ms = .str "attributes" := by unfold ffV; rw [ie, c1, ea]; rfl
                  rw [ev] at k
                  exact iteT (k H6 s06)
                · have c2 : fltB (d.2.map (·.1)) 5 = false := by simpa using c2
                  rw [c2]
                  refine iteF ⟨_, _, rfl, s06, ?_⟩
                  obtain ⟨g1, g2⟩ := List.getElem?_eq_some_iff.mp hd
                  rw [List.take_succ_eq_append_getElem g1, List.any_append, na, g2]
                  simp [c2]
          · rintro σ H4 ⟨u, v, rfl, s4, na⟩
            rw [hlen, List.take_length] at na
            refine ⟨_, rfl, m, ms, 4, rfl, Same.txs s4 hm, sz.ml, sz.mn, fun H5 s5 => ⟨_, rfl, ?_⟩⟩
            have s05 : Same H H5 := s4.trans s5
            by_cases c3 : fltB ms 4 = true
            · rw [c3]
              have ev : ffV ds ms = .str "measures" := by unfold ffV; rw [ie, c1, na, c3]; rfl
              rw [ev] at k
              exact iteT (k H5 s05)
            · have c3 : fltB ms 4 = false := by simpa using c3
              rw [c3]
              have ev : ffV ds ms = .non := by unfold ffV; rw [ie, c1, na, c3]; rfl
              rw [ev] at k
              exact iteF (k H5 s05)
end
end Kd

namespace Kd
open PySem PySem.Spec PyProof.Rows L2
section
variable {P : Program} {w : World} {K : PySem.W.Frag} {mg : Str → Option Value} {base : Heap} {f : Addr} {fd : FuncData}
/-! ### the plan as an object -/
def plF (a b : Addr) : List (Str × V) := [("dimension_list", .ref a), ("measure_list", .ref b)]
theorem pl_ne : ¬ (("dimension_list" : Str) = "measure_list") := by decide +kernel
theorem pl_put (a b : Addr) : putF "measure_list" (.ref b) (putF "dimension_list" (.ref a) []) = plF a b := by
  show (if ("dimension_list" : Str) = "measure_list" then [(("dimension_list" : Str), V.ref b)] else (("dimension_list" : Str), V.ref a) :: putF "measure_list" (.ref b) []) = plF a b
  rw [if_neg pl_ne]
  rfl
theorem pl_dim (a b : Addr) : (plF a b).lookup ("dimension_list" : Str) = some (.ref a) := by
  unfold plF
  rw [List.lookup_cons]
  rw [show (("dimension_list" : Str) == "dimension_list") = true by decide +kernel]
theorem pl_mea (a b : Addr) : (plF a b).lookup ("measure_list" : Str) = some (.ref b) := by
  unfold plF
  rw [List.lookup_cons, show (("measure_list" : Str) == "dimension_list") = false by decide +kernel, List.lookup_cons, show (("measure_list" : Str) == "measure_list") = true by decide +kernel]
theorem pl_no0 {a b : Addr} {m : Str} (h1 : (m == ("dimension_list" : Str)) = false) (h2 : (m == ("measure_list" : Str)) = false) : (plF a b).lookup m = none := by
  unfold plF
  rw [List.lookup_cons, h1, List.lookup_cons, h2]
  rfl
/-- a Plan of ds and ms stands at x -/
structure PlanAt (K : PySem.W.Frag) (C : Addr) (H : Hp) (x : Addr) (ds : List (Str × List (Str × Str))) (ms : List Str) : Prop where
  ex : ∃ dx a b xs, H x = some (.ins C dx (plF a b)) ∧ H a = some (.lst xs) ∧ Paired (DimAt K H) xs ds ∧ H b = some (.lst (ms.map V.str))
theorem PlanAt.same {C x : Addr} {H H' : Hp} {ds : List (Str × List (Str × Str))} {ms : List Str} (e : Same H H') (h : PlanAt K C H x ds ms) : PlanAt K C H' x ds ms := by
  obtain ⟨dx, a, b, xs, h1, h2, h3, h4⟩ := h.ex
  exact ⟨dx, a, b, xs, e _ _ h1, e _ _ h2, PySem.Paired.mono (fun _ _ => DimAt.same e) h3, e _ _ h4⟩
/-! data do not lean on an instance -/
theorem seqL_cd {x C dx a : Addr} {H : Hp} {fs : List (Str × V)} {xs : List V} (hx : H x = some (.ins C dx fs)) (h : SqL K H a xs) : SqL K (cd x H) a xs := by
  rcases h with (q | ⟨o, q⟩) | q
  · exact .inl (.inl (cd_of q (ne_of q hx (fun z => nomatch z))))
  · exact .inl (.inr ⟨o, cd_of q (ne_of q hx (fun z => nomatch z))⟩)
  · exact .inr q
theorem seqT_cd {x C dx a : Addr} {H : Hp} {fs : List (Str × V)} {xs : List V} (hx : H x = some (.ins C dx fs)) (h : SqT K H a xs) : SqT K (cd x H) a xs := by
  rcases h with (q | ⟨o, q⟩) | q
  · exact .inl (.inl (cd_of q (ne_of q hx (fun z => nomatch z))))
  · exact .inl (.inr ⟨o, cd_of q (ne_of q hx (fun z => nomatch z))⟩)
  · exact .inr q
theorem txs_cd {x C dx a : Addr} {H : Hp} {fs : List (Str × V)} {xs : List Str} (hx : H x = some (.ins C dx fs)) (h : Txs K H a xs) : Txs K (cd x H) a xs := h.elim (fun q => .inl (seqL_cd hx q)) fun q => .inr (seqT_cd hx q)
theorem dim_cd {x C dx : Addr} {H : Hp} {fs : List (Str × V)} {y : V} {d : Str × List (Str × Str)} (hx : H x = some (.ins C dx fs)) : DimAt K H y d → DimAt K (cd x H) y d :=
  fun ⟨p, q, h1, h2, zs, h3, h4⟩ => ⟨p, q, h1, seqT_cd hx h2, zs, seqT_cd hx h3, PySem.Paired.mono (fun _ _ ⟨r, e1, e2⟩ => ⟨r, e1, seqT_cd hx e2⟩) h4⟩
structure PlTxt (K : PySem.W.Frag) (C : Addr) : Prop where
  cl : Cls K C
  nD : NoAttr K C "dimension_list"
  nM : NoAttr K C "measure_list"
def rTupOf (K : PySem.W.Frag) : List V → Hp → VK → Prop := fun xs H Q => ∃ p ys, xs = [.ref p] ∧ ((SqL K H p ys ∧ ∀ l, H l = none → Q (.ref l) (upd H l (.tup ys))) ∨ (SqT K H p ys ∧ Q (.ref p) H))
def spInit (K : PySem.W.Frag) (C : Addr) : Sp := fun vs H Q _ => ∃ (x dx l m : Addr) (ds : List (Str × List (Str × Str))) (ms : List Str), vs = [.ref x, .ref l, .ref m] ∧ H x = some (.ins C dx []) ∧ DimsAt K H l ds ∧ Txs K H m ms ∧ Szd ds ms ∧ ffV ds ms = .non ∧
  ∀ (H' : Hp) (a b : Addr) (xs : List V), H a = none → H b = none → H' x = some (.ins C dx (plF a b)) → H' a = some (.lst xs) → Paired (DimAt K H') xs ds → H' b = some (.lst (ms.map V.str)) → Same (cd x H) (cd x H') → Q .non H'
theorem sc_init : FnScope ["self", "dimensions", "measures", "fault", "name", "attributes"] ["self", "dimensions", "measures"] (defScope s_Plan_init) := ⟨rfl, rfl, rfl, by decide +kernel, rfl, by decide +kernel, by decide +kernel⟩
theorem ok_init {fF C : Addr} {fdF : FuncData} {dvs : List V} (F : FunD K "__init__" "Plan.__init__" (defArgs s_Plan_init) (defBody s_Plan_init) (defScope s_Plan_init) dvs [] f fd) (T : PlTxt K C) (GF : FnOk P w K mg base CX0 4 fF fdF ["dimensions", "measures"] (spFirst K)) (kF : PySem.W.keepIn K (.ref fF) = true) (bF : Binds K fdF ["dimensions", "measures"] []) (gF : mg "first_fault" = some (.ref fF))
    (gt : mg "tuple" = none) (gl : mg "list" = none) : FnOk P w K mg base CX0 5 f fd ["self", "dimensions", "measures"] (spInit K C) := by
  refine F.ok sc_init (fun vs H Q E h => ?_) (fun cdv A outer s H vs Q E hr h => ?_)
  · obtain ⟨x, dx, l, m, ds, ms, rfl, _⟩ := h
    rfl
  · obtain ⟨x, dx, l, m, ds, ms, rfl, hx, hl, hm, sz, ev, k⟩ := h
    have nd := sc_init.nd
    refine ⟨_, PSs.nox (pss_cons (ps_set (i := 3) nd rfl (Or.inl rfl) (pe_call GF hr rfl gF kF bF .nil pass0 (pa_cons (pv 1) (pa_cons (pv 2) pa_nil))))
      (pss_cons (ps_if (pt_cmp (pc_notN (pv 3))) (pss_one ps_never) pss_nil)
      (pss_cons (ps_fld (pv 0) (pe_lc (own := [("name", 4), ("attributes", 5)]) (g := gTup K 2 (gCons (gName 4) (gCons (gName 5) gNil))) (tt := tYes) (te := tTup (tCons (tVar 4) (tCons (tCB (rTupOf K) (tCons (tVar 5) tNil)) tNil))) rfl nd (pi_list (pv 1)) (blkOk_by (own := [("name", 4), ("attributes", 5)]) (N := ["self", "dimensions", "measures", "fault", "name", "attributes"]) (sc := defScope s_Plan_init) (by decide +kernel))
        (fun _ _ _ _ _ => pg_tup rfl (pgs_cons (pg_name (i := 4) nd rfl (Or.inl rfl)) (pgs_cons (pg_name (i := 5) nd rfl (Or.inl rfl)) pgs_nil))) (fun _ _ _ _ _ => pts_nil) (fun _ _ _ _ _ => pe_tup (pa_cons (pv 4) (pa_cons (pe_callTy call_tuple_of (by rfl) gt (by decide +kernel) (pa_cons (pv 5) pa_nil)) pa_nil)))) rfl)
      (pss_one (ps_fld (pv 0) (pe_callTy call_list_of (by rfl) gl (by decide +kernel) (pa_cons (pv 2) pa_nil)) rfl))))), ?_⟩
    refine ⟨_, rfl, _, rfl, l, m, ds, ms, rfl, hl, hm, sz, fun H1 s1 => ?_⟩
    rw [ev]
    refine ⟨_, rfl, _, rfl, ?_⟩
    refine iteF ?_
    obtain ⟨xs, hl1, hp⟩ := DimsAt.same s1 hl
    have hlen := hp.length
    have l1 := sz.dl
    refine ⟨_, rfl, l, rfl, ⟨_, hl1⟩, fun D hD => lc_build (walk_list (K := K) (a := l)) hD (fun i ys R => Same H1 R ∧ Paired (DimAt K R) ys (ds.take i)) ⟨Same.refl H1, .nil⟩ (fun _ _ _ _ p => Same.seq (p.1.trans cd_sub) hl1) ?_ ?_⟩
    · rintro i ys y H2 H2' hi e ly ⟨sm, py⟩ ⟨rfl, hy⟩
      obtain ⟨d, hd, p, q, rfl, h1, h2⟩ := paired_at hp hy
      refine ⟨p, _, rfl, Same.seqT (sm.trans cd_sub) h1, rfl, _, _, rfl, _, _, rfl, rfl, rfl, yes ?_⟩
      obtain ⟨zs, h3, h4⟩ := id h2
      refine ⟨_, rfl, _, rfl, q, zs, rfl, .inr ⟨Same.seqT (sm.trans cd_sub) h3, by show 2 ≤ sizeLine; decide, fun t ht => ?_⟩⟩
      have nDt : D ≠ t := ne_of_none e ht
      have s3 : Same (cd D H2') (cd D (upd H2' t (.tup [.str d.1, .ref q]))) := cd_same (same_new ht)
      refine LcNx.add (by rw [upd_ne nDt]; exact e) ly (by omega) ⟨sm.trans s3, ?_⟩
      obtain ⟨g1, g2⟩ := List.getElem?_eq_some_iff.mp hd
      rw [List.take_succ_eq_append_getElem g1, g2]
      exact PySem.Paired.snoc (PySem.Paired.mono (fun _ _ => DimAt.same s3) py) ⟨t, q, rfl, SqT.of (cd_of upd_same nDt.symm), AttsAt.same (sm.trans s3) h2⟩
    · rintro ys H2 e ly ⟨sm, py⟩
      rw [hlen, List.take_length] at py
      have s2 : Same H1 H2 := sm.trans cd_sub
      have hx2 : H2 x = some (.ins C dx []) := s2 _ _ (s1 _ _ hx)
      have nDx : D ≠ x := (ne_of_none (s1 _ _ hx) hD).symm
      refine ⟨_, rfl, x, C, dx, _, rfl, hx2, T.cl, T.nD, (by show 0 < 1000; decide), ?_⟩
      have s3 : Same (cd x H2) (upd H2 x (.ins C dx (putF "dimension_list" (.ref D) []))) := fun c o q => by rw [upd_ne (ct_ne q).1]; exact cd_sub _ _ q
      have hm3 : Txs K (upd H2 x (.ins C dx (putF "dimension_list" (.ref D) []))) m ms := Same.txs s3 (txs_cd hx2 (Same.txs (s1.trans s2) hm))
      refine ⟨_, rfl, m, ms.map V.str, rfl, hm3, fun b hb => ?_⟩
      have nxb : x ≠ b := ne_of_none upd_same hb
      have hDb : D ≠ b := fun z => by
        rw [← z, upd_ne nDx] at hb
        rw [e] at hb
        cases hb
      refine ⟨_, rfl, x, C, dx, _, rfl, (by rw [upd_ne nxb]; exact upd_same), T.cl, T.nM, (by show 1 < 1000; decide), ?_⟩
      have e1 : putF "measure_list" (V.ref b) (putF "dimension_list" (V.ref D) []) = plF D b := pl_put D b
      have s4 : Same (cd x H2) (upd (upd (upd H2 x (.ins C dx (putF "dimension_list" (.ref D) []))) b (.lst (ms.map V.str))) x (.ins C dx (putF "measure_list" (V.ref b) (putF "dimension_list" (V.ref D) [])))) := fun c o q => by
        have nc := (ct_ne q).1
        have qc := cd_sub _ _ q
        have ncb : c ≠ b := ne_of_none (show upd H2 x (.ins C dx (putF "dimension_list" (.ref D) [])) c = some o by rw [upd_ne nc]; exact qc) hb
        rw [upd_ne nc, upd_ne ncb, upd_ne nc]
        exact qc
      have py2 : Paired (DimAt K (cd x H2)) ys ds := PySem.Paired.mono (fun y d q => dim_cd hx2 (DimAt.same cd_sub q)) py
      refine k _ D b ys (s1.free hD) ?_ (Eq.trans upd_same (congrArg (fun z => some (HO.ins C dx z)) e1)) (s4 _ _ (cd_of e nDx)) (PySem.Paired.mono (fun _ _ => DimAt.same s4) py2) ?_ ?_
      · have hb2 : H2 b = none := by
          rw [upd_ne nxb.symm] at hb
          exact hb
        exact (s1.trans s2).free hb2
      · rw [upd_ne nxb.symm, upd_same]
      · have s5 : Same (cd x H) (cd x H2) := cd_same (s1.trans s2)
        have s6 := cd_same (D := x) s4
        exact s5.trans (fun c o q => s6 c o (cd_of q (ct_ne q).1))
end
end Kd
namespace Kd
open PySem PySem.Spec PyProof.Rows L2
section
variable {P : Program} {w : World} {K : PySem.W.Frag} {mg : Str → Option Value} {base : Heap} {f : Addr} {fd : FuncData}
def spDims (K : PySem.W.Frag) (C : Addr) : Sp := fun vs H Q _ => ∃ (x : Addr) (ds : List (Str × List (Str × Str))) (ms : List Str), vs = [.ref x] ∧ PlanAt K C H x ds ms ∧ ∀ l xs, H l = none → Paired (DimAt K H) xs ds → Q (.ref l) (upd H l (.lst xs))
def spMeas (K : PySem.W.Frag) (C : Addr) : Sp := fun vs H Q _ => ∃ (x : Addr) (ds : List (Str × List (Str × Str))) (ms : List Str), vs = [.ref x] ∧ PlanAt K C H x ds ms ∧ ∀ l, H l = none → Q (.ref l) (upd H l (.lst (ms.map V.str)))
theorem sc_dims : FnScope ["self"] ["self"] (defScope s_Plan_dimensions) := ⟨rfl, rfl, rfl, by decide +kernel, rfl, by decide +kernel, by decide +kernel⟩
theorem ok_dims {C : Addr} (F : FnP K "dimensions" "Plan.dimensions" s_Plan_dimensions f fd) (T : PlTxt K C) (gl : mg "list" = none) : FnOk P w K mg base CX0 1 f fd ["self"] (spDims K C) := by
  refine F.ok sc_dims (fun vs H Q E h => ?_) (fun cdv A outer s H vs Q E hr h => ?_)
  · obtain ⟨x, ds, ms, rfl, _⟩ := h
    rfl
  · obtain ⟨x, ds, ms, rfl, ⟨dx, a, b, xs, h1, h2, h3, h4⟩, k⟩ := h
    refine ⟨_, PSs.nox (pss_one (ps_ret (pe_callTy call_list_of (by rfl) gl (by decide +kernel) (pa_cons (pe_fld (pv 0) rfl) pa_nil)))), ?_⟩
    exact ⟨_, rfl, x, C, dx, _, _, rfl, h1, T.cl, T.nD, pl_dim a b, a, xs, rfl, .inl (SqL.of h2), fun l hl => k l xs hl h3⟩
theorem sc_meas : FnScope ["self"] ["self"] (defScope s_Plan_measures) := ⟨rfl, rfl, rfl, by decide +kernel, rfl, by decide +kernel, by decide +kernel⟩
theorem ok_meas {C : Addr} (F : FnP K "measures" "Plan.measures" s_Plan_measures f fd) (T : PlTxt K C) (gl : mg "list" = none) : FnOk P w K mg base CX0 1 f fd ["self"] (spMeas K C) := by
  refine F.ok sc_meas (fun vs H Q E h => ?_) (fun cdv A outer s H vs Q E hr h => ?_)
  · obtain ⟨x, ds, ms, rfl, _⟩ := h
    rfl
  · obtain ⟨x, ds, ms, rfl, ⟨dx, a, b, xs, h1, h2, h3, h4⟩, k⟩ := h
    refine ⟨_, PSs.nox (pss_one (ps_ret (pe_callTy call_list_of (by rfl) gl (by decide +kernel) (pa_cons (pe_fld (pv 0) rfl) pa_nil)))), ?_⟩
    exact ⟨_, rfl, x, C, dx, _, _, rfl, h1, T.cl, T.nM, pl_mea a b, b, _, rfl, .inl (SqL.of h4), fun l hl => k l hl⟩
end
end Kd

namespace Kd
open PySem PySem.Spec PyProof.Rows L2
/-! ### kinds -/
/-- a value as the laws draw it -/
inductive Fv where
  | i (z : Int)
  | s (z : Str)
  deriving DecidableEq
def Fv.v : Fv → V
  | .i z => .int z
  | .s z => .str z
def Fv.d : Fv → PyData
  | .i z => .int z
  | .s z => .str z
theorem Fv.v_inj {a b : Fv} (h : a.v = b.v) : a = b := by
  cases a <;> cases b <;> simp [Fv.v] at h <;> rw [h]
theorem Fv.scal (a b : Fv) : L2.scal a.v b.v = true := by
  cases a <;> cases b <;> rfl
theorem Fv.ne (a b : Fv) : (!decide (a.v = b.v)) = !decide (a = b) := by
  by_cases h : a = b
  · rw [h]
    simp
  · have h2 : ¬ a.v = b.v := fun q => h (Fv.v_inj q)
    rw [decide_eq_false h, decide_eq_false h2]
theorem Fv.flat (a : Fv) : flatV a.v = true := by cases a <;> rfl
abbrev Kind := Int × List Fv
section
variable {P : Program} {w : World} {K : PySem.W.Frag} {mg : Str → Option Value} {base : Heap} {f : Addr} {fd : FuncData}
theorem Fv.dp {H : Hp} (a : Fv) : Dp K H a.v a.d := by
  cases a
  · exact .int _
  · exact .str _
def KindAt (K : PySem.W.Frag) (H : Hp) (x : V) (k : Kind) : Prop := ∃ p q, x = .ref p ∧ SqT K H p [.int k.1, .ref q] ∧ SqT K H q (k.2.map Fv.v)
theorem KindAt.same {H H' : Hp} {x : V} {k : Kind} (e : Same H H') : KindAt K H x k → KindAt K H' x k := fun ⟨p, q, h1, h2, h3⟩ => ⟨p, q, h1, Same.seqT e h2, Same.seqT e h3⟩
def KindsAt (K : PySem.W.Frag) (H : Hp) (l : Addr) (ks : List Kind) : Prop := ∃ xs, SqL K H l xs ∧ Paired (KindAt K H) xs ks
theorem KindsAt.same {H H' : Hp} {l : Addr} {ks : List Kind} (e : Same H H') : KindsAt K H l ks → KindsAt K H' l ks := fun ⟨xs, h1, h2⟩ => ⟨xs, e.seq h1, PySem.Paired.mono (fun _ _ => KindAt.same e) h2⟩
theorem map_at {α β : Type} {g : α → β} {l : List α} {i : Nat} (h : i < l.length) : (l.map g)[i]? = some (g l[i]) := by rw [List.getElem?_map, List.getElem?_eq_getElem h]; rfl
/-! ### attributes_of -/
def spAttr (K : PySem.W.Frag) (C : Addr) : Sp := fun vs H Q _ => ∃ (x : Addr) (n : Str) (ds : List (Str × List (Str × Str))) (ms : List Str), vs = [.ref x, .str n] ∧ PlanAt K C H x ds ms ∧
  (∀ d q H', ds.find? (fun d => decide (d.1 = n)) = some d → AttsAt K H' q d.2 → Same H H' → Q (.ref q) H') ∧ (ds.find? (fun d => decide (d.1 = n)) = none → ∀ H', Same H H' → Q .non H')
theorem sc_attr : FnScope ["plan", "dimension", "name", "attributes"] ["plan", "dimension"] (defScope s_attributes_of) := ⟨rfl, rfl, rfl, by decide +kernel, rfl, by decide +kernel, by decide +kernel⟩
theorem ok_attr {C fd1 : Addr} {fdd : FuncData} (F : FnP K "attributes_of" "attributes_of" s_attributes_of f fd) (T : PlTxt K C) (GD : FnOk P w K mg base CX0 1 fd1 fdd ["self"] (spDims K C)) (bD : Binds K fdd ["self"] []) (mD : Meth K C "dimensions" fd1) : FnOk P w K mg base CX0 2 f fd ["plan", "dimension"] (spAttr K C) := by
  refine F.ok sc_attr (fun vs H Q E h => ?_) (fun cdv A outer s H vs Q E hr h => ?_)
  · obtain ⟨x, n, ds, ms, rfl, _⟩ := h
    rfl
  · obtain ⟨x, n, ds, ms, rfl, hp, k1, k2⟩ := h
    have nd := sc_attr.nd
    obtain ⟨dx, pa, pb, px, e1, e2, e3, e4⟩ := id hp.ex
    refine ⟨_, PSs.nox (pss_cons (ps_for PassesOwn.never rfl (pi_list (pe_meth0 (pv 0) T.cl mD GD hr bD .nil pass0)) (pg_tup rfl (pgs_cons (pg_name (i := 2) nd rfl (Or.inl rfl)) (pgs_cons (pg_name (i := 3) nd rfl (Or.inl rfl)) pgs_nil)))
        (pss_one (ps_if (pt_cmpR op_eq (pv 2) (pv 1) (nomark _)) (pss_one (ps_ret (pv 3))) pss_nil)))
      (pss_one (ps_ret pe_non))), ?_⟩
    refine ⟨_, rfl, x, dx, _, rfl, e1, pl_no0 (by decide +kernel) (by decide +kernel), x, ds, ms, rfl, hp, fun l xs nl pl => ?_⟩
    have s1 : Same H (upd H l (.lst xs)) := same_new nl
    refine ⟨l, rfl, ⟨_, SqL.of upd_same⟩, for_list (K := K) (a := l) (xs := xs) (fun i σ H2 => ∃ u v, σ = [some (.ref x), some (.str n), u, v] ∧ Same (upd H l (.lst xs)) H2 ∧ (ds.take i).find? (fun d => decide (d.1 = n)) = none) ⟨_, _, rfl, Same.refl _, rfl⟩ (fun i σ H2 _ ⟨_, _, _, s2, _⟩ => SqL.of (s2 _ _ upd_same)) ?_ ?_⟩
    · rintro i y σ H2 hi ⟨u, v, rfl, s2, na⟩
      obtain ⟨d, hd, p, q, rfl, h1, h2⟩ := paired_at pl hi
      have s02 := s1.trans s2
      refine ⟨p, _, rfl, Same.seqT s02 h1, rfl, _, _, rfl, _, _, rfl, rfl, ?_⟩
      refine ⟨_, rfl, _, rfl, rfl, _, rfl, ?_⟩
      obtain ⟨g1, g2⟩ := List.getElem?_eq_some_iff.mp hd
      by_cases c : d.1 = n
      · rw [decide_eq_true (congrArg V.str c)]
        refine iteT ⟨_, rfl, k1 d q H2 ?_ (h2.same s02) s02⟩
        rw [← List.take_append_drop i ds, List.find?_append, na, List.drop_eq_getElem_cons g1, g2, List.find?_cons_of_pos (by simp [c])]
        rfl
      · rw [decide_eq_false (fun z => c (by injection z))]
        refine iteF ⟨_, _, rfl, s2, ?_⟩
        rw [List.take_succ_eq_append_getElem g1, List.find?_append, na, g2, List.find?_cons_of_neg (by simp [c])]
        rfl
    · rintro σ H2 ⟨u, v, rfl, s2, na⟩
      have hl := pl.length
      rw [hl, List.take_length] at na
      exact k2 na H2 (s1.trans s2)
/-! ### changes_day -/
def dif (ws : List Str) (o n : List Fv) (j : Nat) : Bool := decide (ws.getD j Str.empty = "day") && !decide (o.getD j (.i 0) = n.getD j (.i 0))
def chg (ws : List Str) (o n : List Fv) : Bool := (List.range ws.length).any (dif ws o n)
def spChg (K : PySem.W.Frag) : Sp := fun vs H Q _ => ∃ (l a b : Addr) (ws : List Str) (o n : List Fv), vs = [.ref l, .ref a, .ref b] ∧ SqL K H l (ws.map V.str) ∧ SqT K H a (o.map Fv.v) ∧ SqT K H b (n.map Fv.v) ∧ o.length = ws.length ∧ n.length = ws.length ∧ ws.length ≤ 5 ∧ ∀ H', Same H H' → Q (.bl (chg ws o n)) H'
theorem sc_chg : FnScope ["ways", "old", "new", "at", "way"] ["ways", "old", "new"] (defScope s_changes_day) := ⟨rfl, rfl, rfl, by decide +kernel, rfl, by decide +kernel, by decide +kernel⟩
theorem ok_chg (F : FnP K "changes_day" "changes_day" s_changes_day f fd) (gA : mg "any" = none) (gE : mg "enumerate" = none) : FnOk P w K mg base CX0 1 f fd ["ways", "old", "new"] (spChg K) := by
  refine F.ok sc_chg (fun vs H Q E h => ?_) (fun cdv A outer s H vs Q E hr h => ?_)
  · obtain ⟨l, a, b, ws, o, n, rfl, _⟩ := h
    rfl
  · obtain ⟨l, a, b, ws, o, n, rfl, hl, ha, hb, lo, ln, lw, k⟩ := h
    have nd := sc_chg.nd
    refine ⟨_, PSs.nox (pss_one (ps_ret (pe_callB (cr_any rfl) (by rfl) gA (by decide +kernel) (pa_cons (pe_lc (own := [("at", 3), ("way", 4)]) (g := gTup K 2 (gCons (gName 3) (gCons (gName 4) gNil))) (tt := tYes) (te := tAndV (tOp rEq (tVar 4) (tC (.str "day"))) (tOp rNe (tOp (rIxT K) (tVar 1) (tVar 3)) (tOp (rIxT K) (tVar 2) (tVar 3)))) rfl nd (pi_enum rfl gE (pa_cons (pv 0) pa_nil)) (blkOk_by (own := [("at", 3), ("way", 4)]) (N := ["ways", "old", "new", "at", "way"]) (sc := defScope s_changes_day) (by decide +kernel))
      (fun _ _ _ _ _ => pg_tup rfl (pgs_cons (pg_name (i := 3) nd rfl (Or.inl rfl)) (pgs_cons (pg_name (i := 4) nd rfl (Or.inl rfl)) pgs_nil))) (fun _ _ _ _ _ => pts_nil) (fun _ _ _ _ _ => pe_and (pe_cmpR op_eq (pv 4) pe_str (nomark _)) (pe_one (pe_cmpR op_ne (pe_ix ix_tup (pv 1) (pv 3) (fun _ _ => rfl)) (pe_ix ix_tup (pv 2) (pv 3) (fun _ _ => rfl)) (nomark _))))) pa_nil)))), ?_⟩
    refine ⟨_, rfl, l, _, rfl, hl, fun D hD => lc_build (walk_enum (K := K) (a := l) (xs := ws.map V.str)) hD (fun i ys R => Same H R ∧ ys = (List.range i).map fun j => V.bl (dif ws o n j)) ⟨Same.refl H, rfl⟩ (fun _ _ _ _ p => (p.1.trans cd_sub).seq hl) ?_ ?_⟩
    · rintro i ys y H2 H2' hi e ly ⟨sm, rfl⟩ ⟨T, x1, y1, rfl, nT, rfl, e1, e2⟩
      rw [List.length_map] at hi
      cases e1
      obtain ⟨z, rfl, e3⟩ := strs_at e2
      have nDT : D ≠ T := ne_of_none e nT
      have s2 : Same H (cd D (upd H2 T (.tup [.int (i : Nat), .str z]))) := sm.trans (cd_same (same_new nT))
      have ho : (o.map Fv.v)[i]? = some (o[i]'(by omega)).v := map_at (by omega)
      have hn : (n.map Fv.v)[i]? = some (n[i]'(by omega)).v := map_at (by omega)
      refine ⟨T, _, rfl, SqT.of upd_same, rfl, _, _, rfl, _, _, rfl, rfl, rfl, yes ?_⟩
      refine ⟨_, rfl, rfl, _, rfl, ?_⟩
      have ew : ws.getD i Str.empty = z := by rw [List.getD_eq_getElem?_getD, e3]; rfl
      have add : ∀ b, dif ws o n i = b → ∃ acc, (upd H2 T (.tup [.int (i : Nat), .str z])) D = some (.lst acc) ∧ acc.length < sizeLine ∧ LcNx D (fun i ys R => Same H R ∧ ys = (List.range i).map fun j => V.bl (dif ws o n j)) (i + 1) (upd (upd H2 T (.tup [.int (i : Nat), .str z])) D (.lst (acc ++ [V.bl b]))) := fun b hb =>
        LcNx.add (by rw [upd_ne nDT]; exact e) ly (by omega) ⟨s2, by rw [← hb, List.range_succ, List.map_append]; rfl⟩
      by_cases c : z = "day"
      · rw [decide_eq_true (congrArg V.str c)]
        refine iteT ⟨_, rfl, _, rfl, a, _, _, _, rfl, rfl, Same.seqT (s2.trans cd_sub) ha, atI_nat ho, _, rfl, _, rfl, b, _, _, _, rfl, rfl, Same.seqT (s2.trans cd_sub) hb, atI_nat hn, Fv.scal _ _, ?_⟩
        rw [Fv.ne]
        refine add _ ?_
        unfold dif
        rw [ew, decide_eq_true c, Bool.true_and]
        have q1 : o.getD i (.i 0) = o[i]'(by omega) := by simp [List.getD_eq_getElem?_getD, show i < o.length by omega]
        have q2 : n.getD i (.i 0) = n[i]'(by omega) := by simp [List.getD_eq_getElem?_getD, show i < n.length by omega]
        rw [q1, q2]
      · rw [decide_eq_false (fun q => c (by injection q))]
        refine iteF (add _ ?_)
        unfold dif
        rw [ew, decide_eq_false c, Bool.false_and]
    · rintro ys H2 e ly ⟨sm, rfl⟩
      rw [List.length_map] at e
      refine ⟨D, (List.range ws.length).map (dif ws o n), rfl, SqL.of (by rw [List.map_map]; exact e), ?_⟩
      have e1 : ((List.range ws.length).map (dif ws o n)).any id = chg ws o n := by
        unfold chg
        rw [List.any_map]
        rfl
      rw [e1]
      exact k H2 (sm.trans cd_sub)
end
end Kd

namespace Kd
open PySem PySem.Spec PyProof.Rows L2
section
variable {P : Program} {w : World} {K : PySem.W.Frag} {mg : Str → Option Value} {base : Heap} {f : Addr} {fd : FuncData}
/-! ### opening_kinds -/
def nxt (ws : List Str) (p : Kind × Kind) : Bool := chg ws p.1.2 p.2.2
def opn (ws : List Str) (ks : List Kind) : List Kind := ks.take 1 ++ ((ks.zip (ks.drop 1)).filter (nxt ws)).map (·.2)
def spOpen (K : PySem.W.Frag) : Sp := fun vs H Q _ => ∃ (l m : Addr) (ws : List Str) (ks : List Kind), vs = [.ref l, .ref m] ∧ SqL K H l (ws.map V.str) ∧ KindsAt K H m ks ∧ (∀ k ∈ ks, k.2.length = ws.length) ∧ ws.length ≤ 5 ∧ ks.length ≤ 4000 ∧
  ∀ r ys H', H' r = some (.lst ys) → Paired (KindAt K H') ys (opn ws ks) → Same H H' → Q (.ref r) H'
theorem sc_open : FnScope ["ways", "ordered", "openers", "ahead", "kind"] ["ways", "ordered"] (defScope s_opening_kinds) := ⟨rfl, rfl, rfl, by decide +kernel, rfl, by decide +kernel, by decide +kernel⟩
theorem kind_list {H : Hp} {l : Addr} {L : List V} {y : V} {k : Kind} (hl : H l = some (.lst L)) : KindAt K H y k → KindAt K (cd l H) y k := fun ⟨p, q, h1, h2, h3⟩ => ⟨p, q, h1, seqT_list0 hl h2, seqT_list0 hl h3⟩
theorem kind_store {H : Hp} {l : Addr} {L : List V} {o : HO} {y : V} {k : Kind} (hl : H l = some (.lst L)) (h : KindAt K H y k) : KindAt K (upd H l o) y k :=
  (kind_list hl h).same fun b u e => by rw [upd_ne (ct_ne e).1]; exact cd_sub _ _ e
theorem paired_take {α β : Type} {R : α → β → Prop} : ∀ (n : Nat) {l : List α} {m : List β}, Paired R l m → Paired R (l.take n) (m.take n)
  | 0, _, _, _ => .nil
  | n + 1, _, _, .nil => .nil
  | n + 1, _, _, .cons h t => .cons h (paired_take n t)
theorem cut1 (xs : List V) : cutV xs none (some 1) = xs.take 1 := by
  unfold cutV
  rw [HT.sIx_none]
  have e : HT.sIx xs.length xs.length (some ((1 : Nat) : Int)) = min 1 xs.length := HT.sIx_nat _ _ _
  have e2 : HT.sIx xs.length xs.length (some 1) = min 1 xs.length := e
  rw [e2]
  cases xs with
  | nil => rfl
  | cons x r => simp
theorem cutR (xs : List V) : cutV xs (some 1) none = xs.drop 1 := by
  unfold cutV
  rw [HT.sIx_none]
  have e : HT.sIx xs.length 0 (some ((1 : Nat) : Int)) = min 1 xs.length := HT.sIx_nat _ _ _
  have e2 : HT.sIx xs.length 0 (some 1) = min 1 xs.length := e
  rw [e2]
  cases xs with
  | nil => rfl
  | cons x r => simp
theorem ok_open {fC : Addr} {fdC : FuncData} (F : FnP K "opening_kinds" "opening_kinds" s_opening_kinds f fd) (GC : FnOk P w K mg base CX0 1 fC fdC ["ways", "old", "new"] (spChg K)) (kC : PySem.W.keepIn K (.ref fC) = true) (bC : Binds K fdC ["ways", "old", "new"] []) (gC : mg "changes_day" = some (.ref fC)) (gZ : mg "zip" = none) :
    FnOk P w K mg base CX0 2 f fd ["ways", "ordered"] (spOpen K) := by
  refine F.ok sc_open (fun vs H Q E h => ?_) (fun cdv A outer s H vs Q E hr h => ?_)
  · obtain ⟨l, m, ws, ks, rfl, _⟩ := h
    rfl
  · obtain ⟨l, m, ws, ks, rfl, hl, ⟨xs, hm, hp⟩, hk, lw, lk, k⟩ := h
    have nd := sc_open.nd
    have hlen := hp.length
    refine ⟨_, PSs.nox (pss_cons (ps_set (i := 2) nd rfl (Or.inl rfl) (pe_slice sl_list (pv 1) po_none (po_some pe_int)))
      (pss_cons (ps_for PassesOwn.never rfl (pi_zip rfl gZ (pa_cons (pv 1) (pa_cons (pe_slice sl_list (pv 1) (po_some pe_int) po_none) pa_nil))) (pg_tup rfl (pgs_cons (pg_name (i := 3) nd rfl (Or.inl rfl)) (pgs_cons (pg_name (i := 4) nd rfl (Or.inl rfl)) pgs_nil)))
        (pss_one (ps_if (pt_val (pe_call GC hr rfl gC kC bC .nil pass0 (pa_cons (pv 0) (pa_cons (pe_ix ix_tup (pv 3) pe_int (fun _ _ => rfl)) (pa_cons (pe_ix ix_tup (pv 4) pe_int (fun _ _ => rfl)) pa_nil)))))
          (pss_one (ps_expr (pe_bm PySem.F.plainAttrs_list PySem.F.slot_list_append PySem.F.type_list_append mt_append (pv 2) (pa_cons (pv 4) pa_nil)))) pss_nil)))
      (pss_one (ps_ret (pv 2))))), ?_⟩
    refine ⟨_, rfl, _, rfl, m, xs, rfl, hm, fun r nr => ?_⟩
    rw [cut1]
    have s1 : Same H (upd H r (.lst (xs.take 1))) := same_new nr
    refine ⟨_, rfl, _, rfl, _, rfl, m, xs, rfl, s1.seq hm, fun z nz => ?_⟩
    rw [cutR]
    have nrz : r ≠ z := ne_of_none upd_same nz
    have s2 : Same (upd H r (.lst (xs.take 1))) (upd (upd H r (.lst (xs.take 1))) z (.lst (xs.drop 1))) := same_new nz
    have hzr : cd r (upd (upd H r (.lst (xs.take 1))) z (.lst (xs.drop 1))) z = some (.lst (xs.drop 1)) := cd_of upd_same nrz.symm
    have s02 : Same H (cd r (upd (upd H r (.lst (xs.take 1))) z (.lst (xs.drop 1)))) := Same.cd (s1.trans s2) nr
    refine ⟨m, z, xs, xs.drop 1, rfl, (s1.trans s2).seq hm, SqL.of upd_same, ?_⟩
    refine for_it (walk_zip (K := K) (n := (xs.drop 1).length) (by rw [List.length_drop]; omega)) (fun i σ H2 => ∃ (ys : List V) (u v : Option V), σ = [some (.ref l), some (.ref m), some (.ref r), u, v] ∧ H2 r = some (.lst ys) ∧ Paired (KindAt K H2) ys (ks.take 1 ++ (((ks.zip (ks.drop 1)).take i).filter (nxt ws)).map (·.2)) ∧ ys.length ≤ i + 1 ∧ Same (cd r (upd (upd H r (.lst (xs.take 1))) z (.lst (xs.drop 1)))) (cd r H2))
      ⟨xs.take 1, _, _, rfl, s2 _ _ upd_same, ?_, by rw [List.length_take]; omega, Same.refl _⟩ (fun i σ H2 _ ⟨_, _, _, _, _, _, _, s3⟩ => ⟨((s02.trans s3).trans cd_sub).seq hm, SqL.of (cd_sub _ _ (s3 _ _ hzr))⟩) ?_ ?_
    · rw [List.take_zero, List.filter_nil, List.map_nil, List.append_nil]
      exact paired_take 1 (PySem.Paired.mono (fun _ _ => KindAt.same (s1.trans s2)) hp)
    · rintro i y σ H2 H3 hi ⟨ys, u, v, rfl, h2, p2, ly, s3⟩ ⟨T, x1, y1, rfl, nT, rfl, e1, e2⟩
      rw [List.length_drop] at hi
      have e1 : xs[i]? = some x1 := e1
      have e2 : (xs.drop 1)[i]? = some y1 := e2
      rw [List.getElem?_drop] at e2
      obtain ⟨k1, q1, p, q, rfl, a1, a2⟩ := paired_at hp e1
      obtain ⟨k2, q2, p', q', rfl, b1, b2⟩ := paired_at hp e2
      have nrT : r ≠ T := ne_of_none h2 nT
      have s4 : Same H2 (upd H2 T (.tup [.ref p, .ref p'])) := same_new nT
      have s04 : Same H (upd H2 T (.tup [.ref p, .ref p'])) := ((s02.trans s3).trans cd_sub).trans s4
      refine ⟨T, _, rfl, SqT.of upd_same, rfl, _, _, rfl, _, _, rfl, rfl, ?_⟩
      have n1 := hk k1 (List.mem_of_getElem? q1)
      have n2 := hk k2 (List.mem_of_getElem? q2)
      refine ⟨_, rfl, _, rfl, p, _, _, _, rfl, rfl, Same.seqT s04 a1, atI_nat (j := 1) rfl, _, rfl, p', _, _, _, rfl, rfl, Same.seqT s04 b1, atI_nat (j := 1) rfl, l, q, q', ws, k1.2, k2.2, rfl, s04.seq hl, Same.seqT s04 a2, Same.seqT s04 b2, n1, n2, lw, fun H5 s5 => ⟨_, rfl, ?_⟩⟩
      have s25 := s4.trans s5
      have h5 := s25 _ _ h2
      have p5 : Paired (KindAt K H5) ys _ := PySem.Paired.mono (fun _ _ => KindAt.same s25) p2
      have g1 : i < (ks.zip (ks.drop 1)).length := by rw [List.length_zip, List.length_drop]; omega
      have g2 : (ks.zip (ks.drop 1))[i] = (k1, k2) := by
        obtain ⟨c1, c2⟩ := List.getElem?_eq_some_iff.mp q1
        obtain ⟨c3, c4⟩ := List.getElem?_eq_some_iff.mp q2
        rw [List.getElem_zip, List.getElem_drop, c2]
        have c5 : ks[1 + i]'(by omega) = k2 := c4
        rw [c5]
      have et : ((ks.zip (ks.drop 1)).take (i + 1)).filter (nxt ws) = ((ks.zip (ks.drop 1)).take i).filter (nxt ws) ++ [(k1, k2)].filter (nxt ws) := by
        rw [List.take_succ_eq_append_getElem g1, List.filter_append, g2]
      by_cases c : chg ws k1.2 k2.2 = true
      · rw [c]
        refine iteT ⟨_, rfl, .inl ⟨rfl, _, SqL.of h5⟩, _, rfl, r, _, _, rfl, rfl, h5, Nat.lt_of_le_of_lt (by omega : ys.length ≤ 4000) (by decide), ?_⟩
        refine ⟨ys ++ [.ref p'], _, _, rfl, upd_same, ?_, by rw [List.length_append]; show ys.length + 1 ≤ i + 1 + 1; omega, ?_⟩
        · rw [et, List.filter_cons_of_pos (by exact c), List.filter_nil, List.map_append, ← List.append_assoc]
          exact PySem.Paired.snoc (PySem.Paired.mono (fun _ _ => kind_store h5) p5) (kind_store h5 ⟨p', q', rfl, Same.seqT (s04.trans s5) b1, Same.seqT (s04.trans s5) b2⟩)
        · rw [cd_upd]
          exact s3.trans (cd_same s25)
      · have c : chg ws k1.2 k2.2 = false := by simpa using c
        rw [c]
        refine iteF ⟨ys, _, _, rfl, h5, ?_, by omega, s3.trans (cd_same s25)⟩
        rw [et, List.filter_cons_of_neg (by show ¬ chg ws k1.2 k2.2 = true; rw [c]; decide), List.filter_nil, List.append_nil]
        exact p5
    · rintro σ H2 ⟨ys, u, v, rfl, h2, p2, ly, s3⟩
      have e : (ks.zip (ks.drop 1)).take (xs.drop 1).length = ks.zip (ks.drop 1) := List.take_of_length_le (by rw [List.length_zip, List.length_drop, List.length_drop]; omega)
      rw [e] at p2
      exact ⟨_, rfl, k r ys H2 h2 p2 ((s02.trans s3).trans cd_sub)⟩
/-! ### last_and_unlike -/
def optD : Option Fv → PyData
  | none => .none
  | some a => a.d
def optV : Option Fv → V
  | none => .non
  | some a => a.v
theorem optV_dp {H : Hp} (a : Option Fv) : Dp K H (optV a) (optD a) := by
  cases a
  · exact .non
  · exact Fv.dp _
/-- the last one, and the last one that is unlike it -/
def unl (cs : List Fv) : Option Fv × Option Fv := match cs.getLast? with
  | none => (none, none)
  | some l => (some l, (cs.filter fun c => !decide (c = l)).getLast?)
def spLast (K : PySem.W.Frag) : Sp := fun vs H Q _ => ∃ (l : Addr) (cs : List Fv), vs = [.ref l] ∧ SqL K H l (cs.map Fv.v) ∧ cs.length ≤ 4000 ∧ ∀ r H', Dp K H' (.ref r) (.tuple [optD (unl cs).1, optD (unl cs).2]) → Same H H' → Q (.ref r) H'
theorem sc_last : FnScope ["column", "last", "value", "unlike"] ["column"] (defScope s_last_and_unlike) := ⟨rfl, rfl, rfl, by decide +kernel, rfl, by decide +kernel, by decide +kernel⟩
theorem atI_end {α : Type} {xs : List α} {a : α} (h : xs.getLast? = some a) : atI xs (-1) = some a := by
  obtain ⟨r, rfl⟩ := List.getLast?_eq_some_iff.mp h
  exact atI_last r a
theorem last_map {cs : List Fv} : (cs.map Fv.v).getLast? = cs.getLast?.map Fv.v := List.getLast?_map
theorem ok_last (F : FnP K "last_and_unlike" "last_and_unlike" s_last_and_unlike f fd) : FnOk P w K mg base CX0 1 f fd ["column"] (spLast K) := by
  refine F.ok sc_last (fun vs H Q E h => ?_) (fun cdv A outer s H vs Q E hr h => ?_)
  · obtain ⟨l, cs, rfl, _⟩ := h
    rfl
  · obtain ⟨l, cs, rfl, hl, lc, k⟩ := h
    have nd := sc_last.nd
    refine ⟨_, PSs.nox (pss_cons (ps_if (pt_not (pt_truth (pv 0) (by intro _; rfl))) (pss_one (ps_ret (pe_tup (pa_cons pe_non (pa_cons pe_non pa_nil))))) pss_nil)
      (pss_cons (ps_set (i := 1) nd rfl (Or.inr rfl) (pe_ix ix_list (pv 0) (pe_un un_neg pe_int) (fun _ _ => rfl)))
      (pss_cons (ps_setLc (i := 3) (own := [("value", 2)]) (g := gName 2) (tt := tTest (tOp rNe (tVar 2) (tVar 1))) rfl nd rfl rfl (sw_true rfl rfl rfl (by decide +kernel)) (pi_list (pv 0)) (blkOk_by (own := [("value", 2)]) (N := ["column", "last", "value", "unlike"]) (sc := defScope s_last_and_unlike) (by decide +kernel))
        (fun _ _ _ _ _ => pg_name (i := 2) nd rfl (Or.inl rfl)) (fun _ _ _ _ _ => pts_one (pt_cmpR op_ne (pv 2) (pv 1) (nomark _))) (fun _ _ _ _ _ => pv 2))
      (pss_one (ps_ret (pe_tup (pa_cons (pv 1) (pa_cons (pe_ifExp (pt_truth (pv 3) (by intro _; rfl)) (pe_ix ix_list (pv 3) (pe_un un_neg pe_int) (fun _ _ => rfl)) pe_non) pa_nil)))))))), ?_⟩
    refine ⟨_, rfl, _, .inl ⟨_, hl, rfl⟩, ?_⟩
    cases hc : cs.getLast? with
    | none =>
      have e0 : cs = [] := List.getLast?_eq_none_iff.mp hc
      subst e0
      refine iteT ⟨by show 2 ≤ sizeLine; decide, fun t nt => ?_⟩
      exact k t _ (.tup (SqT.of upd_same) (.cons .non (.cons .non .nil))) (same_new nt)
    | some a =>
      have ne : (!(cs.map Fv.v).isEmpty) = true := by
        cases cs with
        | nil => cases hc
        | cons _ _ => rfl
      rw [ne]
      refine iteF ⟨_, rfl, _, rfl, l, _, _, _, rfl, rfl, hl, atI_end (by rw [last_map, hc]; rfl), ?_⟩
      refine ⟨_, rfl, l, rfl, ⟨_, hl⟩, fun D hD => lc_build (walk_list (K := K) (a := l) (xs := cs.map Fv.v)) hD (fun i ys R => R = H ∧ ys = ((cs.take i).filter fun c => !decide (c = a)).map Fv.v) ⟨rfl, rfl⟩ (fun i ys H2 _ p => (cd_is0 p.1).seq hl) ?_ ?_⟩
      · rintro i ys y H2 H2' hi e ly ⟨ec, rfl⟩ ⟨rfl, hy⟩
        rw [List.length_map] at hi
        rw [map_at hi] at hy
        cases hy
        refine ⟨rfl, _, rfl, _, rfl, Fv.scal _ _, _, rfl, ?_⟩
        rw [Fv.ne]
        have et : (cs.take (i + 1)).filter (fun c => !decide (c = a)) = (cs.take i).filter (fun c => !decide (c = a)) ++ [cs[i]].filter (fun c => !decide (c = a)) := by
          rw [List.take_succ_eq_append_getElem hi, List.filter_append]
        by_cases c : cs[i] = a
        · rw [decide_eq_true c]
          refine iteF (LcNx.skip e ly ⟨ec, ?_⟩)
          rw [et, List.filter_cons_of_neg (by simp [c]), List.filter_nil, List.append_nil]
        · rw [decide_eq_false c]
          refine iteT ⟨_, rfl, LcNx.add e ly (by omega) ⟨ec, ?_⟩⟩
          rw [et, List.filter_cons_of_pos (by simp [c]), List.filter_nil, List.map_append]
          rfl
      · rintro ys H2 e ly ⟨ec, rfl⟩
        rw [List.length_map, List.take_length] at e
        have s2 : Same H H2 := cd_is0 ec
        refine ⟨_, rfl, _, rfl, _, .inl ⟨_, SqL.of e, rfl⟩, ?_⟩
        have eu : unl cs = (some a, (cs.filter fun c => !decide (c = a)).getLast?) := by unfold unl; rw [hc]
        rw [eu] at k
        cases hf : (cs.filter fun c => !decide (c = a)).getLast? with
        | none =>
          rw [hf] at k
          have e0 := List.getLast?_eq_none_iff.mp hf
          rw [e0]
          refine iteF ⟨by show 2 ≤ sizeLine; decide, fun t nt => ?_⟩
          exact k t _ (.tup (SqT.of upd_same) (.cons (Fv.dp a) (.cons .non .nil))) (s2.trans (same_new nt))
        | some b =>
          rw [hf] at k
          have ne2 : (!((cs.filter fun c => !decide (c = a)).map Fv.v).isEmpty) = true := by
            cases hq : cs.filter fun c => !decide (c = a) with
            | nil => rw [hq] at hf; cases hf
            | cons _ _ => rfl
          rw [ne2]
          refine iteT ⟨_, rfl, _, rfl, D, _, _, _, rfl, rfl, SqL.of e, atI_end (by rw [last_map, hf]; rfl), by show 2 ≤ sizeLine; decide, fun t nt => ?_⟩
          exact k t _ (.tup (SqT.of upd_same) (.cons (Fv.dp a) (.cons (Fv.dp b) .nil))) (s2.trans (same_new nt))
end
end Kd

/-! sorted(xs, key=lambda x: x[0]) of tuples whose first items are whole numbers -/
namespace KdLam
open PySem PySem.Spec PyProof.Rows L2
abbrev itemBody (x : Str) (p1 p2 p3 : Pos) (j : Nat) : Expr := .Subscript (.Name x p1) (.Constant (.int 0) j p2) p3
section
variable {prog : Program} {w : World} {A : Around} {s : Shared} {E : Value → Shared → Prop}
/-- the lambda, called with a tuple -/
theorem lam_item {x qual : Str} {params : Arguments} {p1 p2 p3 : Pos} {j : Nat} {scope : Scope} {cl : List (Str × Addr)} {pm ctv : Value} {c f t : Addr} {its : List Value} {i : Int} {tk : Tok}
    (ho : s.heap.get? f = some (PySem.W.kla_obj "<lambda>" qual params (itemBody x p1 p2 p3 j) scope cl pm c ctv)) (hcd : s.heap.CodeRec (.ref c) qual) (hlim : s.heap.NoLimit) (hroom : A.depth < recursionLimit)
    (hbind : ∀ v, bindArgs (PySem.W.kla_fn "<lambda>" qual params (itemBody x p1 p2 p3 j) scope cl pm (.ref c) ctv) ⟨[v], []⟩ = pure [(x, v)]) (hco : scope.isCoroutine = false) (hgen : scope.isGenerator = false) (hk : scope.kind = .function) (hx : scope.names.lookup x = some .local) (hcell : ∀ y ∈ scope.names, y.2 ≠ .cell)
    (hd : (x == ("__debug__" : Str)) = false) (hcdn : (x == ("__classdict__" : Str)) = false) (ht : IsTup s.heap t its.toArray) (hi : its[0]? = some (.int i tk)) (hz : its.length ≤ sizeLine) :
    wpAny (model prog w) A (call (.ref f) [.ref t]) (fun v s2 => ∃ h2 t2, s2 = { s with heap := h2, toks := t2 } ∧ (∀ b o, s.heap.get? b = some o → h2.get? b = some o) ∧ v = .int i tk) E s := by
  refine wpAny_call (PySem.W.kla_callFunE hroom ho rfl hco hgen rfl hcd ?_)
  rw [hbind]
  refine wpAny_pure (wpAny_newFunctionEnv hcell (fun y hy => ?_) (fun h1 hns hsb => ⟨hlim.fresh _ hsb, ?_⟩) hk)
  · rw [List.mem_singleton.mp hy]
    exact hx
  · show codeAny _ _ (.expr (itemBody x p1 p2 p3 j) (PySem.W.envX qual scope s.heap.objs.size f (.ref c) cl)) _ _
    have kp : ∀ b o, s.heap.get? b = some o → h1.get? b = some o := fun b o e => hsb.extBut b o (Nat.ne_of_lt (Heap.lt_size e)) (Heap.get?_push_of_some _ e)
    refine PySem.W.kla_codeExpr (Subscript_ (wpAny_Name (wpAny_loadName_local hk hx hns (v := .ref t) (by simp) ?_) hd))
    refine wpAny_Constant_int ?_
    have pl : IsTup h1 t its.toArray := by
      obtain ⟨o, e, r⟩ := ht
      exact ⟨o, kp _ _ e, r⟩
    have hn := line63
    have hl0 : 0 < its.length := by
      rcases Nat.eq_zero_or_pos its.length with e | e
      · rw [List.length_eq_zero_iff.mp e] at hi
        cases hi
      · exact e
    refine subscriptTail_builtinR (x := .int i tk) (T := "tuple") ?_ slot_tuple_getitem.lookup (getItem_tuple (j := 0) (Q := fun r s2 => r = .int i tk ∧ (∃ h2 t2, s2 = { s with heap := h2, toks := t2 } ∧ (∀ b o, s.heap.get? b = some o → h2.get? b = some o) ∧ r = .int i tk)) pl (by omega) (by omega) (by simp [seqIndex?, hl0]) (by simpa using hi) ⟨rfl, h1, _, rfl, kp, rfl⟩)
    obtain ⟨o, e, r, _⟩ := pl
    exact ⟨o, e, r⟩
end
open LamX
/-- the items with their first ones -/
def Firsts (K : PySem.W.Frag) (H : Hp) (bs : List (Int × V)) : Prop := ∀ b ∈ bs, ∃ (t : Addr) (ys : List V), b.2 = .ref t ∧ SqT K H t (.int b.1 :: ys)
def byFirst (bs : List (Int × V)) : List (Int × V) := bs.mergeSort fun a b => decide (a.1 ≤ b.1)
def tSortLam (K : PySem.W.Frag) (T : List (Addr × Str)) (t : TA) : TE := fun σ H Q => t σ H fun vs H1 => ∃ (l : Addr) (bs : List (Int × V)), vs = [.ref l] ∧ Tabs T H1 ∧ bs.length ≤ 4000 ∧
  ∀ H2, ExtN H1 H2 → Tabs T H2 → SqL K H2 l (bs.map (·.2)) ∧ Firsts K H2 bs ∧ ∀ p, H2 p = none → Q (.ref p) (upd H2 p (.lst ((byFirst bs).map (·.2))))
theorem each_of {R : Value → Int × V → Prop} : ∀ {us : List Value} {bs : List (Int × V)}, Vals (bs.map (·.2)) us → (∀ b ∈ bs, ∀ u, RelV b.2 u → R u b) → PySem.W.EachIs R us bs
  | _, [], .nil, _ => .nil
  | _, b :: bs, .cons r t, h => .cons (h b (List.mem_cons_self ..) _ r) (each_of t fun c hc => h c (List.mem_cons_of_mem _ hc))
theorem vals_of {R : Value → Int × V → Prop} (hR : ∀ u b, R u b → RelV b.2 u) : ∀ {us : List Value} {bs : List (Int × V)}, PySem.W.EachIs R us bs → Vals (bs.map (·.2)) us
  | _, _, .nil => .nil
  | _, _, .cons r t => .cons (hR _ _ r) (vals_of hR t)
theorem pe_sortLam {X : Cx} {e : Expr} {t : TA} {p pos lpos kpos p1 p2 p3 : Pos} {j : Nat} {x : Str} {params : Arguments} {scope : Scope} {T : List (Addr × Str)} {c P : Addr} (hg : Gl X "sorted") (hm : X.mg "sorted" = none) (hr : Room 1 X.A) (ha : PA X [e] t)
    (TB : TabB X.base X.mg c P) (hcode : X.env.code = .ref c) (hmT : (P, X.env.qual ++ "<lambda>") ∈ T) (hu : ∀ p ∈ T, p.1 = P → p.2 = X.env.qual ++ "<lambda>") (hdef : defaultsOf params X.env = ([], [])) (hcl : cloFrom X.env.cells scope.names [] = [])
    (hbind : ∀ pm c ctv v, bindArgs (PySem.W.kla_fn "<lambda>" (X.env.qual ++ "<lambda>") params (itemBody x p1 p2 p3 j) scope [] pm (.ref c) ctv) ⟨[v], []⟩ = pure [(x, v)]) (hco : scope.isCoroutine = false := by rfl) (hgen : scope.isGenerator = false := by rfl) (hk : scope.kind = .function := by rfl) (hx : scope.names.lookup x = some .local := by rfl)
    (hcell : ∀ y ∈ scope.names, y.2 ≠ .cell ∧ y.2 ≠ .free) (hd : (x == ("__debug__" : Str)) = false := by decide) (hcdn : (x == ("__classdict__" : Str)) = false := by decide)
    (hst : backTo pos (starEach [e] X.env) = (false, eval e X.env) :: backTo pos (starEach [] X.env) := by rfl) (hpl : (backTo pos (starEach [e] X.env)).any (·.1) = false := by rfl) :
    PE X (.Call (.Name "sorted" p) [e] [⟨some "key", .Lambda params (itemBody x p1 p2 p3 j) scope lpos, kpos⟩] pos) (tSortLam X.K T t) := by
  refine ⟨fun pins s σ H Q I h => ?_⟩
  refine wpAny_Call_Name_kw (ld_blt (u := .builtin "sorted") I hg hm (by decide +kernel) ?_ (by decide) (by decide))
  refine PyProof.Rows.callWith_kw (thn (ha.run pos pins s σ H _ I h) fun us s1 ⟨vs, H1, I1, r1, l, bs, e1, hT, hl, q1⟩ => ?_) hst hpl rfl rfl
  subst e1
  cases r1 with
  | cons r1 r2 =>
  cases r2
  cases r1
  show wpAny _ _ (evalAll [do let v ← eval (.Lambda params (itemBody x p1 p2 p3 j) scope lpos) X.env; standAt pos; pure v]) _ _ s1
  refine wpAny_evalAll_cons (wpAny_bind (lam_make2 I1 TB hcode hmT hu hT hdef (fun y hy hf => absurd hf (hcell y hy).2) fun f c1 pm ctv H2 s2 I2 eN T2 hf hfn hfr hco2 => wpAny_bind (wpAny_standAt (wpAny_pure (wpAny_evalAll_nil ?_)))))
  show wpAny _ _ (call (.builtin "sorted") [.ref l] [(Str.ofString "key", .ref f)]) _ _ s2
  obtain ⟨hs2, hf2, q2⟩ := q1 H2 eN T2
  rw [hcl] at hf
  obtain ⟨its, rv, pl, hz⟩ := I2.list hs2
  have hlen : its.length = bs.length := by rw [← rv.length, List.length_map]
  have hcr : s2.heap.CodeRec (.ref c1) (X.env.qual ++ "<lambda>") := by
    obtain ⟨⟨oc, us, t, a1, a2, a3⟩, _⟩ := I2.hok c1 _ hco2
    exact ⟨c1, oc, us, t, rfl, a1, a2, a3⟩
  refine PySem.W.sorted_key_data (R := fun u (b : Int × V) => RelV b.2 u ∧ b ∈ bs) (bs := bs) (b := false) (fun b : Int × V => .int b.1) pl.isList (each_of rv fun b hb u r => ⟨r, hb⟩) (PySem.W.AllAlike.of fun _ _ => rfl) (PySem.W.Sortable.others fun _ => ⟨(fun z => nomatch z), (fun _ z => nomatch z)⟩)
    (by have := hl; exact Nat.le_trans this (by decide)) (fun b _ => ?_) (ksk_s1 _ _) (fun _ => ksk_l1 _ _) (fun _ => ksk_t1 _ _) (fun v b hR hb hp tk kp => ?_) fun out cc hp tk kp hfr2 hD ho eo => ?_
  · have := hr.un
    show X.A.units + 2 + 0 < cLine
    omega
  · obtain ⟨t1, ys, e1, e2⟩ := hf2 b hb
    obtain ⟨hR1, _⟩ := hR
    rw [e1] at hR1
    cases (show v = Value.ref t1 from hR1)
    obtain ⟨it2, rt, ⟨o2, a1, a2⟩, z2⟩ := I2.tuple e2
    cases rt with
    | @cons _ u _ us ru rr =>
    obtain ⟨tk2, rfl⟩ := ru
    have hlim : hp.NoLimit := I2.nolimit.keeps kp
    have hcr2 : hp.CodeRec (.ref c1) (X.env.qual ++ "<lambda>") := by
      obtain ⟨c3, oc, us3, t3, b1, b2, b3⟩ := hcr
      exact ⟨c3, oc, us3, t3, b1, kp _ _ b2, b3⟩
    have hz2 : (Value.int b.1 tk2 :: us).length ≤ sizeLine := by
      have := rr.length
      rw [List.length_cons, ← this]
      exact z2
    refine wpAny_mono (lam_item (s := { s2 with heap := hp, toks := tk }) (A := X.A.in1.in1) (i := b.1) (tk := tk2) (its := Value.int b.1 tk2 :: us) (kp _ _ hf) hcr2 hlim (by have := hr.dp; show X.A.depth < _; omega) (hbind pm c1 ctv) hco hgen hk hx (fun y hy => (hcell y hy).1) hd hcdn ⟨o2, kp _ _ a1, a2⟩ rfl hz2) (fun v3 s3 q3 => ?_) fun _ _ q => q
    obtain ⟨h3, t3, rfl, k3, rfl⟩ := q3
    exact ⟨h3, t3, rfl, k3, Reads.int _ _⟩
  · rw [PySem.W.dataLe_int (fun b : Int × V => b.1)] at eo
    have rv2 : Vals ((byFirst bs).map (·.2)) out := vals_of (fun u b h => h.1) eo
    have hn : H2 (s2.heap.objs.size + 1) = none := I2.hok.fresh (Nat.le_succ _)
    refine ⟨.ref (s2.heap.objs.size + 1), _, I2.laid (o := .lst ((byFirst bs).map (·.2))) (t' := tk) kp (Nat.le_succ _) ?_, rfl, q2 _ hn⟩
    refine ⟨?_, out, cc, rv2, hD⟩
    rw [rv2.length, ho]
    exact Nat.le_trans hl (by decide)
end KdLam

/-! for a, b, c in zip(xs, ys, zs) over three lists -/
namespace KdZ
open PySem PySem.Spec PyProof.Rows L2
/-- three lists walked together -/
def It3 (K : PySem.W.Frag) (a b c : Addr) : It :=
  ⟨fun i H => ∃ (xs ys zs : List V) (x y z : V), SqL K H a xs ∧ SqL K H b ys ∧ SqL K H c zs ∧ xs[i]? = some x ∧ ys[i]? = some y ∧ zs[i]? = some z,
    fun i H v H' => ∃ T x y z, v = .ref T ∧ H T = none ∧ H' = upd H T (.tup [x, y, z]) ∧ (∀ xs, SqL K H a xs → xs[i]? = some x) ∧ (∀ ys, SqL K H b ys → ys[i]? = some y) ∧ ∀ zs, SqL K H c zs → zs[i]? = some z,
    fun i H => ∃ xs ys zs : List V, SqL K H a xs ∧ SqL K H b ys ∧ SqL K H c zs ∧ i = min (min xs.length ys.length) zs.length⟩
theorem one {q N : Addr} (h : q < N) : ∀ b ∈ [q], b < N := fun b hb => by rw [List.mem_singleton.mp hb]; exact h
theorem turn3 {P : Program} {w : World} {K : PySem.W.Frag} {elts : List Expr} {kk : Nat} {tpos : Pos} {a b c N : Addr} (la : a < N) (lb : b < N) (lc : c < N) :
    Turn P w K (.Tuple elts kk tpos) (It3 K a b c) [N + 5, N + 3, N + 4, N, N + 1, N + 2] (N + 5) (fun i h => IsZip h (N + 5) (N + 3) (N + 4) .none ∧ IsTupOf3 h (N + 3) (.ref N) (.ref (N + 1)) (.ref (N + 2)) ∧ (∃ a1 a2 a3, IsTupOf3 h (N + 4) a1 a2 a3) ∧ h.IsListIter N a i ∧ h.IsListIter (N + 1) b i ∧ h.IsListIter (N + 2) c i) where
  mem := List.mem_cons_self ..
  obj := fun i h st q hq => by
    obtain ⟨h1, h2, ⟨a1, a2, a3, h3⟩, ⟨o4, e4, _, d4⟩, ⟨o5, e5, _, d5⟩, ⟨o6, e6, _, d6⟩⟩ := st
    have e : q = N + 5 ∨ q = N + 3 ∨ q = N + 4 ∨ q = N ∨ q = N + 1 ∨ q = N + 2 := by simpa using hq
    rcases e with rfl | rfl | rfl | rfl | rfl | rfl
    · exact ⟨_, h1, fun v z => nomatch z⟩
    · exact ⟨_, h2, fun v z => nomatch z⟩
    · exact ⟨_, h3, fun v z => nomatch z⟩
    · exact ⟨o4, e4, fun v z => by rw [d4] at z; cases z⟩
    · exact ⟨o5, e5, fun v z => by rw [d5] at z; cases z⟩
    · exact ⟨o6, e6, fun v z => by rw [d6] at z; cases z⟩
  keep := fun i h h' st k => by
    obtain ⟨h1, h2, ⟨a1, a2, a3, h3⟩, h4, h5, h6⟩ := st
    exact ⟨k _ (by simp) _ h1, k _ (by simp) _ h2, ⟨a1, a2, a3, k _ (by simp) _ h3⟩, h4.at fun o q => k _ (by simp) o q, h5.at fun o q => k _ (by simp) o q, h6.at fun o q => k _ (by simp) o q⟩
  item := by
    intro X hP hw hK hc i pins s σ H E I hf st hg
    subst hP hw hK
    obtain ⟨h1, h2, h3, h4, h5, h6⟩ := st
    obtain ⟨xs, ys, zs, x, y, z, qx, qy, qz, gx, gy, gz⟩ := hg
    obtain ⟨i1, r1, p1, _⟩ := I.list qx
    obtain ⟨i2, r2, p2, _⟩ := I.list qy
    obtain ⟨i3, r3, p3, _⟩ := I.list qz
    obtain ⟨u1, e1, ru1⟩ := r1.get gx
    obtain ⟨u2, e2, ru2⟩ := r2.get gy
    obtain ⟨u3, e3, ru3⟩ := r3.get gz
    have l1 := (List.getElem?_eq_some_iff.mp e1).1
    have l2 := (List.getElem?_eq_some_iff.mp e2).1
    have l3 := (List.getElem?_eq_some_iff.mp e3).1
    have hh : X.A.in1.handled = none := by have := I.ok.hd hc; simpa using this
    have G := GoesN.zip3 (prog := X.prog) (w := X.w) (A := X.A) (elts := elts) (x1 := kk) (pos := tpos) (zip_sep3 (N := N) (fp1 := [a]) (fp2 := [b]) (fp3 := [c]) (one la) (one lb) (one lc)) (Draws.list hh N a (Nat.ne_of_lt la) i1.toArray) (Draws.list hh (N + 1) b (Nat.ne_of_lt (Nat.lt_succ_of_lt lb)) i2.toArray) (Draws.list hh (N + 2) c (Nat.ne_of_lt (Nat.lt_succ_of_lt (Nat.lt_succ_of_lt lc))) i3.toArray)
    refine G.goes i s _ E (by simp; omega) ⟨h1, h2, h3, ⟨h4, p1.isList⟩, ⟨h5, p2.isList⟩, ⟨h6, p3.isList⟩⟩ fun v h' tk hY st' hk htk => ?_
    obtain ⟨T, v1, v2, v3, rfl, hT, a1, a2, a3, ht⟩ := hY
    have b1 : v1 = u1 := by rw [List.getElem?_toArray, e1] at a1; exact (Option.some.inj a1).symm
    have b2 : v2 = u2 := by rw [List.getElem?_toArray, e2] at a2; exact (Option.some.inj a2).symm
    have b3 : v3 = u3 := by rw [List.getElem?_toArray, e3] at a3; exact (Option.some.inj a3).symm
    subst b1 b2 b3
    obtain ⟨s1, s2, s3, ⟨s4, _⟩, ⟨s5, _⟩, ⟨s6, _⟩⟩ := st'
    have hsub : ∀ q ∈ [N + 5, N + 4, N, N + 1, N + 2], q ∈ [N + 5, N + 3, N + 4, N, N + 1, N + 2] := fun q hq => by
      have e : q = N + 5 ∨ q = N + 4 ∨ q = N ∨ q = N + 1 ∨ q = N + 2 := by simpa using hq
      rcases e with rfl | rfl | rfl | rfl | rfl <;> simp
    have new : ObjOk X.prog X.w (upd H T (.tup [x, y, z])) h' T (.tup [x, y, z]) := ⟨by show 3 ≤ sizeLine; decide, [v1, v2, v3], .cons ru1 (.cons ru2 (.cons ru3 .nil)), ht⟩
    have I1 : Inv X pins σ (upd H T (.tup [x, y, z])) { s with heap := h', toks := tk } := I.turnedNew (t' := tk) (ch := [N + 5, N + 4, N, N + 1, N + 2]) hk (fun q hq => hf q (hsub q hq)) hT new
    refine ⟨.ref T, _, I1, rfl, ⟨T, x, y, z, rfl, I.hok.fresh hT, rfl, fun l hl => by rw [I.list_inj hl qx]; exact gx, fun l hl => by rw [I.list_inj hl qy]; exact gy, fun l hl => by rw [I.list_inj hl qz]; exact gz⟩, ⟨s1, s2, s3, s4, s5, s6⟩, fun q hq => ?_⟩
    have hlt : q < s.heap.objs.size := by
      have e : q = N + 5 ∨ q = N + 3 ∨ q = N + 4 ∨ q = N ∨ q = N + 1 ∨ q = N + 2 := by simpa using hq
      obtain ⟨a1, a2, a3, h3⟩ := h3
      rcases e with rfl | rfl | rfl | rfl | rfl | rfl
      · exact Heap.lt_size h1
      · exact Heap.lt_size h2
      · exact Heap.lt_size h3
      · obtain ⟨_, e, _⟩ := h4; exact Heap.lt_size e
      · obtain ⟨_, e, _⟩ := h5; exact Heap.lt_size e
      · obtain ⟨_, e, _⟩ := h6; exact Heap.lt_size e
    rw [upd_ne (Nat.ne_of_lt (Nat.lt_of_lt_of_le hlt hT))]
    exact (hf q hq).1
  done := by
    intro X hP hw hK hc i pins s σ H E I hf st hg
    subst hP hw hK
    obtain ⟨h1, h2, h3, h4, h5, h6⟩ := st
    obtain ⟨xs, ys, zs, qx, qy, qz, hi⟩ := hg
    obtain ⟨i1, r1, p1, _⟩ := I.list qx
    obtain ⟨i2, r2, p2, _⟩ := I.list qy
    obtain ⟨i3, r3, p3, _⟩ := I.list qz
    have hh : X.A.in1.handled = none := by have := I.ok.hd hc; simpa using this
    have G := GoesN.zip3 (prog := X.prog) (w := X.w) (A := X.A) (elts := elts) (x1 := kk) (pos := tpos) (zip_sep3 (N := N) (fp1 := [a]) (fp2 := [b]) (fp3 := [c]) (one la) (one lb) (one lc)) (Draws.list hh N a (Nat.ne_of_lt la) i1.toArray) (Draws.list hh (N + 1) b (Nat.ne_of_lt (Nat.lt_succ_of_lt lb)) i2.toArray) (Draws.list hh (N + 2) c (Nat.ne_of_lt (Nat.lt_succ_of_lt (Nat.lt_succ_of_lt lc))) i3.toArray)
    have en : i = min (min i1.toArray.size i2.toArray.size) i3.toArray.size := by
      rw [List.size_toArray, List.size_toArray, List.size_toArray, ← r1.length, ← r2.length, ← r3.length]
      exact hi
    subst en
    have hsub : ∀ q ∈ [N + 5, N + 4, N, N + 1, N + 2], q ∈ [N + 5, N + 3, N + 4, N, N + 1, N + 2] := fun q hq => by
      have e : q = N + 5 ∨ q = N + 4 ∨ q = N ∨ q = N + 1 ∨ q = N + 2 := by simpa using hq
      rcases e with rfl | rfl | rfl | rfl | rfl <;> simp
    exact G.stops s (fun s2 => Inv X pins σ H s2) E ⟨h1, h2, h3, ⟨h4, p1.isList⟩, ⟨h5, p2.isList⟩, ⟨h6, p3.isList⟩⟩ fun h' tk hk htk => I.turnedL (t' := tk) (ch := [N + 5, N + 4, N, N + 1, N + 2]) hk fun q hq => hf q (hsub q hq)
  self := fun A i s Q E st h => wpAny_pyIter_zip st.1 h
def iZip3 (K : PySem.W.Frag) (ta : TA) : TI := fun σ H R => ta σ H fun vs H1 => ∃ a b c xs ys zs, vs = [.ref a, .ref b, .ref c] ∧ SqL K H1 a xs ∧ SqL K H1 b ys ∧ SqL K H1 c zs ∧ R (It3 K a b c) H1
theorem pi_zip3 {X : Cx} {e e2 e3 : Expr} {ta : TA} {p pos tpos : Pos} {elts : List Expr} {kk : Nat} (hg : Gl X "zip") (hm : X.mg "zip" = none) (ha : PA X [e, e2, e3] ta)
    (hs : starEach [e, e2, e3] X.env = (false, eval e X.env) :: starEach [e2, e3] X.env := by rfl) (hpl : (backTo pos (starEach [e2, e3] X.env)).any (·.1) = false := by rfl) :
    PI X (.Tuple elts kk tpos) (.Call (.Name "zip" p) [e, e2, e3] [] pos) (iZip3 X.K ta) := by
  refine ⟨fun pins s σ H R I h => Call_ (ld_blt I hg hm PyProof.Rows.boot_zip (PyProof.Rows.callWith_type1 (thn (ha.run pos pins s σ H _ I h) fun us s1 ⟨vs, H1, I1, r1, q1⟩ => ?_) hs hpl))⟩
  obtain ⟨a, b, c, xs, ys, zs, rfl, qx, qy, qz, q⟩ := q1
  cases r1 with
  | cons r1 t =>
  cases t with
  | cons r2 t =>
  cases t with
  | cons r3 t =>
  cases t
  cases r1
  cases r2
  cases r3
  obtain ⟨i1, w1, p1, _⟩ := I1.list qx
  obtain ⟨i2, w2, p2, _⟩ := I1.list qy
  obtain ⟨i3, w3, p3, _⟩ := I1.list qz
  refine zip_begins3 (begins_list a i1.toArray) (begins_list b i2.toArray) (begins_list c i3.toArray) p1.isList p2.isList p3.isList fun h' hz hTI hTO g1 g2 g3 hsz hk => wpAny_pyIter_zip hz ?_
  refine ⟨s1.heap.objs.size + 5, [s1.heap.objs.size + 5, s1.heap.objs.size + 3, s1.heap.objs.size + 4, s1.heap.objs.size, s1.heap.objs.size + 1, s1.heap.objs.size + 2], _, _, H1, rfl, I1.kept (t' := s1.toks) hk, turn3 p1.lt p2.lt p3.lt, ⟨hz, hTI, ⟨_, _, _, hTO⟩, ⟨_, g1, rfl, rfl⟩, ⟨_, g2, rfl, rfl⟩, ⟨_, g3, rfl, rfl⟩⟩, fun d hd => ?_, q⟩
  have hle : s1.heap.objs.size ≤ d := by
    have e' : d = s1.heap.objs.size + 5 ∨ d = s1.heap.objs.size + 3 ∨ d = s1.heap.objs.size + 4 ∨ d = s1.heap.objs.size ∨ d = s1.heap.objs.size + 1 ∨ d = s1.heap.objs.size + 2 := by simpa using hd
    rcases e' with z | z | z | z | z | z
    all_goals
      rw [z]
      first | exact Nat.le_add_right _ _ | exact Nat.le_refl _
  exact I1.fpOk hle (I1.hok.fresh hle)
/-- three lists of one length -/
def Y3 (xs ys zs : List V) : Nat → Hp → V → Hp → Prop := fun i H v H' => ∃ T x y z, v = .ref T ∧ H T = none ∧ H' = upd H T (.tup [x, y, z]) ∧ xs[i]? = some x ∧ ys[i]? = some y ∧ zs[i]? = some z
theorem walk_zip3 {K : PySem.W.Frag} {a b c : Addr} {xs ys zs : List V} {n : Nat} (h1 : xs.length = n) (h2 : ys.length = n) (h3 : zs.length = n) : Walk (It3 K a b c) n (fun H => SqL K H a xs ∧ SqL K H b ys ∧ SqL K H c zs) (Y3 xs ys zs) where
  goes := fun i H hi ⟨q1, q2, q3⟩ => ⟨xs, ys, zs, xs[i]'(by omega), ys[i]'(by omega), zs[i]'(by omega), q1, q2, q3, List.getElem?_eq_getElem _, List.getElem?_eq_getElem _, List.getElem?_eq_getElem _⟩
  stops := fun H ⟨q1, q2, q3⟩ => ⟨xs, ys, zs, q1, q2, q3, by omega⟩
  yields := fun i H x H' hi ⟨q1, q2, q3⟩ ⟨T, x1, y1, z1, e1, e2, e3, g1, g2, g3⟩ => ⟨T, x1, y1, z1, e1, e2, e3, g1 _ q1, g2 _ q2, g3 _ q3⟩
end KdZ

namespace Kd
open PySem PySem.Spec PyProof.Rows L2
section
variable {P : Program} {w : World} {K : PySem.W.Frag} {mg : Str → Option Value} {base : Heap} {f : Addr} {fd : FuncData}
/-! ### value_by_way -/
def col (at_ : Nat) (ks : List Kind) : List Fv := ks.map fun k => k.2.getD at_ (.i 0)
def wvD (way : Str) (at_ : Nat) (ks : List Kind) (op : Option (List Fv)) : PyData :=
  if way = "day" then optD (op.map fun o => o.getD at_ (.i 0)) else if way = "before" then .tuple [optD (unl (col at_ ks)).1, optD (unl (col at_ ks)).2] else optD (if way = "first" then (col at_ ks).head? else (col at_ ks).getLast?)
/-- None, or the values that open a version -/
def OpAt (K : PySem.W.Frag) (H : Hp) (o : V) (n : Nat) : Option (List Fv) → Prop
  | none => o = .non
  | some ov => ∃ q, o = .ref q ∧ SqT K H q (ov.map Fv.v) ∧ ov.length = n
theorem OpAt.same {H H' : Hp} {o : V} {n : Nat} (e : Same H H') : ∀ {op : Option (List Fv)}, OpAt K H o n op → OpAt K H' o n op
  | none, h => h
  | some _, ⟨q, h1, h2, h3⟩ => ⟨q, h1, Same.seqT e h2, h3⟩
theorem get_at {l : List Fv} {i : Nat} (h : i < l.length) : l.getD i (.i 0) = l[i] := by simp [List.getD_eq_getElem?_getD, h]
theorem head_at {l : List V} {a : V} (h : l.head? = some a) : l[0]? = some a := by
  cases l with
  | nil => cases h
  | cons b r => exact h
/-! ### day_value -/
def spDayV (K : PySem.W.Frag) : Sp := fun vs H Q _ => ∃ (at_ n : Nat) (o : V) (op : Option (List Fv)), vs = [.int (at_ : Int), o] ∧ OpAt K H o n op ∧ at_ < n ∧ ∀ r, Dp K H r (optD (op.map fun o => o.getD at_ (.i 0))) → Q r H
theorem sc_dayv : FnScope ["at", "opening"] ["at", "opening"] (defScope s_day_value) := ⟨rfl, rfl, rfl, by decide +kernel, rfl, by decide +kernel, by decide +kernel⟩
theorem ok_dayv (F : FnP K "day_value" "day_value" s_day_value f fd) : FnOk P w K mg base CX0 1 f fd ["at", "opening"] (spDayV K) := by
  refine F.ok sc_dayv (fun vs H Q E h => ?_) (fun cdv A outer s H vs Q E hr h => ?_)
  · obtain ⟨at_, n, o, op, rfl, _⟩ := h
    rfl
  · obtain ⟨at_, n, o, op, rfl, ho, ha, k⟩ := h
    refine ⟨_, PSs.nox (pss_one (ps_ret (pe_ifExp (pt_cmp (pc_isN (pv 1))) pe_non (pe_ix ix_tup (pv 1) (pv 0) (fun _ _ => rfl))))), ?_⟩
    cases op with
    | none =>
      have e : o = .non := ho
      subst e
      exact ⟨_, rfl, _, rfl, iteT (k _ .non)⟩
    | some ov =>
      obtain ⟨q, rfl, h2, h3⟩ := ho
      refine ⟨_, rfl, _, rfl, iteF ⟨_, rfl, _, rfl, q, _, _, _, rfl, rfl, h2, atI_nat (map_at (by omega)), ?_⟩⟩
      refine k _ ?_
      show Dp K H _ (ov.getD at_ (.i 0)).d
      rw [get_at (by omega)]
      exact Fv.dp _
/-! ### steady_value -/
def stD (way : Str) (cs : List Fv) : PyData := if way = "before" then .tuple [optD (unl cs).1, optD (unl cs).2] else optD (if way = "first" then cs.head? else cs.getLast?)
theorem wv_day {way : Str} {i : Nat} {ks : List Kind} {op : Option (List Fv)} (h : way = "day") : wvD way i ks op = optD (op.map fun o => o.getD i (.i 0)) := by unfold wvD; rw [if_pos h]
theorem wv_st {way : Str} {i : Nat} {ks : List Kind} {op : Option (List Fv)} (h : ¬ way = "day") : wvD way i ks op = stD way (col i ks) := by unfold wvD stD; rw [if_neg h]
def spStv (K : PySem.W.Frag) : Sp := fun vs H Q _ => ∃ (way : Str) (m : Addr) (cs : List Fv), vs = [.str way, .ref m] ∧ SqL K H m (cs.map Fv.v) ∧ cs.length ≤ 4000 ∧ ∀ r H', Dp K H' r (stD way cs) → Same H H' → Q r H'
theorem sc_stv : FnScope ["way", "column"] ["way", "column"] (defScope s_steady_value) := ⟨rfl, rfl, rfl, by decide +kernel, rfl, by decide +kernel, by decide +kernel⟩
theorem ok_stv {fL : Addr} {fdL : FuncData} (F : FnP K "steady_value" "steady_value" s_steady_value f fd) (GL : FnOk P w K mg base CX0 1 fL fdL ["column"] (spLast K)) (kL : PySem.W.keepIn K (.ref fL) = true) (bL : Binds K fdL ["column"] []) (gL : mg "last_and_unlike" = some (.ref fL)) : FnOk P w K mg base CX0 2 f fd ["way", "column"] (spStv K) := by
  refine F.ok sc_stv (fun vs H Q E h => ?_) (fun cdv A outer s H vs Q E hr h => ?_)
  · obtain ⟨way, m, cs, rfl, _⟩ := h
    rfl
  · obtain ⟨way, m, cs, rfl, hm, lk, k⟩ := h
    have nd := sc_stv.nd
    refine ⟨_, PSs.nox (pss_cons (ps_if (pt_cmpR op_eq (pv 0) pe_str (nomark _)) (pss_one (ps_ret (pe_call GL hr rfl gL kL bL .nil pass0 (pa_cons (pv 1) pa_nil)))) pss_nil)
      (pss_cons (ps_if (pt_not (pt_truth (pv 1) (by intro _; rfl))) (pss_one (ps_ret pe_non)) pss_nil)
      (pss_one (ps_ret (pe_ifExp (pt_cmpR op_eq (pv 0) pe_str (nomark _)) (pe_ix ix_list (pv 1) pe_int (fun _ _ => rfl)) (pe_ix ix_list (pv 1) (pe_un un_neg pe_int) (fun _ _ => rfl))))))), ?_⟩
    refine ⟨_, rfl, rfl, _, rfl, ?_⟩
    by_cases c2 : way = "before"
    · rw [decide_eq_true (congrArg V.str c2)]
      have ev : stD way cs = .tuple [optD (unl cs).1, optD (unl cs).2] := by unfold stD; rw [if_pos c2]
      rw [ev] at k
      exact iteT ⟨_, rfl, m, cs, rfl, hm, lk, fun r H3 d3 s3 => k _ H3 d3 s3⟩
    · rw [decide_eq_false (fun z => c2 (by injection z))]
      have ev : stD way cs = optD (if way = "first" then cs.head? else cs.getLast?) := by unfold stD; rw [if_neg c2]
      rw [ev] at k
      refine iteF ⟨_, rfl, _, .inl ⟨_, hm, rfl⟩, ?_⟩
      cases hc : cs with
      | nil =>
        rw [hc] at k
        have e0 : optD (if way = "first" then ([] : List Fv).head? else ([] : List Fv).getLast?) = .none := by split <;> rfl
        rw [e0] at k
        exact iteT (k _ H .non (Same.refl H))
      | cons b r =>
        rw [← hc]
        have ne : (!(cs.map Fv.v).isEmpty) = true := by rw [hc]; rfl
        rw [ne]
        refine iteF ⟨_, rfl, rfl, _, rfl, ?_⟩
        by_cases c3 : way = "first"
        · rw [decide_eq_true (congrArg V.str c3)]
          rw [if_pos c3, hc] at k
          exact iteT ⟨_, rfl, m, _, _, _, rfl, rfl, hm, atI_nat (j := 0) (by rw [hc]; rfl), k _ H (Fv.dp b) (Same.refl H)⟩
        · rw [decide_eq_false (fun z => c3 (by injection z))]
          rw [if_neg c3] at k
          cases hl : cs.getLast? with
          | none => rw [List.getLast?_eq_none_iff.mp hl] at hc; cases hc
          | some z =>
            rw [hl] at k
            exact iteF ⟨_, rfl, _, rfl, m, _, _, _, rfl, rfl, hm, atI_end (by rw [last_map, hl]; rfl), k _ H (Fv.dp z) (Same.refl H)⟩
/-! ### version_values -/
/-- data without a list in it -/
def NoL : Nat → PyData → Prop
  | 0, _ => False
  | n + 1, .tuple ds => ∀ d ∈ ds, NoL n d
  | _ + 1, .list _ => False
  | _ + 1, .dict _ => False
  | _ + 1, _ => True
theorem optD_nolist (a : Option Fv) (n : Nat) : NoL (n + 1) (optD a) := by
  cases a with
  | none => exact trivial
  | some b => cases b <;> exact trivial
theorem wv_nolist (way : Str) (i : Nat) (ks : List Kind) (op : Option (List Fv)) : NoL 2 (wvD way i ks op) := by
  unfold wvD
  split
  · exact optD_nolist _ 1
  · split
    · intro d hd
      rcases List.mem_cons.mp hd with rfl | hd
      · exact optD_nolist _ 0
      · rw [List.mem_singleton.mp hd]
        exact optD_nolist _ 0
    · exact optD_nolist _ 1
mutual
theorem dp_cd' {H : Hp} {D : Addr} {L : List V} (hD : H D = some (.lst L)) : ∀ (d : PyData) (n : Nat) (v : V), NoL n d → Dp K H v d → Dp K (cd D H) v d
  | _, 0, _, h, _ => (show False from h).elim
  | .none, n + 1, _, _, h => by cases h; exact .non
  | .bool b, n + 1, _, _, h => by cases h; exact .bl b
  | .int i, n + 1, _, _, h => by cases h; exact .int i
  | .str x, n + 1, _, _, h => by cases h; exact .str x
  | .list ds, n + 1, _, q, _ => (show False from q).elim
  | .tuple ds, n + 1, _, q, h => by
    cases h with
    | tup a b => exact .tup (seqT_list0 hD a) (dpall_cd' hD ds n _ q b)
  | .dict _, n + 1, _, q, _ => (show False from q).elim
theorem dpall_cd' {H : Hp} {D : Addr} {L : List V} (hD : H D = some (.lst L)) : ∀ (ds : List PyData) (n : Nat) (vs : List V), (∀ d ∈ ds, NoL n d) → DpAll K H vs ds → DpAll K (cd D H) vs ds
  | [], _, _, _, h => by cases h; exact .nil
  | d :: ds, n, _, q, h => by
    cases h with
    | cons a b => exact .cons (dp_cd' hD d n _ (q d (List.mem_cons_self ..)) a) (dpall_cd' hD ds n _ (fun e he => q e (List.mem_cons_of_mem _ he)) b)
end
theorem dp_cd {H : Hp} {D : Addr} {L : List V} {d : PyData} {n : Nat} {v : V} (hD : H D = some (.lst L)) (q : NoL n d) (h : Dp K H v d) : Dp K (cd D H) v d := dp_cd' hD d n v q h
def vvD (ws : List Str) (ks : List Kind) (op : Option (List Fv)) : List PyData := (List.range ws.length).map fun j => wvD (ws.getD j Str.empty) j ks op
def stL (ws : List Str) (ks : List Kind) : List PyData := (List.range ws.length).map fun j => stD (ws.getD j Str.empty) (col j ks)
theorem st_nolist (way : Str) (cs : List Fv) : NoL 2 (stD way cs) := by
  unfold stD
  split
  · intro d hd
    rcases List.mem_cons.mp hd with rfl | hd
    · exact optD_nolist _ 0
    · rw [List.mem_singleton.mp hd]
      exact optD_nolist _ 0
  · exact optD_nolist _ 1
def spVv (K : PySem.W.Frag) : Sp := fun vs H Q _ => ∃ (l m : Addr) (o : V) (ws : List Str) (ks : List Kind) (op : Option (List Fv)) (ss : List V), vs = [.ref l, .ref m, o] ∧ SqL K H l (ws.map V.str) ∧ SqL K H m ss ∧ DpAll K H ss (stL ws ks) ∧ OpAt K H o ws.length op ∧ ws.length ≤ 5 ∧
  ∀ r H', Dp K H' (.ref r) (.tuple (vvD ws ks op)) → Same H H' → Q (.ref r) H'
theorem sc_vv : FnScope ["ways", "steady", "opening", "at", "way"] ["ways", "steady", "opening"] (defScope s_version_values) := ⟨rfl, rfl, rfl, by decide +kernel, rfl, by decide +kernel, by decide +kernel⟩
theorem dpall_snoc {H : Hp} {v : V} {d : PyData} : ∀ {vs : List V} {ds : List PyData}, DpAll K H vs ds → Dp K H v d → DpAll K H (vs ++ [v]) (ds ++ [d])
  | _, _, .nil, h => .cons h .nil
  | _, _, .cons a t, h => .cons a (dpall_snoc t h)
theorem ok_vv {fV : Addr} {fdV : FuncData} (F : FnP K "version_values" "version_values" s_version_values f fd) (GV : FnOk P w K mg base CX0 1 fV fdV ["at", "opening"] (spDayV K)) (kV : PySem.W.keepIn K (.ref fV) = true) (bV : Binds K fdV ["at", "opening"] []) (gV : mg "day_value" = some (.ref fV)) (gE : mg "enumerate" = none) (gT : mg "tuple" = none) :
    FnOk P w K mg base CX0 2 f fd ["ways", "steady", "opening"] (spVv K) := by
  refine F.ok sc_vv (fun vs H Q E h => ?_) (fun cdv A outer s H vs Q E hr h => ?_)
  · obtain ⟨l, m, o, ws, ks, op, ss, rfl, _⟩ := h
    rfl
  · obtain ⟨l, m, o, ws, ks, op, ss, rfl, hl, hm, ds, ho, lw, k⟩ := h
    have nd := sc_vv.nd
    refine ⟨_, PSs.nox (pss_one (ps_ret (pe_callTy call_tuple_of (by rfl) gT (by decide +kernel) (pa_cons (pe_lc (own := [("at", 3), ("way", 4)]) (g := gTup K 2 (gCons (gName 3) (gCons (gName 4) gNil))) (tt := tYes) (te := tIf (tTest (tOp rEq (tVar 4) (tC (.str "day")))) (tCall (spDayV K) [] E0 (tCons (tVar 3) (tCons (tVar 2) tNil))) (tOp (rIxL K) (tVar 1) (tVar 3))) rfl nd (pi_enum rfl gE (pa_cons (pv 0) pa_nil)) (blkOk_by (own := [("at", 3), ("way", 4)]) (N := ["ways", "steady", "opening", "at", "way"]) (sc := defScope s_version_values) (by decide +kernel))
      (fun _ _ _ _ _ => pg_tup rfl (pgs_cons (pg_name (i := 3) nd rfl (Or.inl rfl)) (pgs_cons (pg_name (i := 4) nd rfl (Or.inl rfl)) pgs_nil))) (fun _ _ _ _ _ => pts_nil) (fun _ _ _ _ _ => pe_ifExp (pt_cmpR op_eq (pv 4) pe_str (nomark _)) (pe_call GV hr rfl gV kV bV .nil pass0 (pa_cons (pv 3) (pa_cons (pv 2) pa_nil))) (pe_ix ix_list (pv 1) (pv 3) (fun _ _ => rfl)))) pa_nil)))), ?_⟩
    refine ⟨_, rfl, l, _, rfl, hl, fun D hD => lc_build (walk_enum (K := K) (a := l) (xs := ws.map V.str)) hD (fun i ys R => Same H R ∧ DpAll K R ys ((List.range i).map fun j => wvD (ws.getD j Str.empty) j ks op)) ⟨Same.refl H, .nil⟩ (fun _ _ _ _ p => (p.1.trans cd_sub).seq hl) ?_ ?_⟩
    · rintro i ys y H2 H2' hi e ly ⟨sm, dp⟩ ⟨T, x1, y1, rfl, nT, rfl, e1, e2⟩
      rw [List.length_map] at hi
      cases e1
      obtain ⟨z, rfl, e3⟩ := strs_at e2
      have nDT : D ≠ T := ne_of_none e nT
      have s2 : Same H (cd D (upd H2 T (.tup [.int (i : Nat), .str z]))) := sm.trans (cd_same (same_new nT))
      have s2' := s2.trans cd_sub
      refine ⟨T, _, rfl, SqT.of upd_same, rfl, _, _, rfl, _, _, rfl, rfl, rfl, yes ?_⟩
      have ew : ws.getD i Str.empty = z := by rw [List.getD_eq_getElem?_getD, e3]; rfl
      have e5 : upd H2 T (.tup [.int (i : Nat), .str z]) D = some (.lst ys) := by rw [upd_ne nDT]; exact e
      have fin : ∀ r, Dp K (upd H2 T (.tup [.int (i : Nat), .str z])) r (wvD z i ks op) → ∃ acc, (upd H2 T (.tup [.int (i : Nat), .str z])) D = some (.lst acc) ∧ acc.length < sizeLine ∧ LcNx D (fun i ys R => Same H R ∧ DpAll K R ys ((List.range i).map fun j => wvD (ws.getD j Str.empty) j ks op)) (i + 1) (upd (upd H2 T (.tup [.int (i : Nat), .str z])) D (.lst (acc ++ [r]))) := fun r d3 => by
        refine LcNx.add e5 ly (by omega) ⟨s2, ?_⟩
        rw [List.range_succ, List.map_append]
        refine dpall_snoc (DpAll.same (cd_same (same_new nT)) _ _ dp) ?_
        show Dp K _ r (wvD (ws.getD i Str.empty) i ks op)
        rw [ew]
        exact dp_cd e5 (wv_nolist z i ks op) d3
      refine ⟨_, rfl, rfl, _, rfl, ?_⟩
      by_cases c : z = "day"
      · rw [decide_eq_true (congrArg V.str c)]
        refine iteT ⟨_, rfl, _, rfl, i, ws.length, o, op, rfl, OpAt.same s2' ho, hi, fun r d3 => fin r ?_⟩
        rw [wv_day c]
        exact d3
      · rw [decide_eq_false (fun q => c (by injection q))]
        have lss := DpAll.len ds
        unfold stL at lss
        rw [List.length_map, List.length_range] at lss
        have hq : ss[i]? = some ss[i] := List.getElem?_eq_getElem (by omega)
        refine iteF ⟨_, rfl, _, rfl, m, _, _, _, rfl, rfl, s2'.seq hm, atI_nat hq, fin _ ?_⟩
        rw [wv_st c]
        obtain ⟨d, hd, dd⟩ := DpAll.at_ (DpAll.same s2' _ _ ds) hq
        unfold stL at hd
        rw [List.getElem?_map, List.getElem?_range hi] at hd
        cases hd
        have dd2 : Dp K (upd H2 T (.tup [.int (i : Nat), .str z])) ss[i] (stD (ws.getD i Str.empty) (col i ks)) := dd
        rw [ew] at dd2
        exact dd2
    · rintro ys H2 e ly ⟨sm, dp⟩
      rw [List.length_map] at dp
      have s2 := sm.trans cd_sub
      refine ⟨D, ys, rfl, .inl ⟨SqL.of e, fun t nt => ?_⟩⟩
      exact k t _ (.tup (SqT.of upd_same) (DpAll.same (cd_sub.trans (same_new nt)) _ _ dp)) (s2.trans (same_new nt))
end
end Kd

namespace Kd
open PySem PySem.Spec PyProof.Rows L2 LamX
/-! ### heaps without the tables -/
def nt (H : Hp) : Hp := fun b => match H b with
  | some (.tbl _) => none
  | o => o
theorem nt_of {H : Hp} {b : Addr} {o : HO} (e : H b = some o) (h : ∀ ps, o ≠ .tbl ps) : nt H b = some o := by
  unfold nt
  rw [e]
  cases o with
  | tbl ps => exact absurd rfl (h ps)
  | _ => rfl
theorem nt_sub {H : Hp} : Same (nt H) H := fun b o e => by
  unfold nt at e
  cases q : H b with
  | none => rw [q] at e; cases e
  | some u =>
    rw [q] at e
    cases u with
    | tbl ps => cases e
    | _ => exact e
theorem nt_not {H : Hp} {b : Addr} {o : HO} (e : nt H b = some o) : ∀ ps, o ≠ .tbl ps := fun ps z => by
  subst z
  have q := nt_sub _ _ e
  unfold nt at e
  rw [q] at e
  cases e
theorem ext_nt {H H' : Hp} (e : ExtN H H') : Same (nt H) (nt H') := fun b o h => nt_of (e b o (nt_sub _ _ h) (nt_not h)) (nt_not h)
theorem nt_same {H H' : Hp} (e : Same H H') : Same (nt H) (nt H') := fun b o h => nt_of (e b o (nt_sub _ _ h)) (nt_not h)
theorem nt_none {H : Hp} {b : Addr} (e : H b = none) : nt H b = none := by
  unfold nt
  rw [e]
/-- an assignment, the slots written out -/
theorem set_st {i : Nat} {σ σ' : L2.St} {K : L2.St → Hp → Prop} {v : V} {H : Hp} (e : σ.set i (some v) = σ') (h : K σ' H) : (fun x H1 => gName i x σ H1 K) v H := by
  subst e
  exact h
section
variable {P : Program} {w : World} {K : PySem.W.Frag} {mg : Str → Option Value} {base : Heap} {f : Addr} {fd : FuncData}
theorem seqL_nt {H : Hp} {a : Addr} {xs : List V} (h : SqL K H a xs) : SqL K (nt H) a xs := by
  rcases h with (q | ⟨o, q⟩) | q
  · exact .inl (.inl (nt_of q (fun _ z => nomatch z)))
  · exact .inl (.inr ⟨o, nt_of q (fun _ z => nomatch z)⟩)
  · exact .inr q
theorem seqT_nt {H : Hp} {a : Addr} {xs : List V} (h : SqT K H a xs) : SqT K (nt H) a xs := by
  rcases h with (q | ⟨o, q⟩) | q
  · exact .inl (.inl (nt_of q (fun _ z => nomatch z)))
  · exact .inl (.inr ⟨o, nt_of q (fun _ z => nomatch z)⟩)
  · exact .inr q
theorem kinds_nt {H : Hp} {l : Addr} {ks : List Kind} : KindsAt K H l ks → KindsAt K (nt H) l ks := fun ⟨xs, h1, h2⟩ => ⟨xs, seqL_nt h1, PySem.Paired.mono (fun _ _ ⟨p, q, e1, e2, e3⟩ => ⟨p, q, e1, seqT_nt e2, seqT_nt e3⟩) h2⟩
mutual
theorem dp_nt {H : Hp} : ∀ (d : PyData) (v : V), Dp K H v d → Dp K (nt H) v d
  | .none, _, h => by cases h; exact .non
  | .bool b, _, h => by cases h; exact .bl b
  | .int i, _, h => by cases h; exact .int i
  | .str x, _, h => by cases h; exact .str x
  | .list ds, _, h => by
    cases h with
    | lst a b => exact .lst (seqL_nt a) (dpall_nt ds _ b)
  | .tuple ds, _, h => by
    cases h with
    | tup a b => exact .tup (seqT_nt a) (dpall_nt ds _ b)
  | .dict _, _, h => by cases h
theorem dpall_nt {H : Hp} : ∀ (ds : List PyData) (vs : List V), DpAll K H vs ds → DpAll K (nt H) vs ds
  | [], _, h => by cases h; exact .nil
  | d :: ds, _, h => by
    cases h with
    | cons a b => exact .cons (dp_nt d _ a) (dpall_nt ds _ b)
end
/-! ### kinds by rising days -/
def srt (ks : List Kind) : List Kind := ks.mergeSort fun a b => decide (a.1 ≤ b.1)
theorem paired_zip {α β : Type} {R : α → β → Prop} : ∀ {l : List α} {m : List β}, Paired R l m → ∀ p ∈ l.zip m, R p.1 p.2
  | _, _, .nil, p, hp => by simp at hp
  | _, _, .cons h t, p, hp => by
    rcases List.mem_cons.mp (show p ∈ _ :: _ from hp) with rfl | hp
    · exact h
    · exact paired_zip t p hp
theorem paired_of {α β : Type} {R : α → β → Prop} : ∀ {cs : List (α × β)}, (∀ c ∈ cs, R c.1 c.2) → Paired R (cs.map (·.1)) (cs.map (·.2))
  | [], _ => .nil
  | c :: cs, h => .cons (h c (List.mem_cons_self ..)) (paired_of fun d hd => h d (List.mem_cons_of_mem _ hd))
def firsts (xs : List V) (ks : List Kind) : List (Int × V) := (xs.zip ks).map fun c => (c.2.1, c.1)
theorem firsts_snd {xs : List V} {ks : List Kind} (h : xs.length = ks.length) : (firsts xs ks).map (·.2) = xs := by
  unfold firsts
  rw [List.map_map]
  exact List.map_fst_zip (by omega)
theorem srt_paired {H : Hp} {xs : List V} {ks : List Kind} (hp : Paired (KindAt K H) xs ks) : Paired (KindAt K H) ((KdLam.byFirst (firsts xs ks)).map (·.2)) (srt ks) := by
  have hl := hp.length
  have e1 : KdLam.byFirst (firsts xs ks) = ((xs.zip ks).mergeSort fun a b => decide (a.2.1 ≤ b.2.1)).map fun c => (c.2.1, c.1) := by
    unfold KdLam.byFirst firsts
    exact (List.map_mergeSort (r := fun a b : V × Kind => decide (a.2.1 ≤ b.2.1)) (s := fun a b : Int × V => decide (a.1 ≤ b.1)) (f := fun c : V × Kind => (c.2.1, c.1)) (l := xs.zip ks) (fun a _ b _ => rfl)).symm
  have e2 : srt ks = ((xs.zip ks).mergeSort fun a b => decide (a.2.1 ≤ b.2.1)).map (·.2) := by
    have e3 : ks = (xs.zip ks).map (·.2) := (List.map_snd_zip (by omega)).symm
    unfold srt
    rw [List.map_mergeSort (r := fun a b : V × Kind => decide (a.2.1 ≤ b.2.1)) (s := fun a b : Kind => decide (a.1 ≤ b.1)) (f := fun c : V × Kind => c.2) (l := xs.zip ks) (fun a _ b _ => rfl), ← e3]
  rw [e1, e2, List.map_map]
  refine paired_of (cs := (xs.zip ks).mergeSort fun a b => decide (a.2.1 ≤ b.2.1)) fun c hc => paired_zip hp c ?_
  exact List.mem_mergeSort.mp hc
/-! ### stretches -/
def bgn (ops : List Kind) (j : Nat) : PyData := match j with
  | 0 => .none
  | j + 1 => .int (ops.getD j (0, [])).1
def fin_ (ops : List Kind) (j : Nat) : PyData := if j < ops.length then .int (ops.getD j (0, [])).1 else .none
def opv (ops : List Kind) (j : Nat) : Option (List Fv) := match j with
  | 0 => none
  | j + 1 => some (ops.getD j (0, [])).2
def verD (ws : List Str) (ord ops : List Kind) (j : Nat) : PyData := .tuple [bgn ops j, fin_ ops j, .tuple (vvD ws ord (opv ops j))]
def strL (ws : List Str) (ks : List Kind) : List PyData := (List.range ((opn ws (srt ks)).length + 1)).map (verD ws (srt ks) (opn ws (srt ks)))
theorem vv_nolist (ws : List Str) (ks : List Kind) (op : Option (List Fv)) : NoL 3 (.tuple (vvD ws ks op)) := fun d hd => by
  obtain ⟨j, _, rfl⟩ := List.mem_map.mp hd
  exact wv_nolist _ _ _ _
theorem ver_nolist (ws : List Str) (ord ops : List Kind) (j : Nat) : NoL 4 (verD ws ord ops j) := fun d hd => by
  rcases List.mem_cons.mp hd with rfl | hd
  · cases j <;> exact trivial
  · rcases List.mem_cons.mp hd with rfl | hd
    · unfold fin_
      split <;> exact trivial
    · rw [List.mem_singleton.mp hd]
      exact vv_nolist _ _ _
theorem kget {ops : List Kind} {i : Nat} (h : i < ops.length) : ops.getD i (0, []) = ops[i] := by simp [List.getD_eq_getElem?_getD, h]
theorem bgn_dp {H : Hp} {ops : List Kind} {i : Nat} {v : V} (h : ([V.non] ++ ops.map fun k => V.int k.1)[i]? = some v) : Dp K H v (bgn ops i) := by
  cases i with
  | zero =>
    cases (Option.some.inj h)
    exact .non
  | succ i =>
    have h2 : (ops.map fun k => V.int k.1)[i]? = some v := h
    have hl := (List.getElem?_eq_some_iff.mp h2).1
    rw [List.length_map] at hl
    rw [map_at hl] at h2
    cases h2
    show Dp K H _ (.int (ops.getD i (0, [])).1)
    rw [kget hl]
    exact .int _
theorem fin_dp {H : Hp} {ops : List Kind} {i : Nat} {v : V} (h : ((ops.map fun k => V.int k.1) ++ [V.non])[i]? = some v) : Dp K H v (fin_ ops i) := by
  unfold fin_
  by_cases hl : i < ops.length
  · rw [if_pos hl, kget hl]
    rw [List.getElem?_append_left (by rw [List.length_map]; exact hl), map_at hl] at h
    cases h
    exact .int _
  · rw [if_neg hl]
    have h2 := (List.getElem?_eq_some_iff.mp h).1
    rw [List.length_append, List.length_map] at h2
    have e : i = (ops.map fun k => V.int k.1).length := by rw [List.length_map]; simp at h2; omega
    rw [List.getElem?_append_right (by omega), e, Nat.sub_self] at h
    cases (Option.some.inj h)
    exact .non
theorem op_at {H : Hp} {ops : List Kind} {yv : List V} {n i : Nat} {v : V} (hp : Paired (fun v (kd : Kind) => ∃ q, v = .ref q ∧ SqT K H q (kd.2.map Fv.v)) yv ops) (hl : ∀ k ∈ ops, k.2.length = n) (h : ([V.non] ++ yv)[i]? = some v) : OpAt K H v n (opv ops i) := by
  cases i with
  | zero =>
    cases (Option.some.inj h)
    rfl
  | succ i =>
    have h2 : yv[i]? = some v := h
    obtain ⟨kd, q1, q, e1, e2⟩ := paired_at hp h2
    obtain ⟨g1, g2⟩ := List.getElem?_eq_some_iff.mp q1
    show OpAt K H v n (some (ops.getD i (0, [])).2)
    rw [kget g1, g2]
    exact ⟨q, e1, e2, hl kd (List.mem_of_getElem? q1)⟩
abbrev qS : Str := ("stretches" : Str) ++ ".<locals>." ++ "<lambda>"
theorem FunD.okC {x qual : Str} {params : Arguments} {body : List Stmt} {scope : Scope} {dvs : List V} {kws : List (Str × V)} {c : Addr} {CX : CXT} {N ps : List Str} {k : Nat} {sp : Sp} (F : FunD K x qual params body scope dvs kws f fd) (hc : fd.code = .ref c) (S : FnScope N ps scope) (len : ∀ vs H Q E, sp vs H Q E → vs.length = ps.length)
    (hb : ∀ (A : Around) (outer : List Env) (s : Shared) (H : Hp) (vs : List V) (Q : VK) (E : XK), Room k (A.deeper (envOfC qual scope s.heap.objs.size f (.ref c))) → sp vs H Q E →
      ∃ t, PSs (cxOf CX P w K mg base N qual scope f (.ref c) A outer s H E) body t ∧ t { nx := fun _ H' => Q .non H', rt := Q } (start N vs) H) : FnOk P w K mg base CX (k + 1) f fd ps sp := by
  obtain ⟨oc, od, dV, kV, doc, pm, an, cdv, ct, osl, rfl, lk, hcd, _, _⟩ := F.ex
  have e : cdv = .ref c := hc
  subst e
  exact fn_of lk hcd S len fun A outer s H vs Q E hr hsp => hb A outer s H vs Q E hr hsp
def spStr (K : PySem.W.Frag) (C Pt : Addr) : Sp := fun vs H Q _ => ∃ (x l : Addr) (n : Str) (ds : List (Str × List (Str × Str))) (ms : List Str) (d : Str × List (Str × Str)) (ks : List Kind), vs = [.ref x, .str n, .ref l] ∧ PlanAt K C H x ds ms ∧ ds.find? (fun d => decide (d.1 = n)) = some d ∧ KindsAt K H l ks ∧ (∀ k ∈ ks, k.2.length = d.2.length) ∧ d.2.length ≤ 5 ∧ ks.length ≤ 200 ∧ Tabs [(Pt, qS)] H ∧
  ∀ r H', ExtN H H' → Tabs [(Pt, qS)] H' → (∀ b L, H b = some (.lst L) → b ≠ r) → Dp K H' (.ref r) (.list (strL (d.2.map (·.2)) ks)) → Q (.ref r) H'
def stSc : Scope := { kind := .function, names := [(".0", .local), ("at", .cell), ("way", .local), ("steady_value", .globalImplicit), ("ordered", .cell)], isGenerator := false, isCoroutine := false }
abbrev stN : List Str := ["plan", "dimension", "kinds", "attributes", "attribute", "way", "ways", "ordered", "openers", "day", "values", "cuts", "opened_with", "at", "steady", "begin", "end", "opening"]
theorem sc_str : FnScope stN ["plan", "dimension", "kinds"] (defScope s_stretches) := ⟨rfl, rfl, rfl, by decide +kernel, rfl, by decide +kernel, by decide +kernel⟩
set_option maxHeartbeats 0 in
theorem ok_str {C c Pt fA fO fV fS : Addr} {fdA fdO fdV fdS : FuncData} (F : FnP K "stretches" "stretches" s_stretches f fd) (hc : fd.code = .ref c) (TB : TabB base mg c Pt) (GA : FnOk P w K mg base CX0 2 fA fdA ["plan", "dimension"] (spAttr K C)) (kA : PySem.W.keepIn K (.ref fA) = true) (bA : Binds K fdA ["plan", "dimension"] []) (gA : mg "attributes_of" = some (.ref fA))
    (GO : FnOk P w K mg base CX0 2 fO fdO ["ways", "ordered"] (spOpen K)) (kO : PySem.W.keepIn K (.ref fO) = true) (bO : Binds K fdO ["ways", "ordered"] []) (gO : mg "opening_kinds" = some (.ref fO)) (GV : FnOk P w K mg base CX0 2 fV fdV ["ways", "steady", "opening"] (spVv K)) (kV : PySem.W.keepIn K (.ref fV) = true) (bV : Binds K fdV ["ways", "steady", "opening"] []) (gV : mg "version_values" = some (.ref fV))
    (GS : FnOk P w K mg base CX0 2 fS fdS ["way", "column"] (spStv K)) (kS : PySem.W.keepIn K (.ref fS) = true) (bS : Binds K fdS ["way", "column"] []) (gS : mg "steady_value" = some (.ref fS)) (gE : mg "enumerate" = none) (gs : mg "sorted" = none) (gZ : mg "zip" = none) :
    FnOk P w K mg base CX0 4 f fd ["plan", "dimension", "kinds"] (spStr K C Pt) := by
  refine FunD.okC F hc sc_str (fun vs H Q E h => ?_) (fun A outer s H vs Q E hr h => ?_)
  · obtain ⟨x, l, n, ds, ms, d, ks, rfl, _⟩ := h
    rfl
  · obtain ⟨x, l, n, ds, ms, d, ks, rfl, hp, hd, hk, hkl, ld, lk, hT, k⟩ := h
    have nd := sc_str.nd
    have hr2 : Room 2 _ := hr.mono (by decide)
    have hr1 : Room 1 _ := hr.mono (by decide)
    refine ⟨_, PSs.nox (pss_cons (ps_set (i := 3) nd rfl (Or.inl rfl) (pe_call GA hr2 rfl gA kA bA .nil pass0 (pa_cons (pv 0) (pa_cons (pv 1) pa_nil))))
      (pss_cons (ps_if (pt_cmp (pc_isN (pv 3))) (pss_one ps_never) pss_nil)
      (pss_cons (ps_set (i := 6) nd rfl (Or.inr rfl) (pe_lc (own := [("attribute", 4), ("way", 5)]) (g := gTup K 2 (gCons (gName 4) (gCons (gName 5) gNil))) (tt := tYes) rfl nd (pi_tup (pv 3)) (blkOk_by (own := [("attribute", 4), ("way", 5)]) (N := stN) (sc := defScope s_stretches) (by decide +kernel))
        (fun _ _ _ _ _ => pg_tup rfl (pgs_cons (pg_name (i := 4) nd rfl (Or.inl rfl)) (pgs_cons (pg_name (i := 5) nd rfl (Or.inl rfl)) pgs_nil))) (fun _ _ _ _ _ => pts_nil) (fun _ _ _ _ _ => pv 5)))
      (pss_cons (ps_set (i := 7) nd rfl (Or.inr rfl) (KdLam.pe_sortLam (T := [(Pt, qS)]) rfl gs hr1 (pa_cons (pv 2) pa_nil) TB rfl (List.mem_cons_self ..) (fun p hp _ => by rw [List.mem_singleton.mp hp]; rfl) rfl rfl (fun _ _ _ _ => rfl) rfl rfl rfl rfl (by decide +kernel)))
      (pss_cons (ps_set (i := 8) nd rfl (Or.inl rfl) (pe_call GO hr2 rfl gO kO bO .nil pass0 (pa_cons (pv 6) (pa_cons (pv 7) pa_nil))))
      (pss_cons (ps_setLc (i := 11) (own := [("day", 9), ("values", 10)]) (g := gTup K 2 (gCons (gName 9) (gCons (gName 10) gNil))) (tt := tYes) rfl nd rfl rfl (sw_true rfl rfl rfl (by decide +kernel)) (pi_list (pv 8)) (blkOk_by (own := [("day", 9), ("values", 10)]) (N := stN) (sc := defScope s_stretches) (by decide +kernel))
        (fun _ _ _ _ _ => pg_tup rfl (pgs_cons (pg_name (i := 9) nd rfl (Or.inl rfl)) (pgs_cons (pg_name (i := 10) nd rfl (Or.inl rfl)) pgs_nil))) (fun _ _ _ _ _ => pts_nil) (fun _ _ _ _ _ => pv 9))
      (pss_cons (ps_set (i := 12) nd rfl (Or.inl rfl) (pe_op op_cat (pe_lst (pa_cons pe_non pa_nil)) (pe_lc (own := [("day", 9), ("values", 10)]) (g := gTup K 2 (gCons (gName 9) (gCons (gName 10) gNil))) (tt := tYes) rfl nd (pi_list (pv 8)) (blkOk_by (own := [("day", 9), ("values", 10)]) (N := stN) (sc := defScope s_stretches) (by decide +kernel))
        (fun _ _ _ _ _ => pg_tup rfl (pgs_cons (pg_name (i := 9) nd rfl (Or.inl rfl)) (pgs_cons (pg_name (i := 10) nd rfl (Or.inl rfl)) pgs_nil))) (fun _ _ _ _ _ => pts_nil) (fun _ _ _ _ _ => pv 10))))
      (pss_cons (ps_set (i := 14) nd rfl (Or.inr rfl) (pe_lc (own := [("at", 13), ("way", 5)]) (g := gTup K 2 (gCons (gName 13) (gCons (gName 5) gNil))) (tt := tYes) (te := tCall (spStv K) [] E0 (tCons (tVar 5) (tCons (tLc (iList K (tVar 7)) (gTup K 2 (gCons (gName 9) (gCons (gName 10) gNil))) tYes (tOp (rIxT K) (tVar 10) (tVar 13)) [9, 10]) tNil))) rfl nd (pi_enum rfl gE (pa_cons (pv 6) pa_nil)) (blkOk_by (own := [("at", 13), ("way", 5)]) (N := stN) (sc := defScope s_stretches) (by decide +kernel))
        (fun _ _ _ _ _ => pg_tup rfl (pgs_cons (pg_name (i := 13) nd rfl (Or.inr rfl)) (pgs_cons (pg_name (i := 5) nd rfl (Or.inl rfl)) pgs_nil))) (fun _ _ _ _ _ => pts_nil)
        (fun _ _ _ _ _ => pe_call GS hr2 rfl gS kS bS .nil pass0 (pa_cons (pv 5) (pa_cons (pe_lc (own := [("day", 9), ("values", 10)]) (g := gTup K 2 (gCons (gName 9) (gCons (gName 10) gNil))) (tt := tYes) (te := tOp (rIxT K) (tVar 10) (tVar 13)) rfl nd (pi_list (pv 7)) (blkOk_by (own := [("day", 9), ("values", 10)]) (N := stN) (sc := stSc) (by decide +kernel))
          (fun _ _ _ _ _ => pg_tup rfl (pgs_cons (pg_name (i := 9) nd rfl (Or.inl rfl)) (pgs_cons (pg_name (i := 10) nd rfl (Or.inl rfl)) pgs_nil))) (fun _ _ _ _ _ => pts_nil) (fun _ _ _ _ _ => pe_ix ix_tup (pv 10) (pv 13) (fun _ _ => rfl))) pa_nil)))))
      (pss_one (ps_ret (pe_lc (own := [("begin", 15), ("end", 16), ("opening", 17)]) (g := gTup K 3 (gCons (gName 15) (gCons (gName 16) (gCons (gName 17) gNil)))) (tt := tYes) (te := tTup (tCons (tVar 15) (tCons (tVar 16) (tCons (tCall (spVv K) [] E0 (tCons (tVar 6) (tCons (tVar 14) (tCons (tVar 17) tNil)))) tNil)))) rfl nd
          (KdZ.pi_zip3 rfl gZ (pa_cons (pe_op op_cat (pe_lst (pa_cons pe_non pa_nil)) (pv 11)) (pa_cons (pe_op op_cat (pv 11) (pe_lst (pa_cons pe_non pa_nil))) (pa_cons (pv 12) pa_nil)))) (blkOk_by (own := [("begin", 15), ("end", 16), ("opening", 17)]) (N := stN) (sc := defScope s_stretches) (by decide +kernel))
        (fun _ _ _ _ _ => pg_tup rfl (pgs_cons (pg_name (i := 15) nd rfl (Or.inl rfl)) (pgs_cons (pg_name (i := 16) nd rfl (Or.inl rfl)) (pgs_cons (pg_name (i := 17) nd rfl (Or.inl rfl)) pgs_nil)))) (fun _ _ _ _ _ => pts_nil) (fun _ _ _ _ _ => pe_tup (pa_cons (pv 15) (pa_cons (pv 16) (pa_cons (pe_call GV hr2 rfl gV kV bV .nil pass0 (pa_cons (pv 6) (pa_cons (pv 14) (pa_cons (pv 17) pa_nil)))) pa_nil))))))))))))))), ?_⟩
    refine ⟨_, rfl, _, rfl, x, n, ds, ms, rfl, hp, fun d1 q H1 hd1 hq s1 => ?_, fun hn => by rw [hd] at hn; cases hn⟩
    rw [hd] at hd1
    cases hd1
    obtain ⟨ya, ha, pa⟩ := hq
    have la := pa.length
    refine ⟨_, rfl, _, rfl, iteF ?_⟩
    refine ⟨_, rfl, q, rfl, ⟨_, ha⟩, fun D hD => lc_build (walk_tup (K := K) (a := q)) hD (fun i ys R => R = H1 ∧ ys = (d.2.take i).map fun a => V.str a.2) ⟨rfl, rfl⟩ (fun i ys H2 _ p => Same.seqT (cd_is0 p.1) ha) ?_ ?_⟩
    · rintro i ys y H2 H2' hi e ly ⟨ec, rfl⟩ ⟨rfl, hy⟩
      obtain ⟨a, q1, r, rfl, a1⟩ := paired_at pa hy
      refine ⟨r, _, rfl, Same.seqT (cd_is0 ec) a1, rfl, _, _, rfl, _, _, rfl, rfl, rfl, yes ?_⟩
      exact ⟨_, rfl, LcNx.add e ly (by omega) ⟨ec, take_snoc q1⟩⟩
    · rintro ys H2 e2 ly ⟨ec2, rfl⟩
      have eW : (d.2.take ya.length).map (fun a => V.str a.2) = (d.2.map (·.2)).map V.str := by
        rw [la, List.take_length, List.map_map]
        rfl
      rw [eW] at e2
      have lws : (d.2.map (·.2)).length = d.2.length := List.length_map ..
      generalize d.2.map (·.2) = ws at *
      have s02 : Same H H2 := s1.trans (cd_is0 ec2)
      obtain ⟨xs, hx, px⟩ := hk
      have lx := px.length
      refine set_st (σ' := [some (.ref x), some (.str n), some (.ref l), some (.ref q), none, none, some (.ref D), none, none, none, none, none, none, none, none, none, none, none]) rfl ?_
      refine ⟨_, rfl, l, firsts xs ks, rfl, hT.ext s02, by unfold firsts; rw [List.length_map, List.length_zip]; omega, fun H3 eN T3 => ?_⟩
      have s23 : Same (nt H2) (nt H3) := ext_nt eN
      obtain ⟨xs3, hx3, px3⟩ : KindsAt K H3 l ks := KindsAt.same (s23.trans nt_sub) (kinds_nt (KindsAt.same s02 ⟨xs, hx, px⟩))
      have hx3' : SqL K H3 l xs := (s23.trans nt_sub).seq (seqL_nt (s02.seq hx))
      have px3' : Paired (KindAt K H3) xs ks := PySem.Paired.mono (fun _ _ ⟨p, q, e1, e2, e3⟩ => ⟨p, q, e1, Same.seqT (s23.trans nt_sub) (seqT_nt (Same.seqT s02 e2)), Same.seqT (s23.trans nt_sub) (seqT_nt (Same.seqT s02 e3))⟩) px
      refine ⟨by rw [firsts_snd lx]; exact hx3', fun b hb => ?_, fun p np => ?_⟩
      · obtain ⟨cz, hcz, rfl⟩ := List.mem_map.mp hb
        obtain ⟨p, q, e1, e2, e3⟩ := paired_zip px3' cz hcz
        exact ⟨p, _, e1, e2⟩
      have e3 : H3 D = some (.lst (ws.map V.str)) := nt_sub _ _ (s23 _ _ (nt_of e2 (fun _ z => nomatch z)))
      have s34 : Same H3 (upd H3 p (.lst ((KdLam.byFirst (firsts xs ks)).map (·.2)))) := same_new np
      have hord : KindsAt K (upd H3 p (.lst ((KdLam.byFirst (firsts xs ks)).map (·.2)))) p (srt ks) := ⟨_, SqL.of upd_same, PySem.Paired.mono (fun _ _ => KindAt.same s34) (srt_paired px3')⟩
      have hsl : ∀ k ∈ srt ks, k.2.length = ws.length := fun kd hkd => by rw [lws]; exact hkl kd (List.mem_mergeSort.mp hkd)
      have lsr : (srt ks).length = ks.length := List.length_mergeSort ..
      refine set_st (σ' := [some (.ref x), some (.str n), some (.ref l), some (.ref q), none, none, some (.ref D), some (.ref p), none, none, none, none, none, none, none, none, none, none]) rfl ?_
      refine ⟨_, rfl, _, rfl, D, p, ws, srt ks, rfl, SqL.of (s34 _ _ e3), hord, hsl, by omega, by omega, fun r yo H5 h5 p5 s5 => ?_⟩
      have lo := p5.length
      have lops : (opn ws (srt ks)).length ≤ ks.length + 1 := by
        unfold opn
        rw [List.length_append, List.length_take, List.length_map]
        have := List.length_filter_le (nxt ws) ((srt ks).zip ((srt ks).drop 1))
        rw [List.length_zip, List.length_drop] at this
        omega
      have hops : ∀ k ∈ opn ws (srt ks), k.2.length = ws.length := fun kd hkd => by
        unfold opn at hkd
        rcases List.mem_append.mp hkd with hkd | hkd
        · exact hsl kd (List.mem_of_mem_take hkd)
        · obtain ⟨pr, hpr, rfl⟩ := List.mem_map.mp hkd
          exact hsl _ (List.mem_of_mem_drop (List.of_mem_zip (List.mem_filter.mp hpr).1).2)
      generalize hopd : opn ws (srt ks) = ops at *
      refine set_st (σ' := [some (.ref x), some (.str n), some (.ref l), some (.ref q), none, none, some (.ref D), some (.ref p), some (.ref r), none, none, none, none, none, none, none, none, none]) rfl ?_
      refine ⟨_, rfl, r, rfl, ⟨_, SqL.of h5⟩, fun D6 hD6 => lc_build (walk_list (K := K) (a := r)) hD6 (fun i ys R => R = H5 ∧ ys = (ops.take i).map fun k => V.int k.1) ⟨rfl, rfl⟩ (fun i ys H6 _ p => SqL.of (cd_is0 p.1 _ _ h5)) ?_ ?_⟩
      · rintro i ys y H6 H6' hi e ly ⟨ec, rfl⟩ ⟨rfl, hy⟩
        obtain ⟨kd, q1, p, q, rfl, a1, a2⟩ := paired_at p5 hy
        refine ⟨p, _, rfl, Same.seqT (cd_is0 ec) a1, rfl, _, _, rfl, _, _, rfl, rfl, rfl, yes ?_⟩
        exact ⟨_, rfl, LcNx.add e ly (by omega) ⟨ec, take_snoc q1⟩⟩
      · rintro ys H6 e6 ly ⟨ec6, rfl⟩
        rw [lo, List.take_length] at e6
        have s56 : Same H5 H6 := cd_is0 ec6
        refine set_st (σ' := [some (.ref x), some (.str n), some (.ref l), some (.ref q), none, none, some (.ref D), some (.ref p), some (.ref r), none, none, some (.ref D6), none, none, none, none, none, none]) rfl ?_
        refine ⟨by show 1 ≤ sizeLine; decide, fun p7 n7 => ?_⟩
        have s67 : Same H6 (upd H6 p7 (.lst [.non])) := same_new n7
        have s57 := s56.trans s67
        refine ⟨_, rfl, r, rfl, ⟨_, SqL.of (s57 _ _ h5)⟩, fun D8 hD8 => lc_build (walk_list (K := K) (a := r)) hD8 (fun i ys R => R = upd H6 p7 (.lst [.non]) ∧ Paired (fun v (kd : Kind) => ∃ q, v = .ref q ∧ SqT K R q (kd.2.map Fv.v)) ys (ops.take i)) ⟨rfl, .nil⟩ (fun i ys H8 _ p => SqL.of (cd_is0 p.1 _ _ (s57 _ _ h5))) ?_ ?_⟩
        · rintro i ys y H8 H8' hi e ly ⟨ec, pr⟩ ⟨rfl, hy⟩
          obtain ⟨kd, q1, p, q, rfl, a1, a2⟩ := paired_at p5 hy
          have s58 : Same H5 H8' := s57.trans (cd_is0 ec)
          refine ⟨p, _, rfl, Same.seqT s58 a1, rfl, _, _, rfl, _, _, rfl, rfl, rfl, yes ?_⟩
          refine ⟨_, rfl, LcNx.add e ly (by omega) ⟨ec, ?_⟩⟩
          obtain ⟨g1, g2⟩ := List.getElem?_eq_some_iff.mp q1
          rw [List.take_succ_eq_append_getElem g1, g2]
          refine PySem.Paired.snoc pr ⟨q, rfl, ?_⟩
          rw [ec]
          exact Same.seqT s57 a2
        · rintro yv H8 e8 lyv ⟨ec8, pr8⟩
          rw [lo, List.take_length] at pr8
          have lv := pr8.length
          have s78 : Same (upd H6 p7 (.lst [.non])) H8 := cd_is0 ec8
          refine ⟨p7, D8, _, _, rfl, rfl, s78 _ _ upd_same, e8, le_line (by show 1 + yv.length ≤ 4000; omega), fun p9 n9 => ?_⟩
          have s89 : Same H8 (upd H8 p9 (.lst ([.non] ++ yv))) := same_new n9
          have s69 := (s67.trans s78).trans s89
          have c9 := s69 _ _ e6
          have s49 : Same (upd H3 p (.lst ((KdLam.byFirst (firsts xs ks)).map (·.2)))) (upd H8 p9 (.lst ([.non] ++ yv))) := s5.trans (s56.trans s69)
          have s39 := s34.trans s49
          have f9 : upd H8 p9 (.lst ([.non] ++ yv)) p9 = some (.lst ([.non] ++ yv)) := upd_same
          have pr9 : Paired (fun v (kd : Kind) => ∃ q, v = .ref q ∧ SqT K (upd H8 p9 (.lst ([.non] ++ yv))) q (kd.2.map Fv.v)) yv ops := PySem.Paired.mono (fun _ _ ⟨q, e1, e2⟩ => ⟨q, e1, Same.seqT (cd_sub.trans s89) e2⟩) pr8
          generalize upd H8 p9 (.lst ([.non] ++ yv)) = H9 at s89 s69 c9 s49 s39 f9 pr9 ⊢
          refine set_st (σ' := [some (.ref x), some (.str n), some (.ref l), some (.ref q), none, none, some (.ref D), some (.ref p), some (.ref r), none, none, some (.ref D6), some (.ref p9), none, none, none, none, none]) rfl ?_
          refine ⟨_, rfl, D, _, rfl, SqL.of (s39 _ _ e3), fun DS hDS => lc_build (walk_enum (K := K) (a := D) (xs := ws.map V.str)) hDS (fun i ys R => Same H9 R ∧ DpAll K R ys ((List.range i).map fun j => stD (ws.getD j Str.empty) (col j (srt ks)))) ⟨Same.refl _, .nil⟩ (fun _ _ _ _ p => SqL.of ((p.1.trans cd_sub) _ _ (s39 _ _ e3))) ?_ ?_⟩
          · rintro i ys y Ha Ha' hi e ly ⟨sm, dp⟩ ⟨T, x1, y1, rfl, nT, rfl, e1, e2⟩
            rw [List.length_map] at hi
            cases e1
            obtain ⟨z, rfl, ez⟩ := strs_at e2
            have nDT : DS ≠ T := ne_of_none e nT
            have ew : ws.getD i Str.empty = z := by rw [List.getD_eq_getElem?_getD, ez]; rfl
            have e6b : upd Ha T (.tup [.int (i : Nat), .str z]) DS = some (.lst ys) := by rw [upd_ne nDT]; exact e
            have sT : Same Ha (upd Ha T (.tup [.int (i : Nat), .str z])) := same_new nT
            refine ⟨T, _, rfl, SqT.of upd_same, rfl, _, _, rfl, _, _, rfl, rfl, rfl, yes ?_⟩
            generalize upd Ha T (.tup [.int (i : Nat), .str z]) = Hb at e6b sT ⊢
            have sb : Same H9 (cd DS Hb) := sm.trans (cd_same sT)
            obtain ⟨xo, ho1, ho2⟩ := KindsAt.same (s49.trans (sb.trans cd_sub)) hord
            have lxo := ho2.length
            refine ⟨_, rfl, _, rfl, p, rfl, ⟨_, ho1⟩, fun DC hDC => lc_build (walk_list (K := K) (a := p)) hDC (fun j zs R => R = Hb ∧ zs = ((srt ks).take j).map fun k => (k.2.getD i (.i 0)).v) ⟨rfl, rfl⟩ (fun j zs Hc _ q => (cd_is0 q.1).seq ho1) ?_ ?_⟩
            · rintro j zs y Hc Hc' hj ec lz ⟨eh, rfl⟩ ⟨rfl, hy⟩
              obtain ⟨kd, q1, pk, qk, rfl, a1, a2⟩ := paired_at ho2 hy
              have hk1 := hsl kd (List.mem_of_getElem? q1)
              refine ⟨pk, _, rfl, Same.seqT (cd_is0 eh) a1, rfl, _, _, rfl, _, _, rfl, rfl, rfl, yes ?_⟩
              refine ⟨_, rfl, _, rfl, qk, _, _, _, rfl, rfl, Same.seqT (cd_is0 eh) a2, atI_nat (map_at (by omega)), LcNx.add ec lz (by omega) ⟨eh, ?_⟩⟩
              rw [← get_at (by omega)]
              exact take_snoc q1
            · rintro zs Hc ec lz ⟨eh, rfl⟩
              have eC : ((srt ks).take xo.length).map (fun k => (k.2.getD i (.i 0)).v) = (col i (srt ks)).map Fv.v := by
                unfold col
                rw [lxo, List.take_length, List.map_map]
                rfl
              rw [eC] at ec
              have lcol : (col i (srt ks)).length = (srt ks).length := by unfold col; exact List.length_map ..
              refine ⟨z, DC, col i (srt ks), rfl, SqL.of ec, by omega, fun r Hd dd sd => ?_⟩
              have e7 : Hd DS = some (.lst ys) := sd _ _ (cd_is0 eh _ _ e6b)
              have scc : Same (cd DS Ha) (cd DS Hd) := cd_same ((sT.trans (cd_is0 eh)).trans sd)
              refine LcNx.add e7 ly (by omega) ⟨sm.trans scc, ?_⟩
              rw [List.range_succ, List.map_append]
              refine dpall_snoc (DpAll.same scc _ _ dp) ?_
              show Dp K (cd DS Hd) r (stD (ws.getD i Str.empty) (col i (srt ks)))
              rw [ew]
              exact dp_cd e7 (st_nolist z _) dd
          · rintro ss HS eS lS ⟨sS, dS⟩
            rw [List.length_map] at dS
            have s9S : Same H9 HS := sS.trans cd_sub
            have dS2 : DpAll K HS ss (stL ws (srt ks)) := DpAll.same cd_sub _ _ dS
            replace c9 := s9S _ _ c9
            refine set_st (σ' := [some (.ref x), some (.str n), some (.ref l), some (.ref q), none, none, some (.ref D), some (.ref p), some (.ref r), none, none, some (.ref D6), some (.ref p9), none, some (.ref DS), none, none, none]) rfl ?_
            refine ⟨by show 1 ≤ sizeLine; decide, fun pa na => ?_⟩
            have s9a := same_new (o := .lst [.non]) na
            have lcut : (ops.map fun k => V.int k.1).length = ops.length := List.length_map ..
            refine ⟨_, rfl, pa, D6, _, _, rfl, rfl, upd_same, s9a _ _ c9, le_line (by rw [lcut]; show 1 + ops.length ≤ 4000; omega), fun pb nb => ?_⟩
            have sab := same_new (o := .lst ([.non] ++ ops.map fun k => V.int k.1)) nb
            have cb := sab _ _ (s9a _ _ c9)
            refine ⟨_, rfl, by show 1 ≤ sizeLine; decide, fun pc nc => ?_⟩
            have sbc := same_new (o := .lst [.non]) nc
            refine ⟨D6, pc, _, _, rfl, rfl, sbc _ _ cb, upd_same, le_line (by rw [lcut]; show ops.length + 1 ≤ 4000; omega), fun pd nd2 => ?_⟩
            have scd := same_new (o := .lst ((ops.map fun k => V.int k.1) ++ [.non])) nd2
            generalize hHd : upd (upd (upd (upd HS pa (.lst [.non])) pb (.lst ([.non] ++ ops.map fun k => V.int k.1))) pc (.lst [.non])) pd (.lst ((ops.map fun k => V.int k.1) ++ [.non])) = Hd at *
            have gd : Hd pd = some (.lst ((ops.map fun k => V.int k.1) ++ [.non])) := by rw [← hHd]; exact upd_same
            have gb : Hd pb = some (.lst ([.non] ++ ops.map fun k => V.int k.1)) := scd _ _ (sbc _ _ upd_same)
            have s9d := ((s9a.trans sab).trans sbc).trans scd
            have g9 : Hd p9 = some (.lst ([.non] ++ yv)) := s9d _ _ (s9S _ _ f9)
            have s8d : Same H8 Hd := s89.trans (s9S.trans s9d)
            have s7d := s78.trans s8d
            have s5d : Same H5 Hd := s57.trans s7d
            have s4d := s5.trans s5d
            have s3d := s34.trans s4d
            have prd : Paired (fun v (kd : Kind) => ∃ q, v = .ref q ∧ SqT K Hd q (kd.2.map Fv.v)) yv ops := PySem.Paired.mono (fun _ _ ⟨q, e1, e2⟩ => ⟨q, e1, Same.seqT (s9S.trans s9d) e2⟩) pr9
            refine ⟨_, rfl, pb, pd, p9, _, _, _, rfl, SqL.of gb, SqL.of gd, SqL.of g9, fun B hB => ?_⟩
            refine lc_build (KdZ.walk_zip3 (K := K) (a := pb) (b := pd) (c := p9) (n := ops.length + 1) (by rw [List.length_append, lcut]; show 1 + ops.length = _; omega) (by rw [List.length_append, lcut]; rfl) (by rw [List.length_append]; show 1 + yv.length = _; omega)) hB
              (fun i ys R => Same Hd R ∧ DpAll K R ys ((List.range i).map (verD ws (srt ks) ops))) ⟨Same.refl _, .nil⟩ (fun i ys Hz _ p => ⟨SqL.of (cd_sub _ _ (p.1 _ _ gb)), SqL.of (cd_sub _ _ (p.1 _ _ gd)), SqL.of (cd_sub _ _ (p.1 _ _ g9))⟩) ?_ ?_
            · rintro i ys y He He' hi e ly ⟨sm, dp⟩ ⟨T, v1, v2, v3, rfl, nT, rfl, ev1, ev2, ev3⟩
              have nBT : B ≠ T := ne_of_none e nT
              have sde : Same Hd (upd He T (.tup [v1, v2, v3])) := (sm.trans cd_sub).trans (same_new nT)
              refine ⟨T, _, rfl, SqT.of upd_same, rfl, _, _, rfl, _, _, rfl, _, _, rfl, rfl, rfl, yes ?_⟩
              have hop : OpAt K (upd He T (.tup [v1, v2, v3])) v3 ws.length (opv ops i) := op_at (PySem.Paired.mono (fun _ _ ⟨q, e1, e2⟩ => ⟨q, e1, Same.seqT sde e2⟩) prd) hops ev3
              refine ⟨_, rfl, _, rfl, _, rfl, _, rfl, _, rfl, D, DS, v3, ws, srt ks, opv ops i, ss, rfl, SqL.of (sde _ _ (s3d _ _ e3)), SqL.of (sde _ _ (s9d _ _ eS)), DpAll.same (s9d.trans sde) _ _ dS2, hop, by omega, fun rv Hf df sf => ?_⟩
              refine ⟨by show 3 ≤ sizeLine; decide, fun t ntt => ?_⟩
              have ef : upd Hf t (.tup [v1, v2, .ref rv]) B = some (.lst ys) := by
                have q1 : Hf B = some (.lst ys) := sf _ _ (by rw [upd_ne nBT]; exact e)
                rw [upd_ne (ne_of_none q1 ntt)]
                exact q1
              have sef : Same (cd B He) (cd B (upd Hf t (.tup [v1, v2, .ref rv]))) := cd_same (((same_new nT).trans sf).trans (same_new ntt))
              refine LcNx.add ef ly (by omega) ⟨sm.trans sef, ?_⟩
              rw [List.range_succ, List.map_append]
              refine dpall_snoc (DpAll.same sef _ _ dp) (dp_cd ef (ver_nolist ws (srt ks) ops i) ?_)
              refine .tup (SqT.of upd_same) (.cons (bgn_dp ev1) (.cons (fin_dp ev2) (.cons (Dp.same (same_new ntt) _ _ df) .nil)))
            · rintro ys Hz ez ly ⟨sm, dp⟩
              have sdz : Same Hd Hz := sm.trans cd_sub
              have s3z := s3d.trans sdz
              refine k B Hz ((ExtN.of s02).trans (eN.trans (ExtN.of s3z))) (T3.ext s3z) (fun b L hb => ne_of_none (((ExtN.of s02).trans (eN.trans (ExtN.of s3d))) b _ hb (fun _ z => nomatch z)) hB) (.lst (SqL.of ez) ?_)
              have ew : strL ws ks = (List.range (ops.length + 1)).map (verD ws (srt ks) ops) := by
                unfold strL
                rw [hopd]
              rw [ew]
              exact DpAll.same cd_sub _ _ dp
end
end Kd

namespace KdEx
open PySem PySem.Spec PyProof.Rows L2
section
variable {prog : Program} {w : World} {A : Around} {E : Value → Shared → Prop} {s : Shared}
/-- repr of a tuple, whatever is under way: some text -/
theorem repr_tuple {a : Addr} {o : Obj} {items : Array Value} {n : Nat} {ts : List Str} {Q : Value → Shared → Prop} (hu : A.units + 8 < cLine) (ha : s.heap.get? a = some o) (hc : o.cls = .type "tuple") (hd : o.data = .seq items n) (hT : ReprAll prog w items.toList ts) (hsz : (tupleText ts).length ≤ sizeLine)
    (h : ∀ (m : Str) (u tk : Tok), m.length ≤ (tupleText ts).length + 5 → Q (.str m u) { s with toks := tk }) : wpAny (model prog w) A (call (.builtin "repr") [.ref a]) Q E s :=
  call_repr_slot (by omega) ⟨o, ha, hc⟩ F.slot_tuple_repr (fmt_tuple_repr ha hc hd hT hsz fun m u tk hm => ⟨m, u, rfl, h m u tk hm⟩)
end
section
variable {X : Cx}
/-- a value of which repr is known whatever is under way, and its text -/
def flatT : V → Str
  | .str z => reprText z
  | .non => "None"
  | .int i => toString i
  | _ => ""
def Flat1 : V → Prop
  | .str z => (∀ c ∈ z.cps.toList, c < 16 ^ 8) ∧ z.length ≤ 4000
  | .non => True
  | _ => False
theorem flat_len {v : V} (h : Flat1 v) : (flatT v).length ≤ 50000 := by
  cases v with
  | str z =>
    have := StrLaws.reprText_len z h.1
    show (reprText z).length ≤ 50000
    have h2 := h.2
    omega
  | non => show ("None" : Str).length ≤ 50000; decide +kernel
  | _ => exact h.elim
theorem reprs {prog : Program} {w : World} : ∀ {ys : List V} {its : List Value}, Vals ys its → (∀ y ∈ ys, Flat1 y) → ReprAll prog w its (ys.map flatT)
  | [], _, r, _ => by
    cases r
    exact .nil
  | y :: l, _, r, h => by
    cases r with
    | cons r1 r2 =>
      have ih := reprs (prog := prog) (w := w) r2 fun z hz => h z (List.mem_cons_of_mem _ hz)
      have hy := h y (List.mem_cons_self ..)
      have hl := flat_len hy
      cases y with
      | str z =>
        obtain ⟨t, rfl⟩ := r1
        exact .cons (ReprIs.str z t (Nat.le_trans hl (by decide))) ih
      | non =>
        cases r1
        exact .cons ReprIs.none ih
      | _ => exact hy.elim
theorem piled_le : ∀ (ts : List Str), (∀ t ∈ ts, t.length ≤ 50000) → piled ts ≤ 60000 * ts.length
  | [], _ => Nat.zero_le _
  | t :: ts, h => by
    have ih := piled_le ts fun z hz => h z (List.mem_cons_of_mem _ hz)
    have h1 := h t (List.mem_cons_self ..)
    have e : piled (t :: ts) ≤ t.length + 2 + piled ts := by
      unfold piled
      simp
      try omega
    rw [List.length_cons]
    omega
/-- repr of a text, or of a short tuple of texts and None: some text -/
def rRepr (K : PySem.W.Frag) : List V → Hp → VK → Prop := fun xs H Q => ∃ x, xs = [x] ∧ ((∃ z : Str, x = .str z ∧ Flat1 x) ∨ ∃ (a : Addr) (ys : List V), x = .ref a ∧ SqT K H a ys ∧ ys.length ≤ 8 ∧ ∀ y ∈ ys, Flat1 y) ∧ ∀ m : Str, Q (.str m) H
theorem cr_repr (hu : X.A.units + 64 < cLine) : CallR X (.builtin "repr") (rRepr X.K) := by
  intro pins s σ H xs us Q I r h
  obtain ⟨x, rfl, hx, q⟩ := h
  obtain ⟨u, rfl, rx⟩ := vals1 r
  rcases hx with ⟨z, rfl, hz⟩ | ⟨a, ys, rfl, ht, hl, hy⟩
  · obtain ⟨t, rfl⟩ := rx
    refine PySem.P.repr_of_str ⟨.str _, H, I.tok _, ⟨_, rfl⟩, q _⟩ (Nat.le_trans (flat_len (v := .str z) hz) (by decide))
  · cases rx
    obtain ⟨its, rv, ⟨o, ho, hcl, n, hd⟩, _⟩ := I.tuple ht
    have htx := fmt_text (ys.map flatT)
    have hp := piled_le (ys.map flatT) fun t ht => by
      obtain ⟨y, hym, rfl⟩ := List.mem_map.mp ht
      exact flat_len (hy y hym)
    rw [List.length_map] at hp
    have hsl : sizeLine = sizeLine := rfl
    refine repr_tuple (ts := ys.map flatT) (by omega) ho hcl hd (reprs rv hy) (Nat.le_trans (show _ ≤ 500000 by omega) (by decide)) fun m u tk hm => ⟨.str m, H, I.tok _, ⟨u, rfl⟩, q m⟩
end
section
variable {X : Cx} {CX : CXT} {k : Nat} {f C : Addr} {fd : FuncData} {ps : List Str} {sp : Sp} {dvs : List V} {ds : List Value} {E : XK} {x m : Str} {p1 p2 pos : Pos} {e : Expr} {es : List Expr} {t : TA}
/-- C.m(e, ..), C a class of the program, m a def of it -/
structure ClsFn (K : PySem.W.Frag) (C f : Addr) (m : Str) : Prop where
  sp : PySem.W.specialIn K (.ref C) "__getattribute__" = some (some (.builtin "type.__getattribute__"))
  rd : PySem.W.readsIn K C (.type "type") = true
  fi : PySem.W.findCls K (.ref C) (.type "type") m = some (.val (.ref f))
  kp : PySem.W.keepIn K (.ref f) = true
theorem pe_clsfn {pl : Sem Bool} (hg : Gl X x) (hm : X.mg x = some (.ref C)) (T : ClsFn X.K C f m) (F : FnOk X.prog X.w X.K X.mg X.base CX k f fd ps sp) (hr : Room k X.A) (hb : Binds X.K fd ps ds) (hd : Vals dvs ds) (hx : Passes CX X E) (ha : PA X (e :: es) t)
    (hdb : (x == ("__debug__" : Str)) = false := by decide)
    (hc : eval (.Call (.Attribute (.Name x p1) m p2) (e :: es) [] pos) X.env = (do
      let ov ← eval (.Name x p1) X.env
      standAt p2.atName
      let (f, first) ← holding [ov] (getMethod ov m pl)
      callWith pos f first (backTo pos (starEach (e :: es) X.env)) (backToKw pos (keywordEach [] X.env))) := by rfl)
    (he : starEach (e :: es) X.env = (false, eval e X.env) :: starEach es X.env := by rfl) (hpl : (backTo pos (starEach es X.env)).any (·.1) = false := by rfl) :
    PE X (.Call (.Attribute (.Name x p1) m p2) (e :: es) [] pos) (tCall sp dvs E t) := by
  refine ⟨fun pins s σ H Q I h => ?_⟩
  refine PySem.W.methodCall_KW (ld_glob I hg hm ?_ hdb) hc
  refine PySem.W.method_cls I.kIn T.sp ?_
  refine PySem.W.cls_value I.kIn T.rd T.fi rfl ?_
  show wpAny _ _ (callWith pos (Value.ref f) [] (backTo pos (starEach (e :: es) X.env)) []) _ _ _
  refine PySem.W.callWith_K (h₀ := X.base) I.ok.mod.kin T.kp (thn (ha.run pos pins _ σ H _ (I.tok _) h) fun us s1 ⟨vs, H1, I1, r, q⟩ => ⟨I1.kIn, ?_⟩) he hpl
  exact run_fn F hr hb hd hx I1 r q
end
/-! ### == and != by an own def -/
section
variable {X : Cx} {CX : CXT} {n : Nat} {C f : Addr} {fd : FuncData} {ps : List Str} {sp : Sp} {E : XK} {op : CmpOp}
def rOwn (C : Addr) (sp : Sp) (E : XK) : R2 := fun x y H Q => ∃ a b dx dy fs gs, x = .ref a ∧ y = .ref b ∧ H a = some (.ins C dx fs) ∧ H b = some (.ins C dy gs) ∧ sp [.ref a, .ref b] H (fun v H' => ∃ r, v = .bl r ∧ Q (.bl r) H') E
theorem rich_own (F : FnOk X.prog X.w X.K X.mg X.base CX n f fd ps sp) (hs : PySem.W.findIn X.K (.ref C) (cmpInfo op).2.1 = some (some (.ref f))) (hf : PySem.W.isFn X.K (.ref f) = true) (hb : Binds X.K fd ps []) (hx : Passes CX X E) (hr : Room n X.A)
    {pins : List (Addr × Obj)} {s : Shared} {σ : L2.St} {H : Hp} {x y : V} {v u : Value} {Q : VK} (I : Inv X pins σ H s) (rx : RelV x v) (ry : RelV y u) (h : rOwn C sp E x y H Q) : wpAny (model X.prog X.w) X.A (richCompare op v u) (EP X pins σ Q) X.xe s := by
  obtain ⟨a, b, dx, dy, fs, gs, rfl, rfl, ha, hb', hsp⟩ := h
  cases rx
  cases ry
  obtain ⟨mA, J, _⟩ := ins_get I.hok ha
  obtain ⟨mB, J', _⟩ := ins_get I.hok hb'
  obtain ⟨od, J, _⟩ := J.look
  obtain ⟨od', J', _⟩ := J'.look
  obtain ⟨m, hF⟩ := I.fr
  refine PySem.W.cmp_K (op := op) (tb := .ref C) hr.units0 hF I.ok.mod.kin J J'.type (by simp [PySem.W.notFirst]) hs hf ?_
  have hl := F.len _ _ _ _ hsp
  have r2 : Vals [V.ref a, V.ref b] [Value.ref a, Value.ref b] := .cons rfl (.cons rfl .nil)
  refine wpAny_call (codeAny_mono (F.run X.A X.stack s H ⟨[.ref a, .ref b], []⟩ [.ref a, .ref b] [.ref a, .ref b] _ E hr I.env0 (by
    have := hb s [.ref a, .ref b] I.kIn (by simpa using hl)
    simpa using this) r2 hsp) fun r s' hq => ?_)
  cases r with
  | error e => exact hx pins σ H s e s' I hq
  | ok fl =>
    cases fl with
    | ret w =>
      obtain ⟨z, H', I', rz, r, ez, q⟩ := I.after hq
      subst ez
      cases rz
      exact ⟨.bl r, H', I', rfl, q⟩
    | next => exact False.elim hq
    | brk => exact False.elim hq
    | cont => exact False.elim hq
theorem op_eqOwn (F : FnOk X.prog X.w X.K X.mg X.base CX n f fd ps sp) (hs : PySem.W.findIn X.K (.ref C) "__eq__" = some (some (.ref f))) (hf : PySem.W.isFn X.K (.ref f) = true) (hb : Binds X.K fd ps []) (hx : Passes CX X E) (hr : Room n X.A) : OpR X (compareOp .Eq) (rOwn C sp E) := by
  intro pins s σ H x y v u Q I rx ry h
  exact rich_own (op := .Eq) F hs hf hb hx hr I rx ry h
theorem op_neOwn (F : FnOk X.prog X.w X.K X.mg X.base CX n f fd ps sp) (hs : PySem.W.findIn X.K (.ref C) "__ne__" = some (some (.ref f))) (hf : PySem.W.isFn X.K (.ref f) = true) (hb : Binds X.K fd ps []) (hx : Passes CX X E) (hr : Room n X.A) : OpR X (compareOp .NotEq) (rOwn C sp E) := by
  intro pins s σ H x y v u Q I rx ry h
  exact rich_own (op := .NotEq) F hs hf hb hx hr I rx ry h
end
end KdEx

namespace KdXc
open PySem PySem.Spec PyProof.Rows L2
/-! ### C(e, ..) in a try's body, where C's __init__ may raise -/
section
variable {X : Cx} {CX : CXT} {k : Nat} {f C : Addr} {fd : FuncData} {ps : List Str} {sp : Sp} {dvs : List V} {ds : List Value} {E : L2.St → XK} {x : Str} {p pos : Pos} {e : Expr} {es : List Expr} {t : TA}
def tMakeS (C : Addr) (sp : Sp) (dvs : List V) (E : L2.St → XK) (t : TA) : TE := fun σ H Q => t σ H fun vs H1 => ∀ x dx, H1 x = none → H1 dx = none → dx ≠ x →
  sp (.ref x :: (vs ++ dvs)) (upd (upd H1 dx (.own x)) x (.ins C dx [])) (fun v H2 => v = .non ∧ Q (.ref x) H2) (E σ)
theorem run_makeS {pins : List (Addr × Obj)} {σ : L2.St} {H : Hp} {s : Shared} {Q : VK} {us : List Value} {vs : List V} (M : Mk X.K C f) (G : FnOk X.prog X.w X.K X.mg X.base CX k f fd ps sp) (hr : Room (k + 1) X.A) (hb : Binds X.K fd ps ds) (hd : Vals dvs ds)
    (hx : PassesAt CX X σ (E σ)) (I : Inv X pins σ H s) (r : Vals vs us)
    (h : ∀ x dx, H x = none → H dx = none → dx ≠ x → sp (.ref x :: (vs ++ dvs)) (upd (upd H dx (.own x)) x (.ins C dx [])) (fun v H2 => v = .non ∧ Q (.ref x) H2) (E σ)) :
    wpAny (model X.prog X.w) X.A (call (.ref C) us) (EP X pins σ Q) X.xe s := by
  have want := h (s.heap.objs.size + 1) s.heap.objs.size (I.hok.fresh (Nat.le_succ _)) (I.hok.fresh (Nat.le_refl _)) (Nat.ne_of_lt (Nat.lt_succ_self _))
  have J := Inv.made (C := C) I
  have rr : Vals (V.ref (s.heap.objs.size + 1) :: (vs ++ dvs)) (Value.ref (s.heap.objs.size + 1) :: (us ++ ds)) := .cons rfl (r.append hd)
  have hlen : (Value.ref (s.heap.objs.size + 1) :: us ++ ds).length = ps.length := by
    have z := rr.length
    rw [G.len _ _ _ _ want] at z
    exact z.symm
  have go := G.run _ X.stack _ _ ⟨Value.ref (s.heap.objs.size + 1) :: us, []⟩ (Value.ref (s.heap.objs.size + 1) :: (us ++ ds)) _ _ (E σ) (hr.make C us []) (J.env0.make C us []) (hb _ (Value.ref (s.heap.objs.size + 1) :: us) J.kIn hlen) rr want
  refine wpAny_call (make_map (f := f) I.kIn M.makes M.init (beq_iff_eq.mp M.fn) (codeAny_mono go fun r s' back => ?_))
  cases r with
  | error er => exact hx pins _ _ er s' J back
  | ok fl =>
    cases fl with
    | ret u =>
      obtain ⟨v, H', J3, rv, ev, q3⟩ := J.after back
      subst ev
      exact ⟨rv, ⟨V.ref (s.heap.objs.size + 1), H', J3, rfl, q3⟩⟩
    | next => exact False.elim back
    | brk => exact False.elim back
    | cont => exact False.elim back
theorem pe_makeS (M : Mk X.K C f) (G : FnOk X.prog X.w X.K X.mg X.base CX k f fd ps sp) (hr : Room (k + 1) X.A) (hg : Gl X x) (hm : X.mg x = some (.ref C)) (hb : Binds X.K fd ps ds) (hd : Vals dvs ds) (hx : ∀ σ, PassesAt CX X σ (E σ))
    (ha : PA X (e :: es) t) (hdb : (x == ("__debug__" : Str)) = false := by decide) (he : starEach (e :: es) X.env = (false, eval e X.env) :: starEach es X.env := by rfl) (hpl : (backTo pos (starEach es X.env)).any (·.1) = false := by rfl) :
    PE X (.Call (.Name x p) (e :: es) [] pos) (tMakeS C sp dvs E t) := by
  refine ⟨fun pins s σ H Q I h => wpAny_Call_Name_kw (ld_glob I hg hm ?_ hdb)⟩
  refine PySem.W.callWith_K (h₀ := X.base) I.ok.mod.kin M.kp (thn (ha.run pos pins s σ H _ I h) fun us s1 ⟨vs, H1, I1, r, q⟩ => ⟨I1.kIn, run_makeS M G hr hb hd (hx σ) I1 r q⟩) he hpl
end
/-! ### what the head says of a refusal's class -/
def oexB (K : PySem.W.Frag) (C : Addr) : Bool := match K.lookup C with
  | some ⟨.type c, _, .cls cd, sl⟩ => decide (c = "type") && (match cd.mro, sl.toList with
    | .ref D :: bm, [_, _, _, _, some (.builtin n), _] => decide (D = C) && (decide (n = "ValueError.__new__") && (!cd.hasDel && (cd.hasDict && PySem.HandSPX.refsVE bm)))
    | _, _ => false)
  | _ => false
theorem oexB_ok {K : PySem.W.Frag} {C : Addr} (h : oexB K C = true) : ∃ nm q N bs bm sn sub ab col dd k0 k1 k2 k3 k5, K.lookup C = some (excClassObj nm q C N bs bm true sn sub ab col dd k0 k1 k2 k3 k5 "ValueError.__new__") ∧ PySem.HandSPX.refsVE bm = true := by
  unfold oexB at h
  split at h
  · rename_i c dd cd sl ho
    obtain ⟨hc, h⟩ := He.ba h
    have hc : c = "type" := of_decide_eq_true hc
    split at h
    · rename_i D bm k0 k1 k2 k3 n k5 hm hs
      obtain ⟨h1, h⟩ := He.ba h
      obtain ⟨h2, h⟩ := He.ba h
      obtain ⟨h3, h⟩ := He.ba h
      obtain ⟨h4, h5⟩ := He.ba h
      have e1 : D = C := of_decide_eq_true h1
      have e2 : n = "ValueError.__new__" := of_decide_eq_true h2
      have e3 : cd.hasDel = false := by simpa using h3
      obtain ⟨nm, bs, mro, ns, qn, hd, sn, sub, ab, col, del⟩ := cd
      dsimp only at hm e3 h4
      subst hc e1 e2 e3 h4 hm
      have hsl : sl = #[k0, k1, k2, k3, some (.builtin "ValueError.__new__"), k5] := by
        obtain ⟨l⟩ := sl
        simp only at hs
        rw [hs]
      subst hsl
      exact ⟨nm, qn, ns, bs, bm, sn, sub, ab, col, dd, k0, k1, k2, k3, k5, ho, h5⟩
    · cases h
  · cases h
structure ErrC (K : PySem.W.Frag) (C fI : Addr) : Prop where
  o : OexC K C
  iC : PySem.W.findIn K (.ref C) "__init__" = some (some (.ref fI))
  tI : PySem.W.typeIn K (.ref fI) = some (.type "function")
  nW : PySem.W.findIn K (.ref C) "what" = some none
  nN : PySem.W.findIn K (.ref C) "name" = some none
  x : XfC K C
  em : PySem.W.exmOne K (.ref C) (.ref C) = some true
  ca : PySem.W.findIn K (.ref C) "__class__" = some (some (.builtin "object.__class__"))
  cn : PySem.W.specialIn K (.builtin "object.__class__") "__get__" = some (some (.builtin "getset_descriptor.__get__"))
  ct : PySem.W.takesIn K (.builtin "object.__class__") = some true
  cm : PySem.W.mroIn K C (.type "object") = some true
  cs : (PySem.W.clsIn K C).isSome = true
def errB (K : PySem.W.Frag) (C fI : Addr) : Bool := oexB K C && (He.eqO (PySem.W.findIn K (.ref C) "__setattr__") (some (some (.builtin "object.__setattr__"))) && (decide (PySem.W.subIn K (.ref C) (.type "BaseException") = some true) && (decide (PySem.W.typeIn K (.ref C) = some (.type "type")) &&
  (PySem.W.keepIn K (.ref C) && (He.eqO (PySem.W.findIn K (.ref C) "__init__") (some (some (.ref fI))) && (decide (PySem.W.typeIn K (.ref fI) = some (.type "function")) && (He.eqO (PySem.W.findIn K (.ref C) "what") (some none) && (He.eqO (PySem.W.findIn K (.ref C) "name") (some none) &&
  (xfB K C && (decide (PySem.W.exmOne K (.ref C) (.ref C) = some true) && (He.eqO (PySem.W.findIn K (.ref C) "__class__") (some (some (.builtin "object.__class__"))) && (He.eqO (PySem.W.specialIn K (.builtin "object.__class__") "__get__") (some (some (.builtin "getset_descriptor.__get__"))) &&
  (decide (PySem.W.takesIn K (.builtin "object.__class__") = some true) && (decide (PySem.W.mroIn K C (.type "object") = some true) && (PySem.W.clsIn K C).isSome))))))))))))))
theorem errB_ok {K : PySem.W.Frag} {C fI : Addr} (h : errB K C fI = true) : ErrC K C fI := by
  obtain ⟨h1, h⟩ := He.ba h
  obtain ⟨h2, h⟩ := He.ba h
  obtain ⟨h3, h⟩ := He.ba h
  obtain ⟨h4, h⟩ := He.ba h
  obtain ⟨h5, h⟩ := He.ba h
  obtain ⟨h6, h⟩ := He.ba h
  obtain ⟨h7, h⟩ := He.ba h
  obtain ⟨h8, h⟩ := He.ba h
  obtain ⟨h9, h⟩ := He.ba h
  obtain ⟨h10, h⟩ := He.ba h
  obtain ⟨h11, h⟩ := He.ba h
  obtain ⟨h12, h⟩ := He.ba h
  obtain ⟨h13, h⟩ := He.ba h
  obtain ⟨h14, h⟩ := He.ba h
  obtain ⟨h15, h16⟩ := He.ba h
  exact ⟨⟨oexB_ok h1, He.eqO_ok h2, of_decide_eq_true h3, of_decide_eq_true h4, h5⟩, He.eqO_ok h6, of_decide_eq_true h7, He.eqO_ok h8, He.eqO_ok h9, xfB_ok h10, of_decide_eq_true h11, He.eqO_ok h12, He.eqO_ok h13, of_decide_eq_true h14, of_decide_eq_true h15, h16⟩
/-- DayError.__init__ as an attribute of its class, and ValueError's -/
def valB (o : Option PySem.W.CFound) (v : Value) : Bool := match o with
  | some (.val u) => decide (u = v)
  | _ => false
theorem valB_ok {o : Option PySem.W.CFound} {v : Value} (h : valB o v = true) : o = some (.val v) := by
  unfold valB at h
  split at h
  · rw [of_decide_eq_true h]
  · cases h
def cfnB (K : PySem.W.Frag) (C f : Addr) (m : Str) : Bool := He.eqO (PySem.W.specialIn K (.ref C) "__getattribute__") (some (some (.builtin "type.__getattribute__"))) && (PySem.W.readsIn K C (.type "type") && (valB (PySem.W.findCls K (.ref C) (.type "type") m) (.ref f) && PySem.W.keepIn K (.ref f)))
theorem cfnB_ok {K : PySem.W.Frag} {C f : Addr} {m : Str} (h : cfnB K C f m = true) : KdEx.ClsFn K C f m := by
  obtain ⟨h1, h⟩ := He.ba h
  obtain ⟨h2, h⟩ := He.ba h
  obtain ⟨h3, h4⟩ := He.ba h
  exact ⟨He.eqO_ok h1, h2, valB_ok h3, h4⟩
def veB (K : PySem.W.Frag) : Bool := valB (PySem.W.findCls K (.type "ValueError") (.type "type") "__init__") (.builtin "ValueError.__init__")
/-! ### isinstance of a caught refusal -/
theorem refs_vals : ∀ {cs : List Addr} {us : List Value}, Vals (cs.map V.ref) us → us = cs.map Value.ref
  | [], _, r => by cases r; rfl
  | c :: cs, _, r => by
    cases r with
    | cons r1 r2 =>
      cases r1
      rw [refs_vals r2]
      rfl
def rIsX (K : PySem.W.Frag) (D a : Addr) : List V → Hp → VK → Prop := fun xs H Q => ∃ c, xs = [.ref a, c] ∧ ((∃ (cv : Value) (b : Bool), (∀ u, RelV c u → u = cv) ∧ PySem.W.kitOne K (.ref D) cv = some b ∧ Q (.bl b) H) ∨
  ∃ (tp : Addr) (cs : List Addr) (b : Bool), c = .ref tp ∧ SqT K H tp (cs.map V.ref) ∧ PySem.W.kitAny K (.ref D) (cs.map Value.ref) = some b ∧ Q (.bl b) H)
/-- isinstance(e, ..) of what the suite holds -/
def rIsC (K : PySem.W.Frag) (D a : Addr) (cls : Value) (d : Option Addr) : List V → Hp → VK → Prop := fun xs H Q => cls = .ref D ∧ ∃ (dd : Addr) (fs : List (Str × V)), d = some dd ∧ H dd = some (.xd fs) ∧ rIsX K D a xs H Q
theorem call_isX {X : Cx} {a D fI : Addr} {oe : Obj} {cls : Value} {d : Option Addr} {pn : List (Addr × Obj)} (T : ErrC X.K D fI) (hz : Zc cls d oe) (hf : ∃ vs, oe.data = .fields vs) : CallR (X.suite a ((a, oe) :: pn)) (.builtin "isinstance") (rIsC X.K D a cls d) := by
  intro pins s σ H xs us Q I r h
  obtain ⟨rfl, dd, fs, rfl, hdd, c, rfl, hc⟩ := h
  have hx : ObjOk X.prog X.w H s.heap dd (.xd fs) := I.hok dd _ hdd
  obtain ⟨mA, hns, _⟩ := hx
  obtain ⟨od, ho, _⟩ := lookIn_ns hns
  obtain ⟨hget, _⟩ := I.pin (a, oe) (List.mem_append.mpr (.inl List.mem_cons_self))
  obtain ⟨vs, hv⟩ := hf
  have J : PySem.W.InstAt s.heap a oe D (some od) := ⟨hget, hz.1, by unfold PySem.W.notCls; rw [hv] <;> rfl, by rw [hz.2]; exact ho⟩
  have Z : PySem.W.KitX X.K (.ref a) (.ref D) (fun h => PySem.W.InstAt h a oe D (some od)) := PySem.W.kitx_exc T.cs T.x.ga T.x.gg T.x.exC T.ca T.cn T.ct T.cm
  cases r with
  | cons rx rr =>
    cases rr with
    | cons rt rr =>
      cases rr
      cases rx
      rcases hc with ⟨cv, b, hcv, e, q⟩ | ⟨tp, cs, b, rfl, ht, e, q⟩
      · have ec := hcv _ rt
        subst ec
        exact PySem.W.kia_one Z I.kIn J e (fun z => nomatch z) fun tk => ⟨.bl b, H, I.kept (t' := tk) fun _ _ z => z, rfl, q⟩
      · cases rt
        obtain ⟨its, rv, ⟨o, ho, hcl, n, hd⟩, _⟩ := I.tuple ht
        have ei := refs_vals rv
        subst ei
        obtain ⟨ocl, odd, oda, osl⟩ := o
        dsimp only at hcl hd
        subst hcl hd
        exact PySem.W.kia_tup Z I.kIn J ho e (fun z => nomatch z) fun tk => ⟨.bl b, H, I.kept (t' := tk) fun _ _ z => z, rfl, q⟩
/-! ### a refusal is made -/
/-- C(e), C's own __init__ keeping the promise of a refusal: its dict is new and holds fs -/
def spErr (K : PySem.W.Frag) (C : Addr) (fs : V → List (Str × V)) (Ok : V → Hp → Prop) : Sp := fun vs H Q _ => ∃ (a : Addr) (v : V), vs = [.ref a, v] ∧ H a = some (exo a C none) ∧ Ok v H ∧
  ∀ (d : Addr) (H' : Hp), H d = none → d ≠ a → H' a = some (exo a C (some d)) → H' d = some (exd d (fs v)) → (∀ b, b ≠ a → b ≠ d → H' b = H b) → Q .non H'
theorem err_ok {K : PySem.W.Frag} {C : Addr} {fs : V → List (Str × V)} {Ok : V → Hp → Prop} {H1 : Hp} {v : V} {Q : XK} (ok : ∀ a, H1 a = none → Ok v (upd H1 a (exo a C none))) (k : ∀ d, H1 d = none → Q (.ref C) (some d) (upd H1 d (.xd (fs v)))) :
    [v].length ≤ 1000 ∧ ∀ a, H1 a = none → spErr K C fs Ok (.ref a :: ([v] ++ [])) (upd H1 a (exo a C none))
      (fun u H2 => u = .non ∧ ∃ (d : Addr) (gs : List (Str × V)), H2 a = some (exo a C (some d)) ∧ H2 d = some (exd d gs) ∧ H1 d = none ∧ Q (.ref C) (some d) (upd (del H2 a) d (.xd gs))) (fun _ _ _ => False) := by
  refine ⟨by show 1 ≤ 1000; decide, fun a ha => ⟨a, v, rfl, upd_same, ok a ha, fun d H' hd nd e1 e2 rest => ⟨rfl, d, fs v, e1, e2, ?_, ?_⟩⟩⟩
  · rw [upd_ne nd] at hd
    exact hd
  · have hd1 : H1 d = none := by
      rw [upd_ne nd] at hd
      exact hd
    have eq : upd (del H' a) d (.xd (fs v)) = upd H1 d (.xd (fs v)) := by
      funext b
      by_cases hb : b = d
      · rw [hb, upd_same, upd_same]
      · rw [upd_ne hb, upd_ne hb]
        by_cases hba : b = a
        · rw [hba, del_same, ha]
        · rw [del_ne hba, rest b hba hb, upd_ne hba]
    rw [eq]
    exact k d hd1
/-- raise C(e): its making -/
theorem pmk_err {X : Cx} {x : Str} {C fI : Addr} {k : Nat} {fd : FuncData} {ps : List Str} {fs : V → List (Str × V)} {Ok : V → Hp → Prop} {e : Expr} {te : TE} {p pos : Pos} (T : ErrC X.K C fI)
    (G : FnOk X.prog X.w X.K X.mg X.base CX0 k fI fd ps (spErr X.K C fs Ok)) (hr : Room (k + 1) X.A) (hb : Binds X.K fd ps []) (hg : Gl X x) (hm : X.mg x = some (.ref C)) (he : PE X e te)
    (hdb : (x == ("__debug__" : Str)) = false := by decide) (hs : starEach [e] X.env = (false, eval e X.env) :: starEach [] X.env := by rfl) (hpl : (backTo pos (starEach [] X.env)).any (·.1) = false := by rfl) :
    PMk X (.Call (.Name x p) [e] [] pos) (tMkO C (spErr X.K C fs Ok) [] (tCons te tNil)) :=
  pmk_oex T.o T.iC T.tI G hr hb .nil pass0 hg hm (pa_cons he pa_nil hs) hdb hs hpl
/-! ### x in [y], by an own == -/
section
variable {X : Cx} {CX : CXT} {n : Nat} {C f : Addr} {fd : FuncData} {ps : List Str} {sp : Sp} {E : XK}
theorem rich_sub (G : FnOk X.prog X.w X.K X.mg X.base CX n f fd ps sp) (hs : PySem.W.findIn X.K (.ref C) "__eq__" = some (some (.ref f))) (hf : PySem.W.isFn X.K (.ref f) = true) (hb : Binds X.K fd ps []) (hx : Passes CX X E) {A : Around} (sb : Sub X n A)
    {pins : List (Addr × Obj)} {s : Shared} {σ : L2.St} {H : Hp} {x y : V} {v u : Value} {Q : VK} (I : Inv X pins σ H s) (rx : RelV x v) (ry : RelV y u) (h : KdEx.rOwn C sp E x y H Q) : wpAny (model X.prog X.w) A (richCompare .Eq v u) (EP X pins σ Q) X.xe s := by
  obtain ⟨a, b, dx, dy, fs, gs, rfl, rfl, ha, hb', hsp⟩ := h
  cases rx
  cases ry
  obtain ⟨mA, J, _⟩ := ins_get I.hok ha
  obtain ⟨mB, J', _⟩ := ins_get I.hok hb'
  obtain ⟨od, J, _⟩ := J.look
  obtain ⟨od', J', _⟩ := J'.look
  obtain ⟨m, hF⟩ := I.fr
  refine PySem.W.cmp_K (op := .Eq) (tb := .ref C) sb.room.units0 hF I.ok.mod.kin J J'.type (by simp [PySem.W.notFirst]) hs hf ?_
  have en : Env0 X.prog X.w X.K X.mg X.base A X.stack s H := by
    have z := I.env0
    exact ⟨by rw [sb.fr]; exact z.frames, z.mod, z.bs, z.bsz, z.funs, z.frf, z.hok, z.bare⟩
  have hlen := G.len _ _ _ _ hsp
  have rr : Vals [V.ref a, V.ref b] [Value.ref a, Value.ref b] := .cons rfl (.cons rfl .nil)
  have bb := hb s [.ref a, .ref b] I.kIn (by simpa using hlen)
  rw [List.append_nil] at bb
  refine wpAny_call (codeAny_mono (G.run A X.stack s H ⟨[.ref a, .ref b], []⟩ [.ref a, .ref b] [.ref a, .ref b] _ E sb.room en bb rr hsp) fun r s' back => ?_)
  cases r with
  | error er => exact hx pins σ H s er s' I back
  | ok fl =>
    cases fl with
    | ret w =>
      obtain ⟨z, H', J3, rz, r, ez, q⟩ := I.after back
      subst ez
      cases rz
      exact ⟨.bl r, H', J3, rfl, q⟩
    | next => exact False.elim back
    | brk => exact False.elim back
    | cont => exact False.elim back
/-- x in a list of one y -/
def rIn1 (C : Addr) (sp : Sp) (E : XK) : R2 := fun x l H Q => ∃ (a b p : Addr), x = .ref a ∧ l = .ref p ∧ H p = some (.lst [.ref b]) ∧ a ≠ b ∧ KdEx.rOwn C sp E (.ref b) (.ref a) H (fun v H' => (∃ r, v = .bl r) ∧ H' = H ∧ Q v H')
open MeetsSeq MeetsSeq2 MeetsSeq3 SeqRoads2 in
/-- list.__contains__ of a list of one -/
theorem contains_1 {prog : Program} {w : World} {A : Around} {R : Result → Shared → Prop} {s : Shared} {p : Addr} {x y : Value} {n : Nat} {items : Array Value} {dd : Option Addr} {sl : Array (Option Value)} (hl : s.heap.get? p = some { cls := .type "list", dict := dd, data := .seq items n, slots := sl })
    (i0 : items[((0 : Nat) : Int).toNat]? = some y) (i1 : items[((1 : Nat) : Int).toNat]? = none)
    (h : wpAny (model prog w) A.in1 (eqBool y x) (fun r s' => (r = true → R (.ok (.ret (.bool true))) s') ∧ (r = false → ∃ n2 dd2 sl2, s'.heap.get? p = some { cls := .type "list", dict := dd2, data := .seq items n2, slots := sl2 } ∧ R (.ok (.ret (.bool false))) s')) (fun e s' => R (.error e) s') s) :
    wpAny (model prog w) A.in1 (Builtin.«list.__contains__» ⟨[.ref p, x], []⟩) (GQ.FinOf prog w A R) (fun e s' => R (.error e) s') s := by
  have loop : ∀ (i : Nat) (s : Shared), (∃ n dd sl, s.heap.get? p = some { cls := .type "list", dict := dd, data := .seq items n, slots := sl }) → (match items[((i : Nat) : Int).toNat]? with
      | none => R (.ok (.ret (.bool false))) s
      | some y => wpAny (model prog w) A.in1 (eqBool y x) (fun r s' => (r = true → R (.ok (.ret (.bool true))) s') ∧ (r = false → codeAny (model prog w) A (.builtin "list.__contains__.loop" ⟨[.ref p, x, rawInt ((i : Int) + 1)], []⟩) R s')) (fun e s' => R (.error e) s') s) →
      wpAny (model prog w) A.in1 (Builtin.«list.__contains__.loop» ⟨[.ref p, x, rawInt i], []⟩) (GQ.FinOf prog w A R) (fun e s' => R (.error e) s') s := by
    intro i s hs hi
    obtain ⟨n, dd, sl, hl⟩ := hs
    obtain ⟨hp, g, d, tk, os⟩ := s
    cases e : items[((i : Nat) : Int).toNat]? with
    | none =>
      rw [e] at hi
      wp_walk using AutoSeq1.wpAny_loadPart' hl
      rw [e]
      wp_walk
      exact hi
    | some y =>
      rw [e] at hi
      wp_walk using AutoSeq1.wpAny_loadPart' hl
      rw [e]
      refine wpAny_bind (wpAny_mono hi (fun r s2 h2 => ?_) fun _ _ z => z)
      cases r with
      | true =>
        have z := h2.1 rfl
        obtain ⟨hp2, g2, d2, tk2, os2⟩ := s2
        wp_walk
        exact z
      | false =>
        have z := h2.2 rfl
        obtain ⟨hp2, g2, d2, tk2, os2⟩ := s2
        wp_walk
        exact ⟨plainId_quiet plain_contains_loop _, z⟩
  have step : ∀ (i : Nat) (s : Shared), wpAny (model prog w) A.in1 (Builtin.«list.__contains__.loop» ⟨[.ref p, x, rawInt i], []⟩) (GQ.FinOf prog w A R) (fun e s' => R (.error e) s') s → codeAny (model prog w) A (.builtin "list.__contains__.loop" ⟨[.ref p, x, rawInt i], []⟩) R s := fun i s q =>
    codeAny_builtin entry_contains_loop (by
      rw [Around.under_plainId plain_contains_loop _]
      exact q)
  have fin := step 0 s (loop 0 s ⟨_, _, _, hl⟩ (by
    rw [i0]
    refine wpAny_mono h (fun r s' z => ⟨z.1, fun er => ?_⟩) fun _ _ z => z
    obtain ⟨n2, dd2, sl2, hl2, q⟩ := z.2 er
    have e1 : ((0 : Nat) : Int) + 1 = ((1 : Nat) : Int) := by decide
    rw [e1]
    refine step 1 s' (loop 1 s' ⟨_, _, _, hl2⟩ ?_)
    rw [i1]
    exact q))
  obtain ⟨hp, g, d, tk, os⟩ := s
  wp_walk using AutoSeq1.wpAny_loadPart' hl
  exact ⟨plainId_quiet plain_contains_loop _, fin⟩
theorem op_in1 (G : FnOk X.prog X.w X.K X.mg X.base CX n f fd ps sp) (hs : PySem.W.findIn X.K (.ref C) "__eq__" = some (some (.ref f))) (hf : PySem.W.isFn X.K (.ref f) = true) (hb : Binds X.K fd ps []) (hx : Passes CX X E) (hr : Room (n + 1) X.A) : OpR X (compareOp .In) (rIn1 C sp E) := by
  intro pins s σ H x l v u Q I rx rl h
  obtain ⟨a, b, p, rfl, rfl, hp, nab, hown⟩ := h
  cases rx
  cases rl
  have list1 : ∀ {s' : Shared}, Inv X pins σ H s' → ∃ n dd sl, s'.heap.get? p = some { cls := .type "list", dict := dd, data := .seq #[Value.ref b] n, slots := sl } := fun {s'} J => by
    obtain ⟨its, rv, ⟨o, m, e1, e2, e3, e4⟩, _⟩ := J.list (SqL.of hp)
    have ei : its = [Value.ref b] := by
      cases rv with
      | cons r1 r2 =>
        cases r1
        cases r2
        rfl
    subst ei
    obtain ⟨oc, od, oda, osl⟩ := o
    dsimp only at e2 e4
    subst e2 e4
    exact ⟨_, _, _, e1⟩
  obtain ⟨n0, dd, sl, hl⟩ := list1 I
  show wpAny _ _ (do return Value.bool (← contains (.ref p) (.ref a))) _ _ _
  refine wpAny_bind (wpAny_contains_slot ⟨_, hl, rfl⟩ F.slot_list_contains (wpAny_mono (GQ.call_here (Q := fun v s' => ∃ b, v = .bool b ∧ EP X pins σ Q (.bool b) s') F.slot_list_contains ⟨_, hl, rfl⟩ F.entry_list_contains (F.args_list_contains_2 _ _) (contains_1 hl rfl rfl ?_)) (fun v s' hv => ?_) fun _ _ z => z))
  · refine GQ.eqBool_refG (Ne.symm nab) (wpAny_mono (rich_sub G hs hf hb hx (Sub.in1 (X := X) ⟨hr, rfl⟩) (x := .ref b) (y := .ref a) I rfl rfl hown) (fun z s' hz => ?_) fun _ _ q => q)
    obtain ⟨y, H', J, ry, ⟨r, ey⟩, eH, q⟩ := hz
    subst eH ey
    cases ry
    refine ⟨r, rfl, fun e => ?_, fun e => ?_⟩
    · subst e
      exact ⟨true, rfl, .bl true, _, J, rfl, q⟩
    · subst e
      obtain ⟨n2, dd2, sl2, hl2⟩ := list1 J
      exact ⟨n2, dd2, sl2, hl2, false, rfl, .bl false, _, J, rfl, q⟩
  · obtain ⟨r, rfl, hq⟩ := hv
    exact wpAny_truthy_bool (wpAny_pure hq)
end
end KdXc

namespace KdRp
open PySem PySem.Spec PyProof.Rows L2
section
variable {prog : Program} {w : World}
/-- what repr makes of x in this heap is some text of at most L signs -/
def RepW (prog : Program) (w : World) (h : Heap) (d : Nat) (x : Value) (L : Nat) : Prop :=
  ∀ (A : Around) (s : Shared), A.units + d < cLine → s.heap = h → ∀ b, b + L ≤ sizeLine → ∀ (E : Value → Shared → Prop) (Q : Str → Shared → Prop), (∀ t tk, t.length ≤ L → Q t { s with toks := tk }) → wpAny (model prog w) A (pyReprUnder b x) Q E s
theorem RepW.flat {h : Heap} {d L : Nat} {x : Value} {t : Str} (r : ReprIs prog w x t) (hl : t.length ≤ L) : RepW prog w h d x L := fun A s _ _ b hb E Q q => r b (by omega) A E s Q fun tk => q t tk hl
theorem fold_w {h : Heap} {d L : Nat} {A : Around} {E : Value → Shared → Prop} (hu : A.units + d < cLine) : ∀ (l : List Value) (acc : Array Str) (n : Nat) (s : Shared) (Q : (Array Str × Nat) → Shared → Prop), s.heap = h → (∀ x ∈ l, RepW prog w h d x L) → n + 1 + (L + 2) * l.length ≤ sizeLine →
    (∀ (ts : List Str) (m : Nat) (tk : Nat), ts.length = l.length → (∀ t ∈ ts, t.length ≤ L) → Q ⟨acc ++ ts.toArray, m⟩ { s with toks := tk }) → wpAny (model prog w) A (forIn l (⟨acc, n⟩ : (Array Str × Nat)) tupBody) Q E s := by
  intro l
  induction l with
  | nil =>
    intro acc n s Q _ _ _ q
    have q0 := q [] n s.toks rfl (fun _ z => (nomatch z))
    simp only [List.forIn_nil]
    exact wpAny_pure (by simpa using q0)
  | cons x l ih =>
    intro acc n s Q hs hx hn q
    rw [List.length_cons, Nat.mul_succ] at hn
    rw [List.forIn_cons]
    refine wpAny_bind (wpAny_bind (hx x (List.mem_cons_self ..) A s hu hs (n + 1) (by omega) E _ fun t tk ht => wpAny_pure ?_))
    refine ih (acc.push t) (n + (t.length + 2)) { s with toks := tk } Q hs (fun y hy => hx y (List.mem_cons_of_mem _ hy)) (by omega) fun ts m tk' hl hts => ?_
    have q1 := q (t :: ts) m tk' (by rw [List.length_cons, hl, List.length_cons]) fun y hy => by
      rcases List.mem_cons.mp hy with rfl | hy
      · exact ht
      · exact hts y hy
    simpa using q1
theorem piled_of : ∀ (ts : List Str) {L : Nat}, (∀ t ∈ ts, t.length ≤ L) → piled ts ≤ (L + 2) * ts.length
  | [], _, _ => Nat.zero_le _
  | t :: ts, L, h => by
    have ih := piled_of ts fun y hy => h y (List.mem_cons_of_mem _ hy)
    have h1 := h t (List.mem_cons_self ..)
    rw [piled_cons, List.length_cons, Nat.mul_succ]
    omega
theorem join_le (ts : List Str) {L : Nat} (h : ∀ t ∈ ts, t.length ≤ L) : (Str.join ", " ts).length ≤ (L + 2) * ts.length := by
  have p := piled_of ts h
  cases ts with
  | nil => show (Str.join ", " []).length ≤ _; exact Nat.zero_le _
  | cons t ts =>
    have e := join_length_add (t :: ts) (by simp)
    omega
/-- a tuple's signs -/
abbrev tupL (L n : Nat) : Nat := (L + 2) * n + 8
theorem at_w {h : Heap} {d L b : Nat} {A : Around} {E : Value → Shared → Prop} {s : Shared} {a : Addr} {o : Obj} {items : Array Value} {n : Nat} {Q : Fin → Shared → Prop} (hu : A.units + d < cLine) (hs : s.heap = h) (ha : h.get? a = some o) (hd : o.data = .seq items n)
    (hx : ∀ x ∈ items.toList, RepW prog w h d x L) (hb : b + tupL L items.size ≤ sizeLine) (q : ∀ m u tk, m.length ≤ tupL L items.size → Q (.done (.ret (.str m u))) { s with toks := tk }) : wpAny (model prog w) A (Builtin.tupleReprAt b ⟨[.ref a], []⟩) Q E s := by
  have hb' : b + ((L + 2) * items.size + 8) ≤ sizeLine := hb
  rw [tuple_repr_tree]
  refine wpAny_bind (fmt_underWay fun c => ?_)
  cases c with
  | true =>
    refine PySem.W.KFB.if_so rfl ?_
    refine wpAny_bind (wpAny_rule ?_)
    refine wpAny_bind (wpAny_mkStr (wpAny_pure ?_) (by decide +kernel))
    exact q "(...)" _ _ (Nat.le_trans fmt_way (by show 5 ≤ (L + 2) * items.size + 8; omega))
  | false =>
    refine PySem.W.KFB.if_not rfl ?_
    unfold tupleReprRest Builtin.Tuple.tupleItemsOf
    refine wpAny_bind (wpAny_bind (wpAny_seqItems (by rw [hs]; exact ha) hd (wpAny_pure ?_)))
    rw [← Array.forIn_toList]
    have el : items.toList.length = items.size := Array.length_toList
    refine wpAny_bind (fold_w hu _ _ _ _ _ hs hx (by rw [el]; omega) fun ts m tk hl hts => ?_)
    have hj := join_le ts hts
    rw [hl, el] at hj
    have e1 : ((("(" : String) : Str)).length = 1 := rfl
    have e3 : (((if items.size == 1 then ",)" else ")" : String) : Str)).length ≤ 2 := by split <;> decide +kernel
    have e4 : (#[] ++ ts.toArray).toList = ts := by simp
    have hm : ((("(" : Str) ++ Str.join ", " ts ++ ((if items.size == 1 then ",)" else ")" : String) : Str)) : Str).length ≤ tupL L items.size := by
      rw [strLen_append, strLen_append, e1]
      show _ ≤ (L + 2) * items.size + 8
      omega
    have hz := Nat.le_trans hm (Nat.le_trans (Nat.le_add_left _ b) hb)
    refine wpAny_bind (wpAny_mkStr (wpAny_pure ?_) (by simpa using hz))
    have q1 := q _ tk (tk + 1) hm
    simpa using q1
/-- a tuple within -/
theorem RepW.tup {h : Heap} {d L : Nat} {a : Addr} {o : Obj} {items : Array Value} {n : Nat} (ha : h.get? a = some o) (hc : o.cls = .type "tuple") (hd : o.data = .seq items n) (hx : ∀ x ∈ items.toList, RepW prog w h d x L) : RepW prog w h (d + 2) (.ref a) (tupL L items.size) := by
  intro A s hu hs b hb E Q q
  have hT : s.TypeIs (.ref a) "tuple" := ⟨o, by rw [hs]; exact ha, hc⟩
  refine wpAny_pyReprUnder_ref (by omega) (wpAny_pyReprObjUnder_twin (twin := "tuple.__repr__.under") hT F.slot_tuple_repr rfl (by omega) ?_)
  refine call_twin_own (F.quiet_tuple_repr_under _) F.entry_tuple_repr_under F.check_tuple_repr_under hT F.slot_tuple_repr (F.args_tuple_repr_1 _) (wpOwn_of_wpAny ?_)
  refine at_w (by rw [units_under_tuple_repr_under]; omega) hs ha hd hx hb fun m u tk hm => ?_
  exact ⟨⟨m, u, rfl⟩, m, u, rfl, q m tk hm⟩
/-- repr(t) -/
theorem repr_w {h : Heap} {d L : Nat} {A : Around} {E : Value → Shared → Prop} {s : Shared} {a : Addr} {o : Obj} {items : Array Value} {n : Nat} {Q : Value → Shared → Prop} (hu : A.units + (d + 8) < cLine) (hs : s.heap = h) (ha : h.get? a = some o) (hc : o.cls = .type "tuple") (hd : o.data = .seq items n)
    (hx : ∀ x ∈ items.toList, RepW prog w h d x L) (hb : tupL L items.size ≤ sizeLine) (q : ∀ (m : Str) (u tk : Tok), Q (.str m u) { s with toks := tk }) : wpAny (model prog w) A (call (.builtin "repr") [.ref a]) Q E s := by
  have hT : s.TypeIs (.ref a) "tuple" := ⟨o, by rw [hs]; exact ha, hc⟩
  refine call_repr_slot (by omega) hT F.slot_tuple_repr ?_
  refine wpAny_call (codeAny_call_builtin_own (Code.quiet_builtin _ (by decide +kernel)) F.entry_tuple_repr (F.slot_tuple_repr.check _ _ _ _ _ _ _ _ hT (F.args_tuple_repr_1 _) (wpOwn_of_wpAny ?_)))
  refine at_w (b := 0) (by
    have e : A.in1.units ≤ A.units + 1 := by first | exact Nat.le_refl _ | (simp [Around.in1])
    rw [units_under_tuple_repr]
    omega) hs ha hd hx (by omega) fun m u tk _ => ?_
  exact ⟨m, u, rfl, q m u tk⟩
end
/-! ### repr of what a refusal keeps -/
theorem RepW.mono {prog : Program} {w : World} {h : Heap} {d d' L L' : Nat} {x : Value} (r : RepW prog w h d x L) (hd : d ≤ d') (hl : L ≤ L') : RepW prog w h d' x L' :=
  fun A s hu hs b hb E Q q => r A s (by omega) hs b (by omega) E Q fun t tk ht => q t tk (by omega)
/-- a value without parts, of a few signs -/
def FlatS : V → Prop
  | .str z => (∀ c ∈ z.cps.toList, c < 16 ^ 8) ∧ z.length ≤ 100
  | .int i => i.natAbs.log2 < 1920
  | .non => True
  | _ => False
theorem flat_w {prog : Program} {w : World} {h : Heap} {v : V} {u : Value} (r : RelV v u) (f : FlatS v) : RepW prog w h 0 u 2000 := by
  cases v with
  | str z =>
    obtain ⟨t, rfl⟩ := r
    have := StrLaws.reprText_len z f.1
    have f2 := f.2
    have hl : (reprText z).length ≤ 2000 := by omega
    exact .flat (ReprIs.str z t (Nat.le_trans hl (by decide))) hl
  | int i =>
    obtain ⟨t, rfl⟩ := r
    exact .flat (ReprIs.int t f) (Nat.le_trans (int_text_len_1921 f) (by decide))
  | non =>
    cases r
    exact .flat ReprIs.none (by decide +kernel)
  | _ => exact f.elim
theorem flats_w {prog : Program} {w : World} {h : Heap} : ∀ {ys : List V} {us : List Value}, Vals ys us → (∀ y ∈ ys, FlatS y) → ∀ u ∈ us, RepW prog w h 0 u 2000
  | [], _, r, _, u, hu => by
    cases r
    cases hu
  | y :: ys, _, r, hy, u, hu => by
    cases r with
    | cons r1 r2 =>
      rcases List.mem_cons.mp hu with rfl | hu
      · exact flat_w r1 (hy y (List.mem_cons_self ..))
      · exact flats_w r2 (fun z hz => hy z (List.mem_cons_of_mem _ hz)) u hu
/-- a tuple of such -/
def Tup1 (K : PySem.W.Frag) (H : Hp) (y : V) : Prop := ∃ (b : Addr) (zs : List V), y = .ref b ∧ SqT K H b zs ∧ zs.length ≤ 40 ∧ ∀ z ∈ zs, FlatS z
def Rep2 (K : PySem.W.Frag) (x : V) (H : Hp) : Prop := (∃ z : Str, x = .str z ∧ KdEx.Flat1 (.str z)) ∨ (∃ i : Int, x = .int i ∧ i.natAbs.log2 < 1920) ∨ x = .non ∨ ∃ (a : Addr) (ys : List V), x = .ref a ∧ SqT K H a ys ∧ ys.length ≤ 40 ∧ ∀ y ∈ ys, FlatS y ∨ Tup1 K H y
section
variable {X : Cx} {pins : List (Addr × Obj)} {σ : L2.St} {H : Hp} {s : Shared}
theorem parts_w (I : Inv X pins σ H s) : ∀ {ys : List V} {us : List Value}, Vals ys us → (∀ y ∈ ys, FlatS y ∨ Tup1 X.K H y) → ∀ u ∈ us, RepW X.prog X.w s.heap 2 u 80100
  | [], _, r, _, u, hu => by
    cases r
    cases hu
  | y :: ys, _, r, hy, u, hu => by
    cases r with
    | cons r1 r2 =>
      rcases List.mem_cons.mp hu with rfl | hu
      · rcases hy y (List.mem_cons_self ..) with f | ⟨b, zs, rfl, hb, hl, hz⟩
        · exact (flat_w r1 f).mono (by decide) (by decide)
        · cases r1
          obtain ⟨its, rv, ⟨o, ho, hcl, n, hd⟩, _⟩ := I.tuple hb
          have el : its.toArray.size = zs.length := by rw [List.size_toArray, ← rv.length]
          refine RepW.mono (RepW.tup (d := 0) (L := 2000) ho hcl hd (by simpa using flats_w rv hz)) (by decide) ?_
          show (2000 + 2) * its.toArray.size + 8 ≤ 80100
          rw [el]
          omega
      · exact parts_w I r2 (fun z hz => hy z (List.mem_cons_of_mem _ hz)) u hu
def rRep2 (K : PySem.W.Frag) : List V → Hp → VK → Prop := fun xs H Q => ∃ x, xs = [x] ∧ Rep2 K x H ∧ ∀ m : Str, Q (.str m) H
theorem cr_rep2 (hu : X.A.units + 64 < cLine) : CallR X (.builtin "repr") (rRep2 X.K) := by
  intro pins s σ H xs us Q I r h
  obtain ⟨x, rfl, hx, q⟩ := h
  obtain ⟨u, rfl, rx⟩ := vals1 r
  rcases hx with ⟨z, rfl, hz⟩ | ⟨i, rfl, hi⟩ | rfl | ⟨a, ys, rfl, ht, hl, hy⟩
  · obtain ⟨t, rfl⟩ := rx
    exact PySem.P.repr_of_str ⟨.str _, H, I.tok _, ⟨_, rfl⟩, q _⟩ (Nat.le_trans (KdEx.flat_len (v := .str z) hz) (by decide))
  · obtain ⟨t, rfl⟩ := rx
    exact PySem.P.repr_of_int hi ⟨.str _, H, I.tok _, ⟨_, rfl⟩, q _⟩
  · cases rx
    exact PySem.P.repr_of_none ⟨.str _, H, I.tok _, ⟨_, rfl⟩, q _⟩
  · cases rx
    obtain ⟨its, rv, ⟨o, ho, hcl, n, hd⟩, _⟩ := I.tuple ht
    have el : its.toArray.size = ys.length := by rw [List.size_toArray, ← rv.length]
    refine repr_w (d := 2) (L := 80100) (by omega) rfl ho hcl hd (by simpa using parts_w I rv hy) (Nat.le_trans (show (80100 + 2) * its.toArray.size + 8 ≤ 4000000 by rw [el]; omega) (by decide)) fun m u tk => ⟨.str m, H, I.tok _, ⟨u, rfl⟩, q m⟩
end
end KdRp

set_option maxHeartbeats 4000000
namespace KdXv
open PySem PySem.W PySem.Calls PyProof.Rows PySem.HandSPX
open Builtin Builtin.ObjectAttr
/-! ### C(k = v), C an own class over ValueError with an __init__ -/
section
variable {M : Model} {prog : Program} {w : World} {A : Around} {E : Value → Shared → Prop} {R : Result → Shared → Prop} {h : Heap} {g : Array GenState} {d : Drawn} {t : Nat} {os : OsState} {kw : List (Str × Value)}
variable {nm q : Str} {C N : Addr} {bs bm bmB : List Value} {hdct : Bool} {sn : List Str} {sub : List Value} {ab : Bool} {col : Option Bool} {dd : Option Addr} {k0 k1 k2 k3 k5 : Option Value} {B newId initId : String}
theorem check_kw (F : ExcBaseFacts B newId initId bmB) (hT : ∀ X : String, bm.contains (.type X) = bmB.contains (.type X)) {Q : Unit → Shared → Prop} (hC : h.get? C = some (excClassObj nm q C N bs bm hdct sn sub ab col dd k0 k1 k2 k3 k5 newId)) (hq : Q () ⟨h, g, d, t, os⟩) :
    wpAny M A (checkBuiltinCall newId ⟨[.ref C], kw⟩) Q E ⟨h, g, d, t, os⟩ := by
  have has : (Value.ref C :: bm).contains (.type B) = true := by rw [List.contains_cons, hT, F.hasB, Bool.or_true]
  have star := F.noStar
  simp only [checkBuiltinCall, F.newKind, F.newSplit, F.newRow]
  repeat (first | refine wpAny_loadPart_at hC ?_ | (refine wpAny_isSubtype_exc hC ?_; rw [has]) | refine wpAny_staticBase_exc hC ?_ | refine wpAny_madeBy_exc hC ?_ | simp only [bne_self_eq_false, Bool.false_eq_true, if_false] | wp_step)
  exact hq
theorem new_kw (F : ExcBaseFacts B newId initId bmB) (hT : ∀ X : String, bm.contains (.type X) = bmB.contains (.type X)) (hC : h.get? C = some (excClassObj nm q C N bs bm hdct sn sub ab col dd k0 k1 k2 k3 k5 newId))
    (hq : R (.ok (.ret (.ref (h.objs.size + 1)))) ⟨(h.push (W.kdv_tup [])).push (excO C h.objs.size), g, d, t, os⟩) : codeAny (model prog w) A (.builtin newId ⟨[.ref C], kw⟩) R ⟨h, g, d, t, os⟩ := by
  have ends := F.ends
  have c1 : (Value.ref C :: bm).contains (.type B) = true := by rw [List.contains_cons, hT, F.hasB, Bool.or_true]
  have c2 : (Value.ref C :: bm).contains (.type "AttributeError") = false := by rw [List.contains_cons, hT, F.noAttr]; rfl
  have c3 : (Value.ref C :: bm).contains (.type "NameError") = false := by rw [List.contains_cons, hT, F.noName]; rfl
  refine codeAny_builtinAt F.entry ?_
  unfold Builtin.«BaseException.__new__»
  refine _root_.PySem.wpAt_bind ?_
  show _root_.PySem.wpAt _ _ _ (stack >>= _) _ _ _
  refine _root_.PySem.wpAt_bind (_root_.PySem.wpAt_stack fun p below => _root_.PySem.wpAt_of_wpAny ?_)
  wp_walk
  refine _root_.PySem.wpAt_of_wpAny ?_
  rw [F.owner]
  repeat (first | with_reducible refine wpAny_madeHere_exc F.canon hC ?_ | with_reducible refine wpAny_loadPart_at hC ?_ | (with_reducible refine wpAny_isSubtype_exc hC ?_; first | rw [c1] | rw [c2] | rw [c3]) | wp_step)
  show R _ _
  rw [Heap.size_push]
  exact hq
theorem type_kw (F : ExcBaseFacts B newId initId bmB) (hT : ∀ X : String, bm.contains (.type X) = bmB.contains (.type X)) {fI : Addr} {Q : Fin → Shared → Prop} (hC : h.get? C = some (excClassObj nm q C N bs bm hdct sn sub ab col dd k0 k1 k2 k3 k5 newId))
    (hi : W.Looks (model prog w) h (typeLookup (.ref C) "__init__") (some (.ref fI))) (hb : ∀ self, W.Looks (model prog w) h (bindSpecial (.ref fI) self) (.ref fI, [self]))
    (hq : codeAny (model prog w) A (.call (.ref fI) ⟨[.ref (h.objs.size + 1)], kw⟩) (fun r s' => match r with | .ok (.ret v) => v = .none ∧ Q (.done (.ret (.ref (h.objs.size + 1)))) s' | .ok _ => False | .error e => E e s') ⟨(h.push (W.kdv_tup [])).push (excO C h.objs.size), g, d, t, os⟩) :
    wpAny (model prog w) A (Builtin.«type.__call__» ⟨[.ref C], kw⟩) Q E ⟨h, g, d, t, os⟩ := by
  repeat (first | with_reducible refine wpAny_loadPart_at hC ?_ | with_reducible refine wpAny_madeBy_exc hC ?_ | wp_step)
  refine codeAny_call_builtin_code (Code.quiet_builtin _ F.quiet) (check_kw F hT hC ?_)
  refine new_kw F hT hC ?_
  show wpAny _ _ _ _ _ _
  have keep : ∀ b o, h.get? b = some o → ((h.push (W.kdv_tup [])).push (excO C h.objs.size)).get? b = some o := fun b o e => Heap.get?_push_of_some _ (Heap.get?_push_of_some _ e)
  have hC1 := keep _ _ hC
  have here : ((h.push (W.kdv_tup [])).push (excO C h.objs.size)).get? (h.objs.size + 1) = some (excO C h.objs.size) := by heap_get
  have own : (Value.ref C :: bm).contains (.ref C) = true := by simp
  have i1 := hi.keeps keep
  have b1 := (hb (.ref (h.objs.size + 1))).keeps keep
  unfold isInstance
  repeat (first | with_reducible refine wpAny_loadPart_at here ?_ | (with_reducible refine wpAny_isSubtype_exc hC1 ?_; rw [own]) | wp_step)
  show wpAny _ _ (typeLookup (.ref C) _) _ _ _
  refine i1.at ?_
  refine wpAny_holding (wpAny_bind (b1.at ?_))
  refine wpAny_bind (wpAny_call (codeAny_mono hq fun r s' z => ?_))
  rcases r with e | (v | _ | _ | _) <;> first | exact z | exact z.elim | skip
  obtain ⟨rfl, z⟩ := z
  first
    | exact wpAny_pure (wpAny_pure z)
    | (wp_walk; exact z)
theorem call_kw (F : ExcBaseFacts B newId initId bmB) (hT : ∀ X : String, bm.contains (.type X) = bmB.contains (.type X)) {fI : Addr} (hC : h.get? C = some (excClassObj nm q C N bs bm hdct sn sub ab col dd k0 k1 k2 k3 k5 newId))
    (hi : W.Looks (model prog w) h (typeLookup (.ref C) "__init__") (some (.ref fI))) (hb : ∀ self, W.Looks (model prog w) h (bindSpecial (.ref fI) self) (.ref fI, [self]))
    (hq : codeAny (model prog w) (A.under (.builtin "type.__call__" ⟨[.ref C], kw⟩)) (.call (.ref fI) ⟨[.ref (h.objs.size + 1)], kw⟩) (W.InitBack (h.objs.size + 1) R) ⟨(h.push (W.kdv_tup [])).push (excO C h.objs.size), g, d, t, os⟩) :
    codeAny (model prog w) A (.call (.ref C) ⟨[], kw⟩) R ⟨h, g, d, t, os⟩ := by
  have f1 := tc_lookup
  have f2 := tc_bind (.ref C)
  have ty : (⟨h, g, d, t, os⟩ : Shared).TypeIs (.ref C) "type" := ⟨_, hC, rfl⟩
  refine codeAny_of_tree ?_
  show wpAny _ _ (callAny (.ref C) _) _ _ _
  repeat (any_goals (first | assumption | with_reducible refine wpAny_loadPart_at hC ?_ | wp_step))
  refine ⟨rfl, ?_⟩
  have chk : ∀ {Q : Unit → Shared → Prop} {E : Value → Shared → Prop} {A : Around}, Q () ⟨h, g, d, t, os⟩ → wpAny (model prog w) A (checkBuiltinCall "type.__call__" ⟨[.ref C], kw⟩) Q E ⟨h, g, d, t, os⟩ := fun {Q E A} hq' => by
    have f3 := tc_sub
    simp only [checkBuiltinCall, tc_kind, tc_split]
    repeat (any_goals (first | assumption | with_reducible refine wpAny_loadPart_at hC ?_ | with_reducible refine wpAny_onRaise ?_ | with_reducible refine wpAny_map ?_ | wp_step))
  refine codeAny_call_builtin_at (Code.quiet_builtin _ (by decide +kernel)) entry_typeCall (chk (type_kw F hT hC hi hb ?_))
  refine codeAny_mono hq fun r s' z => ?_
  rcases r with e | (v | _ | _ | _) <;> exact z
end
end KdXv
namespace KdXv
open PySem PySem.Spec PyProof.Rows L2 KdXc
/-! ### a refusal's field, as it is made -/
def tMkF (t : L2.St → Hp → XK → Prop) (C : Addr) (f : Str) : TE := fun σ H Q => t σ H fun cls d H2 => cls = .ref C ∧ ∃ (dd : Addr) (fs : List (Str × V)) (v : V), d = some dd ∧ H2 dd = some (.xd fs) ∧ fs.lookup f = some v ∧ Q v H2
theorem pe_mkf {X : Cx} {C : Addr} {e : Expr} {t : L2.St → Hp → XK → Prop} {n : Str} {pos : Pos} (hm : PMk X e t) (T : XfC X.K C) (hno : PySem.W.findIn X.K (.ref C) n = some none) (hb : attributeBase e n X.env (eval e X.env) = eval e X.env := by rfl) : PE X (.Attribute e n pos) (tMkF t C n) := by
  refine ⟨fun pins s σ H Q I h => ?_⟩
  refine attr_of hb (thn (hm pins s σ H _ I h) fun u s1 hu => ?_)
  obtain ⟨a, oe, vs, sI, H', cls, d, rfl, J, k, hne, ha, hz, hd, h1, na, os, ag, r, ec, dd, fs, v, ed, ea, l, q⟩ := hu
  subst ec ed
  have up : sI.heap.UpToSlots s1.heap := fun b o e _ => ⟨o.slots, k b o e⟩
  have J1 : Inv X pins σ H' s1 := J.landed (B := s1.heap) (fun b o e _ => k b o e) (fun _ _ e => e) up os ag
  have hx : ObjOk X.prog X.w H' s1.heap dd (.xd fs) := J1.hok dd _ ea
  obtain ⟨mA, hns, hr⟩ := hx
  obtain ⟨od, ho, hl⟩ := lookIn_ns hns
  obtain ⟨u, hu, ru⟩ := RelO.some_of (v := v) (o := mA n) (by rw [← l]; exact hr n)
  have JJ : PySem.W.InstAt s1.heap a oe C (some od) := ⟨ha, hz.1, by unfold PySem.W.notCls; rw [hd] <;> rfl, by rw [hz.2]; exact ho⟩
  exact HandSPX.exc_get J1.kIn JJ T.ga T.gg T.exC (PySem.W.findObj_own T.hdC hno rfl (by rw [hl, hu])) (handed_of ru) ⟨v, H', J1.tok _, ru, q⟩
/-- C(k = e) -/
def tMkK (C : Addr) (sp : Sp) (te : TE) : L2.St → Hp → XK → Prop := fun σ H Q => tCons te tNil σ H fun zs H1 => ∃ v, zs = [v] ∧ ∀ a, H1 a = none → sp [.ref a, v] (upd H1 a (exo a C none))
  (fun u H2 => u = .non ∧ ∃ (d : Addr) (fs : List (Str × V)), H2 a = some (exo a C (some d)) ∧ H2 d = some (exd d fs) ∧ H1 d = none ∧ Q (.ref C) (some d) (upd (del H2 a) d (.xd fs))) (fun _ _ _ => False)
theorem pmk_kw {X : Cx} {x kn : Str} {C fI : Addr} {k : Nat} {fd : FuncData} {ps : List Str} {sp : Sp} {e : Expr} {te : TE} {p pos kpos : Pos} (T : ErrC X.K C fI) (G : FnOk X.prog X.w X.K X.mg X.base CX0 k fI fd ps sp) (hr : Room (k + 1) X.A)
    (hb : ∀ (s : Shared) (a v : Value), X.K.In s.heap → BindsTo s fd ⟨[a], [(kn, v)]⟩ (ps.zip [a, v])) (hg : Gl X x) (hm : X.mg x = some (.ref C)) (he : PE X e te)
    (hall : (backToKw pos (keywordEach [⟨some kn, e, kpos⟩] X.env)).all (·.1.isSome) = true := by rfl) (hks : (backToKw pos (keywordEach [⟨some kn, e, kpos⟩] X.env)).filterMap (·.1) = [kn] := by rfl) (hdb : (x == ("__debug__" : Str)) = false := by decide)
    (hpl : ((backTo pos (starEach [] X.env)).any (·.1) || (backToKw pos (keywordEach [⟨some kn, e, kpos⟩] X.env)).any (·.1.isNone)) = false := by rfl) : PMk X (.Call (.Name x p) [] [⟨some kn, e, kpos⟩] pos) (tMkK C sp te) := by
  intro pins s σ H Q I h
  obtain ⟨nm, q, N, bs, bm, sn, sub, ab, col, dd, k0, k1, k2, k3, k5, hC, hbm⟩ := T.o.cls
  have hk : PK X [⟨some kn, e, kpos⟩] (tCons te tNil) := pk_cons he pk_nil
  refine wpAny_Call_Name_kw (ld_glob I hg hm ?_ hdb)
  refine PySem.W.callWith_KW0 (h₀ := X.base) I.ok.mod.kin T.o.kC hall ?_ hpl
  refine thn (hk.run pos pins s σ H _ I h) fun ws s1 hh => ?_
  obtain ⟨zs, H1, I1, rz, v, rfl, q1⟩ := hh
  refine ⟨I1.kIn, ?_⟩
  rw [hks]
  cases rz with
  | cons rv rr =>
    cases rr
    rename_i u
    obtain ⟨hp, g, dr, tk, os⟩ := s1
    have hsz : hp.objs.size ≤ hp.objs.size + 1 := Nat.le_succ _
    have hn : H1 (hp.objs.size + 1) = none := I1.hok.fresh hsz
    have want := q1 (hp.objs.size + 1) hn
    have kk : ∀ b o, hp.get? b = some o → ((hp.push (PySem.W.kdv_tup [])).push (PySem.HandSPX.excO C hp.objs.size)).get? b = some o := fun b o e => Heap.get?_push_of_some _ (Heap.get?_push_of_some _ e)
    have here : ((hp.push (PySem.W.kdv_tup [])).push (PySem.HandSPX.excO C hp.objs.size)).get? (hp.objs.size + 1) = some (PySem.HandSPX.excO C hp.objs.size) := by heap_get
    have J : Inv X pins σ (upd H1 (hp.objs.size + 1) (exo (hp.objs.size + 1) C none)) ⟨(hp.push (PySem.W.kdv_tup [])).push (PySem.HandSPX.excO C hp.objs.size), g, dr, tk, os⟩ :=
      I1.laid (t' := tk) (a := hp.objs.size + 1) (o := exo (hp.objs.size + 1) C none) (h' := (hp.push (PySem.W.kdv_tup [])).push (PySem.HandSPX.excO C hp.objs.size)) kk hsz (exo_ok here)
    have r2 : Vals [V.ref (hp.objs.size + 1), v] [Value.ref (hp.objs.size + 1), u] := .cons rfl (.cons rv .nil)
    have go := G.run _ X.stack _ _ ⟨[Value.ref (hp.objs.size + 1)], [(kn, u)]⟩ [Value.ref (hp.objs.size + 1), u] _ _ (fun _ _ _ => False) (hr.make C [] [(kn, u)]) (J.env0.make C [] [(kn, u)]) (hb _ _ _ J.kIn) r2 want
    refine wpAny_call (KdXv.call_kw F.excBase_ValueError (fun Y => PySem.HandSPX.refsVE_contains Y bm hbm) (I1.kIn _ _ hC) (PySem.W.looks_findIn I1.kIn T.iC) (fun self => PySem.W.bind_fn I1.kIn self T.tI) (codeAny_mono go fun r s' back => ?_))
    cases r with
    | error er => exact False.elim back
    | ok fl =>
      cases fl with
      | ret u2 =>
        obtain ⟨v2, H2, os2, bare2, un2, hok2, rv2, ev, d, fs, ea, ed, hd1, q2⟩ := back
        subst ev
        obtain ⟨h2, g2, d2, t2, os'⟩ := s'
        exact ⟨rv2, mk_end (raises_own T.o.exC T.o.tyC) I1 hsz kk un2 hok2 os2 bare2 ea ed hd1 q2⟩
      | next => exact False.elim back
      | brk => exact False.elim back
      | cont => exact False.elim back
/-- what tMkK asks of a refusal -/
theorem err_kw {K : PySem.W.Frag} {C : Addr} {fs : V → List (Str × V)} {Ok : V → Hp → Prop} {H1 : Hp} {v : V} {Q : XK} (ok : ∀ a, H1 a = none → Ok v (upd H1 a (exo a C none))) (k : ∀ d, H1 d = none → Q (.ref C) (some d) (upd H1 d (.xd (fs v)))) :
    ∃ y, [v] = [y] ∧ ∀ a, H1 a = none → spErr K C fs Ok [.ref a, y] (upd H1 a (exo a C none))
      (fun u H2 => u = .non ∧ ∃ (d : Addr) (gs : List (Str × V)), H2 a = some (exo a C (some d)) ∧ H2 d = some (exd d gs) ∧ H1 d = none ∧ Q (.ref C) (some d) (upd (del H2 a) d (.xd gs))) (fun _ _ _ => False) :=
  ⟨v, rfl, (err_ok (K := K) ok k).2⟩
end KdXv

namespace Kd
open PySem PySem.Spec PyProof.Rows L2 KdXc
section
variable {P : Program} {w : World} {K : PySem.W.Frag} {mg : Str → Option Value} {base : Heap} {f : Addr} {fd : FuncData}
/-! ### a refusal's __init__ -/
def dayF (v : V) : List (Str × V) := [("name", .str "DayError"), ("what", v)]
def noF (nm : Str) (v : V) : List (Str × V) := ("name", .str nm) :: dayF v
abbrev RepOk (K : PySem.W.Frag) (v : V) (H : Hp) : Prop := KdRp.Rep2 K v H
theorem what_of (nm : Str) (v : V) : (noF nm v).lookup ("what" : Str) = some v := by
  unfold noF dayF
  rw [List.lookup_cons, show (("what" : Str) == "name") = false by decide +kernel, List.lookup_cons, show (("what" : Str) == "name") = false by decide +kernel, List.lookup_cons, show (("what" : Str) == "what") = true by decide +kernel]
theorem sc_DayError : FnScope ["self", "what"] ["self", "what"] (defScope s_DayError_init) := ⟨rfl, rfl, rfl, by decide +kernel, rfl, by decide +kernel, by decide +kernel⟩
theorem ok_DayError {C fI : Addr} (F : FnP K "__init__" "DayError.__init__" s_DayError_init f fd) (T : ErrC K C fI) (z_ValueError : mg "ValueError" = none) (vV : PySem.W.findCls K (.type "ValueError") (.type "type") "__init__" = some (.val (.builtin "ValueError.__init__"))) (z_repr : mg "repr" = none) :
    FnOk P w K mg base CX0 1 f fd ["self", "what"] (spErr K C dayF (RepOk K)) := by
  refine F.ok sc_DayError (fun vs H Q E h => ?_) (fun cdv A outer s H vs Q E hr h => ?_)
  · obtain ⟨a, v, rfl, _⟩ := h
    rfl
  · obtain ⟨a, v, rfl, ha, hv, k⟩ := h
    have nd := sc_DayError.nd
    refine ⟨_, PSs.nox (pss_cons (ps_expr (pe_veinit rfl z_ValueError vV (pa_cons (pv 0) (pa_cons (pe_callB (KdRp.cr_rep2 hr.units) (by rfl) z_repr (by decide +kernel) (pa_cons (pv 1) pa_nil)) pa_nil))))
      (pss_cons (ps_ost (pv 0) (pv 1)) (pss_one (ps_ost (pv 0) pe_str)))), ?_⟩
    refine ⟨_, rfl, _, rfl, v, rfl, hv, fun m => ⟨a, C, [.str m], rfl, by show 1 ≤ 1000; decide, T.o, ha, ?_⟩⟩
    refine ⟨_, rfl, _, rfl, a, C, rfl, T.o, T.nW, .inl ⟨ha, fun d hd nda => ?_⟩⟩
    refine ⟨_, rfl, a, C, rfl, T.o, T.nN, .inr ⟨d, _, upd_same, by rw [upd_ne nda]; exact upd_same, by show 1 ≤ 900; decide, ?_⟩⟩
    refine k d _ hd nda (by rw [upd_ne nda.symm]; exact upd_same) upd_same fun b hba hbd => ?_
    rw [upd_ne hbd, upd_ne hba, upd_ne hbd]
theorem sc_NoPlan : FnScope ["self", "what"] ["self", "what"] (defScope s_NoPlan_init) := ⟨rfl, rfl, rfl, by decide +kernel, rfl, by decide +kernel, by decide +kernel⟩
theorem ok_NoPlan {C fI D fD : Addr} {fdD : FuncData} (F : FnP K "__init__" "NoPlan.__init__" s_NoPlan_init f fd) (T : ErrC K C fI) (GD : FnOk P w K mg base CX0 1 fD fdD ["self", "what"] (spErr K C dayF (RepOk K))) (cD : KdEx.ClsFn K D fD "__init__") (bD : Binds K fdD ["self", "what"] []) (gD : mg "DayError" = some (.ref D)) :
    FnOk P w K mg base CX0 2 f fd ["self", "what"] (spErr K C (noF "NoPlan") (RepOk K)) := by
  refine F.ok sc_NoPlan (fun vs H Q E h => ?_) (fun cdv A outer s H vs Q E hr h => ?_)
  · obtain ⟨a, v, rfl, _⟩ := h
    rfl
  · obtain ⟨a, v, rfl, ha, hv, k⟩ := h
    refine ⟨_, PSs.nox (pss_cons (ps_expr (KdEx.pe_clsfn rfl gD cD GD hr bD .nil pass0 (pa_cons (pv 0) (pa_cons (pv 1) pa_nil)))) (pss_one (ps_ost (pv 0) pe_str))), ?_⟩
    refine ⟨_, rfl, _, rfl, a, v, rfl, ha, hv, fun d H' hd nda e1 e2 rest => ?_⟩
    refine ⟨_, rfl, a, C, rfl, T.o, T.nN, .inr ⟨d, _, e1, e2, by show 2 ≤ 900; decide, ?_⟩⟩
    refine k d _ hd nda (by rw [upd_ne nda.symm]; exact e1) upd_same fun b hba hbd => ?_
    rw [upd_ne hbd]
    exact rest b hba hbd
theorem sc_NoRow : FnScope ["self", "what"] ["self", "what"] (defScope s_NoRow_init) := ⟨rfl, rfl, rfl, by decide +kernel, rfl, by decide +kernel, by decide +kernel⟩
theorem ok_NoRow {C fI D fD : Addr} {fdD : FuncData} (F : FnP K "__init__" "NoRow.__init__" s_NoRow_init f fd) (T : ErrC K C fI) (GD : FnOk P w K mg base CX0 1 fD fdD ["self", "what"] (spErr K C dayF (RepOk K))) (cD : KdEx.ClsFn K D fD "__init__") (bD : Binds K fdD ["self", "what"] []) (gD : mg "DayError" = some (.ref D)) :
    FnOk P w K mg base CX0 2 f fd ["self", "what"] (spErr K C (noF "NoRow") (RepOk K)) := by
  refine F.ok sc_NoRow (fun vs H Q E h => ?_) (fun cdv A outer s H vs Q E hr h => ?_)
  · obtain ⟨a, v, rfl, _⟩ := h
    rfl
  · obtain ⟨a, v, rfl, ha, hv, k⟩ := h
    refine ⟨_, PSs.nox (pss_cons (ps_expr (KdEx.pe_clsfn rfl gD cD GD hr bD .nil pass0 (pa_cons (pv 0) (pa_cons (pv 1) pa_nil)))) (pss_one (ps_ost (pv 0) pe_str))), ?_⟩
    refine ⟨_, rfl, _, rfl, a, v, rfl, ha, hv, fun d H' hd nda e1 e2 rest => ?_⟩
    refine ⟨_, rfl, a, C, rfl, T.o, T.nN, .inr ⟨d, _, e1, e2, by show 2 ≤ 900; decide, ?_⟩⟩
    refine k d _ hd nda (by rw [upd_ne nda.symm]; exact e1) upd_same fun b hba hbd => ?_
    rw [upd_ne hbd]
    exact rest b hba hbd
theorem sc_NoFact : FnScope ["self", "what"] ["self", "what"] (defScope s_NoFact_init) := ⟨rfl, rfl, rfl, by decide +kernel, rfl, by decide +kernel, by decide +kernel⟩
theorem ok_NoFact {C fI D fD : Addr} {fdD : FuncData} (F : FnP K "__init__" "NoFact.__init__" s_NoFact_init f fd) (T : ErrC K C fI) (GD : FnOk P w K mg base CX0 1 fD fdD ["self", "what"] (spErr K C dayF (RepOk K))) (cD : KdEx.ClsFn K D fD "__init__") (bD : Binds K fdD ["self", "what"] []) (gD : mg "DayError" = some (.ref D)) :
    FnOk P w K mg base CX0 2 f fd ["self", "what"] (spErr K C (noF "NoFact") (RepOk K)) := by
  refine F.ok sc_NoFact (fun vs H Q E h => ?_) (fun cdv A outer s H vs Q E hr h => ?_)
  · obtain ⟨a, v, rfl, _⟩ := h
    rfl
  · obtain ⟨a, v, rfl, ha, hv, k⟩ := h
    refine ⟨_, PSs.nox (pss_cons (ps_expr (KdEx.pe_clsfn rfl gD cD GD hr bD .nil pass0 (pa_cons (pv 0) (pa_cons (pv 1) pa_nil)))) (pss_one (ps_ost (pv 0) pe_str))), ?_⟩
    refine ⟨_, rfl, _, rfl, a, v, rfl, ha, hv, fun d H' hd nda e1 e2 rest => ?_⟩
    refine ⟨_, rfl, a, C, rfl, T.o, T.nN, .inr ⟨d, _, e1, e2, by show 2 ≤ 900; decide, ?_⟩⟩
    refine k d _ hd nda (by rw [upd_ne nda.symm]; exact e1) upd_same fun b hba hbd => ?_
    rw [upd_ne hbd]
    exact rest b hba hbd
theorem sc_NoThing : FnScope ["self", "what"] ["self", "what"] (defScope s_NoThing_init) := ⟨rfl, rfl, rfl, by decide +kernel, rfl, by decide +kernel, by decide +kernel⟩
theorem ok_NoThing {C fI D fD : Addr} {fdD : FuncData} (F : FnP K "__init__" "NoThing.__init__" s_NoThing_init f fd) (T : ErrC K C fI) (GD : FnOk P w K mg base CX0 1 fD fdD ["self", "what"] (spErr K C dayF (RepOk K))) (cD : KdEx.ClsFn K D fD "__init__") (bD : Binds K fdD ["self", "what"] []) (gD : mg "DayError" = some (.ref D)) :
    FnOk P w K mg base CX0 2 f fd ["self", "what"] (spErr K C (noF "NoThing") (RepOk K)) := by
  refine F.ok sc_NoThing (fun vs H Q E h => ?_) (fun cdv A outer s H vs Q E hr h => ?_)
  · obtain ⟨a, v, rfl, _⟩ := h
    rfl
  · obtain ⟨a, v, rfl, ha, hv, k⟩ := h
    refine ⟨_, PSs.nox (pss_cons (ps_expr (KdEx.pe_clsfn rfl gD cD GD hr bD .nil pass0 (pa_cons (pv 0) (pa_cons (pv 1) pa_nil)))) (pss_one (ps_ost (pv 0) pe_str))), ?_⟩
    refine ⟨_, rfl, _, rfl, a, v, rfl, ha, hv, fun d H' hd nda e1 e2 rest => ?_⟩
    refine ⟨_, rfl, a, C, rfl, T.o, T.nN, .inr ⟨d, _, e1, e2, by show 2 ≤ 900; decide, ?_⟩⟩
    refine k d _ hd nda (by rw [upd_ne nda.symm]; exact e1) upd_same fun b hba hbd => ?_
    rw [upd_ne hbd]
    exact rest b hba hbd
theorem sc_Twice : FnScope ["self", "what"] ["self", "what"] (defScope s_Twice_init) := ⟨rfl, rfl, rfl, by decide +kernel, rfl, by decide +kernel, by decide +kernel⟩
theorem ok_Twice {C fI D fD : Addr} {fdD : FuncData} (F : FnP K "__init__" "Twice.__init__" s_Twice_init f fd) (T : ErrC K C fI) (GD : FnOk P w K mg base CX0 1 fD fdD ["self", "what"] (spErr K C dayF (RepOk K))) (cD : KdEx.ClsFn K D fD "__init__") (bD : Binds K fdD ["self", "what"] []) (gD : mg "DayError" = some (.ref D)) :
    FnOk P w K mg base CX0 2 f fd ["self", "what"] (spErr K C (noF "Twice") (RepOk K)) := by
  refine F.ok sc_Twice (fun vs H Q E h => ?_) (fun cdv A outer s H vs Q E hr h => ?_)
  · obtain ⟨a, v, rfl, _⟩ := h
    rfl
  · obtain ⟨a, v, rfl, ha, hv, k⟩ := h
    refine ⟨_, PSs.nox (pss_cons (ps_expr (KdEx.pe_clsfn rfl gD cD GD hr bD .nil pass0 (pa_cons (pv 0) (pa_cons (pv 1) pa_nil)))) (pss_one (ps_ost (pv 0) pe_str))), ?_⟩
    refine ⟨_, rfl, _, rfl, a, v, rfl, ha, hv, fun d H' hd nda e1 e2 rest => ?_⟩
    refine ⟨_, rfl, a, C, rfl, T.o, T.nN, .inr ⟨d, _, e1, e2, by show 2 ≤ 900; decide, ?_⟩⟩
    refine k d _ hd nda (by rw [upd_ne nda.symm]; exact e1) upd_same fun b hba hbd => ?_
    rw [upd_ne hbd]
    exact rest b hba hbd
theorem sc_NoGroup : FnScope ["self", "what"] ["self", "what"] (defScope s_NoGroup_init) := ⟨rfl, rfl, rfl, by decide +kernel, rfl, by decide +kernel, by decide +kernel⟩
theorem ok_NoGroup {C fI D fD : Addr} {fdD : FuncData} (F : FnP K "__init__" "NoGroup.__init__" s_NoGroup_init f fd) (T : ErrC K C fI) (GD : FnOk P w K mg base CX0 1 fD fdD ["self", "what"] (spErr K C dayF (RepOk K))) (cD : KdEx.ClsFn K D fD "__init__") (bD : Binds K fdD ["self", "what"] []) (gD : mg "DayError" = some (.ref D)) :
    FnOk P w K mg base CX0 2 f fd ["self", "what"] (spErr K C (noF "NoGroup") (RepOk K)) := by
  refine F.ok sc_NoGroup (fun vs H Q E h => ?_) (fun cdv A outer s H vs Q E hr h => ?_)
  · obtain ⟨a, v, rfl, _⟩ := h
    rfl
  · obtain ⟨a, v, rfl, ha, hv, k⟩ := h
    refine ⟨_, PSs.nox (pss_cons (ps_expr (KdEx.pe_clsfn rfl gD cD GD hr bD .nil pass0 (pa_cons (pv 0) (pa_cons (pv 1) pa_nil)))) (pss_one (ps_ost (pv 0) pe_str))), ?_⟩
    refine ⟨_, rfl, _, rfl, a, v, rfl, ha, hv, fun d H' hd nda e1 e2 rest => ?_⟩
    refine ⟨_, rfl, a, C, rfl, T.o, T.nN, .inr ⟨d, _, e1, e2, by show 2 ≤ 900; decide, ?_⟩⟩
    refine k d _ hd nda (by rw [upd_ne nda.symm]; exact e1) upd_same fun b hba hbd => ?_
    rw [upd_ne hbd]
    exact rest b hba hbd
theorem sc_NoMeasure : FnScope ["self", "what"] ["self", "what"] (defScope s_NoMeasure_init) := ⟨rfl, rfl, rfl, by decide +kernel, rfl, by decide +kernel, by decide +kernel⟩
theorem ok_NoMeasure {C fI D fD : Addr} {fdD : FuncData} (F : FnP K "__init__" "NoMeasure.__init__" s_NoMeasure_init f fd) (T : ErrC K C fI) (GD : FnOk P w K mg base CX0 1 fD fdD ["self", "what"] (spErr K C dayF (RepOk K))) (cD : KdEx.ClsFn K D fD "__init__") (bD : Binds K fdD ["self", "what"] []) (gD : mg "DayError" = some (.ref D)) :
    FnOk P w K mg base CX0 2 f fd ["self", "what"] (spErr K C (noF "NoMeasure") (RepOk K)) := by
  refine F.ok sc_NoMeasure (fun vs H Q E h => ?_) (fun cdv A outer s H vs Q E hr h => ?_)
  · obtain ⟨a, v, rfl, _⟩ := h
    rfl
  · obtain ⟨a, v, rfl, ha, hv, k⟩ := h
    refine ⟨_, PSs.nox (pss_cons (ps_expr (KdEx.pe_clsfn rfl gD cD GD hr bD .nil pass0 (pa_cons (pv 0) (pa_cons (pv 1) pa_nil)))) (pss_one (ps_ost (pv 0) pe_str))), ?_⟩
    refine ⟨_, rfl, _, rfl, a, v, rfl, ha, hv, fun d H' hd nda e1 e2 rest => ?_⟩
    refine ⟨_, rfl, a, C, rfl, T.o, T.nN, .inr ⟨d, _, e1, e2, by show 2 ≤ 900; decide, ?_⟩⟩
    refine k d _ hd nda (by rw [upd_ne nda.symm]; exact e1) upd_same fun b hba hbd => ?_
    rw [upd_ne hbd]
    exact rest b hba hbd
theorem sc_NoWatch : FnScope ["self", "what"] ["self", "what"] (defScope s_NoWatch_init) := ⟨rfl, rfl, rfl, by decide +kernel, rfl, by decide +kernel, by decide +kernel⟩
theorem ok_NoWatch {C fI D fD : Addr} {fdD : FuncData} (F : FnP K "__init__" "NoWatch.__init__" s_NoWatch_init f fd) (T : ErrC K C fI) (GD : FnOk P w K mg base CX0 1 fD fdD ["self", "what"] (spErr K C dayF (RepOk K))) (cD : KdEx.ClsFn K D fD "__init__") (bD : Binds K fdD ["self", "what"] []) (gD : mg "DayError" = some (.ref D)) :
    FnOk P w K mg base CX0 2 f fd ["self", "what"] (spErr K C (noF "NoWatch") (RepOk K)) := by
  refine F.ok sc_NoWatch (fun vs H Q E h => ?_) (fun cdv A outer s H vs Q E hr h => ?_)
  · obtain ⟨a, v, rfl, _⟩ := h
    rfl
  · obtain ⟨a, v, rfl, ha, hv, k⟩ := h
    refine ⟨_, PSs.nox (pss_cons (ps_expr (KdEx.pe_clsfn rfl gD cD GD hr bD .nil pass0 (pa_cons (pv 0) (pa_cons (pv 1) pa_nil)))) (pss_one (ps_ost (pv 0) pe_str))), ?_⟩
    refine ⟨_, rfl, _, rfl, a, v, rfl, ha, hv, fun d H' hd nda e1 e2 rest => ?_⟩
    refine ⟨_, rfl, a, C, rfl, T.o, T.nN, .inr ⟨d, _, e1, e2, by show 2 ≤ 900; decide, ?_⟩⟩
    refine k d _ hd nda (by rw [upd_ne nda.symm]; exact e1) upd_same fun b hba hbd => ?_
    rw [upd_ne hbd]
    exact rest b hba hbd
theorem sc_NoTime : FnScope ["self", "what"] ["self", "what"] (defScope s_NoTime_init) := ⟨rfl, rfl, rfl, by decide +kernel, rfl, by decide +kernel, by decide +kernel⟩
theorem ok_NoTime {C fI D fD : Addr} {fdD : FuncData} (F : FnP K "__init__" "NoTime.__init__" s_NoTime_init f fd) (T : ErrC K C fI) (GD : FnOk P w K mg base CX0 1 fD fdD ["self", "what"] (spErr K C dayF (RepOk K))) (cD : KdEx.ClsFn K D fD "__init__") (bD : Binds K fdD ["self", "what"] []) (gD : mg "DayError" = some (.ref D)) :
    FnOk P w K mg base CX0 2 f fd ["self", "what"] (spErr K C (noF "NoTime") (RepOk K)) := by
  refine F.ok sc_NoTime (fun vs H Q E h => ?_) (fun cdv A outer s H vs Q E hr h => ?_)
  · obtain ⟨a, v, rfl, _⟩ := h
    rfl
  · obtain ⟨a, v, rfl, ha, hv, k⟩ := h
    refine ⟨_, PSs.nox (pss_cons (ps_expr (KdEx.pe_clsfn rfl gD cD GD hr bD .nil pass0 (pa_cons (pv 0) (pa_cons (pv 1) pa_nil)))) (pss_one (ps_ost (pv 0) pe_str))), ?_⟩
    refine ⟨_, rfl, _, rfl, a, v, rfl, ha, hv, fun d H' hd nda e1 e2 rest => ?_⟩
    refine ⟨_, rfl, a, C, rfl, T.o, T.nN, .inr ⟨d, _, e1, e2, by show 2 ≤ 900; decide, ?_⟩⟩
    refine k d _ hd nda (by rw [upd_ne nda.symm]; exact e1) upd_same fun b hba hbd => ?_
    rw [upd_ne hbd]
    exact rest b hba hbd
theorem sc_NoText : FnScope ["self", "what"] ["self", "what"] (defScope s_NoText_init) := ⟨rfl, rfl, rfl, by decide +kernel, rfl, by decide +kernel, by decide +kernel⟩
theorem ok_NoText {C fI D fD : Addr} {fdD : FuncData} (F : FnP K "__init__" "NoText.__init__" s_NoText_init f fd) (T : ErrC K C fI) (GD : FnOk P w K mg base CX0 1 fD fdD ["self", "what"] (spErr K C dayF (RepOk K))) (cD : KdEx.ClsFn K D fD "__init__") (bD : Binds K fdD ["self", "what"] []) (gD : mg "DayError" = some (.ref D)) :
    FnOk P w K mg base CX0 2 f fd ["self", "what"] (spErr K C (noF "NoText") (RepOk K)) := by
  refine F.ok sc_NoText (fun vs H Q E h => ?_) (fun cdv A outer s H vs Q E hr h => ?_)
  · obtain ⟨a, v, rfl, _⟩ := h
    rfl
  · obtain ⟨a, v, rfl, ha, hv, k⟩ := h
    refine ⟨_, PSs.nox (pss_cons (ps_expr (KdEx.pe_clsfn rfl gD cD GD hr bD .nil pass0 (pa_cons (pv 0) (pa_cons (pv 1) pa_nil)))) (pss_one (ps_ost (pv 0) pe_str))), ?_⟩
    refine ⟨_, rfl, _, rfl, a, v, rfl, ha, hv, fun d H' hd nda e1 e2 rest => ?_⟩
    refine ⟨_, rfl, a, C, rfl, T.o, T.nN, .inr ⟨d, _, e1, e2, by show 2 ≤ 900; decide, ?_⟩⟩
    refine k d _ hd nda (by rw [upd_ne nda.symm]; exact e1) upd_same fun b hba hbd => ?_
    rw [upd_ne hbd]
    exact rest b hba hbd
theorem sc_NoDeskRow : FnScope ["self", "what"] ["self", "what"] (defScope s_NoDeskRow_init) := ⟨rfl, rfl, rfl, by decide +kernel, rfl, by decide +kernel, by decide +kernel⟩
theorem ok_NoDeskRow {C fI D fD : Addr} {fdD : FuncData} (F : FnP K "__init__" "NoDeskRow.__init__" s_NoDeskRow_init f fd) (T : ErrC K C fI) (GD : FnOk P w K mg base CX0 1 fD fdD ["self", "what"] (spErr K C dayF (RepOk K))) (cD : KdEx.ClsFn K D fD "__init__") (bD : Binds K fdD ["self", "what"] []) (gD : mg "DayError" = some (.ref D)) :
    FnOk P w K mg base CX0 2 f fd ["self", "what"] (spErr K C (noF "NoDeskRow") (RepOk K)) := by
  refine F.ok sc_NoDeskRow (fun vs H Q E h => ?_) (fun cdv A outer s H vs Q E hr h => ?_)
  · obtain ⟨a, v, rfl, _⟩ := h
    rfl
  · obtain ⟨a, v, rfl, ha, hv, k⟩ := h
    refine ⟨_, PSs.nox (pss_cons (ps_expr (KdEx.pe_clsfn rfl gD cD GD hr bD .nil pass0 (pa_cons (pv 0) (pa_cons (pv 1) pa_nil)))) (pss_one (ps_ost (pv 0) pe_str))), ?_⟩
    refine ⟨_, rfl, _, rfl, a, v, rfl, ha, hv, fun d H' hd nda e1 e2 rest => ?_⟩
    refine ⟨_, rfl, a, C, rfl, T.o, T.nN, .inr ⟨d, _, e1, e2, by show 2 ≤ 900; decide, ?_⟩⟩
    refine k d _ hd nda (by rw [upd_ne nda.symm]; exact e1) upd_same fun b hba hbd => ?_
    rw [upd_ne hbd]
    exact rest b hba hbd
end
end Kd

namespace Kd
open PySem PySem.Spec PyProof.Rows L2 KdXc
/-- a def that lets nothing out keeps its promise among those that may -/
theorem fn_calm {P : Program} {w : World} {K : PySem.W.Frag} {mg : Str → Option Value} {base : Heap} {k : Nat} {f : Addr} {fd : FuncData} {ps : List Str} {sp : Sp} (G : FnOk P w K mg base CX0 k f fd ps sp) : FnOk P w K mg base (L2.CX P w) k f fd ps sp :=
  ⟨G.len, fun A outer s H args us vs Q E hr he hb hv hs => codeAny_mono (G.run A outer s H args us vs Q E hr he hb hv hs) fun r s' z => by
    cases r with
    | error e => exact False.elim z
    | ok fl => cases fl <;> exact z⟩
/-- two promises of one def -/
theorem fn_or {P : Program} {w : World} {K : PySem.W.Frag} {mg : Str → Option Value} {base : Heap} {CX : CXT} {k : Nat} {f : Addr} {fd : FuncData} {ps : List Str} {sp sp' : Sp} (G : FnOk P w K mg base CX k f fd ps sp) (G' : FnOk P w K mg base CX k f fd ps sp') : FnOk P w K mg base CX k f fd ps (fun vs H Q E => sp vs H Q E ∨ sp' vs H Q E) :=
  ⟨fun vs H Q E h => h.elim (G.len vs H Q E) (G'.len vs H Q E), fun A outer s H args us vs Q E hr he hb hv hs => hs.elim (fun z => G.run A outer s H args us vs Q E hr he hb hv z) (fun z => G'.run A outer s H args us vs Q E hr he hb hv z)⟩
section
variable {P : Program} {w : World} {K : PySem.W.Frag} {mg : Str → Option Value} {base : Heap} {f : Addr} {fd : FuncData}
theorem ff_cases (ds : List (Str × List (Str × Str))) (ms : List Str) : ffV ds ms = .non ∨ ∃ z : Str, ffV ds ms = .str z ∧ KdEx.Flat1 (.str z) := by
  have w1 : KdEx.Flat1 (.str "dimensions") := ⟨by decide +kernel, by decide +kernel⟩
  have w2 : KdEx.Flat1 (.str "attributes") := ⟨by decide +kernel, by decide +kernel⟩
  have w3 : KdEx.Flat1 (.str "measures") := ⟨by decide +kernel, by decide +kernel⟩
  unfold ffV
  by_cases c1 : (ds.isEmpty || fltB (ds.map (·.1)) 4) = true
  · rw [if_pos c1]
    exact .inr ⟨_, rfl, w1⟩
  · rw [if_neg c1]
    by_cases c2 : ds.any (fun d => fltB (d.2.map (·.1)) 5) = true
    · rw [if_pos c2]
      exact .inr ⟨_, rfl, w2⟩
    · rw [if_neg c2]
      by_cases c3 : fltB ms 4 = true
      · rw [if_pos c3]
        exact .inr ⟨_, rfl, w3⟩
      · rw [if_neg c3]
        exact .inl rfl
/-- a class of refusals, and how one is made -/
structure ErrM (P : Program) (w : World) (K : PySem.W.Frag) (mg : Str → Option Value) (base : Heap) (x : Str) (C fI : Addr) (fdI : FuncData) : Prop where
  T : ErrC K C fI
  G : FnOk P w K mg base CX0 2 fI fdI ["self", "what"] (spErr K C (noF x) (RepOk K))
  b : Binds K fdI ["self", "what"] []
  g : mg x = some (.ref C)
/-! ### Plan.__init__ of faulty lists -/
def spFail (K : PySem.W.Frag) (N : Addr) : Sp := fun vs H _ E => ∃ (x l m : Addr) (ds : List (Str × List (Str × Str))) (ms : List Str) (z : Str), vs = [.ref x, .ref l, .ref m] ∧ DimsAt K H l ds ∧ Txs K H m ms ∧ Szd ds ms ∧ ffV ds ms = .str z ∧
  ∀ H1 d, Same H H1 → H1 d = none → E (.ref N) (some d) (upd H1 d (.xd (noF "NoPlan" (.str z))))
theorem ok_fail {fF N fN : Addr} {fdF fdN : FuncData} {dvs : List V} (F : FunD K "__init__" "Plan.__init__" (defArgs s_Plan_init) (defBody s_Plan_init) (defScope s_Plan_init) dvs [] f fd) (GF : FnOk P w K mg base CX0 4 fF fdF ["dimensions", "measures"] (spFirst K)) (kF : PySem.W.keepIn K (.ref fF) = true) (bF : Binds K fdF ["dimensions", "measures"] []) (gF : mg "first_fault" = some (.ref fF))
    (M : ErrM P w K mg base "NoPlan" N fN fdN) : FnOk P w K mg base (L2.CX P w) 5 f fd ["self", "dimensions", "measures"] (spFail K N) := by
  refine F.ok sc_init (fun vs H Q E h => ?_) (fun cdv A outer s H vs Q E hr h => ?_)
  · obtain ⟨x, l, m, ds, ms, z, rfl, _⟩ := h
    rfl
  · obtain ⟨x, l, m, ds, ms, z, rfl, hl, hm, sz, ev, k⟩ := h
    have nd := sc_init.nd
    refine ⟨_, pss_cons (ps_set (i := 3) nd rfl (Or.inl rfl) (pe_call GF hr rfl gF kF bF .nil pass0 (pa_cons (pv 1) (pa_cons (pv 2) pa_nil))))
      (pss_cons (ps_if (pt_cmp (pc_notN (pv 3))) (pss_one (ps_raise rfl (takes_of rfl rfl rfl rfl) (pmk_err M.T M.G (hr.mono (by decide)) M.b rfl M.g (pv 3)))) pss_nil)
      (pss_cons ps_never (pss_one ps_never))), ?_⟩
    refine ⟨_, rfl, _, rfl, l, m, ds, ms, rfl, hl, hm, sz, fun H1 s1 => ?_⟩
    rw [ev]
    refine ⟨_, rfl, _, rfl, iteT ?_⟩
    refine ⟨_, rfl, err_ok (fun a ha => .inl ⟨z, rfl, ?_⟩) fun d hd => k H1 d s1 hd⟩
    rcases ff_cases ds ms with e | ⟨y, e, hy⟩
    · rw [ev] at e
      cases e
    · rw [ev] at e
      cases e
      exact hy
def spInitX (K : PySem.W.Frag) (C N : Addr) : Sp := fun vs H Q E => spInit K C vs H Q E ∨ spFail K N vs H Q E
theorem ok_initX {C N : Addr} (G : FnOk P w K mg base CX0 5 f fd ["self", "dimensions", "measures"] (spInit K C)) (G' : FnOk P w K mg base (L2.CX P w) 5 f fd ["self", "dimensions", "measures"] (spFail K N)) : FnOk P w K mg base (L2.CX P w) 5 f fd ["self", "dimensions", "measures"] (spInitX K C N) := fn_or (fn_calm G) G'
end
end Kd

namespace Kd
open PySem PySem.Spec PyProof.Rows L2 KdXc
section
variable {P : Program} {w : World} {K : PySem.W.Frag} {mg : Str → Option Value} {base : Heap} {f : Addr} {fd : FuncData}
/-! ### stretches of a name that is no dimension -/
def spStrF (K : PySem.W.Frag) (C N : Addr) : Sp := fun vs H _ E => ∃ (x l : Addr) (n : Str) (ds : List (Str × List (Str × Str))) (ms : List Str), vs = [.ref x, .str n, .ref l] ∧ PlanAt K C H x ds ms ∧ ds.find? (fun d => decide (d.1 = n)) = none ∧ KdRp.FlatS (.str n) ∧
  ∀ t d H', Same H H' → H' t = some (.tup [.str n, .non]) → H' d = some (.xd (noF "NoThing" (.ref t))) → E (.ref N) (some d) H'
theorem ok_strF {C fA N fN : Addr} {fdA fdN : FuncData} (F : FnP K "stretches" "stretches" s_stretches f fd) (GA : FnOk P w K mg base CX0 2 fA fdA ["plan", "dimension"] (spAttr K C)) (kA : PySem.W.keepIn K (.ref fA) = true) (bA : Binds K fdA ["plan", "dimension"] []) (gA : mg "attributes_of" = some (.ref fA))
    (M : ErrM P w K mg base "NoThing" N fN fdN) : FnOk P w K mg base (L2.CX P w) 4 f fd ["plan", "dimension", "kinds"] (spStrF K C N) := by
  refine F.ok sc_str (fun vs H Q E h => ?_) (fun cdv A outer s H vs Q E hr h => ?_)
  · obtain ⟨x, l, n, ds, ms, rfl, _⟩ := h
    rfl
  · obtain ⟨x, l, n, ds, ms, rfl, hp, hd, fl, k⟩ := h
    have nd := sc_str.nd
    refine ⟨_, pss_cons (ps_set (i := 3) nd rfl (Or.inl rfl) (pe_call GA (hr.mono (by decide)) rfl gA kA bA .nil pass0 (pa_cons (pv 0) (pa_cons (pv 1) pa_nil))))
      (pss_cons (ps_if (pt_cmp (pc_isN (pv 3))) (pss_one (ps_raise rfl (takes_of rfl rfl rfl rfl) (pmk_err M.T M.G (hr.mono (by decide)) M.b rfl M.g (pe_tup (pa_cons (pv 1) (pa_cons pe_non pa_nil)))))) pss_nil)
      (pss_cons ps_never (pss_cons ps_never (pss_cons ps_never (pss_cons ps_never (pss_cons ps_never (pss_cons ps_never (pss_one ps_never)))))))), ?_⟩
    refine ⟨_, rfl, _, rfl, x, n, ds, ms, rfl, hp, fun d q H' e => ?_, fun _ H1 s1 => ?_⟩
    · rw [hd] at e
      cases e
    refine ⟨_, rfl, _, rfl, iteT ?_⟩
    refine ⟨_, rfl, by show 2 ≤ sizeLine; decide, fun t nt => ?_⟩
    refine err_ok (fun a ha => .inr (.inr (.inr ⟨t, _, rfl, SqT.of (same_new ha _ _ upd_same), by show 2 ≤ 40; decide, fun y hy => ?_⟩))) fun d hd => k t d _ ((s1.trans (same_new nt)).trans (same_new hd)) (same_new hd _ _ upd_same) upd_same
    simp only [List.mem_cons, List.not_mem_nil, or_false] at hy
    rcases hy with rfl | rfl
    · exact .inl fl
    · exact .inl trivial
end
end Kd

set_option maxHeartbeats 2000000
/-! a caught error that is kept behind the suite -/
namespace KdKp
open PySem PySem.Spec PyProof.Rows L2
/-- an error that was caught, at a: its class and its dict -/
def KO (a : Addr) (cls : Value) (d : Option Addr) : HO := .ext fun h => ∃ (oe : Obj) (vs : Array Value), h.get? a = some oe ∧ Zc cls d oe ∧ oe.data = .fields vs
theorem ko_ok {P : Program} {w : World} {H : Hp} {h : Heap} {a : Addr} {cls : Value} {d : Option Addr} {oe : Obj} {vs : Array Value} (e : h.get? a = some oe) (z : Zc cls d oe) (dd : oe.data = .fields vs) : ObjOk P w H h a (KO a cls d) :=
  ⟨⟨oe, vs, e, z, dd⟩, ⟨oe, e⟩, fun _ _ ⟨o, v, q, r⟩ k => ⟨o, v, k o q, r⟩⟩
section
variable {X : Cx} {pins : List (Addr × Obj)} {σ : L2.St} {H : Hp} {s : Shared}
/-- an object that is there, not of the entry, may be tracked -/
theorem track {a : Addr} {o : HO} (I : Inv X pins σ H s) (n0 : X.s_0.heap.get? a = none) (hn : H a = none) (hL : a ≠ X.env.locals) (hC : ∀ x c, X.env.cells.lookup x = some c → c ≠ a) (hp : ∀ p ∈ X.pn ++ pins, p.1 ≠ a)
    (new : ObjOk X.prog X.w (upd H a o) s.heap a o) : Inv X pins σ (upd H a o) s := by
  refine ⟨I.ok, I.os, I.bare, ⟨I.base.keep, I.base.slot, fun b u e n hx => ?_, I.base.there, fun b xs e => ?_, fun b u xs e => ?_, fun b ps e => ?_⟩, I.loc, I.cell, ?_, fun x c e => ?_, fun p q => ?_, I.hok.laidN (fun _ _ q => q) hn new, I.len⟩
  · rw [upd_ne (fun z => by rw [z, n0] at e; cases e)]
    exact I.base.free b u e n hx
  · have q := I.base.tups b xs e
    rw [upd_ne (ne_of_none q hn)]
    exact q
  · have q := I.base.frzs b u xs e
    rw [upd_ne (ne_of_none q hn)]
    exact q
  · obtain ⟨more, q⟩ := I.base.tbls b ps e
    refine ⟨more, ?_⟩
    rw [upd_ne (ne_of_none q hn)]
    exact q
  · rw [upd_ne hL.symm]
    exact I.free
  · rw [upd_ne (hC x c e)]
    exact I.freeC x c e
  · obtain ⟨e, n, r⟩ := I.pin p q
    exact ⟨e, by rw [upd_ne (hp p q)]; exact n, r⟩
theorem suiteK {a : Addr} (I : Inv X pins σ H s) : Inv (X.suite a (X.pn ++ pins)) [] σ H s :=
  ⟨I.ok.suite _ _, I.os, I.bare, I.base, I.loc, I.cell, I.free, I.freeC, fun p hp => I.pin p (by rw [List.append_nil] at hp; exact hp), I.hok, I.len⟩
theorem unsuiteK {a : Addr} {pn' : List (Addr × Obj)} (I : Inv (X.suite a (X.pn ++ pins)) pn' σ H s) (ok : X.Ok) : Inv X pins σ H s :=
  ⟨ok, I.os, I.bare, I.base, I.loc, I.cell, I.free, I.freeC, fun p hp => I.pin p (List.mem_append_left _ hp), I.hok, I.len⟩
end
/-- what 'except x as n' wishes, the error being tracked -/
def wKeep (K : PySem.W.Frag) (c : Value) (i : Nat) (ts : Addr → Value → Option Addr → TS) (Wout : WX) (D : Ends) : WX := fun cls d σ H =>
  ∃ b, PySem.W.exmOne K cls c = some b ∧ (b = true → ∀ a, H a = none → ts a cls d { nx := fun σ' H' => D.nx (σ'.set i none) H', rt := D.rt, bk := fun σ' H' => D.bk (σ'.set i none) H', ct := fun σ' H' => D.ct (σ'.set i none) H' } (σ.set i (some (.ref a))) (upd H a (KO a cls d))) ∧
    (b = false → Wout cls d σ H)
section
variable {X : Cx} {x n : Str} {c : Value} {i : Nat} {body suite : List Stmt} {b₀ : Stmt} {np pos pos' : Pos} {tb : WX → TS} {ts : Addr → Value → Option Addr → TS} {Wout : WX}
theorem ps_try_keep (hx : X.ex = []) (hs : X.stack = X.env :: X.outer) (hf : X.env.frame = some X.env.locals) (hN : X.N.Nodup) (hi : X.N[i]? = some n) (hln : X.env.kindOf n = some .local) (hc : Names X x c) (tk : Takes X Wout)
    (hb : ∀ (W : WX) (pn : List (Addr × Obj)) (xe : Value → Shared → Prop), Takes (X.tr pn xe) W → PassesOwn (model X.prog X.w) X.A X.env xe → PSs (X.tr pn xe) body (tb W))
    (hsu : ∀ (a : Addr) (cls : Value) (d : Option Addr) (pn : List (Addr × Obj)), PSs (X.suite a pn) (b₀ :: suite) (ts a cls d)) :
    PS X (.Try body [.ExceptHandler (some (.Name x np)) (some n) (b₀ :: suite) pos'] [] [] pos) (fun D σ H => tb (wKeep X.K c i ts Wout D) D σ H) := by
  refine ⟨fun pins s σ H D I h => ?_⟩
  have ok := I.ok
  have hfr : X.A.frames = some (X.env :: X.outer) := by rw [ok.frames, hs]
  have hloc : Loc X.env.scope n := .inl hln
  refine wpAny_Try_except ?_
  refine wpAny_mono ((hb (wKeep X.K c i ts Wout D) (X.pn ++ pins) (fun e s₁ => wpAny (model X.prog X.w) X.A (noteFrame e X.env) (fun _ s₂ => wpAny (model X.prog X.w) X.A (setFlight e none) (fun _ s₃ =>
    wpAny (model X.prog X.w) X.A (handleBy e X.env [.ExceptHandler (some (.Name x np)) (some n) (b₀ :: suite) pos']) (SP X pins D) X.xe s₃) X.xe s₂) X.xe s₁) (fun u s' xx => ?_) PassesOwn.looking).run [] s σ H D (I.toTry _) h) (fun f s1 hsp => ?_) (fun e s1 he => he)
  · obtain ⟨a, B, sI, pins', σ', H', cls, d, rfl, J', nb, up, sky, na, os, ag, b, hb1, hyes, hno⟩ := xx
    have J : Inv X pins σ' H' sI := J'.ofTry ok
    have sky' : Sky B (X.env :: X.outer) a (Zc cls d) X.env.locals s'.heap := by rw [← hs]; exact sky
    show wpAny (model X.prog X.w) X.A (noteFrame (.ref a) X.env) _ _ _
    refine Sky.land Zc.steady hfr hf sky' fun h3 fl3 up3 => ?_
    have J3 : Inv X pins σ' H' { s' with heap := h3 } := J.landed nb fl3.1 (up.trans up3) os ag
    obtain ⟨oe3, vs3, he3, hz3, hd3⟩ := fl3.there
    have nfr : a ∉ frs (X.env :: X.outer) := fun hm => by
      obtain ⟨_, o', e', hnf⟩ := fl3.2.2.1.mem hm
      rw [he3] at e'; cases e'
      exact hnf _ hd3
    have nL : a ≠ X.env.locals := fun z => nfr (List.mem_filterMap.mpr ⟨X.env, List.mem_cons_self, by rw [hf, z]⟩)
    have nI : sI.heap.get? a = none := by
      cases e : sI.heap.get? a with
      | none => rfl
      | some o =>
        have := nb a o e (by show a ∉ frs X.stack; rw [hs]; exact nfr)
        rw [fl3.2.1] at this
        cases this
    have n0 : X.s_0.heap.get? a = none := by
      cases e : X.s_0.heap.get? a with
      | none => rfl
      | some o =>
        obtain ⟨o', q⟩ := J.base.there a o e (by rw [hx]; exact List.not_mem_nil)
        rw [nI] at q
        cases q
    have nC : ∀ x c, X.env.cells.lookup x = some c → c ≠ a := fun x c e z => by
      obtain ⟨v, o, q, _⟩ := J.cell x c e
      rw [z, nI] at q
      cases q
    have nP : ∀ p ∈ X.pn ++ pins, p.1 ≠ a := fun p hp z => by
      have q := (J.pin p hp).1
      rw [z, nI] at q
      cases q
    have S3 := suiteK (a := a) J3
    refine wpAny_handleBy_cons (codeAny_handlers_test ?_) (by intro q; cases q)
    have LT : PySem.W.Looks (model X.prog X.w) h3 (typeOf (.ref a)) cls := fun A Q E s k q => wpAny_typeOf_ref (k _ _ he3) (by rw [hz3.1]; exact q)
    have LM := PySem.W.exm_one (M := model X.prog X.w) (J3.kIn) LT hb1
    have test : ∀ {Q : Value → Shared → Prop} {E : Value → Shared → Prop}, Q c { s' with heap := h3 } → wpAny (model X.prog X.w) (X.A.mark (some (.ref a))) (eval (.Name x np) X.env) Q E { s' with heap := h3 } := fun {Q E} q => by
      obtain ⟨hg, hdbg, hm | ⟨hm, hv, hnn⟩⟩ := hc
      · exact ld_glob (X := X.suite a (X.pn ++ pins)) S3 hg hm q hdbg
      · exact ld_blt (X := X.suite a (X.pn ++ pins)) S3 hg hm hv q hnn hdbg
    refine test (LM.here ?_)
    cases b with
    | true =>
      refine codeAny_handlers_suite_as ?_
      refine HandSPX.lands_againZ fl3 fun h4 fl4 up4 => ?_
      have J4 : Inv X pins σ' H' { s' with heap := h4 } := J.landed nb fl4.1 ((up.trans up3).trans up4) os ag
      obtain ⟨oe4, vs4, he4, hz4, hd4⟩ := fl4.there
      have K4 : Inv X pins σ' (upd H' a (KO a cls d)) { s' with heap := h4 } := track J4 n0 na nL nC nP (ko_ok he4 hz4 hd4)
      have S4 := suiteK (a := a) K4
      refine store_ok (X := X.suite a (X.pn ++ pins)) (v := .ref a) S4 hN hi hloc rfl (fun s5 S5 => ?_) (.inr hln)
      refine wpAny_mono ((hsu a cls d (X.pn ++ pins)).run [] s5 _ _ _ S5 (hyes rfl a na)) (fun f s6 hsp => ?_) (fun _ _ z => False.elim z)
      have end_ : ∀ {σ6 : L2.St} {H6 : Hp} {Q : Shared → Prop}, Inv (X.suite a (X.pn ++ pins)) [] σ6 H6 s6 → (∀ s7, Inv X pins (σ6.set i none) H6 s7 → Q s7) →
          wpAny (model X.prog X.w) X.A (do bindName X.env n .none; unbindBehindTheSuite X.env n pos') (fun _ s7 => Q s7) X.xe s6 := fun {σ6 H6 Q} S6 hq => gone_ok (unsuiteK S6 ok) hN hi hln hq
      cases f with
      | next =>
        obtain ⟨σ6, H6, S6, q6⟩ := hsp
        exact end_ S6 fun s7 J7 => ⟨_, _, J7, q6⟩
      | brk =>
        obtain ⟨σ6, H6, S6, q6⟩ := hsp
        exact end_ S6 fun s7 J7 => ⟨_, _, J7, q6⟩
      | cont =>
        obtain ⟨σ6, H6, S6, q6⟩ := hsp
        exact end_ S6 fun s7 J7 => ⟨_, _, J7, q6⟩
      | ret u =>
        obtain ⟨v6, σ6, H6, S6, r6, q6⟩ := hsp
        exact end_ S6 fun s7 J7 => ⟨_, _, _, J7, r6, q6⟩
    | false =>
      show wpAny _ X.A (handleBy (.ref a) X.env []) _ _ _
      refine wpAny_handleBy_nil ?_
      obtain ⟨k1, k2, k3, oe, vs, T, oT, ts', he, hz, hd, h1, hr⟩ := id fl3
      unfold PySem.passOn
      refine wpAny_bind (wpAny_field he hd h1 ?_)
      rw [if_neg (show ¬ ((Value.ref T == Value.none) = true) from by simp)]
      have fin : wpAny (model X.prog X.w) X.A (setFlight (.ref a) X.env.frame) (fun _ s4 => wpAny (model X.prog X.w) X.A (throw (.ref a) : Sem Flow) (SP X pins D) X.xe s4) X.xe { s' with heap := h3 } := by
        rw [hf]
        refine HandSPX.setFlight_upZ fl3 fun h4 hh4 up4 => wpAny_throw (tk _ _ ?_)
        exact ⟨a, B, sI, pins, σ', H', cls, d, rfl, J, nb, (up.trans up3).trans up4, .inr (.inr (by rw [hs]; exact hh4)), na, os, ag, hno rfl⟩
      first
        | exact wpAny_bind (wpAny_pure (wpAny_bind fin))
        | exact wpAny_bind fin
  · cases f with
    | next =>
      obtain ⟨σ', H', J', q⟩ := hsp
      exact wpAny_execs_nil ⟨σ', H', J'.ofTry ok, q⟩
    | brk =>
      obtain ⟨σ', H', J', q⟩ := hsp
      exact ⟨σ', H', J'.ofTry ok, q⟩
    | cont =>
      obtain ⟨σ', H', J', q⟩ := hsp
      exact ⟨σ', H', J'.ofTry ok, q⟩
    | ret u =>
      obtain ⟨v, σ', H', J', r, q⟩ := hsp
      exact ⟨v, σ', H', J'.ofTry ok, r, q⟩
end
/-! ### the kept error is read -/
open KdXc in
/-- isinstance(x, ..) of a kept error of the class D -/
def rIsK (K : PySem.W.Frag) (D : Addr) : List V → Hp → VK → Prop := fun xs H Q => ∃ (a dd : Addr) (fs : List (Str × V)), H a = some (KO a (.ref D) (some dd)) ∧ H dd = some (.xd fs) ∧ rIsX K D a xs H Q
open KdXc in
theorem call_isK {X : Cx} {D fI : Addr} (T : ErrC X.K D fI) : CallR X (.builtin "isinstance") (rIsK X.K D) := by
  intro pins s σ H xs us Q I r h
  obtain ⟨a, dd, fs, hk, hdd, c, rfl, hc⟩ := h
  have hx : ObjOk X.prog X.w H s.heap dd (.xd fs) := I.hok dd _ hdd
  obtain ⟨mA, hns, _⟩ := hx
  obtain ⟨od, ho, _⟩ := lookIn_ns hns
  have hk1 : ObjOk X.prog X.w H s.heap a (KO a (.ref D) (some dd)) := I.hok a _ hk
  obtain ⟨⟨oe, vs, hget, hz, hv⟩, _⟩ := hk1
  have J : PySem.W.InstAt s.heap a oe D (some od) := ⟨hget, hz.1, by unfold PySem.W.notCls; rw [hv] <;> rfl, by rw [hz.2]; exact ho⟩
  have Z : PySem.W.KitX X.K (.ref a) (.ref D) (fun h => PySem.W.InstAt h a oe D (some od)) := PySem.W.kitx_exc T.cs T.x.ga T.x.gg T.x.exC T.ca T.cn T.ct T.cm
  cases r with
  | cons rx rr =>
    cases rr with
    | cons rt rr =>
      cases rr
      cases rx
      rcases hc with ⟨cv, b, hcv, e, q⟩ | ⟨tp, cs, b, rfl, ht, e, q⟩
      · have ec := hcv _ rt
        subst ec
        exact PySem.W.kia_one Z I.kIn J e (fun z => nomatch z) fun tk => ⟨.bl b, H, I.kept (t' := tk) fun _ _ z => z, rfl, q⟩
      · cases rt
        obtain ⟨its, rv, ⟨o, ho, hcl, n, hd⟩, _⟩ := I.tuple ht
        have ei := refs_vals rv
        subst ei
        obtain ⟨ocl, odd, oda, osl⟩ := o
        dsimp only at hcl hd
        subst hcl hd
        exact PySem.W.kia_tup Z I.kIn J ho e (fun z => nomatch z) fun tk => ⟨.bl b, H, I.kept (t' := tk) fun _ _ z => z, rfl, q⟩
/-- x.f of a kept error of the class C -/
def tXk (C : Addr) (f : Str) (te : TE) : TE := fun σ H Q => te σ H fun x H1 => ∃ (a dd : Addr) (fs : List (Str × V)) (v : V), x = .ref a ∧ H1 a = some (KO a (.ref C) (some dd)) ∧ H1 dd = some (.xd fs) ∧ fs.lookup f = some v ∧ Q v H1
theorem pe_xk {X : Cx} {C : Addr} {e : Expr} {te : TE} {pos : Pos} {n : Str} (T : XfC X.K C) (hno : PySem.W.findIn X.K (.ref C) n = some none) (he : PE X e te) (hb : attributeBase e n X.env (eval e X.env) = eval e X.env := by rfl) :
    PE X (.Attribute e n pos) (tXk C n te) := by
  refine ⟨fun pins s σ H Q I h => ?_⟩
  refine attr_of hb (thn (he.run pins s σ H _ I h) fun u s1 hh => ?_)
  obtain ⟨x, H1, I1, rx, a, dd, fs, v, ex, ek, ea, l, q⟩ := hh
  subst ex
  obtain rfl : u = Value.ref a := rx
  have hk1 : ObjOk X.prog X.w H1 s1.heap a (KO a (.ref C) (some dd)) := I1.hok a _ ek
  obtain ⟨⟨oe, vs, ha, hz, hd⟩, _⟩ := hk1
  have hx : ObjOk X.prog X.w H1 s1.heap dd (.xd fs) := I1.hok dd _ ea
  obtain ⟨mA, hns, hr⟩ := hx
  obtain ⟨od, ho, hl⟩ := lookIn_ns hns
  obtain ⟨u, hu, ru⟩ := RelO.some_of (v := v) (o := mA n) (by rw [← l]; exact hr n)
  have J : PySem.W.InstAt s1.heap a oe C (some od) := ⟨ha, hz.1, by unfold PySem.W.notCls; rw [hd] <;> rfl, by rw [hz.2]; exact ho⟩
  exact HandSPX.exc_get I1.kIn J T.ga T.gg T.exC (PySem.W.findObj_own T.hdC hno rfl (by rw [hl, hu])) (handed_of ru) ⟨v, H1, I1.tok _, ru, q⟩
end KdKp

namespace Kd
open PySem PySem.Spec PyProof.Rows L2 KdXc
section
variable {P : Program} {w : World} {K : PySem.W.Frag} {mg : Str → Option Value} {base : Heap} {f : Addr} {fd : FuncData}
theorem st9 {i : Nat} {σ σ' : L2.St} {K : L2.St → Hp → Prop} {v : V} {H : Hp} (e : σ.set i (some v) = σ') (h : K σ' H) : (fun x H1 => gName i x σ H1 K) v H := by
  show K (σ.set i (some v)) H
  rw [e]
  exact h
theorem ifF9 {c : Prop} [Decidable c] {A B : Prop} (h : ¬ c) (b : B) : if c then A else B := by rw [if_neg h]; exact b
theorem ifT9 {c : Prop} [Decidable c] {A B : Prop} (h : c) (b : A) : if c then A else B := by rw [if_pos h]; exact b
/-! ### _law_refused: the error is kept -/
abbrev N_l_refused : List Str := ["scheme", "name", "rows", "caught", "e"]
theorem sc_l_refused : FnScope N_l_refused ["scheme", "name", "rows"] (defScope s_l_refused) := ⟨rfl, rfl, rfl, by decide +kernel, rfl, by decide +kernel, by decide +kernel⟩
def spRef9 (K : PySem.W.Frag) (C : Addr) : Sp := fun vs H Q _ => ∃ (x l : Addr) (n : Str) (ds : List (Str × List (Str × Str))) (ms : List Str), vs = [.ref x, .str n, .ref l] ∧ PlanAt K C H x ds ms ∧ ds.find? (fun d => decide (d.1 = n)) = none ∧ KdRp.FlatS (.str n) ∧
  ∀ t H', Same H H' → H' t = some (.tup [.str n, .non]) → Q (.ref t) H'
theorem ok_ref9 {C N fN D fS c0 c1 c2 c3 c4 c5 c6 c7 c8 c9 : Addr} {fdN fdS : FuncData} (F : FnP K "_law_refused" "_law_refused" s_l_refused f fd) (GS : FnOk P w K mg base (L2.CX P w) 4 fS fdS ["plan", "dimension", "kinds"] (spStrF K C N)) (gS : mg "stretches" = some (.ref fS)) (kS : PySem.W.keepIn K (.ref fS) = true) (bS : Binds K fdS ["plan", "dimension", "kinds"] [])
    (M : ErrM P w K mg base "NoThing" N fN fdN) (hE : PySem.W.exmOne K (.ref N) (.ref D) = some true) (gD : mg "DayError" = some (.ref D)) (zI : mg "isinstance" = none) (zV : mg "ValueError" = none)
    (kN : PySem.W.kitOne K (.ref N) (.ref N) = some true) (kV : PySem.W.kitOne K (.ref N) (.type "ValueError") = some true) (kO : PySem.W.kitAny K (.ref N) (([c0, c1, c2, c3, c4, c5, c6, c7, c8, c9] : List Addr).map Value.ref) = some false)
    (g0 : mg "NoDeskRow" = some (.ref c0)) (g1 : mg "NoFact" = some (.ref c1)) (g2 : mg "NoGroup" = some (.ref c2)) (g3 : mg "NoMeasure" = some (.ref c3)) (g4 : mg "NoPlan" = some (.ref c4)) (g5 : mg "NoRow" = some (.ref c5)) (g6 : mg "NoText" = some (.ref c6)) (g7 : mg "NoTime" = some (.ref c7)) (g8 : mg "NoWatch" = some (.ref c8)) (g9 : mg "Twice" = some (.ref c9)) : FnOk P w K mg base CX0 5 f fd ["scheme", "name", "rows"] (spRef9 K C) := by
  refine F.ok sc_l_refused (fun vs H Q E h => ?_) (fun cdv A outer s H vs Q E hr h => ?_)
  · obtain ⟨x, l, n, ds, ms, rfl, _⟩ := h
    rfl
  · obtain ⟨x, l, n, ds, ms, rfl, hp, hd, fl, k⟩ := h
    have nd := sc_l_refused.nd
    refine ⟨_, pss_cons (ps_set (i := 3) nd rfl (Or.inl rfl) pe_non) (pss_cons (KdKp.ps_try_keep (i := 4)
        (tb := fun W => tDrop (tCallS (spStrF K C N) (WE W) (tCons (tVar 0) (tCons (tVar 1) (tCons (tVar 2) tNil)))))
        (ts := fun _ _ _ => tAsg (tVar 4) (gName 3)) (Wout := fun _ _ _ _ => False) rfl rfl rfl nd rfl rfl ⟨rfl, by decide, .inl gD⟩ takes0
        (fun W pn xe tk _ => pss_one (ps_expr (by exact (pe_callS GS (hr.mono (by decide)) rfl gS kS bS (fun σ => passAt tk σ) (pa_cons (pv 0) (pa_cons (pv 1) (pa_cons (pv 2) pa_nil)))))))
        (fun a cls d pn => pss_one (ps_set (i := 3) nd rfl (Or.inl rfl) (by exact (pv 4)))))
      (pss_cons (ps_if (pt_cmp (pc_isN (pv 3))) (pss_one (ps_ret (pe_tup pa_nil))) pss_nil)
      (pss_cons (ps_if (pt_val (pe_callB (KdKp.call_isK M.T) (by rfl) zI (by decide +kernel) (pa_cons (pv 3) (pa_cons (pe_tup (pa_cons (pe_glob (v := .ref c0) rfl g0 rfl) (pa_cons (pe_glob (v := .ref c1) rfl g1 rfl) (pa_cons (pe_glob (v := .ref c2) rfl g2 rfl) (pa_cons (pe_glob (v := .ref c3) rfl g3 rfl) (pa_cons (pe_glob (v := .ref c4) rfl g4 rfl) (pa_cons (pe_glob (v := .ref c5) rfl g5 rfl) (pa_cons (pe_glob (v := .ref c6) rfl g6 rfl) (pa_cons (pe_glob (v := .ref c7) rfl g7 rfl) (pa_cons (pe_glob (v := .ref c8) rfl g8 rfl) (pa_cons (pe_glob (v := .ref c9) rfl g9 rfl) pa_nil))))))))))) pa_nil)))) (pss_one (ps_ret pe_str)) pss_nil)
      (pss_one (ps_ret (pe_ifExp (PW.pt (pw_and (pt_val (pe_callB (KdKp.call_isK M.T) (by rfl) zI (by decide +kernel) (pa_cons (pv 3) (pa_cons (pe_glob (v := .ref N) rfl M.g rfl) pa_nil)))) (pw_and1 (pt_val (pe_callB (KdKp.call_isK M.T) (by rfl) zI (by decide +kernel) (pa_cons (pv 3) (pa_cons (pe_bltn (v := .ty "ValueError") (by rfl) zV (by decide +kernel) rfl) pa_nil))))))) (KdKp.pe_xk M.T.x M.T.nW (pv 3)) pe_str)))))), ?_⟩
    refine st9 (σ' := [some (.ref x), some (.str n), some (.ref l), some .non, none]) rfl ?_
    refine ⟨_, rfl, _, rfl, _, rfl, x, l, n, ds, ms, rfl, hp, hd, fl, fun t d H1 s1 ht hd1 => ?_⟩
    refine ⟨true, hE, fun _ a ha => ?_, fun q => nomatch q⟩
    generalize e2 : upd H1 a _ = H2
    have s2 : Same H1 H2 := by rw [← e2]; exact same_new ha
    have a2 : H2 a = some (KdKp.KO a (.ref N) (some d)) := by rw [← e2]; exact upd_same
    refine ⟨_, rfl, ?_⟩
    refine st9 (σ' := [some (.ref x), some (.str n), some (.ref l), some (.ref a), some (.ref a)]) rfl ?_
    refine ⟨_, rfl, _, rfl, ifF9 (by simp) ?_⟩
    refine ⟨_, rfl, by show 10 ≤ sizeLine; decide, fun tp ntp => ?_⟩
    generalize e3 : upd H2 tp _ = H3
    have s3 : Same H2 H3 := by rw [← e3]; exact same_new ntp
    have t3 : H3 tp = some (.tup (([c0, c1, c2, c3, c4, c5, c6, c7, c8, c9] : List Addr).map V.ref)) := by rw [← e3]; exact upd_same
    refine ⟨a, d, _, s3 _ _ a2, s3 _ _ (s2 _ _ hd1), _, rfl, .inr ⟨tp, [c0, c1, c2, c3, c4, c5, c6, c7, c8, c9], false, rfl, SqT.of t3, kO, _, rfl, ifF9 (by decide) ?_⟩⟩
    refine ⟨_, rfl, a, d, _, s3 _ _ a2, s3 _ _ (s2 _ _ hd1), _, rfl, .inl ⟨_, true, fun u hu => hu, kN, _, rfl, ifT9 rfl ?_⟩⟩
    refine ⟨_, rfl, a, d, _, s3 _ _ a2, s3 _ _ (s2 _ _ hd1), _, rfl, .inl ⟨_, true, fun u hu => hu, kV, _, rfl, ifT9 rfl ?_⟩⟩
    exact ⟨_, rfl, a, d, _, _, rfl, s3 _ _ a2, s3 _ _ (s2 _ _ hd1), what_of "NoThing" _, k t H3 ((s1.trans s2).trans s3) (s3 _ _ (s2 _ _ ht))⟩
end
end Kd

namespace Kd
open PySem PySem.Spec PyProof.Rows L2
/-- by strictly rising days -/
def Rise (ks : List Kind) : Prop := ks.Pairwise fun a b => a.1 < b.1
theorem srt_rise {ks : List Kind} (h : Rise ks) : srt ks = ks :=
  List.mergeSort_of_pairwise (h.imp fun {a b} q => decide_eq_true (Int.le_of_lt q))
theorem srt_le (ks : List Kind) : (srt ks).Pairwise fun a b => a.1 ≤ b.1 :=
  (List.pairwise_mergeSort (le := fun a b : Kind => decide (a.1 ≤ b.1)) (fun a b c h1 h2 => decide_eq_true (Int.le_trans (of_decide_eq_true h1) (of_decide_eq_true h2))) (fun a b => by
    simp only [Bool.or_eq_true, decide_eq_true_iff]
    omega) ks).imp fun {a b} h => of_decide_eq_true h
theorem srt_perm (ks : List Kind) : (srt ks).Perm ks := List.mergeSort_perm ks _
/-- the order of kinds is nothing -/
theorem srt_of_perm {ks ms : List Kind} (h : Rise ms) (p : ks.Perm ms) : srt ks = ms := by
  refine List.Perm.eq_of_pairwise (le := fun a b : Kind => a.1 ≤ b.1) (fun a b ha hb h1 h2 => ?_) (srt_le ks) (h.imp fun {a b} q => Int.le_of_lt q) ((srt_perm ks).trans p)
  have ha2 : a ∈ ms := ((srt_perm ks).trans p).mem_iff.mp ha
  have e : a.1 = b.1 := Int.le_antisymm h1 h2
  obtain ⟨i, hi, ei⟩ := List.mem_iff_getElem.mp ha2
  obtain ⟨j, hj, ej⟩ := List.mem_iff_getElem.mp hb
  rcases Nat.lt_trichotomy i j with q | q | q
  · have z := List.pairwise_iff_getElem.mp h i j hi hj q
    rw [ei, ej] at z
    omega
  · subst q
    exact ei.symm.trans ej
  · have z := List.pairwise_iff_getElem.mp h j i hj hi q
    rw [ei, ej] at z
    omega
/-- b is a without some kinds that have the values of the one ahead -/
inductive Thin : List Kind → List Kind → Prop where
  | nil : Thin [] []
  | keep {a b : List Kind} (k : Kind) : Thin a b → Thin (a ++ [k]) (b ++ [k])
  | drop {a b : List Kind} (k : Kind) : Thin a b → (∃ p, a.getLast? = some p ∧ p.2 = k.2) → Thin (a ++ [k]) b
theorem Thin.last {a b : List Kind} (h : Thin a b) : a.getLast?.map (·.2) = b.getLast?.map (·.2) := by
  induction h with
  | nil => rfl
  | keep k h ih => simp
  | drop k h q ih =>
    obtain ⟨p, q1, q2⟩ := q
    rw [q1] at ih
    rw [← ih]
    simp [q2]
theorem Thin.sub {a b : List Kind} (h : Thin a b) : b.Sublist a := by
  induction h with
  | nil => exact List.Sublist.refl _
  | keep k h ih => exact List.Sublist.append ih (List.Sublist.refl _)
  | drop k h q ih => exact ih.trans (List.sublist_append_left _ _)
theorem zip_snoc (k : Kind) : ∀ (l : List Kind) (p : Kind), l.getLast? = some p → (l ++ [k]).zip ((l ++ [k]).drop 1) = l.zip (l.drop 1) ++ [(p, k)]
  | [], p, h => by cases h
  | [x], p, h => by
    cases h
    rfl
  | x :: y :: r, p, h => by
    have ih := zip_snoc k (y :: r) p (by rw [← h]; rfl)
    show (x, y) :: ((y :: r) ++ [k]).zip (((y :: r) ++ [k]).drop 1) = (x, y) :: ((y :: r).zip ((y :: r).drop 1) ++ [(p, k)])
    rw [ih]
theorem opn_snoc {ws : List Str} (k : Kind) {l : List Kind} {p : Kind} (h : l.getLast? = some p) : opn ws (l ++ [k]) = opn ws l ++ if chg ws p.2 k.2 = true then [k] else [] := by
  unfold opn
  rw [zip_snoc k l p h, List.filter_append, List.map_append]
  have e : (l ++ [k]).take 1 = l.take 1 := by
    cases l with
    | nil => cases h
    | cons x r => rfl
  rw [e, List.append_assoc]
  congr 2
  unfold nxt
  by_cases c : chg ws p.2 k.2 = true
  · rw [if_pos c]
    simp [c]
  · rw [if_neg c]
    simp [c]
theorem opn_one {ws : List Str} (k : Kind) : opn ws [k] = [k] := rfl
theorem chg_self (ws : List Str) (o : List Fv) : chg ws o o = false := by
  unfold chg
  rw [List.any_eq_false]
  intro j _
  unfold dif
  simp
theorem Thin.opn {ws : List Str} {a b : List Kind} (h : Thin a b) : opn ws a = opn ws b := by
  induction h with
  | nil => rfl
  | @keep a b k h ih =>
    have hl := h.last
    cases ea : a.getLast? with
    | none =>
      rw [ea] at hl
      cases eb : b.getLast? with
      | none =>
        rw [List.getLast?_eq_none_iff] at ea eb
        rw [ea, eb]
      | some q => rw [eb] at hl; cases hl
    | some p =>
      rw [ea] at hl
      cases eb : b.getLast? with
      | none => rw [eb] at hl; cases hl
      | some q =>
        rw [eb] at hl
        have e : p.2 = q.2 := Option.some.inj hl
        rw [opn_snoc k ea, opn_snoc k eb, ih, e]
  | drop k h q ih =>
    obtain ⟨p, q1, q2⟩ := q
    rw [opn_snoc k q1, q2, chg_self, ih]
    simp
theorem col_snoc (i : Nat) (a : List Kind) (k : Kind) : col i (a ++ [k]) = col i a ++ [k.2.getD i (.i 0)] := by
  unfold col
  rw [List.map_append]
  rfl
theorem Thin.head {a b : List Kind} (h : Thin a b) (i : Nat) : (col i a).head? = (col i b).head? := by
  induction h with
  | nil => rfl
  | keep k h ih =>
    rw [col_snoc, col_snoc, List.head?_append, List.head?_append, ih]
  | drop k h q ih =>
    obtain ⟨p, q1, q2⟩ := q
    rw [col_snoc, List.head?_append, ih]
    have ne : (col i _).head? ≠ none := fun z => by
      rw [← ih, List.head?_eq_none_iff] at z
      unfold col at z
      rw [List.map_eq_nil_iff] at z
      rw [z] at q1
      cases q1
    cases hb : (col i _).head? with
    | none => exact absurd hb ne
    | some v => rfl
theorem Thin.colLast {a b : List Kind} (h : Thin a b) (i : Nat) : (col i a).getLast? = (col i b).getLast? := by
  have e := h.last
  unfold col
  rw [List.getLast?_map, List.getLast?_map]
  have e2 := congrArg (Option.map fun v : List Fv => v.getD i (.i 0)) e
  rw [Option.map_map, Option.map_map] at e2
  exact e2
theorem Thin.flt {a b : List Kind} (h : Thin a b) (i : Nat) (l : Fv) : ((col i a).filter fun c => !decide (c = l)).getLast? = ((col i b).filter fun c => !decide (c = l)).getLast? := by
  induction h with
  | nil => rfl
  | keep k h ih => rw [col_snoc, col_snoc, List.filter_append, List.filter_append, List.getLast?_append, List.getLast?_append, ih]
  | @drop a b k h q ih =>
    obtain ⟨p, q1, q2⟩ := q
    rw [col_snoc, List.filter_append, List.getLast?_append, ← ih]
    obtain ⟨a0, rfl⟩ : ∃ a0, a = a0 ++ [p] := by
      rcases List.eq_nil_or_concat a with e | ⟨a0, x, e⟩
      · rw [e] at q1
        cases q1
      · rw [List.concat_eq_append] at e
        rw [e, List.getLast?_append] at q1
        cases q1
        exact ⟨a0, e⟩
    rw [col_snoc, List.filter_append, List.getLast?_append, q2]
    cases ([k.2.getD i (.i 0)].filter fun c => !decide (c = l)).getLast? <;> rfl
theorem Thin.unl {a b : List Kind} (h : Thin a b) (i : Nat) : unl (col i a) = unl (col i b) := by
  have e := h.colLast i
  unfold Kd.unl
  rw [← e]
  cases (col i a).getLast? with
  | none => rfl
  | some l =>
    show (some l, _) = (some l, _)
    rw [h.flt i l]
theorem Thin.wv {a b : List Kind} (h : Thin a b) (way : Str) (i : Nat) (op : Option (List Fv)) : wvD way i a op = wvD way i b op := by
  unfold wvD
  rw [h.unl i, h.head i, h.colLast i]
theorem Thin.ver {a b : List Kind} (h : Thin a b) (ws : List Str) (ops : List Kind) (j : Nat) : verD ws a ops j = verD ws b ops j := by
  unfold verD vvD
  have e : (fun j_1 => wvD (ws.getD j_1 Str.empty) j_1 a (opv ops j)) = fun j_1 => wvD (ws.getD j_1 Str.empty) j_1 b (opv ops j) := by
    funext i
    rw [h.wv]
  rw [e]
theorem str_thin {a b c d : List Kind} (h : Thin a b) (ws : List Str) (ea : srt c = a) (eb : srt d = b) : strL ws c = strL ws d := by
  unfold strL
  rw [ea, eb, h.opn]
  congr 1
  funext j
  exact h.ver ws _ j
theorem Thin.refl : ∀ (a : List Kind), Thin a a := fun a => by
  have h : ∀ n, n ≤ a.length → Thin (a.take n) (a.take n) := fun n => by
    induction n with
    | zero => intro _; exact .nil
    | succ n ih =>
      intro hn
      rw [List.take_succ_eq_append_getElem hn]
      exact .keep _ (ih (by omega))
  have h2 := h a.length (Nat.le_refl _)
  rw [List.take_length] at h2
  exact h2
theorem str_perm {a b : List Kind} (h : Rise b) (p : a.Perm b) (ws : List Str) : strL ws a = strL ws b := str_thin (Thin.refl b) ws (srt_of_perm h p) (srt_rise h)
/-- pairs go along with an order -/
theorem paired_perm {α β : Type} {R : α → β → Prop} {ys xs : List α} {ks : List β} (p : ys.Perm xs) (h : Paired R xs ks) : ∃ ms : List β, ms.Perm ks ∧ Paired R ys ms := by
  induction p generalizing ks with
  | nil => exact ⟨ks, List.Perm.refl _, h⟩
  | cons x p ih =>
    cases h with
    | cons h t =>
      obtain ⟨ms, p2, h2⟩ := ih t
      exact ⟨_ :: ms, p2.cons _, .cons h h2⟩
  | swap x y l =>
    cases h with
    | cons h t =>
      cases t with
      | cons h2 t => exact ⟨_ :: _ :: _, List.Perm.swap _ _ _, .cons h2 (.cons h t)⟩
  | trans p1 p2 ih1 ih2 =>
    obtain ⟨m2, q2, h2⟩ := ih2 h
    obtain ⟨m1, q1, h1⟩ := ih1 h2
    exact ⟨m1, q1.trans q2, h1⟩
theorem erase_perm {α : Type} : ∀ (l : List α) (i : Nat) (y : α), l[i]? = some y → (y :: l.eraseIdx i).Perm l
  | [], i, y, h => by simp at h
  | x :: l, 0, y, h => by
    cases h
    exact List.Perm.refl _
  | x :: l, i + 1, y, h => by
    have ih := erase_perm l i y h
    exact (List.Perm.swap x y _).trans (ih.cons x)
end Kd

namespace Kd
open PySem PySem.Spec PyProof.Rows L2
/-- a deck of at most n draws stands at a, its list of great ones at g -/
structure Deck (H : Hp) (a g : Addr) (n : Nat) : Prop where
  ex : ∃ (f m : Int) (gs : List Int), H a = some (.lst [.ref g, .int f, .int m]) ∧ H g = some (.lst (gs.map V.int)) ∧ (0 ≤ f ∧ f < 2305843009213693951) ∧ 0 ≤ m ∧ m ≤ n
section
variable {H H' H1 H2 H3 : Hp} {a g p D b : Addr} {n m : Nat} {o : HO}
theorem Deck.same (s : Same H H') (t : Deck H a g n) : Deck H' a g n := by
  obtain ⟨f, k, gs, h1, h2, h3⟩ := t.ex
  exact ⟨f, k, gs, s _ _ h1, s _ _ h2, h3⟩
theorem Deck.new (t : Deck H a g n) (h : H p = Option.none) : Deck (upd H p o) a g n := t.same (same_new h)
theorem Deck.mono (t : Deck H a g n) (h : n ≤ m) : Deck H a g m := by
  obtain ⟨f, k, gs, h1, h2, h3, h4, h5⟩ := t.ex
  exact ⟨f, k, gs, h1, h2, h3, h4, by omega⟩
theorem Deck.na (t : Deck H a g n) (h : H p = Option.none) : p ≠ a ∧ p ≠ g := by
  obtain ⟨f, k, gs, h1, h2, _⟩ := t.ex
  exact ⟨(ne_of_none h1 h).symm, (ne_of_none h2 h).symm⟩
theorem Deck.cd (t : Deck H a g n) (ha : D ≠ a) (hg : D ≠ g) : Deck (cd D H) a g n := by
  obtain ⟨f, k, gs, h1, h2, h3⟩ := t.ex
  exact ⟨f, k, gs, cd_of h1 ha.symm, cd_of h2 hg.symm, h3⟩
theorem Deck.updo (t : Deck H a g n) (ha : D ≠ a) (hg : D ≠ g) : Deck (upd H D o) a g n := by
  obtain ⟨f, k, gs, h1, h2, h3⟩ := t.ex
  exact ⟨f, k, gs, by rw [upd_ne ha.symm]; exact h1, by rw [upd_ne hg.symm]; exact h2, h3⟩
theorem Deck.lists (t : Deck H a g n) : ∃ A G, H a = some (.lst A) ∧ H g = some (.lst G) := by
  obtain ⟨f, k, gs, h1, h2, _⟩ := t.ex
  exact ⟨_, _, h1, h2⟩
theorem ctnew (h : H p = Option.none) : Same (ct a g H) (ct a g (upd H p o)) := ct_same (same_new h)
theorem ctcd (hD : H1 D = Option.none) (s1 : Same (ct a g H1) (ct a g (cd D H2))) (s2 : Same (ct a g H2) (ct a g H3)) : Same (ct a g H1) (ct a g (Kd.cd D H3)) := fun b o e => by
  obtain ⟨na, ng⟩ := ct_ne e
  have nD : b ≠ D := ne_of_none (ct_sub _ _ e) hD
  have e2 := ct_sub _ _ (s1 b o e)
  exact ct_of (cd_of (ct_sub _ _ (s2 b o (ct_of (cd_sub _ _ e2) na ng))) nD) na ng
theorem ctkeep (s : Same (ct a g H) (ct a g H')) (e : H b = some o) (ha : b ≠ a) (hg : b ≠ g) : H' b = some o := ct_sub _ _ (s b o (ct_of e ha hg))
theorem ctupd (s : Same (ct a g H) (ct a g H')) (hl : H D = Option.none) (ha : D ≠ a) (hg : D ≠ g) : Same (ct a g H) (ct a g (upd H' D o)) := by
  rw [ct_upd ha hg]
  exact Same.upd s (ct_none hl)
theorem ctcd2 (s : Same (ct a g H) (ct a g H')) : Same (ct a g (Kd.cd D H)) (ct a g (Kd.cd D H')) := fun b o e => by
  obtain ⟨na, ng⟩ := ct_ne e
  have e2 := ct_sub _ _ e
  exact ct_of (cd_of (ct_sub _ _ (s b o (ct_of (cd_sub _ _ e2) na ng))) (ct_ne e2).1) na ng
end
section
variable {P : Program} {w : World} {K : PySem.W.Frag} {mg : Str → Option Value} {base : Heap} {f : Addr} {fd : FuncData}
theorem ints_at {xs : List Int} {i : Nat} {x : V} (h : (xs.map V.int)[i]? = some x) : ∃ z, x = .int z ∧ xs[i]? = some z := by
  rw [List.getElem?_map] at h
  cases e : xs[i]? with
  | none => rw [e] at h; cases h
  | some z => rw [e] at h; exact ⟨z, (Option.some.inj h).symm, rfl⟩
theorem DpAll.ints {H : Hp} : ∀ (xs : List Int), DpAll K H (xs.map V.int) (xs.map PyData.int)
  | [] => .nil
  | x :: xs => .cons (.int x) (DpAll.ints xs)
theorem lay_ints : ∀ xs : List Int, PyData.canLayAll0 (xs.map PyData.int) = true ∧ PyData.depthAll (xs.map PyData.int) = 0
  | [] => ⟨rfl, rfl⟩
  | x :: xs => by
    obtain ⟨h1, h2⟩ := lay_ints xs
    constructor
    · simp only [List.map_cons, PyData.canLayAll0, PyData.canLay0, h1, Bool.and_self]
    · simp only [List.map_cons, PyData.depthAll, PyData.depth, h2, Nat.max_self]
theorem shaped_ints (xs : List Int) : SeqAt.shaped (.list (xs.map PyData.int)) = true := by
  obtain ⟨h1, h2⟩ := lay_ints xs
  simp [SeqAt.shaped, PyData.canLay0, PyData.depth, h1, h2]
def lenAt (g : Addr) (H : Hp) : Nat := match H g with
  | some (.lst xs) => xs.length
  | _ => 0
theorem lenAt_of {g : Addr} {H : Hp} {xs : List V} (h : H g = some (.lst xs)) : lenAt g H = xs.length := by unfold lenAt; rw [h]
theorem deck_ne {H : Hp} {a g : Addr} {f m : Int} {gs : List Int} (h1 : H a = some (.lst [.ref g, .int f, .int m])) (h2 : H g = some (.lst (gs.map V.int))) : a ≠ g := ne_of h1 h2 (fun z => by
  have e : [V.ref g, V.int f, V.int m] = gs.map V.int := by injection z
  cases gs with
  | nil => cases e
  | cons x r => cases e)
/-! ### _law_deck -/
def spDeck (K : PySem.W.Frag) : Sp := fun vs H Q _ => ∃ (l : Addr) (ns : List Int), vs = [.ref l] ∧ SqL K H l (ns.map V.int) ∧ ns.length ≤ 63 ∧ ∀ a g H', H a = none → H g = none → Deck H' a g 0 → Same H H' → Q (.ref a) H'
theorem sc_deck : FnScope ["script", "great", "fold", "cell"] ["script"] (defScope s_l_deck) := ⟨rfl, rfl, rfl, by decide +kernel, rfl, by decide +kernel, by decide +kernel⟩
theorem ok_deck (F : FnP K "_law_deck" "_law_deck" s_l_deck f fd) (gm : mg "abs" = none) : FnOk P w K mg base CX0 1 f fd ["script"] (spDeck K) := by
  refine F.ok sc_deck (fun vs H Q E h => ?_) (fun cdv A outer s H vs Q E hr h => ?_)
  · obtain ⟨l, ns, rfl, _⟩ := h
    rfl
  · obtain ⟨l, ns, rfl, hS, hn, k⟩ := h
    have nd := sc_deck.nd
    refine ⟨_, PSs.nox (pss_cons (ps_set (i := 1) nd rfl (Or.inl rfl) (pe_lst pa_nil))
      (pss_cons (ps_set (i := 2) nd rfl (Or.inl rfl) pe_int)
      (pss_cons (ps_for PassesOwn.never rfl (pi_list (pv 0)) (pg_name (i := 3) nd rfl (Or.inl rfl))
        (pss_cons (ps_set (i := 2) nd rfl (Or.inl rfl) (pe_op op_mod (pe_op op_add (pe_op op_mul (pv 2) pe_int) (pv 3)) pe_int))
        (pss_one (ps_if (pt_cmpR op_ge (pe_callB call_abs (by rfl) gm (by decide +kernel) (pa_cons (pv 3) pa_nil)) (pe_op op_pow pe_int pe_int) (nomark _)) (pss_one (ps_expr (pe_bm PySem.F.plainAttrs_list PySem.F.slot_list_insert PySem.F.type_list_insert mt_insert (pv 1) (pa_cons pe_int (pa_cons (pe_op op_sub (pe_callB call_abs (by rfl) gm (by decide +kernel) (pa_cons (pv 3) pa_nil)) (pe_op op_pow pe_int pe_int)) pa_nil))))) pss_nil))))
      (pss_one (ps_ret (pe_lst (pa_cons (pv 1) (pa_cons (pv 2) (pa_cons pe_int pa_nil))))))))), ?_⟩
    refine ⟨by show 0 ≤ sizeLine; decide, fun g hg => ?_⟩
    refine ⟨_, rfl, l, rfl, ⟨_, (same_new hg).seq hS⟩, for_list (K := K) (a := l) (xs := ns.map V.int) (fun i σ H2 => ∃ (fo : Int) (gs : List Int) (u : Option V), σ = [some (.ref l), some (.ref g), some (.int fo), u] ∧ Same H H2 ∧ H2 g = some (.lst (gs.map V.int)) ∧ gs.length ≤ i ∧ 0 ≤ fo ∧ fo < 2305843009213693951)
      ⟨_, [], _, rfl, same_new hg, upd_same, Nat.le_refl _, by decide, by decide⟩ (fun i σ H2 _ ⟨_, _, _, _, s2, _⟩ => s2.seq hS) ?_ ?_⟩
    · rintro i x σ H2 hi ⟨fo, gs, u, rfl, s2, h2, l2, f0, f1⟩
      have hil : i < (ns.map V.int).length := (List.getElem?_eq_some_iff.mp hi).1
      rw [List.length_map] at hil
      obtain ⟨z, rfl, hz⟩ := ints_at hi
      refine ⟨_, rfl, _, _, rfl, rfl, .inl ⟨by omega, by omega⟩, _, rfl, _, _, rfl, rfl, _, _, rfl, rfl, (by show (0 : Int) < 2305843009213693951; decide), ?_⟩
      have fb : 0 ≤ (fo * 1000003 + z) % 2305843009213693951 ∧ (fo * 1000003 + z) % 2305843009213693951 < 2305843009213693951 := ⟨Int.emod_nonneg _ (by decide), Int.emod_lt_of_pos _ (by decide)⟩
      refine ⟨_, rfl, _, rfl, _, _, rfl, rfl, ⟨by decide, by decide, by decide⟩, _, _, rfl, rfl, _, rfl, ?_⟩
      refine ite2 (fun _ => ?_) (fun _ => ?_)
      · refine ⟨_, rfl, .inl ⟨rfl, _, SqL.of h2⟩, _, rfl, _, rfl, _, _, rfl, rfl, ⟨by decide, by decide, by decide⟩, _, _, rfl, rfl, ?_⟩
        refine ⟨g, _, 0, _, rfl, rfl, h2, small1000 (by rw [List.length_map]; omega), by decide, by decide, ?_⟩
        exact ⟨_, _ :: gs, _, rfl, Same.upd s2 hg, by rw [upd_same]; rfl, by rw [List.length_cons]; omega, fb.1, fb.2⟩
      · exact ⟨_, gs, _, rfl, s2, h2, by omega, fb.1, fb.2⟩
    · rintro σ H2 ⟨fo, gs, u, rfl, s2, h2, l2, f0, f1⟩
      refine ⟨_, rfl, _, rfl, by show 3 ≤ sizeLine; decide, fun a ha => ?_⟩
      exact k a g _ (s2.free ha) hg ⟨fo, 0, gs, upd_same, by rw [upd_ne (ne_of_none h2 ha)]; exact h2, ⟨f0, f1⟩, by decide, by decide⟩ (Same.to_new s2 ha)
/-! ### _law_take -/
def spTake : Sp := fun vs H Q _ => ∃ (a g : Addr) (n : Nat) (many : Int), vs = [.ref a, .int many] ∧ Deck H a g n ∧ n ≤ 10000000 ∧ 0 < many ∧ many < 2 ^ 60 ∧ ∀ (r : Int) H', 0 ≤ r → r < many → Deck H' a g (n + 1) → Same (ct a g H) (ct a g H') → Q (.int r) H'
theorem sc_take : FnScope ["deck", "many", "drawn", "k", "mixed"] ["deck", "many"] (defScope s_l_take) := ⟨rfl, rfl, rfl, by decide +kernel, rfl, by decide +kernel, by decide +kernel⟩
theorem mix_lt2 {x : Int} : (x % 2305843009213693951).natAbs < 2 ^ 64 := by
  have h0 : 0 ≤ x % 2305843009213693951 := Int.emod_nonneg _ (by decide)
  have h1 : x % 2305843009213693951 < 2305843009213693951 := Int.emod_lt_of_pos _ (by decide)
  omega
theorem atI_last2 {zs : List Int} {z : Int} : atI ((zs.concat z).map V.int) (-1) = some (.int z) := by
  rw [List.concat_eq_append, List.map_append]
  exact atI_last _ _
theorem set_last {zs : List Int} {z y : Int} : ((zs.concat z).map V.int).set zs.length (.int y) = (zs.concat y).map V.int := by
  rw [List.concat_eq_append, List.concat_eq_append, List.map_append, List.map_append, List.set_append_right _ _ (by rw [List.length_map]; exact Nat.le_refl _), List.length_map, Nat.sub_self]
  rfl
theorem ixN_last {zs : List Int} {z : Int} : ixN ((zs.concat z).map V.int).length (-1) = some zs.length := by
  unfold ixN
  rw [List.length_map, List.length_concat, if_neg (by decide), if_pos (by omega)]
  congr 1
  omega
theorem pop_last {zs : List Int} {z : Int} : ((zs.concat z).map V.int)[((zs.concat z).map V.int).length - 1]? = some (.int z) := by
  rw [List.length_map, List.length_concat, Nat.add_sub_cancel, List.getElem?_map, List.concat_eq_append, List.getElem?_append_right (Nat.le_refl _), Nat.sub_self]
  rfl
theorem drop_last {zs : List Int} {z : Int} : some (HO.lst ((zs.concat z).map V.int).dropLast) = some (HO.lst (zs.map V.int)) := by
  rw [List.concat_eq_append, List.map_append]
  simp
theorem neq_nil {zs : List Int} {z : Int} : (!PyData.eqv (.list ((zs.concat z).map PyData.int)) (.list [])) = true := by
  cases zs with
  | nil => rfl
  | cons _ _ => rfl
set_option maxHeartbeats 0 in
theorem ok_take (F : FnP K "_law_take" "_law_take" s_l_take f fd) : FnOk P w K mg base CX0 1 f fd ["deck", "many"] spTake := by
  refine F.ok sc_take (fun vs H Q E h => ?_) (fun cdv A outer s H vs Q E hr h => ?_)
  · obtain ⟨a, g, n, many, rfl, _⟩ := h
    rfl
  · obtain ⟨a, g, n, many, rfl, hT, hn, m0, m1, k⟩ := h
    have nd := sc_take.nd
    refine ⟨_, PSs.nox (pss_cons (ps_while PassesOwn.never (PW.pt (pw_and (pt_cmpR (op_neD hr.units) (pe_ix ix_list (pv 0) pe_int (fun _ _ => rfl)) (pe_lst pa_nil) (nomark _)) (pw_and1 (pt_cmpR op_lt (pe_ix ix_list (pe_ix ix_list (pv 0) pe_int (fun _ _ => rfl)) (pe_un un_neg pe_int) (fun _ _ => rfl)) pe_int (nomark _)))))
        (pss_one (ps_expr (pe_bm0 PySem.F.plainAttrs_list PySem.F.slot_list_pop PySem.F.type_list_pop mt_pop (pe_ix ix_list (pv 0) pe_int (fun _ _ => rfl))))))
      (pss_cons (ps_if (pt_cmpR (op_neD hr.units) (pe_ix ix_list (pv 0) pe_int (fun _ _ => rfl)) (pe_lst pa_nil) (nomark _))
        (pss_cons (ps_set (i := 2) nd rfl (Or.inl rfl) (pe_op op_mod (pe_ix ix_list (pe_ix ix_list (pv 0) pe_int (fun _ _ => rfl)) (pe_un un_neg pe_int) (fun _ _ => rfl)) (pv 1)))
        (pss_cons (ps_asg (pe_op op_fdivW (pe_ix ix_list (pe_ix ix_list (pv 0) pe_int (fun _ _ => rfl)) (pe_un un_neg pe_int) (fun _ _ => rfl)) (pv 1)) (pg_sub (pe_ix ix_list (pv 0) pe_int (fun _ _ => rfl)) (pe_un un_neg pe_int) set_list))
        (pss_one (ps_ret (pv 2))))) pss_nil)
      (pss_cons (ps_asg (pe_op op_add (pe_ix ix_list (pv 0) pe_int (fun _ _ => rfl)) pe_int) (pg_sub (pv 0) pe_int set_list))
      (pss_cons (ps_set (i := 3) nd rfl (Or.inl rfl) (pe_ix ix_list (pv 0) pe_int (fun _ _ => rfl)))
      (pss_cons (ps_set (i := 4) nd rfl (Or.inl rfl) (pe_op op_add (pe_op op_mul (pe_op op_add (pe_ix ix_list (pv 0) pe_int (fun _ _ => rfl)) pe_int) (pe_op op_pow (pe_op op_add (pv 3) pe_int) pe_int)) (pe_op op_mul pe_int (pv 3))))
      (pss_one (ps_ret (pe_op op_mod (pe_op op_fdiv (pe_op op_mod (pe_op op_pow (pe_op op_mod (pv 4) pe_int) pe_int) pe_int) pe_int) (pv 1))))))))), ?_⟩
    refine while_by (fun σ H2 => σ = [some (.ref a), some (.int many), none, none, none] ∧ Deck H2 a g n ∧ Same (ct a g H) (ct a g H2)) (fun _ H2 => lenAt g H2) ⟨rfl, hT, Same.refl _⟩ ?_ ?_
    · rintro σ H2 ⟨rfl, ⟨fo, m, gs, h1, h2, hf, hm⟩, s2⟩
      have nag := deck_ne h1 h2
      refine ⟨_, rfl, a, _, _, _, rfl, rfl, SqL.of h1, atI_nat (j := 0) rfl, by show 0 ≤ sizeLine; decide, fun p hp => ?_⟩
      have npa : a ≠ p := ne_of_none h1 hp
      have npg : g ≠ p := ne_of_none h2 hp
      have h1p : upd H2 p (.lst []) a = some (.lst [.ref g, .int fo, .int m]) := by rw [upd_ne npa]; exact h1
      have h2p : upd H2 p (.lst []) g = some (.lst (gs.map V.int)) := by rw [upd_ne npg]; exact h2
      have s3 : Same (ct a g H) (ct a g (upd H2 p (.lst []))) := s2.trans (ct_same (same_new hp))
      have hpp : upd H2 p (.lst []) p = some (.lst []) := upd_same
      generalize upd H2 p (.lst []) = H3 at h1p h2p s3 hpp ⊢
      refine ⟨.list (gs.map PyData.int), .list [], .lst (SqL.of h2p) (DpAll.ints gs), .lst (SqL.of hpp) .nil, shaped_ints gs, by decide, _, rfl, ?_⟩
      rcases List.eq_nil_or_concat gs with rfl | ⟨zs, z, rfl⟩
      · refine iteF (iteF ?_)
        refine ⟨_, rfl, a, _, _, _, rfl, rfl, SqL.of h1p, atI_nat (j := 0) rfl, by show 0 ≤ sizeLine; decide, fun p4 n4 => ?_⟩
        have s4 : Same (ct a g H) (ct a g (upd H3 p4 (.lst []))) := s3.trans (ct_same (same_new n4))
        have h2p := (same_new (o := .lst []) n4) _ _ h2p
        have h1p := (same_new (o := .lst []) n4) _ _ h1p
        have hp4 : upd H3 p4 (.lst []) p4 = some (.lst []) := upd_same
        generalize upd H3 p4 (.lst []) = H4 at h1p h2p s4 hp4 ⊢
        refine ⟨.list [], .list [], .lst (SqL.of h2p) .nil, .lst (SqL.of hp4) .nil, by decide, by decide, _, rfl, iteF ?_⟩
        refine ⟨_, rfl, a, _, _, _, rfl, rfl, SqL.of h1p, atI_nat (j := 2) rfl, _, _, rfl, rfl, _, rfl, a, _, _, 2, rfl, rfl, h1p, rfl, ?_⟩
        have q0 := hf.1
        have q1 := hf.2
        have q2 := hm.1
        have q3 := hm.2
        refine ⟨_, rfl, a, _, _, _, rfl, rfl, SqL.of upd_same, atI_nat (j := 2) rfl, ?_⟩
        refine ⟨_, rfl, a, _, _, _, rfl, rfl, SqL.of upd_same, atI_nat (j := 1) rfl, _, _, rfl, rfl, _, rfl, _, _, rfl, rfl, _, _, rfl, rfl, ⟨by decide, by decide, by omega⟩, _, _, rfl, rfl, .inl ⟨by omega, by omega⟩, _, rfl, _, _, rfl, rfl, .inl ⟨by decide, by decide⟩, _, _, rfl, rfl, ?_⟩
        refine ⟨_, rfl, _, _, rfl, rfl, (by show (0 : Int) < 2305843009213693951; decide), _, _, rfl, rfl, ⟨by decide, by decide, mix_lt2⟩, _, _, rfl, rfl, (by show (0 : Int) < 1000000007; decide), _, _, rfl, rfl, ⟨by decide, by decide⟩, _, rfl, _, _, rfl, rfl, m0, ?_⟩
        exact k _ _ (Int.emod_nonneg _ (by omega)) (Int.emod_lt_of_pos _ m0) ⟨fo, m + 1, [], upd_same, by rw [upd_ne nag.symm]; exact h2p, hf, by omega, by omega⟩ (by rw [ct_upda]; exact s4)
      · rw [neq_nil]
        refine iteT ⟨_, rfl, a, _, _, _, rfl, rfl, SqL.of h1p, atI_nat (j := 0) rfl, _, rfl, g, _, _, _, rfl, rfl, SqL.of h2p, atI_last2, _, _, rfl, rfl, _, rfl, ?_⟩
        refine ite2 (fun c1 => ?_) (fun c1 => ?_)
        · refine ⟨_, rfl, a, _, _, _, rfl, rfl, SqL.of h1p, atI_nat (j := 0) rfl, .inl ⟨rfl, _, SqL.of h2p⟩, g, _, .int z, rfl, rfl, h2p, pop_last, ?_⟩
          refine ⟨⟨rfl, ⟨fo, m, zs, by rw [upd_ne nag]; exact h1p, by rw [upd_same, drop_last], hf, hm⟩, by rw [ct_updg]; exact s3⟩, ?_⟩
          show lenAt g _ < lenAt g H2
          rw [lenAt_of h2, lenAt_of (g := g) (xs := zs.map V.int) (by rw [upd_same, drop_last]), List.length_map, List.length_map, List.length_concat]
          exact Nat.lt_succ_self _
        · refine ⟨_, rfl, a, _, _, _, rfl, rfl, SqL.of h1p, atI_nat (j := 0) rfl, by show 0 ≤ sizeLine; decide, fun p4 n4 => ?_⟩
          have s4 : Same (ct a g H) (ct a g (upd H3 p4 (.lst []))) := s3.trans (ct_same (same_new n4))
          have h2p := (same_new (o := .lst []) n4) _ _ h2p
          have h1p := (same_new (o := .lst []) n4) _ _ h1p
          have hp4 : upd H3 p4 (.lst []) p4 = some (.lst []) := upd_same
          generalize upd H3 p4 (.lst []) = H4 at h1p h2p s4 hp4 ⊢
          refine ⟨.list ((zs.concat z).map PyData.int), .list [], .lst (SqL.of h2p) (DpAll.ints _), .lst (SqL.of hp4) .nil, shaped_ints _, by decide, _, rfl, ?_⟩
          rw [neq_nil]
          refine iteT ⟨_, rfl, a, _, _, _, rfl, rfl, SqL.of h1p, atI_nat (j := 0) rfl, _, rfl, g, _, _, _, rfl, rfl, SqL.of h2p, atI_last2, _, rfl, _, _, rfl, rfl, m0, ?_⟩
          refine ⟨_, rfl, a, _, _, _, rfl, rfl, SqL.of h1p, atI_nat (j := 0) rfl, _, rfl, g, _, _, _, rfl, rfl, SqL.of h2p, atI_last2, _, rfl, _, _, rfl, rfl, wide_div (b := 60) m0 (by omega) (by decide) (by decide), _, rfl, a, _, _, _, rfl, rfl, SqL.of h1p, atI_nat (j := 0) rfl, _, rfl, g, _, _, zs.length, rfl, rfl, h2p, ixN_last, ?_⟩
          exact ⟨_, rfl, k _ _ (Int.emod_nonneg _ (by omega)) (Int.emod_lt_of_pos _ m0) ⟨fo, m, zs.concat (z / many), by rw [upd_ne nag]; exact h1p, by rw [upd_same, set_last], hf, hm.1, by omega⟩ (by rw [ct_updg]; exact s4)⟩
    · rintro σ H2 Q1 Q2 hQ ⟨v, e0, p, xs, i, x, e1, e2, hs, ha, hl, hp⟩
      refine ⟨v, e0, p, xs, i, x, e1, e2, hs, ha, hl, fun p np => ?_⟩
      obtain ⟨d, e, d1, d2, d3, d4, b, e6, q⟩ := hp p np
      refine ⟨d, e, d1, d2, d3, d4, b, e6, ?_⟩
      cases b with
      | false => exact iteF (hQ _ _ (by simpa using q))
      | true =>
        have q := (if_pos rfl : (if true = true then _ else _) = _).mp q
        obtain ⟨v, e0, p, xs, i, x, e1, e2, hs, ha, j, e3, p5, x5, i5, y5, e4, e5, hs5, ha5, i2, j2, e7, e8, b, e9, q⟩ := q
        exact iteT ⟨v, e0, p, xs, i, x, e1, e2, hs, ha, j, e3, p5, x5, i5, y5, e4, e5, hs5, ha5, i2, j2, e7, e8, b, e9, hQ _ _ q⟩
end
end Kd

namespace Kd
open PySem PySem.Spec PyProof.Rows L2
theorem nm_iff {z : Str} : nmB z = true ↔ IsNm z := by
  unfold nmB
  rw [Bool.and_eq_true, Bool.and_eq_true, decide_eq_true_iff, decide_eq_true_iff, List.all_eq_true]
  constructor
  · rintro ⟨h1, h2, h3⟩
    exact ⟨fun c hc => of_decide_eq_true (h3 c hc), h1, h2⟩
  · rintro ⟨h1, h2, h3⟩
    exact ⟨h2, h3, fun c hc => decide_eq_true (h1 c hc)⟩
/-- a name, or the empty text -/
structure Nm0 (z : Str) : Prop where
  low : Low z
  le8 : z.length ≤ 8
theorem IsNm.nm0 {z : Str} (h : IsNm z) : Nm0 z := ⟨h.low, h.le8⟩
theorem Nm0.nm {z : Str} (h : Nm0 z) (ne : z ≠ Str.empty) : IsNm z := ⟨h.low, by
  rcases Nat.eq_zero_or_pos z.length with e | e
  · refine absurd (Str.ext' (Array.eq_empty_of_size_eq_zero e)) ne
  · exact e, h.le8⟩
theorem flat_len : ∀ (parts : List Str), (∀ z ∈ parts, z.length = 1) → ((parts.map fun z => z.cps.toList).flatten).length = parts.length
  | [], _ => rfl
  | z :: r, h => by
    have ih := flat_len r fun y hy => h y (List.mem_cons_of_mem _ hy)
    have h1 := h z (List.mem_cons_self ..)
    have h2 : z.cps.toList.length = 1 := by rw [Array.length_toList]; exact h1
    rw [List.map_cons, List.flatten_cons, List.length_append, ih, h2, List.length_cons]
    omega
theorem joined {y : Str} (hy : y.cps.toList = []) (parts : List Str) (h1 : ∀ z ∈ parts, z.length = 1) (h2 : ∀ z ∈ parts, Low z) : Low (Txt.join y parts) ∧ (Txt.join y parts).length = parts.length := by
  have e := join_list_eq y hy parts
  constructor
  · intro c hc
    rw [e] at hc
    obtain ⟨l, hl, hcl⟩ := List.mem_flatten.mp hc
    obtain ⟨z, hz, rfl⟩ := List.mem_map.mp hl
    exact h2 z hz c hcl
  · have e2 : (Txt.join y parts).length = (Txt.join y parts).cps.toList.length := by rw [Array.length_toList]; rfl
    rw [e2, e]
    exact flat_len parts h1
theorem sum_ones : ∀ (parts : List Str), (∀ z ∈ parts, z.length = 1) → (parts.map (·.length)).sum = parts.length
  | [], _ => rfl
  | z :: r, h => by
    have ih := sum_ones r fun y hy => h y (List.mem_cons_of_mem _ hy)
    rw [List.map_cons, List.sum_cons, ih, h z (List.mem_cons_self ..), List.length_cons]
    omega
theorem inV_strs (z : Str) : ∀ us : List Str, inV (.str z) (us.map V.str) = decide (z ∈ us)
  | [] => by simp [inV]
  | y :: us => by
    have ih := inV_strs z us
    unfold inV at ih ⊢
    rw [List.map_cons, List.any_cons, ih]
    have e : eqV (.str y) (.str z) = decide (z = y) := by
      show (y == z) = decide (z = y)
      by_cases q : z = y
      · simp [q]
      · have q2 : ¬ y = z := fun h => q h.symm
        simp [q, q2]
    rw [e]
    simp [List.mem_cons]
theorem flat_strs : ∀ us : List Str, (us.map V.str).all flatV = true
  | [] => rfl
  | _ :: us => by
    rw [List.map_cons, List.all_cons, flat_strs us]
    rfl
theorem free_letter {us : List Str} (h : us.length ≤ 20) : ∃ c, 97 ≤ c ∧ c ≤ 122 ∧ (⟨#[c]⟩ : Str) ∉ us := by
  apply Classical.byContradiction
  intro hn
  have h1 : ∀ z ∈ (List.range' 97 26).map (fun c => (⟨#[c]⟩ : Str)), z ∈ us := fun z hz => by
    obtain ⟨c, hc, rfl⟩ := List.mem_map.mp hz
    rw [List.mem_range'_1] at hc
    apply Classical.byContradiction
    intro hq
    exact hn ⟨c, by omega, by omega, hq⟩
  have h2 : ((List.range' 97 26).map (fun c => (⟨#[c]⟩ : Str))).Nodup := by decide +kernel
  have h3 := List.Nodup.length_le_of_subset h2 h1
  rw [List.length_map, List.length_range'] at h3
  omega
theorem Low.ok {z : Str} (h : Low z) : PyData.strOk z = true := by
  unfold PyData.strOk
  rw [Array.all_eq_true']
  intro c hc
  have := h c (Array.mem_toList_iff.mpr hc)
  exact decide_eq_true (by omega)
theorem lay_strs : ∀ xs : List Str, (∀ z ∈ xs, Low z) → PyData.canLayAll0 (xs.map PyData.str) = true ∧ PyData.depthAll (xs.map PyData.str) = 0
  | [], _ => ⟨rfl, rfl⟩
  | x :: xs, h => by
    obtain ⟨h1, h2⟩ := lay_strs xs fun z hz => h z (List.mem_cons_of_mem _ hz)
    have h3 := (h x (List.mem_cons_self ..)).ok
    constructor
    · simp only [List.map_cons, PyData.canLayAll0, PyData.canLay0, h1, h3, Bool.and_self]
    · simp only [List.map_cons, PyData.depthAll, PyData.depth, h2, Nat.max_self]
theorem shaped_strs (xs : List Str) (h : ∀ z ∈ xs, Low z) : SeqAt.shaped (.list (xs.map PyData.str)) = true := by
  obtain ⟨h1, h2⟩ := lay_strs xs h
  simp [SeqAt.shaped, PyData.canLay0, PyData.depth, h1, h2]
end Kd

namespace Kd
open PySem PySem.Spec PyProof.Rows L2
section
variable {P : Program} {w : World} {K : PySem.W.Frag} {mg : Str → Option Value} {base : Heap} {f : Addr} {fd : FuncData}
abbrev tTake (i : Int) : TE := tCall spTake [] E0 (tCons (tVar 0) (tCons (tC (.int i)) tNil))
/-! ### _law_name -/
def spName (K : PySem.W.Frag) : Sp := fun vs H Q _ => ∃ (a g u : Addr) (n : Nat) (us : List Str), vs = [.ref a, .ref u] ∧ Deck H a g n ∧ n ≤ 9000000 ∧ SqL K (ct a g H) u (us.map V.str) ∧ us.length ≤ 20 ∧
  ∀ z H', IsNm z → z ∉ us → Deck H' a g (n + 12) → Same (ct a g H) (ct a g H') → Q (.str z) H'
abbrev nmN : List Str := ["deck", "used", "letters", "words", "long", "k", "name", "letter"]
theorem sc_name : FnScope nmN ["deck", "used"] (defScope s_l_name) := ⟨rfl, rfl, rfl, by decide +kernel, rfl, by decide +kernel, by decide +kernel⟩
abbrev wdS : List Str := ["kind", "fact", "forget", "dim", "sum", "first", "last", "day", "before", "none", "ware", "watch"]
theorem split_words : Txt.split "kind fact forget dim sum first last day before none ware watch" " " = wdS := by decide +kernel
theorem words_at {j : Nat} (h : j < 12) : ∃ z, (wdS.map V.str)[j]? = some (.str z) ∧ IsNm z := by
  have h1 : ∀ z ∈ wdS, nmB z = true := by decide +kernel
  have h2 : j < wdS.length := h
  exact ⟨wdS[j], by rw [List.getElem?_map, List.getElem?_eq_getElem h2]; rfl, nm_iff.mp (h1 _ (List.getElem_mem h2))⟩
def tTail (K : PySem.W.Frag) : TS := tSeq (tIfS (tTest (tOp (rIn K false) (tVar 6) (tVar 1))) (tRet (tOp (rIxL K) (tLc (iStr (tVar 2)) (gName 7) (tTest (tOp (rIn K true) (tVar 7) (tVar 1))) (tVar 7) [7]) (tC (.int 0)))) tNext) (tRet (tVar 6))
theorem tail_ok {a g u : Addr} {n m : Nat} {us : List Str} {z : Str} {x3 x4 x5 x7 : Option V} {H Hx : Hp} {Q : VK} {nx : L2.St → Hp → Prop} (hT : Deck Hx a g m) (hm : m ≤ n + 12) (hu : SqL K (ct a g H) u (us.map V.str)) (hs : Same (ct a g H) (ct a g Hx)) (hul : us.length ≤ 20) (hz : IsNm z)
    (k : ∀ z H', IsNm z → z ∉ us → Deck H' a g (n + 12) → Same (ct a g H) (ct a g H') → Q (.str z) H') :
    tTail K { nx := nx, rt := Q } [some (.ref a), some (.ref u), some (.str abc), x3, x4, x5, some (.str z), x7] Hx := by
  have hux : SqL K Hx u (us.map V.str) := (hs.trans ct_sub).seq hu
  refine ⟨_, rfl, _, rfl, u, _, rfl, .inl hux, rfl, flat_strs us, _, rfl, ?_⟩
  rw [inV_strs]
  by_cases c1 : z ∈ us
  · rw [decide_eq_true c1]
    refine iteT ⟨_, rfl, abc, rfl, fun D hD => lc_build walk_str hD (fun i ys R => R = Hx ∧ ys = (((abc.cps.toList.take i).map fun c => (⟨#[c]⟩ : Str)).filter fun y => !decide (y ∈ us)).map V.str) ⟨rfl, rfl⟩ (fun _ _ _ _ _ => trivial) ?_ ?_⟩
    · rintro i ys x H2 H2' hi e l ⟨ec, rfl⟩ ⟨rfl, c, hc, rfl⟩
      have h3 : abc.cps.size = 26 := abc_len
      have hc2 : abc.cps.toList[i]? = some c := by rw [Array.getElem?_toList]; exact hc
      obtain ⟨g1, g2⟩ := List.getElem?_eq_some_iff.mp hc2
      have et : ((abc.cps.toList.take (i + 1)).map fun c => (⟨#[c]⟩ : Str)).filter (fun y => !decide (y ∈ us)) = ((abc.cps.toList.take i).map fun c => (⟨#[c]⟩ : Str)).filter (fun y => !decide (y ∈ us)) ++ [(⟨#[c]⟩ : Str)].filter (fun y => !decide (y ∈ us)) := by
        rw [List.take_succ_eq_append_getElem g1, List.map_append, List.filter_append, g2]
        rfl
      refine ⟨rfl, _, rfl, _, rfl, u, _, rfl, .inl ((cd_is0 ec).seq hux), rfl, flat_strs us, _, rfl, ?_⟩
      rw [inV_strs]
      by_cases c2 : (⟨#[c]⟩ : Str) ∈ us
      · rw [decide_eq_true c2]
        refine iteF (LcNx.skip e l ⟨ec, ?_⟩)
        rw [et, List.filter_cons_of_neg (by simp [c2]), List.filter_nil, List.append_nil]
      · rw [decide_eq_false c2]
        refine iteT ⟨_, rfl, LcNx.add e l (by omega) ⟨ec, ?_⟩⟩
        rw [et, List.filter_cons_of_pos (by simp [c2]), List.filter_nil, List.map_append]
        rfl
    · rintro ys H2 e l ⟨ec, rfl⟩
      rw [List.take_of_length_le (by rw [Array.length_toList]; exact Nat.le_refl _)] at e
      obtain ⟨c1, c2, c3, c4⟩ := free_letter hul
      have hmem : (⟨#[c1]⟩ : Str) ∈ (abc.cps.toList.map fun c => (⟨#[c]⟩ : Str)).filter fun y => !decide (y ∈ us) := List.mem_filter.mpr ⟨List.mem_map.mpr ⟨c1, mem_abc.mpr ⟨c2, c3⟩, rfl⟩, by simp [c4]⟩
      cases hf : (abc.cps.toList.map fun c => (⟨#[c]⟩ : Str)).filter fun y => !decide (y ∈ us) with
      | nil => rw [hf] at hmem; cases hmem
      | cons y r =>
        rw [hf] at e
        have hy : y ∈ (abc.cps.toList.map fun c => (⟨#[c]⟩ : Str)).filter fun y => !decide (y ∈ us) := by rw [hf]; exact List.mem_cons_self ..
        obtain ⟨hy1, hy2⟩ := List.mem_filter.mp hy
        obtain ⟨cc, hcc, rfl⟩ := List.mem_map.mp hy1
        have s9 : Same Hx H2 := cd_is0 ec
        refine ⟨D, _, _, _, rfl, rfl, SqL.of e, atI_nat (j := 0) rfl, ?_⟩
        exact k _ H2 (IsNm.one (mem_abc.mp hcc)) (by simpa using hy2) ((hT.same s9).mono hm) (hs.trans (ct_same s9))
  · rw [decide_eq_false c1]
    exact iteF ⟨_, rfl, k z Hx hz c1 (hT.mono hm) hs⟩
theorem ok_name {fD : Addr} {fdD : FuncData} (F : FnP K "_law_name" "_law_name" s_l_name f fd) (GD : FnOk P w K mg base CX0 1 fD fdD ["deck", "many"] spTake) (kD : PySem.W.keepIn K (.ref fD) = true) (bD : Binds K fdD ["deck", "many"] []) (gD : mg "_law_take" = some (.ref fD)) (gr : mg "range" = none) :
    FnOk P w K mg base CX0 2 f fd ["deck", "used"] (spName K) := by
  refine F.ok sc_name (fun vs H Q E h => ?_) (fun cdv A outer s H vs Q E hr h => ?_)
  · obtain ⟨a, g, u, n, us, rfl, _⟩ := h
    rfl
  · obtain ⟨a, g, u, n, us, rfl, hT, hn, hu, hul, k⟩ := h
    have nd := sc_name.nd
    refine ⟨_, PSs.nox (pss_cons (ps_set (i := 2) nd rfl (Or.inr rfl) pe_str)
      (pss_cons (ps_set (i := 3) nd rfl (Or.inl rfl) (pe_split pe_str pe_str))
      (pss_cons (ps_set (i := 4) nd rfl (Or.inl rfl) (pe_ix ix_list (pe_lst (pa_cons pe_int (pa_cons pe_int (pa_cons pe_int (pa_cons (pe_call GD hr rfl gD kD bD .nil pass0 (pa_cons (pv 0) (pa_cons pe_int pa_nil))) pa_nil))))) (pe_call GD hr rfl gD kD bD .nil pass0 (pa_cons (pv 0) (pa_cons pe_int pa_nil))) (fun _ _ => rfl)))
      (pss_cons (ps_set (i := 6) nd rfl (Or.inl rfl) (pe_join pe_str (pe_lc (own := [("k", 5)]) (g := gName 5) (tt := tYes) (te := tOp rIxS (tVar 2) (tTake 26)) rfl nd (pi_range1 rfl gr (pa_cons (pe_op op_add pe_int (pv 4)) pa_nil)) (blkOk_by (own := [("k", 5)]) (N := nmN) (sc := defScope s_l_name) (by decide +kernel))
        (fun _ _ _ _ _ => pg_name (i := 5) nd rfl (Or.inl rfl)) (fun _ _ _ _ _ => pts_nil) (fun _ _ _ _ _ => pe_ix ix_str (pv 2) (pe_call GD hr rfl gD kD bD .nil pass0 (pa_cons (pv 0) (pa_cons pe_int pa_nil))) (fun _ _ => rfl)))))
      (pss_cons (ps_if (pt_cmpR op_eq (pe_call GD hr rfl gD kD bD .nil pass0 (pa_cons (pv 0) (pa_cons pe_int pa_nil))) pe_int (nomark _))
        (pss_one (ps_set (i := 6) nd rfl (Or.inl rfl) (pe_ix ix_list (pv 3) (pe_call GD hr rfl gD kD bD .nil pass0 (pa_cons (pv 0) (pa_cons pe_int pa_nil))) (fun _ _ => rfl)))) pss_nil)
      (pss_cons (ps_if (pt_cmpR op_in_seq (pv 6) (pv 1) (by rfl)) (pss_one (ps_ret (pe_ix ix_list (pe_lc (own := [("letter", 7)]) (g := gName 7) (tt := tTest (tOp (rIn K true) (tVar 7) (tVar 1))) rfl nd (pi_str (pv 2)) (blkOk_by (own := [("letter", 7)]) (N := nmN) (sc := defScope s_l_name) (by decide +kernel)) (fun _ _ _ _ _ => pg_name (i := 7) nd rfl (Or.inl rfl))
          (fun _ _ _ _ _ => pts_one (pt_cmpR op_notIn_seq (pv 7) (pv 1) (by rfl))) (fun _ _ _ _ _ => pv 7)) pe_int (fun _ _ => rfl)))) pss_nil)
      (pss_one (ps_ret (pv 6))))))))), ?_⟩
    refine ⟨⟨_, rfl⟩, _, _, rfl, rfl, by decide +kernel, le_line (by decide +kernel), fun pw nw => ?_⟩
    rw [split_words]
    obtain ⟨nwa, nwg⟩ := hT.na nw
    have s0 : Same (ct a g H) (ct a g (upd H pw (.lst (wdS.map V.str)))) := ctnew nw
    have ew : upd H pw (.lst (wdS.map V.str)) pw = some (.lst (wdS.map V.str)) := upd_same
    have T0 : Deck (upd H pw (.lst (wdS.map V.str))) a g n := hT.new nw
    generalize upd H pw (.lst (wdS.map V.str)) = H0 at s0 ew T0 ⊢
    refine ⟨_, rfl, a, g, n, 8, rfl, T0, by omega, by decide, by decide, fun r8 H1 r80 r81 T1 s1 => ?_⟩
    refine ⟨by show 4 ≤ sizeLine; decide, fun p4 n4 => ?_⟩
    obtain ⟨n4a, n4g⟩ := T1.na n4
    refine ⟨_, rfl, a, g, n + 1, 4, rfl, T1.new n4, by omega, by decide, by decide, fun r4 H2 r40 r41 T2 s2 => ?_⟩
    obtain ⟨j4, rfl⟩ : ∃ j : Nat, r4 = (j : Int) := ⟨r4.toNat, by omega⟩
    obtain ⟨lg, hl1, hl2, hl3⟩ : ∃ lg : Int, ([V.int 0, V.int 0, V.int 1, V.int r8] : List V)[j4]? = some (.int lg) ∧ 0 ≤ lg ∧ lg < 8 := by
      have : j4 = 0 ∨ j4 = 1 ∨ j4 = 2 ∨ j4 = 3 := by omega
      rcases this with rfl | rfl | rfl | rfl
      · exact ⟨0, rfl, by decide, by decide⟩
      · exact ⟨0, rfl, by decide, by decide⟩
      · exact ⟨1, rfl, by decide, by decide⟩
      · exact ⟨r8, rfl, r80, r81⟩
    refine ⟨p4, _, _, _, rfl, rfl, SqL.of (ctkeep s2 upd_same n4a n4g), atI_nat hl1, ?_⟩
    have s02 : Same (ct a g H) (ct a g H2) := ((s0.trans s1).trans (ctnew n4)).trans s2
    have ew2 : H2 pw = some (.lst (wdS.map V.str)) := ctkeep ((s1.trans (ctnew n4)).trans s2) ew nwa nwg
    obtain ⟨jl, rfl⟩ : ∃ j : Nat, lg = (j : Int) := ⟨lg.toNat, by omega⟩
    refine ⟨⟨_, rfl⟩, _, rfl, _, _, rfl, rfl, _, rfl, by omega, by omega, fun D hD => ?_⟩
    have eN : ((1 : Int) + (jl : Int)).toNat = 1 + jl := by omega
    rw [eN]
    obtain ⟨nDa, nDg⟩ := T2.na hD
    refine lc_build (walk_range (lo := 0)) hD (fun i ys R => ∃ parts : List Str, ys = parts.map V.str ∧ parts.length = i ∧ (∀ z ∈ parts, z.length = 1 ∧ Low z) ∧ Deck R a g (n + 2 + i) ∧ Same (ct a g H2) (ct a g R)) ⟨[], rfl, rfl, fun _ h => (nomatch h), T2.mono (by omega), Same.refl _⟩ (fun _ _ _ _ _ => trivial) ?_ ?_
    · rintro i ys x Ha Hb hi e l ⟨parts, rfl, lp, pz, Tp, sp⟩ ⟨rfl, rfl⟩
      refine ⟨rfl, yes ?_⟩
      refine ⟨_, rfl, _, rfl, a, g, n + 2 + i, 26, rfl, Tp.same cd_sub, by omega, by decide, by decide, fun ch Hc h0 h1 Tc sc => ?_⟩
      obtain ⟨jc, rfl⟩ : ∃ j : Nat, ch = (j : Int) := ⟨ch.toNat, by omega⟩
      refine ⟨abc, _, _, rfl, rfl, le_line (by rw [abc_len]; decide), atI_nat (abc_at (by omega)), LcNx.add (ctkeep sc e nDa nDg) l (by omega) ⟨parts ++ [⟨#[97 + jc]⟩], by rw [List.map_append]; rfl, by rw [List.length_append]; show parts.length + 1 = i + 1; omega, fun z hz => ?_, (Tc.cd nDa nDg).mono (by omega), ctcd hD sp sc⟩⟩
      rcases List.mem_append.mp hz with hz | hz
      · exact pz z hz
      · rw [List.mem_singleton.mp hz]
        exact ⟨rfl, Low.one (by omega)⟩
    · rintro ys H4 e l ⟨parts, rfl, lp, pz, Tp, sp⟩
      obtain ⟨jlow, jlen⟩ := joined (y := Str.ofString "") (by decide +kernel) parts (fun z hz => (pz z hz).1) fun z hz => (pz z hz).2
      refine ⟨_, D, parts, rfl, rfl, .inl (SqL.of e), ?_, ?_⟩
      · rw [sum_ones parts fun z hz => (pz z hz).1]
        have e0 : (Str.ofString "").length = 0 := by decide +kernel
        rw [e0]
        omega
      have T4 : Deck H4 a g (n + 10) := (Tp.same cd_sub).mono (by omega)
      have s24 : Same (ct a g H2) (ct a g H4) := sp.trans (ct_same cd_sub)
      have s4 : Same (ct a g H) (ct a g H4) := s02.trans s24
      have hz4 : IsNm (Txt.join (Str.ofString "") parts) := ⟨jlow, by omega, by omega⟩
      refine ⟨_, rfl, a, g, n + 10, 6, rfl, T4, by omega, by decide, by decide, fun r6 H5 r60 r61 T5 s5 => ?_⟩
      have s05 := s4.trans s5
      refine ⟨rfl, _, rfl, ?_⟩
      refine ite2 (fun c6 => ?_) (fun c6 => ?_)
      · refine ⟨_, rfl, _, rfl, a, g, n + 10 + 1, 12, rfl, T5, by omega, by decide, by decide, fun q H6 q0 q1 T6 s6 => ?_⟩
        obtain ⟨jq, rfl⟩ : ∃ j : Nat, q = (j : Int) := ⟨q.toNat, by omega⟩
        obtain ⟨wz, w1, w2⟩ := words_at (j := jq) (by omega)
        refine ⟨pw, _, _, _, rfl, rfl, SqL.of (ctkeep ((s24.trans s5).trans s6) ew2 nwa nwg), atI_nat w1, ?_⟩
        exact tail_ok T6 (by omega) hu (s05.trans s6) hul w2 k
      · exact tail_ok T5 (by omega) hu s05 hul hz4 k
end
end Kd

namespace Kd
open PySem PySem.Spec PyProof.Rows L2
section
variable {P : Program} {w : World} {K : PySem.W.Frag} {mg : Str → Option Value} {base : Heap} {f : Addr} {fd : FuncData}
/-! ### _law_names -/
def spNames (K : PySem.W.Frag) : Sp := fun vs H Q _ => ∃ (a g : Addr) (n : Nat) (many : Nat), vs = [.ref a, .int (many : Int)] ∧ Deck H a g n ∧ n ≤ 8000000 ∧ many ≤ 20 ∧
  ∀ (l : Addr) (xs : List Str) (H' : Hp), H l = none → H' l = some (.lst (xs.map V.str)) → xs.length = many → (∀ z ∈ xs, IsNm z) → xs.Nodup → Deck H' a g (n + 12 * many) → Same (ct a g H) (ct a g H') → Q (.ref l) H'
theorem sc_names : FnScope ["deck", "many", "found", "k"] ["deck", "many"] (defScope s_l_names) := ⟨rfl, rfl, rfl, by decide +kernel, rfl, by decide +kernel, by decide +kernel⟩
theorem ok_names {fN : Addr} {fdN : FuncData} (F : FnP K "_law_names" "_law_names" s_l_names f fd) (GN : FnOk P w K mg base CX0 2 fN fdN ["deck", "used"] (spName K)) (kN : PySem.W.keepIn K (.ref fN) = true) (bN : Binds K fdN ["deck", "used"] []) (gN : mg "_law_name" = some (.ref fN)) (gr : mg "range" = none) :
    FnOk P w K mg base CX0 3 f fd ["deck", "many"] (spNames K) := by
  refine F.ok sc_names (fun vs H Q E h => ?_) (fun cdv A outer s H vs Q E hr h => ?_)
  · obtain ⟨a, g, n, many, rfl, _⟩ := h
    rfl
  · obtain ⟨a, g, n, many, rfl, hT, hn, hm, k⟩ := h
    have nd := sc_names.nd
    refine ⟨_, PSs.nox (pss_cons (ps_set (i := 2) nd rfl (Or.inl rfl) (pe_lst pa_nil))
      (pss_cons (ps_for PassesOwn.never rfl (pi_range1 rfl gr (pa_cons (pv 1) pa_nil)) (pg_name (i := 3) nd rfl (Or.inl rfl))
        (pss_one (ps_expr (pe_bm PySem.F.plainAttrs_list PySem.F.slot_list_append PySem.F.type_list_append mt_append (pv 2) (pa_cons (pe_call GN hr rfl gN kN bN .nil pass0 (pa_cons (pv 0) (pa_cons (pv 2) pa_nil))) pa_nil)))))
      (pss_one (ps_ret (pv 2))))), ?_⟩
    refine ⟨by show 0 ≤ sizeLine; decide, fun l hl => ?_⟩
    obtain ⟨nla, nlg⟩ := hT.na hl
    refine ⟨_, rfl, _, rfl, by omega, by omega, ?_⟩
    rw [Int.toNat_natCast]
    refine for_range (lo := 0) (n := many) (fun i σ H2 => ∃ (xs : List Str) (u : Option V), σ = [some (.ref a), some (.int many), some (.ref l), u] ∧ H2 l = some (.lst (xs.map V.str)) ∧ xs.length = i ∧ (∀ z ∈ xs, IsNm z) ∧ xs.Nodup ∧ Deck H2 a g (n + 12 * i) ∧ Same (ct a g H) (ct a g H2))
      ⟨[], _, rfl, upd_same, rfl, fun _ h => (nomatch h), List.nodup_nil, hT.new hl, ctnew hl⟩ ?_ ?_
    · rintro i σ H2 hi ⟨xs, u, rfl, h2, lx, hx, hd, T2, s2⟩
      refine ⟨_, rfl, .inl ⟨rfl, _, SqL.of h2⟩, _, rfl, _, rfl, a, g, l, n + 12 * i, xs, rfl, T2, by omega, SqL.of (ct_of h2 nla nlg), by omega, fun z H3 hz hz2 T3 s3 => ?_⟩
      have h3 := ctkeep s3 h2 nla nlg
      refine ⟨l, _, _, rfl, rfl, h3, small1000 (by rw [List.length_map]; omega), ?_⟩
      refine ⟨xs ++ [z], _, rfl, by rw [upd_same, List.map_append]; rfl, by rw [List.length_append]; show xs.length + 1 = i + 1; omega, fun y hy => ?_, ?_, (T3.updo nla nlg).mono (by omega), ctupd (s2.trans s3) hl nla nlg⟩
      · rcases List.mem_append.mp hy with hy | hy
        · exact hx y hy
        · rw [List.mem_singleton.mp hy]
          exact hz
      · refine List.nodup_append.mpr ⟨hd, List.nodup_cons.mpr ⟨List.not_mem_nil, List.nodup_nil⟩, fun y hy q hq e => hz2 ?_⟩
        rw [List.mem_singleton.mp hq] at e
        rw [← e]
        exact hy
    · rintro σ H2 ⟨xs, u, rfl, h2, lx, hx, hd, T2, s2⟩
      exact ⟨_, rfl, k l xs H2 hl h2 lx hx hd T2 s2⟩
/-! ### _law_one_of -/
def spOne (K : PySem.W.Frag) : Sp := fun vs H Q _ => ∃ (a g l : Addr) (n : Nat) (xs : List V), vs = [.ref a, .ref l] ∧ Deck H a g n ∧ n ≤ 9000000 ∧ SqL K (ct a g H) l xs ∧ 1 ≤ xs.length ∧ xs.length ≤ 1000 ∧
  ∀ x H', x ∈ xs → Deck H' a g (n + 1) → Same (ct a g H) (ct a g H') → Q x H'
theorem sc_one : FnScope ["deck", "some"] ["deck", "some"] (defScope s_l_one_of) := ⟨rfl, rfl, rfl, by decide +kernel, rfl, by decide +kernel, by decide +kernel⟩
theorem ok_one {fD : Addr} {fdD : FuncData} (F : FnP K "_law_one_of" "_law_one_of" s_l_one_of f fd) (GD : FnOk P w K mg base CX0 1 fD fdD ["deck", "many"] spTake) (kD : PySem.W.keepIn K (.ref fD) = true) (bD : Binds K fdD ["deck", "many"] []) (gD : mg "_law_take" = some (.ref fD)) (ge : mg "len" = none) :
    FnOk P w K mg base CX0 2 f fd ["deck", "some"] (spOne K) := by
  refine F.ok sc_one (fun vs H Q E h => ?_) (fun cdv A outer s H vs Q E hr h => ?_)
  · obtain ⟨a, g, l, n, xs, rfl, _⟩ := h
    rfl
  · obtain ⟨a, g, l, n, xs, rfl, hT, hn, hl, h1, h2, k⟩ := h
    refine ⟨_, PSs.nox (pss_one (ps_ret (pe_ix ix_list (pv 1) (pe_call GD hr rfl gD kD bD .nil pass0 (pa_cons (pv 0) (pa_cons (pe_callB call_len_seq (by rfl) ge boot_len (pa_cons (pv 1) pa_nil)) pa_nil))) (fun _ _ => rfl)))), ?_⟩
    refine ⟨_, rfl, _, rfl, _, rfl, l, _, rfl, .inl (ct_sub.seq hl), a, g, n, xs.length, rfl, hT, by omega, by omega, by omega, fun r H' r0 r1 T1 s1 => ?_⟩
    obtain ⟨j, rfl⟩ : ∃ j : Nat, r = (j : Int) := ⟨r.toNat, by omega⟩
    have hj : j < xs.length := by omega
    exact ⟨l, _, _, _, rfl, rfl, (s1.trans ct_sub).seq hl, atI_nat (List.getElem?_eq_getElem hj), k _ _ (List.getElem_mem hj) T1 s1⟩
abbrev wayL : List Str := ["day", "day", "first", "last", "before"]
abbrev wayV : List V := [V.str "day", V.str "day", V.str "first", V.str "last", V.str "before"]
theorem wayL_low {z : Str} (h : z ∈ wayL) : Low z := by
  have h1 : ∀ z ∈ wayL, nmB z = true := by decide +kernel
  exact (nm_iff.mp (h1 z h)).low
/-! ### what is drawn is a plan -/
structure Good (ds : List (Str × List (Str × Str))) (ms : List Str) : Prop where
  d1 : 1 ≤ ds.length
  d4 : ds.length ≤ 4
  dn : ∀ d ∈ ds, IsNm d.1
  du : (ds.map (·.1)).Nodup
  al : ∀ d ∈ ds, d.2.length ≤ 5
  an : ∀ d ∈ ds, ∀ a ∈ d.2, IsNm a.1 ∧ a.2 ∈ wayL
  au : ∀ d ∈ ds, (d.2.map (·.1)).Nodup
  m4 : ms.length ≤ 4
  mn : ∀ m ∈ ms, IsNm m
  mu : ms.Nodup
theorem flt_false {xs : List Str} {m : Int} (h1 : (xs.length : Int) ≤ m) (h2 : ∀ z ∈ xs, IsNm z) (h3 : xs.Nodup) : fltB xs m = false := by
  unfold fltB
  rw [KdS.dcn_nodup h3 xs.length (Nat.le_refl _), decide_eq_false (by omega), decide_eq_false (by omega), List.all_eq_true.mpr (fun z hz => nm_iff.mpr (h2 z hz))]
  rfl
theorem Good.ff {ds : List (Str × List (Str × Str))} {ms : List Str} (h : Good ds ms) : ffV ds ms = .non := by
  have e1 : ds.isEmpty = false := by
    cases ds with
    | nil => exact absurd h.d1 (by decide)
    | cons _ _ => rfl
  have e2 : fltB (ds.map (·.1)) 4 = false := flt_false (by rw [List.length_map]; have := h.d4; omega) (fun z hz => by
    obtain ⟨d, hd, rfl⟩ := List.mem_map.mp hz
    exact h.dn d hd) h.du
  have e3 : ds.any (fun d => fltB (d.2.map (·.1)) 5) = false := by
    rw [List.any_eq_false]
    intro d hd
    rw [flt_false (by rw [List.length_map]; have := h.al d hd; omega) (fun z hz => by
      obtain ⟨a, ha, rfl⟩ := List.mem_map.mp hz
      exact (h.an d hd a ha).1) (h.au d hd)]
    decide
  have e4 : fltB ms 4 = false := flt_false (by have := h.m4; omega) h.mn h.mu
  unfold ffV
  rw [e1, e2, e3, e4]
  rfl
theorem Good.szd {ds : List (Str × List (Str × Str))} {ms : List Str} (h : Good ds ms) : Szd ds ms where
  dl := by have := h.d4; omega
  dn := fun d hd => ⟨by have := (h.dn d hd).le8; omega, by have := h.al d hd; omega, fun a ha => by have := (h.an d hd a ha).1.le8; omega⟩
  ml := by have := h.m4; omega
  mn := fun m hm => by have := (h.mn m hm).le8; omega

/-- what plan hands back: l a list of ds, m one of ms, no part of the deck -/
structure Lsts (K : PySem.W.Frag) (H : Hp) (a g l m : Addr) (ds : List (Str × List (Str × Str))) (ms : List Str) : Prop where
  dl : DimsAt K (ct a g H) l ds
  ml : ct a g H m = some (.lst (ms.map V.str))
  ok : Good ds ms
/-! tuples do not lean on lists -/
theorem seqT_ct2 {H : Hp} {a g r : Addr} {A G xs : List V} (h1 : H a = some (.lst A)) (h2 : H g = some (.lst G)) (h : SqT K H r xs) : SqT K (ct a g H) r xs := by
  rcases h with (q | ⟨o, q⟩) | q
  · exact .inl (.inl (ct_of q (ne_of q h1 (fun z => nomatch z)) (ne_of q h2 (fun z => nomatch z))))
  · exact .inl (.inr ⟨o, ct_of q (ne_of q h1 (fun z => nomatch z)) (ne_of q h2 (fun z => nomatch z))⟩)
  · exact .inr q
theorem Deck.seqT {H : Hp} {a g r : Addr} {n : Nat} {xs : List V} (t : Deck H a g n) (h : SqT K H r xs) : SqT K (ct a g H) r xs := by
  obtain ⟨A, G, h1, h2⟩ := t.lists
  exact seqT_ct2 h1 h2 h
theorem att_list {H : Hp} {l : Addr} {L : List V} {y : V} {d : Str × Str} (hl : H l = some (.lst L)) : AttAt K H y d → AttAt K (cd l H) y d := fun ⟨r, e1, e2⟩ => ⟨r, e1, seqT_list0 hl e2⟩
theorem dim_list {H : Hp} {l : Addr} {L : List V} {y : V} {d : Str × List (Str × Str)} (hl : H l = some (.lst L)) : DimAt K H y d → DimAt K (cd l H) y d :=
  fun ⟨p, q, h1, h2, zs, h3, h4⟩ => ⟨p, q, h1, seqT_list0 hl h2, zs, seqT_list0 hl h3, PySem.Paired.mono (fun _ _ => att_list hl) h4⟩
theorem att_ct {H : Hp} {a g : Addr} {n : Nat} {y : V} {d : Str × Str} (t : Deck H a g n) : AttAt K H y d → AttAt K (ct a g H) y d := fun ⟨r, e1, e2⟩ => ⟨r, e1, t.seqT e2⟩
theorem dim_ct {H : Hp} {a g : Addr} {n : Nat} {y : V} {d : Str × List (Str × Str)} (t : Deck H a g n) : DimAt K H y d → DimAt K (ct a g H) y d :=
  fun ⟨p, q, h1, h2, zs, h3, h4⟩ => ⟨p, q, h1, t.seqT h2, zs, t.seqT h3, PySem.Paired.mono (fun _ _ => att_ct t) h4⟩
/-- over a draw -/
theorem dim_draw {H H' : Hp} {a g : Addr} {n : Nat} {y : V} {d : Str × List (Str × Str)} (t : Deck H a g n) (s : Same (ct a g H) (ct a g H')) (h : DimAt K H y d) : DimAt K H' y d := (dim_ct t h).same (s.trans ct_sub)
/-- over a store to a list -/
theorem dim_store {H : Hp} {l : Addr} {L : List V} {o : HO} {y : V} {d : Str × List (Str × Str)} (hl : H l = some (.lst L)) (h : DimAt K H y d) : DimAt K (upd H l o) y d :=
  (dim_list hl h).same fun b u e => by rw [upd_ne (ct_ne e).1]; exact cd_sub _ _ e
def AttOk (ds : List (Str × List (Str × Str))) : Prop := ∀ d ∈ ds, d.2.length ≤ 5 ∧ (∀ a ∈ d.2, IsNm a.1 ∧ a.2 ∈ wayL) ∧ (d.2.map (·.1)).Nodup
theorem ints_in {L : List Int} {j : Nat} {b : Nat} (hL : ∀ z ∈ L, 0 ≤ z ∧ z ≤ b) (h : j < L.length) : ∃ v : Nat, (L.map V.int)[j]? = some (.int (v : Int)) ∧ v ≤ b := by
  have h1 := hL _ (List.getElem_mem h)
  refine ⟨L[j].toNat, ?_, by omega⟩
  rw [List.getElem?_map, List.getElem?_eq_getElem h]
  show some (V.int L[j]) = _
  rw [Int.toNat_of_nonneg h1.1]
/-! ### _law_plan -/
def spPlan (K : PySem.W.Frag) : Sp := fun vs H Q _ => ∃ (a g : Addr) (n most : Nat), vs = [.ref a, .int (most : Int)] ∧ Deck H a g n ∧ n ≤ 7000000 ∧ 1 ≤ most ∧ most ≤ 4 ∧
  ∀ (r l m : Addr) (ds : List (Str × List (Str × Str))) (ms : List Str) (H' : Hp), H l = none → H m = none → ct a g H' r = some (.tup [.ref l, .ref m]) → Lsts K H' a g l m ds ms → Deck H' a g (n + 400) → Same (ct a g H) (ct a g H') → Q (.ref r) H'
abbrev plN : List Str := ["deck", "most", "found", "name", "attributes", "ways", "one"]
theorem sc_plan : FnScope plN ["deck", "most"] (defScope s_l_plan) := ⟨rfl, rfl, rfl, by decide +kernel, rfl, by decide +kernel, by decide +kernel⟩
theorem ok_plan {fD fN fO : Addr} {fdD fdN fdO : FuncData} (F : FnP K "_law_plan" "_law_plan" s_l_plan f fd) (GD : FnOk P w K mg base CX0 1 fD fdD ["deck", "many"] spTake) (kD : PySem.W.keepIn K (.ref fD) = true) (bD : Binds K fdD ["deck", "many"] []) (gD : mg "_law_take" = some (.ref fD))
    (GN : FnOk P w K mg base CX0 3 fN fdN ["deck", "many"] (spNames K)) (kN : PySem.W.keepIn K (.ref fN) = true) (bN : Binds K fdN ["deck", "many"] []) (gN : mg "_law_names" = some (.ref fN))
    (GO : FnOk P w K mg base CX0 2 fO fdO ["deck", "some"] (spOne K)) (kO : PySem.W.keepIn K (.ref fO) = true) (bO : Binds K fdO ["deck", "some"] []) (gO : mg "_law_one_of" = some (.ref fO)) (gt : mg "tuple" = none) :
    FnOk P w K mg base CX0 4 f fd ["deck", "most"] (spPlan K) := by
  refine F.ok sc_plan (fun vs H Q E h => ?_) (fun cdv A outer s H vs Q E hr h => ?_)
  · obtain ⟨a, g, n, most, rfl, _⟩ := h
    rfl
  · obtain ⟨a, g, n, most, rfl, hT, hn, m1, m4, k⟩ := h
    have nd := sc_plan.nd
    have hr1 : Room 1 _ := hr.mono (by decide)
    have hr2 : Room 2 _ := hr.mono (by decide)
    refine ⟨_, PSs.nox (pss_cons (ps_set (i := 2) nd rfl (Or.inl rfl) (pe_lst pa_nil))
      (pss_cons (ps_for PassesOwn.never rfl (pi_list (pe_call GN hr rfl gN kN bN .nil pass0 (pa_cons (pv 0) (pa_cons (pe_op op_add pe_int (pe_call GD hr1 rfl gD kD bD .nil pass0 (pa_cons (pv 0) (pa_cons (pv 1) pa_nil)))) pa_nil)))) (pg_name (i := 3) nd rfl (Or.inl rfl))
        (pss_cons (ps_set (i := 4) nd rfl (Or.inl rfl) (pe_call GN hr rfl gN kN bN .nil pass0 (pa_cons (pv 0) (pa_cons (pe_ix ix_list (pe_lst (pa_cons pe_int (pa_cons pe_int (pa_cons pe_int (pa_cons pe_int (pa_cons pe_int (pa_cons pe_int pa_nil))))))) (pe_call GD hr1 rfl gD kD bD .nil pass0 (pa_cons (pv 0) (pa_cons pe_int pa_nil))) (fun _ _ => rfl)) pa_nil))))
        (pss_cons (ps_set (i := 5) nd rfl (Or.inr rfl) (pe_lst (pa_cons pe_str (pa_cons pe_str (pa_cons pe_str (pa_cons pe_str (pa_cons pe_str pa_nil)))))))
        (pss_one (ps_expr (pe_bm PySem.F.plainAttrs_list PySem.F.slot_list_append PySem.F.type_list_append mt_append (pv 2) (pa_cons (pe_tup (pa_cons (pv 3) (pa_cons (pe_callTy call_tuple_of (by rfl) gt (by decide +kernel) (pa_cons
            (pe_lc (own := [("one", 6)]) (g := gName 6) (tt := tYes) (te := tTup (tCons (tVar 6) (tCons (tCall (spOne K) [] E0 (tCons (tVar 0) (tCons (tVar 5) tNil))) tNil))) rfl nd (pi_list (pv 4)) (blkOk_by (own := [("one", 6)]) (N := plN) (sc := defScope s_l_plan) (by decide +kernel))
              (fun _ _ _ _ _ => pg_name (i := 6) nd rfl (Or.inl rfl)) (fun _ _ _ _ _ => pts_nil) (fun _ _ _ _ _ => pe_tup (pa_cons (pv 6) (pa_cons (pe_call GO hr2 rfl gO kO bO .nil pass0 (pa_cons (pv 0) (pa_cons (pv 5) pa_nil))) pa_nil)))) pa_nil)) pa_nil))) pa_nil)))))))
      (pss_one (ps_ret (pe_tup (pa_cons (pv 2) (pa_cons (pe_call GN hr rfl gN kN bN .nil pass0 (pa_cons (pv 0) (pa_cons (pe_ix ix_list (pe_lst (pa_cons pe_int (pa_cons pe_int (pa_cons pe_int (pa_cons pe_int pa_nil))))) (pe_call GD hr1 rfl gD kD bD .nil pass0 (pa_cons (pv 0) (pa_cons pe_int pa_nil))) (fun _ _ => rfl)) pa_nil))) pa_nil))))))), ?_⟩
    refine ⟨by show 0 ≤ sizeLine; decide, fun lf hf => ?_⟩
    obtain ⟨nfa, nfg⟩ := hT.na hf
    have T1 : Deck (upd H lf (.lst [])) a g n := hT.new hf
    refine ⟨_, rfl, _, rfl, _, rfl, a, g, n, most, rfl, T1, by omega, by omega, by omega, fun r H2 r0 r1 T2 s2 => ?_⟩
    obtain ⟨jr, rfl⟩ : ∃ j : Nat, r = (j : Int) := ⟨r.toNat, by omega⟩
    have f2 : H2 lf = some (.lst []) := ctkeep s2 upd_same nfa nfg
    refine ⟨_, _, rfl, rfl, a, g, n + 1, 1 + jr, by show [V.ref a, V.int (1 + (jr : Int))] = [V.ref a, V.int ((1 + jr : Nat) : Int)]; rw [Int.natCast_add]; rfl, T2, by omega, by omega, fun nl ns H3 hnl h3 l3 hz3 hd3 T3 s3 => ?_⟩
    obtain ⟨nna, nng⟩ := T2.na hnl
    have nnf : nl ≠ lf := (ne_of_none f2 hnl).symm
    have f3 : H3 lf = some (.lst []) := ctkeep s3 f2 nfa nfg
    have hB : ct a g (cd lf H3) nl = some (.lst (ns.map V.str)) := ct_of (cd_of h3 nnf) nna nng
    have s0B : Same (ct a g H) (ct a g (cd lf H3)) := fun b o e => by
      obtain ⟨na, ng⟩ := ct_ne e
      have nl : b ≠ lf := ne_of_none (ct_sub _ _ e) hf
      have e3 := s3 b o (s2 b o (ctnew hf b o e))
      exact ct_of (cd_of (ct_sub _ _ e3) nl) na ng
    refine ⟨nl, rfl, ⟨_, SqL.of h3⟩, for_list (K := K) (a := nl) (xs := ns.map V.str) (fun i σ H4 => ∃ (ds : List (Str × List (Str × Str))) (xs : List V) (x3 x4 x5 x6 : Option V), σ = [some (.ref a), some (.int most), some (.ref lf), x3, x4, x5, x6] ∧ H4 lf = some (.lst xs) ∧ Paired (DimAt K H4) xs ds ∧ ds.map (·.1) = ns.take i ∧ AttOk ds ∧ Deck H4 a g (n + 49 + 70 * i) ∧ Same (ct a g (cd lf H3)) (ct a g (cd lf H4)) ∧ xs.length = i)
      ⟨[], [], _, _, _, _, rfl, f3, .nil, rfl, fun _ h => (nomatch h), T3.mono (by omega), Same.refl _, rfl⟩ (fun i σ H4 _ ⟨_, _, _, _, _, _, _, _, _, _, _, _, s4, _⟩ => SqL.of (cd_sub _ _ (ct_sub _ _ (s4 _ _ hB)))) ?_ ?_⟩
    · rintro i x σ H4 hi ⟨ds, xs, x3, x4, x5, x6, rfl, f4, p4, e4, a4, T4, s4, l4⟩
      have hil : i < (ns.map V.str).length := (List.getElem?_eq_some_iff.mp hi).1
      rw [List.length_map] at hil
      obtain ⟨z, rfl, hz⟩ := strs_at hi
      have hzn := hz3 z (List.mem_of_getElem? hz)
      refine ⟨_, rfl, by show 6 ≤ sizeLine; decide, fun p5 n5 => ?_⟩
      obtain ⟨n5a, n5g⟩ := T4.na n5
      refine ⟨_, rfl, a, g, n + 49 + 70 * i, 6, rfl, T4.new n5, by omega, by decide, by decide, fun c H5 c0 c1 T5 s5 => ?_⟩
      obtain ⟨jc, rfl⟩ : ∃ j : Nat, c = (j : Int) := ⟨c.toNat, by omega⟩
      obtain ⟨v, hv1, hv2⟩ := ints_in (L := [0, 1, 2, 3, 4, 5]) (j := jc) (b := 5) (by decide) (by show jc < 6; omega)
      refine ⟨p5, _, _, _, rfl, rfl, SqL.of (ctkeep s5 upd_same n5a n5g), atI_nat hv1, ?_⟩
      refine ⟨a, g, n + 49 + 70 * i + 1, v, rfl, T5, by omega, by omega, fun sl ss H6 hsl h6 l6 hz6 hd6 T6 s6 => ?_⟩
      obtain ⟨nsa, nsg⟩ := T5.na hsl
      have s46 : Same (ct a g H4) (ct a g H6) := ((ctnew n5).trans s5).trans s6
      have f6 : H6 lf = some (.lst xs) := ctkeep s46 f4 nfa nfg
      refine ⟨by show 5 ≤ sizeLine; decide, fun pw nw => ?_⟩
      obtain ⟨nwa, nwg⟩ := T6.na nw
      have s67 : Same (ct a g H6) (ct a g (upd H6 pw (.lst wayV))) := ctnew nw
      have T7 : Deck (upd H6 pw (.lst wayV)) a g (n + 49 + 70 * i + 1 + 12 * v) := T6.new nw
      have ew : upd H6 pw (.lst wayV) pw = some (.lst (wayL.map V.str)) := upd_same
      refine ⟨_, rfl, .inl ⟨rfl, _, SqL.of (ctkeep s67 f6 nfa nfg)⟩, ?_⟩
      have h7 := ctkeep s67 h6 nsa nsg
      have f7 := ctkeep s67 f6 nfa nfg
      generalize upd H6 pw (.lst wayV) = H7 at s67 T7 ew h7 f7 ⊢
      refine ⟨_, rfl, _, rfl, sl, rfl, ⟨_, SqL.of h7⟩, fun D hD => ?_⟩
      obtain ⟨nDa, nDg⟩ := T7.na hD
      refine lc_build (walk_list (K := K) (a := sl) (xs := ss.map V.str)) hD (fun j ys R => ∃ ws : List Str, ws.length = j ∧ (∀ z ∈ ws, z ∈ wayL) ∧ Paired (AttAt K R) ys ((ss.take j).zip ws) ∧ Deck R a g (n + 49 + 70 * i + 1 + 12 * v + j) ∧ Same (ct a g H7) (ct a g R))
        ⟨[], rfl, fun _ h => (nomatch h), .nil, T7, Same.refl _⟩ (fun j ys H8 _ ⟨_, _, _, _, _, s8⟩ => SqL.of (cd_sub _ _ (ct_sub _ _ (s8 _ _ (ct_of h7 nsa nsg))))) ?_ ?_
      · rintro j ys y H8 H8' hj e8 l8 ⟨ws, lw, hw8, p8, T8, s8⟩ ⟨rfl, hy⟩
        rw [List.length_map] at hj
        obtain ⟨yz, rfl, hyz⟩ := strs_at hy
        refine ⟨rfl, yes ?_⟩
        refine ⟨_, rfl, _, rfl, _, rfl, a, g, pw, n + 49 + 70 * i + 1 + 12 * v + j, wayL.map V.str, rfl, T8.same cd_sub, by omega, SqL.of (ct_of (cd_sub _ _ (ct_sub _ _ (s8 _ _ (ct_of ew nwa nwg)))) nwa nwg), by decide, by decide, fun q H9 hq T9 s9 => ?_⟩
        obtain ⟨wz, hwz, rfl⟩ := List.mem_map.mp hq
        refine ⟨by show 2 ≤ sizeLine; decide, fun t nt => ?_⟩
        have e9 := ctkeep s9 e8 nDa nDg
        have nDt : D ≠ t := ne_of_none e9 nt
        have s89 : Same (ct a g H8') (ct a g (upd H9 t (.tup [.str yz, .str wz]))) := s9.trans (ctnew nt)
        refine LcNx.add (by rw [upd_ne nDt]; exact e9) l8 (by omega) ⟨ws ++ [wz], by rw [List.length_append]; show ws.length + 1 = j + 1; omega, fun y hy => ?_, ?_, ((T9.new nt).cd nDa nDg).mono (by omega), ctcd hD s8 s89⟩
        · rcases List.mem_append.mp hy with hy | hy
          · exact hw8 y hy
          · rw [List.mem_singleton.mp hy]
            exact hwz
        · obtain ⟨g1, g2⟩ := List.getElem?_eq_some_iff.mp hyz
          rw [List.take_succ_eq_append_getElem g1, g2, List.zip_append (by rw [List.length_take]; omega)]
          refine PySem.Paired.snoc (PySem.Paired.mono (fun y d h => ?_) p8) ⟨t, rfl, SqT.of (cd_of upd_same nDt.symm)⟩
          exact AttAt.same (ct_sub) (AttAt.same (ctcd2 s89) (att_ct T8 h))
      · rintro ys H8 e8 l8 ⟨ws, lw, hw8, p8, T8, s8⟩
        rw [List.length_map] at lw
        rw [List.length_map, List.take_length] at p8
        have s78 : Same (ct a g H7) (ct a g H8) := s8.trans (ct_same cd_sub)
        have f8 : H8 lf = some (.lst xs) := ctkeep s78 f7 nfa nfg
        have T8' : Deck H8 a g (n + 49 + 70 * (i + 1)) := (T8.same cd_sub).mono (by rw [List.length_map]; omega)
        refine ⟨D, ys, rfl, .inl ⟨SqL.of e8, fun q hq => ?_⟩⟩
        refine ⟨by show 2 ≤ sizeLine; decide, fun t ht => ?_⟩
        have s9 : Same H8 (upd (upd H8 q (.tup ys)) t (.tup [.str z, .ref q])) := (same_new hq).trans (same_new ht)
        have f9 := s9 _ _ f8
        refine ⟨lf, _, _, rfl, rfl, f9, small1000 (by omega), ?_⟩
        have dnew : DimAt K (upd (upd H8 q (.tup ys)) t (.tup [.str z, .ref q])) (.ref t) (z, ss.zip ws) := ⟨t, q, rfl, SqT.of upd_same, ys, SqT.of (same_new ht _ _ upd_same), PySem.Paired.mono (fun _ _ h => (AttAt.same cd_sub h).same s9) p8⟩
        have s48 : Same (ct a g H4) (ct a g H8) := (s46.trans s67).trans s78
        refine ⟨ds ++ [(z, ss.zip ws)], xs ++ [.ref t], _, _, _, _, rfl, upd_same, ?_, ?_, ?_, (T8'.same s9).updo nfa nfg, ?_, by rw [List.length_append]; show xs.length + 1 = i + 1; omega⟩
        · refine PySem.Paired.snoc (PySem.Paired.mono (fun y d h => dim_store f9 ((dim_draw T4 s48 h).same s9)) p4) (dim_store f9 dnew)
        · obtain ⟨g1, g2⟩ := List.getElem?_eq_some_iff.mp hz
          rw [List.map_append, e4, List.take_succ_eq_append_getElem g1, g2]
          rfl
        · intro d hd
          rcases List.mem_append.mp hd with hd | hd
          · exact a4 d hd
          · rw [List.mem_singleton.mp hd]
            refine ⟨by show (ss.zip ws).length ≤ 5; rw [List.length_zip]; omega, fun y hy => ?_, ?_⟩
            · exact ⟨hz6 y.1 (List.of_mem_zip hy).1, hw8 y.2 (List.of_mem_zip hy).2⟩
            · show ((ss.zip ws).map (·.1)).Nodup
              rw [show (ss.zip ws).map (·.1) = ss from List.map_fst_zip (by omega)]
              exact hd6
        · have e1 : ∀ o, ct a g (cd lf (upd (upd (upd H8 q (.tup ys)) t (.tup [.str z, .ref q])) lf o)) = ct a g (cd lf (upd (upd H8 q (.tup ys)) t (.tup [.str z, .ref q]))) := fun o => by rw [cd_upd]
          rw [e1]
          exact (s4.trans (ctcd2 s48)).trans (ct_same (cd_same s9))
    · rintro σ H4 ⟨ds, xs, x3, x4, x5, x6, rfl, f4, p4, e4, a4, T4, s4, l4⟩
      rw [List.length_map] at e4 T4 l4
      rw [List.take_length] at e4
      refine ⟨_, rfl, _, rfl, by show 4 ≤ sizeLine; decide, fun p5 n5 => ?_⟩
      obtain ⟨n5a, n5g⟩ := T4.na n5
      refine ⟨_, rfl, a, g, n + 49 + 70 * ns.length, 4, rfl, T4.new n5, by omega, by decide, by decide, fun c H5 c0 c1 T5 s5 => ?_⟩
      obtain ⟨jc, rfl⟩ : ∃ j : Nat, c = (j : Int) := ⟨c.toNat, by omega⟩
      obtain ⟨v, hv1, hv2⟩ := ints_in (L := [0, 1, 2, 4]) (j := jc) (b := 4) (by decide) (by show jc < 4; omega)
      refine ⟨p5, _, _, _, rfl, rfl, SqL.of (ctkeep s5 upd_same n5a n5g), atI_nat hv1, ?_⟩
      refine ⟨a, g, n + 49 + 70 * ns.length + 1, v, rfl, T5, by omega, by omega, fun ml ms H6 hml h6 l6 hz6 hd6 T6 s6 => ?_⟩
      obtain ⟨nma, nmg⟩ := T5.na hml
      refine ⟨by show 2 ≤ sizeLine; decide, fun r nr => ?_⟩
      obtain ⟨nra, nrg⟩ := T6.na nr
      have s46 : Same (ct a g H4) (ct a g H6) := ((ctnew n5).trans s5).trans s6
      have f6 : H6 lf = some (.lst xs) := ctkeep s46 f4 nfa nfg
      have T7 := T6.new (o := .tup [.ref lf, .ref ml]) nr
      have hlen : ds.length = ns.length := by
        have := p4.length
        omega
      have e1 : Same (ct a g H) (ct a g H4) := (s0B.trans s4).trans (ct_same cd_sub)
      have hmH : H ml = none := by
        cases e : H ml with
        | none => rfl
        | some o =>
          have e2 := ct_of (a := a) (g := g) e nma nmg
          have e3 := ct_sub _ _ (s5 _ _ (ctnew (o := .lst ([0, 1, 2, 4].map V.int)) n5 _ _ (e1 _ _ e2)))
          rw [hml] at e3
          cases e3
      refine k r lf ml ds ms _ hf hmH (ct_of upd_same nra nrg) ⟨⟨xs, SqL.of (ct_of (same_new nr _ _ f6) nfa nfg), PySem.Paired.mono (fun y d h => dim_ct T7 ((dim_draw T4 s46 h).same (same_new nr))) p4⟩, ct_of (same_new nr _ _ h6) nma nmg, ?_⟩ (T7.mono (by omega)) ?_
      · exact ⟨by omega, by omega, fun d hd => hz3 d.1 (by rw [← e4]; exact List.mem_map_of_mem hd), by rw [e4]; exact hd3, fun d hd => (a4 d hd).1, fun d hd => (a4 d hd).2.1, fun d hd => (a4 d hd).2.2, by omega, hz6, hd6⟩
      · exact (e1.trans s46).trans (ctnew nr)
end
end Kd

namespace Kd
open PySem PySem.Spec PyProof.Rows L2
section
variable {P : Program} {w : World} {K : PySem.W.Frag} {mg : Str → Option Value} {base : Heap} {f : Addr} {fd : FuncData}
/-! ### _law_day -/
abbrev far0 : Int := (10 : Int) ^ (59 : Int).toNat
def DayOk (r : Int) : Prop := -(far0 + 2) ≤ r ∧ r ≤ far0 + 2
theorem far_pos : (1000000000 : Int) ≤ far0 := by decide +kernel
def spDay : Sp := fun vs H Q _ => ∃ (a g : Addr) (n : Nat), vs = [.ref a] ∧ Deck H a g n ∧ n ≤ 9000000 ∧ ∀ (r : Int) H', DayOk r → Deck H' a g (n + 6) → Same (ct a g H) (ct a g H') → Q (.int r) H'
theorem sc_day : FnScope ["deck", "far", "amid", "near"] ["deck"] (defScope s_l_day) := ⟨rfl, rfl, rfl, by decide +kernel, rfl, by decide +kernel, by decide +kernel⟩
theorem ok_day {fD : Addr} {fdD : FuncData} (F : FnP K "_law_day" "_law_day" s_l_day f fd) (GD : FnOk P w K mg base CX0 1 fD fdD ["deck", "many"] spTake) (kD : PySem.W.keepIn K (.ref fD) = true) (bD : Binds K fdD ["deck", "many"] []) (gD : mg "_law_take" = some (.ref fD)) :
    FnOk P w K mg base CX0 2 f fd ["deck"] spDay := by
  refine F.ok sc_day (fun vs H Q E h => ?_) (fun cdv A outer s H vs Q E hr h => ?_)
  · obtain ⟨a, g, n, rfl, _⟩ := h
    rfl
  · obtain ⟨a, g, n, rfl, hT, hn, k⟩ := h
    have nd := sc_day.nd
    refine ⟨_, PSs.nox (pss_cons (ps_set (i := 1) nd rfl (Or.inl rfl) (pe_op op_add (pe_op op_pow pe_int pe_int) (pe_call GD hr rfl gD kD bD .nil pass0 (pa_cons (pv 0) (pa_cons pe_int pa_nil)))))
      (pss_cons (ps_set (i := 2) nd rfl (Or.inl rfl) (pe_op op_sub (pe_call GD hr rfl gD kD bD .nil pass0 (pa_cons (pv 0) (pa_cons (pe_op op_pow pe_int pe_int) pa_nil))) (pe_op op_pow pe_int pe_int)))
      (pss_cons (ps_set (i := 3) nd rfl (Or.inl rfl) (pe_lst (pa_cons (pe_call GD hr rfl gD kD bD .nil pass0 (pa_cons (pv 0) (pa_cons pe_int pa_nil))) (pa_cons (pe_call GD hr rfl gD kD bD .nil pass0 (pa_cons (pv 0) (pa_cons pe_int pa_nil))) (pa_cons (pe_op op_sub (pe_call GD hr rfl gD kD bD .nil pass0 (pa_cons (pv 0) (pa_cons pe_int pa_nil))) pe_int) pa_nil)))))
      (pss_one (ps_ret (pe_ix ix_list (pe_op op_cat (pv 3) (pe_lst (pa_cons (pv 1) (pa_cons (pe_op op_sub pe_int (pv 1)) (pa_cons (pv 2) pa_nil))))) (pe_call GD hr rfl gD kD bD .nil pass0 (pa_cons (pv 0) (pa_cons pe_int pa_nil))) (fun _ _ => rfl))))))), ?_⟩
    have fp := far_pos
    refine ⟨_, _, rfl, rfl, ⟨by decide, by decide, by decide⟩, _, rfl, a, g, n, 3, rfl, hT, by omega, by decide, by decide, fun r1 H1 r10 r11 T1 s1 => ?_⟩
    refine ⟨_, _, rfl, rfl, ?_⟩
    refine ⟨_, rfl, _, _, rfl, rfl, ⟨by decide, by decide, by decide⟩, a, g, n + 1, _, rfl, T1, by omega, by decide +kernel, by decide +kernel, fun r2 H2 r20 r21 T2 s2 => ?_⟩
    refine ⟨_, _, rfl, rfl, ⟨by decide, by decide, by decide⟩, _, _, rfl, rfl, ?_⟩
    have r21 : r2 < 1000000000 := r21
    refine ⟨_, rfl, a, g, n + 1 + 1, 5, rfl, T2, by omega, by decide, by decide, fun r3 H3 r30 r31 T3 s3 => ?_⟩
    refine ⟨_, rfl, a, g, n + 1 + 1 + 1, 5, rfl, T3, by omega, by decide, by decide, fun r4 H4 r40 r41 T4 s4 => ?_⟩
    refine ⟨_, rfl, a, g, n + 1 + 1 + 1 + 1, 12, rfl, T4, by omega, by decide, by decide, fun r5 H5 r50 r51 T5 s5 => ?_⟩
    refine ⟨_, _, rfl, rfl, by show 3 ≤ sizeLine; decide, fun p1 n1 => ?_⟩
    obtain ⟨n1a, n1g⟩ := T5.na n1
    refine ⟨_, rfl, _, rfl, _, rfl, _, _, rfl, rfl, _, rfl, by show 3 ≤ sizeLine; decide, fun p2 n2 => ?_⟩
    have T6 := (T5.new (o := .lst [.int r3, .int r4, .int (r5 - 4)]) n1)
    refine ⟨p1, p2, _, _, rfl, rfl, same_new n2 _ _ upd_same, upd_same, le_line (by simp), fun p3 n3 => ?_⟩
    have T8 := ((T6.new (o := .lst [.int (far0 + r1), .int (0 - (far0 + r1)), .int (r2 - 100000000)]) n2).new (o := .lst ([.int r3, .int r4, .int (r5 - 4)] ++ [.int (far0 + r1), .int (0 - (far0 + r1)), .int (r2 - 100000000)])) n3)
    obtain ⟨n3a, n3g⟩ := (T6.new (o := .lst [.int (far0 + r1), .int (0 - (far0 + r1)), .int (r2 - 100000000)]) n2).na n3
    refine ⟨_, rfl, a, g, n + 1 + 1 + 1 + 1 + 1, 6, rfl, T8, by omega, by decide, by decide, fun r6 H6 r60 r61 T9 s9 => ?_⟩
    obtain ⟨j, rfl⟩ : ∃ j : Nat, r6 = (j : Int) := ⟨r6.toNat, by omega⟩
    obtain ⟨v, hv1, hv2⟩ : ∃ v : Int, (([.int r3, .int r4, .int (r5 - 4)] ++ [.int (far0 + r1), .int (0 - (far0 + r1)), .int (r2 - 100000000)] : List V))[j]? = some (.int v) ∧ DayOk v := by
      have hj : j = 0 ∨ j = 1 ∨ j = 2 ∨ j = 3 ∨ j = 4 ∨ j = 5 := by omega
      unfold DayOk
      rcases hj with rfl | rfl | rfl | rfl | rfl | rfl
      · exact ⟨_, rfl, by omega, by omega⟩
      · exact ⟨_, rfl, by omega, by omega⟩
      · exact ⟨_, rfl, by omega, by omega⟩
      · exact ⟨_, rfl, by omega, by omega⟩
      · exact ⟨_, rfl, by omega, by omega⟩
      · exact ⟨_, rfl, by omega, by omega⟩
    refine ⟨p3, _, _, _, rfl, rfl, SqL.of (ctkeep s9 upd_same n3a n3g), atI_nat hv1, k _ _ hv2 T9 ?_⟩
    exact ((((((((s1.trans s2).trans s3).trans s4).trans s5).trans (ctnew n1)).trans (ctnew n2)).trans (ctnew n3)).trans s9)
/-! ### _law_value -/
abbrev valL : List Fv := [.i 0, .i 1, .i 1, .s "a", .s "a", .s "1", .s "b", .i (-2), .i far0, .i (far0 + 1), .s "none", .s "0", .s "abcdefgh1234", .s "abcdefgh1235", .s "abcdefgh123"]
def spDrawV : Sp := fun vs H Q _ => ∃ (a g : Addr) (n : Nat), vs = [.ref a] ∧ Deck H a g n ∧ n ≤ 9000000 ∧ ∀ (v : Fv) H', v ∈ valL → Deck H' a g (n + 1) → Same (ct a g H) (ct a g H') → Q v.v H'
theorem sc_drawV : FnScope ["deck", "some"] ["deck"] (defScope s_l_value) := ⟨rfl, rfl, rfl, by decide +kernel, rfl, by decide +kernel, by decide +kernel⟩
theorem ok_drawV {fD : Addr} {fdD : FuncData} (F : FnP K "_law_value" "_law_value" s_l_value f fd) (GD : FnOk P w K mg base CX0 1 fD fdD ["deck", "many"] spTake) (kD : PySem.W.keepIn K (.ref fD) = true) (bD : Binds K fdD ["deck", "many"] []) (gD : mg "_law_take" = some (.ref fD)) :
    FnOk P w K mg base CX0 2 f fd ["deck"] spDrawV := by
  refine F.ok sc_drawV (fun vs H Q E h => ?_) (fun cdv A outer s H vs Q E hr h => ?_)
  · obtain ⟨a, g, n, rfl, _⟩ := h
    rfl
  · obtain ⟨a, g, n, rfl, hT, hn, k⟩ := h
    have nd := sc_drawV.nd
    refine ⟨_, PSs.nox (pss_cons (ps_set (i := 1) nd rfl (Or.inl rfl) (pe_lst (pa_cons pe_int (pa_cons pe_int (pa_cons pe_int (pa_cons pe_str (pa_cons pe_str (pa_cons pe_str (pa_cons pe_str (pa_cons (pe_un un_neg pe_int) (pa_cons (pe_op op_pow pe_int pe_int) (pa_cons (pe_op op_add (pe_op op_pow pe_int pe_int) pe_int) (pa_cons pe_str (pa_cons pe_str pa_nil))))))))))))))
      (pss_cons (ps_set (i := 1) nd rfl (Or.inl rfl) (pe_op op_cat (pv 1) (pe_lst (pa_cons pe_str (pa_cons pe_str (pa_cons pe_str pa_nil))))))
      (pss_one (ps_ret (pe_ix ix_list (pv 1) (pe_call GD hr rfl gD kD bD .nil pass0 (pa_cons (pv 0) (pa_cons pe_int pa_nil))) (fun _ _ => rfl)))))), ?_⟩
    refine ⟨_, rfl, _, _, rfl, rfl, ⟨by decide, by decide, by decide⟩, _, _, rfl, rfl, ⟨by decide, by decide, by decide⟩, _, _, rfl, rfl, by show 12 ≤ sizeLine; decide, fun p1 n1 => ?_⟩
    refine ⟨_, rfl, by show 3 ≤ sizeLine; decide, fun p2 n2 => ?_⟩
    refine ⟨p1, p2, _, _, rfl, rfl, same_new n2 _ _ upd_same, upd_same, le_line (by simp), fun p3 n3 => ?_⟩
    have T3 := ((hT.new n1).new n2).new (o := .lst (valL.map Fv.v)) n3
    obtain ⟨n3a, n3g⟩ := ((hT.new n1).new n2).na n3
    refine ⟨_, rfl, _, rfl, a, g, n, 15, rfl, T3, by omega, by decide, by decide, fun r H6 r0 r1 T9 s9 => ?_⟩
    obtain ⟨j, rfl⟩ : ∃ j : Nat, r = (j : Int) := ⟨r.toNat, by omega⟩
    have hj : j < valL.length := by show j < 15; omega
    exact ⟨p3, valL.map Fv.v, _, _, rfl, rfl, SqL.of (ctkeep s9 upd_same n3a n3g), atI_nat (map_at hj), k _ _ (List.getElem_mem hj) T9 ((((ctnew n1).trans (ctnew n2)).trans (ctnew n3)).trans s9)⟩
/-! ### _law_values -/
def spVals (K : PySem.W.Frag) : Sp := fun vs H Q _ => ∃ (a g q : Addr) (n : Nat) (ys : List V), vs = [.ref a, .ref q] ∧ Deck H a g n ∧ n ≤ 8900000 ∧ SqT K H q ys ∧ ys.length ≤ 5 ∧
  ∀ (r : Addr) (us : List Fv) H', us.length = ys.length → (∀ v ∈ us, v ∈ valL) → SqT K H' r (us.map Fv.v) → Deck H' a g (n + 5) → Same (ct a g H) (ct a g H') → Q (.ref r) H'
theorem sc_vals : FnScope ["deck", "attributes", "one"] ["deck", "attributes"] (defScope s_l_values) := ⟨rfl, rfl, rfl, by decide +kernel, rfl, by decide +kernel, by decide +kernel⟩
theorem ok_vals {fV : Addr} {fdV : FuncData} (F : FnP K "_law_values" "_law_values" s_l_values f fd) (GV : FnOk P w K mg base CX0 2 fV fdV ["deck"] spDrawV) (kV : PySem.W.keepIn K (.ref fV) = true) (bV : Binds K fdV ["deck"] []) (gV : mg "_law_value" = some (.ref fV)) (gt : mg "tuple" = none) :
    FnOk P w K mg base CX0 3 f fd ["deck", "attributes"] (spVals K) := by
  refine F.ok sc_vals (fun vs H Q E h => ?_) (fun cdv A outer s H vs Q E hr h => ?_)
  · obtain ⟨a, g, q, n, ys, rfl, _⟩ := h
    rfl
  · obtain ⟨a, g, q, n, ys, rfl, hT, hn, hq, hy, k⟩ := h
    have nd := sc_vals.nd
    refine ⟨_, PSs.nox (pss_one (ps_ret (pe_callTy call_tuple_of (by rfl) gt (by decide +kernel) (pa_cons (pe_lc (own := [("one", 2)]) (g := gName 2) (tt := tYes) (te := tCall spDrawV [] E0 (tCons (tVar 0) tNil)) rfl nd (pi_tup (pv 1)) (blkOk_by (own := [("one", 2)]) (N := ["deck", "attributes", "one"]) (sc := defScope s_l_values) (by decide +kernel))
        (fun _ _ _ _ _ => pg_name (i := 2) nd rfl (Or.inl rfl)) (fun _ _ _ _ _ => pts_nil) (fun _ _ _ _ _ => pe_call GV hr rfl gV kV bV .nil pass0 (pa_cons (pv 0) pa_nil))) pa_nil)))), ?_⟩
    refine ⟨_, rfl, q, rfl, ⟨_, hq⟩, fun D hD => ?_⟩
    obtain ⟨nDa, nDg⟩ := hT.na hD
    refine lc_build (walk_tup (K := K) (a := q) (xs := ys)) hD (fun j zs R => ∃ us : List Fv, zs = us.map Fv.v ∧ us.length = j ∧ (∀ v ∈ us, v ∈ valL) ∧ Deck R a g (n + j) ∧ Same (ct a g H) (ct a g R))
      ⟨[], rfl, rfl, fun _ h => (nomatch h), hT, Same.refl _⟩ (fun j zs H8 _ ⟨_, _, _, _, _, s8⟩ => Same.seqT ((s8.trans ct_sub).trans cd_sub) (hT.seqT hq)) ?_ ?_
    · rintro j zs y H8 H8' hj e8 l8 ⟨us, rfl, lu, hu, T8, s8⟩ ⟨rfl, hy⟩
      refine ⟨rfl, yes ?_⟩
      refine ⟨_, rfl, a, g, n + j, rfl, T8.same cd_sub, by omega, fun v H9 hv T9 s9 => ?_⟩
      refine LcNx.add (ctkeep s9 e8 nDa nDg) l8 (by omega) ⟨us ++ [v], by rw [List.map_append]; rfl, by rw [List.length_append]; show us.length + 1 = j + 1; omega, fun y hy => ?_, (T9.cd nDa nDg).mono (by omega), ctcd hD s8 s9⟩
      rcases List.mem_append.mp hy with hy | hy
      · exact hu y hy
      · rw [List.mem_singleton.mp hy]
        exact hv
    · rintro zs H8 e8 l8 ⟨us, rfl, lu, hu, T8, s8⟩
      refine ⟨D, _, rfl, .inl ⟨SqL.of e8, fun r hr => ?_⟩⟩
      exact k r us _ lu hu (SqT.of upd_same) (((T8.same cd_sub).new hr).mono (by omega)) ((s8.trans (ct_same cd_sub)).trans (ctnew hr))
end
end Kd

namespace Kd
open PySem PySem.Spec PyProof.Rows L2 LamX
/-! ### values and kinds as data -/
def fsD (fs : List Fv) : PyData := .tuple (fs.map Fv.d)
theorem eqv_fv (a b : Fv) : PyData.eqv a.d b.d = decide (a = b) := by
  cases a <;> cases b <;> simp [Fv.d, PyData.eqv] <;> rfl
theorem eqv_fvs : ∀ (a b : List Fv), PyData.eqvAll (a.map Fv.d) (b.map Fv.d) = decide (a = b)
  | [], [] => by simp [PyData.eqvAll]
  | [], y :: b => by simp [PyData.eqvAll]
  | x :: a, [] => by simp [PyData.eqvAll]
  | x :: a, y :: b => by
    rw [List.map_cons, List.map_cons, PyData.eqvAll, eqv_fv, eqv_fvs a b]
    by_cases h1 : x = y
    · by_cases h2 : a = b
      · simp [h1, h2]
      · simp [h1, h2]
    · simp [h1]
theorem eqv_fsD (a b : List Fv) : PyData.eqv (fsD a) (fsD b) = decide (a = b) := by
  unfold fsD
  rw [PyData.eqv]
  exact eqv_fvs a b
def fvOk : Fv → Bool
  | .i _ => true
  | .s z => PyData.strOk z
theorem fv_lay {a : Fv} (h : fvOk a = true) : a.d.canLay0 = true ∧ a.d.depth = 0 := by
  cases a with
  | i z => exact ⟨rfl, rfl⟩
  | s z => exact ⟨h, rfl⟩
theorem fvs_lay : ∀ (fs : List Fv), (∀ v ∈ fs, fvOk v = true) → PyData.canLayAll0 (fs.map Fv.d) = true ∧ PyData.depthAll (fs.map Fv.d) = 0
  | [], _ => ⟨rfl, rfl⟩
  | x :: xs, h => by
    obtain ⟨h1, h2⟩ := fvs_lay xs fun z hz => h z (List.mem_cons_of_mem _ hz)
    obtain ⟨h3, h4⟩ := fv_lay (h x (List.mem_cons_self ..))
    constructor
    · simp only [List.map_cons, PyData.canLayAll0, h1, h3, Bool.and_self]
    · simp only [List.map_cons, PyData.depthAll, h2, h4, Nat.max_self]
theorem fs_shaped {fs : List Fv} (h : ∀ v ∈ fs, fvOk v = true) : SeqAt.shaped (fsD fs) = true := by
  obtain ⟨h1, h2⟩ := fvs_lay fs h
  simp [fsD, SeqAt.shaped, PyData.canLay0, PyData.depth, h1, h2]
theorem valL_ok {v : Fv} (h : v ∈ valL) : fvOk v = true := by
  have h1 : ∀ v ∈ valL, fvOk v = true := by decide +kernel
  exact h1 v h
/-- all values of the few -/
def Few (ks : List Kind) : Prop := ∀ k ∈ ks, ∀ v ∈ k.2, v ∈ valL
section
variable {P : Program} {w : World} {K : PySem.W.Frag} {mg : Str → Option Value} {base : Heap} {f : Addr} {fd : FuncData}
theorem DpAll.fvs {H : Hp} : ∀ (fs : List Fv), DpAll K H (fs.map Fv.v) (fs.map Fv.d)
  | [] => .nil
  | x :: xs => .cons (Fv.dp x) (DpAll.fvs xs)
theorem fs_dp {H : Hp} {q : Addr} {fs : List Fv} (h : SqT K H q (fs.map Fv.v)) : Dp K H (.ref q) (fsD fs) := .tup h (DpAll.fvs fs)
theorem kind_ct {H : Hp} {a g : Addr} {n : Nat} {y : V} {d : Kind} (t : Deck H a g n) : KindAt K H y d → KindAt K (ct a g H) y d := fun ⟨p, q, h1, h2, h3⟩ => ⟨p, q, h1, t.seqT h2, t.seqT h3⟩
theorem kind_draw {H H' : Hp} {a g : Addr} {n : Nat} {y : V} {d : Kind} (t : Deck H a g n) (s : Same (ct a g H) (ct a g H')) (h : KindAt K H y d) : KindAt K H' y d := (kind_ct t h).same (s.trans ct_sub)
theorem inV_ints (z : Int) : ∀ us : List Int, inV (.int z) (us.map V.int) = decide (z ∈ us)
  | [] => by simp [inV]
  | y :: us => by
    have ih := inV_ints z us
    unfold inV at ih ⊢
    rw [List.map_cons, List.any_cons, ih]
    have e : eqV (.int y) (.int z) = decide (z = y) := by
      show (y == z) = decide (z = y)
      by_cases q : z = y
      · simp [q]
      · have q2 : ¬ y = z := fun h => q h.symm
        simp [q, q2]
    rw [e]
    simp [List.mem_cons]
theorem flat_ints : ∀ us : List Int, (us.map V.int).all flatV = true
  | [] => rfl
  | _ :: us => by
    rw [List.map_cons, List.all_cons, flat_ints us]
    rfl
theorem eqv_ints_nil (L : List Int) : PyData.eqv (.list (L.map PyData.int)) (.list []) = L.isEmpty := by
  cases L <;> simp [PyData.eqv, PyData.eqvAll]
theorem six_nat {n j : Nat} (h : j < n) : seqIndex? (j : Int) n = some j := by
  unfold seqIndex?
  have h0 : ¬ (j : Int) < 0 := by omega
  simp [h, h0]
def rLenQ (K : PySem.W.Frag) : List V → Hp → VK → Prop := fun xs H Q => ∃ p ys, xs = [.ref p] ∧ (SqL K H p ys ∨ SqT K H p ys) ∧ Q (.int ys.length) H
theorem sh0 : SeqAt.shaped (.list []) = true := by decide
end
/-! ### the heap without the deck and without tables -/
def bt (a g : Addr) (H : Hp) : Hp := nt (ct a g H)
section
variable {K : PySem.W.Frag} {H H' : Hp} {a g D p : Addr} {n : Nat} {o : HO}
theorem bt_sub : Same (bt a g H) (ct a g H) := nt_sub
theorem bt_sub2 : Same (bt a g H) H := nt_sub.trans ct_sub
theorem bt_same (s : Same (ct a g H) (ct a g H')) : Same (bt a g H) (bt a g H') := nt_same s
theorem bt_same0 (s : Same H H') : Same (bt a g H) (bt a g H') := nt_same (ct_same s)
theorem bt_ext (e : ExtN H H') : Same (bt a g H) (bt a g H') := fun b u h => by
  have h1 := nt_sub _ _ h
  obtain ⟨na, ng⟩ := ct_ne h1
  exact nt_of (ct_of (e b u (ct_sub _ _ h1) (nt_not h)) na ng) (nt_not h)
theorem Deck.ext (e : ExtN H H') (t : Deck H a g n) : Deck H' a g n := by
  obtain ⟨f, k, gs, h1, h2, h3⟩ := t.ex
  exact ⟨f, k, gs, e _ _ h1 (fun _ z => nomatch z), e _ _ h2 (fun _ z => nomatch z), h3⟩
theorem cd_ext (e : ExtN H H') : ExtN (cd D H) (cd D H') := fun b u h q => cd_of (e b u (cd_sub _ _ h) q) (ct_ne h).1
theorem tabs_ct {T : List (Addr × Str)} (t : Deck H a g n) (h : Tabs T H) : Tabs T (ct a g H) := fun p hp => by
  obtain ⟨A, G, h1, h2⟩ := t.lists
  obtain ⟨ps, q1, q2, q3⟩ := h p hp
  refine ⟨ps, ct_of q1 (ne_of q1 h1 (fun z => nomatch z)) (ne_of q1 h2 (fun z => nomatch z)), q2, fun pos cv hc => ?_⟩
  obtain ⟨c, e1, e2⟩ := q3 pos cv hc
  exact ⟨c, e1, ct_of e2 (ne_of e2 h1 (fun z => nomatch z)) (ne_of e2 h2 (fun z => nomatch z))⟩
theorem tabs_cd {T : List (Addr × Str)} {L : List V} (hD : H D = some (.lst L)) (h : Tabs T H) : Tabs T (cd D H) := fun p hp => by
  obtain ⟨ps, q1, q2, q3⟩ := h p hp
  refine ⟨ps, cd_of q1 (ne_of q1 hD (fun z => nomatch z)), q2, fun pos cv hc => ?_⟩
  obtain ⟨c, e1, e2⟩ := q3 pos cv hc
  exact ⟨c, e1, cd_of e2 (ne_of e2 hD (fun z => nomatch z))⟩
theorem tabs_draw {T : List (Addr × Str)} (t : Deck H a g n) (s : Same (ct a g H) (ct a g H')) (h : Tabs T H) : Tabs T H' := Tabs.ext (tabs_ct t h) (s.trans ct_sub)
theorem tabs_store {T : List (Addr × Str)} {L : List V} (hD : H D = some (.lst L)) (h : Tabs T H) : Tabs T (upd H D o) := Tabs.ext (tabs_cd hD h) fun b u e => by rw [upd_ne (ct_ne e).1]; exact cd_sub _ _ e
theorem seqT_bt {r : Addr} {xs : List V} (t : Deck H a g n) (h : SqT K H r xs) : SqT K (bt a g H) r xs := seqT_nt (t.seqT h)
theorem seqL_bt {r : Addr} {xs : List V} (h : SqL K (ct a g H) r xs) : SqL K (bt a g H) r xs := seqL_nt h
theorem kinds_bt {l : Addr} {ks : List Kind} (h : KindsAt K (ct a g H) l ks) : KindsAt K (bt a g H) l ks := kinds_nt h
theorem dim_nt {y : V} {d : Str × List (Str × Str)} : DimAt K H y d → DimAt K (nt H) y d :=
  fun ⟨p, q, h1, h2, zs, h3, h4⟩ => ⟨p, q, h1, seqT_nt h2, zs, seqT_nt h3, PySem.Paired.mono (fun _ _ ⟨r, e1, e2⟩ => ⟨r, e1, seqT_nt e2⟩) h4⟩
theorem dims_bt {l : Addr} {ds : List (Str × List (Str × Str))} : DimsAt K (ct a g H) l ds → DimsAt K (bt a g H) l ds := fun ⟨xs, h1, h2⟩ => ⟨xs, seqL_nt h1, PySem.Paired.mono (fun _ _ => dim_nt) h2⟩
theorem plan_nt {C x : Addr} {ds : List (Str × List (Str × Str))} {ms : List Str} (h : PlanAt K C H x ds ms) : PlanAt K C (nt H) x ds ms := by
  obtain ⟨dx, a, b, xs, h1, h2, h3, h4⟩ := h.ex
  exact ⟨dx, a, b, xs, nt_of h1 (fun _ z => nomatch z), nt_of h2 (fun _ z => nomatch z), PySem.Paired.mono (fun _ _ => dim_nt) h3, nt_of h4 (fun _ z => nomatch z)⟩
/-! ### what stretches tells, out of the deck -/
theorem dpl_cd {L : List V} {ds : List PyData} {r : Addr} {m : Nat} (hD : H D = some (.lst L)) (ne : r ≠ D) (q : ∀ d ∈ ds, NoL m d) (h : Dp K H (.ref r) (.list ds)) : Dp K (cd D H) (.ref r) (.list ds) := by
  cases h with
  | lst h1 h2 =>
    refine .lst ?_ (dpall_cd' hD ds m _ q h2)
    rcases h1 with (z | ⟨o, z⟩) | z
    · exact .inl (.inl (cd_of z ne))
    · exact .inl (.inr ⟨o, cd_of z ne⟩)
    · exact .inr z
theorem ct_cd : ct a g H = cd g (cd a H) := by
  funext b
  unfold cd ct
  by_cases h1 : b = a
  · by_cases h2 : b = g <;> simp [h1, h2]
  · by_cases h2 : b = g <;> simp [h1, h2]
theorem strL_cons (ws : List Str) (ks : List Kind) : ∃ x y z rest, strL ws ks = .tuple [x, y, z] :: rest := by
  unfold strL
  rw [List.range_succ_eq_map]
  exact ⟨_, _, _, _, rfl⟩
theorem strL_nol (ws : List Str) (ks : List Kind) : ∀ d ∈ strL ws ks, NoL 4 d := fun d hd => by
  unfold strL at hd
  obtain ⟨j, _, rfl⟩ := List.mem_map.mp hd
  exact ver_nolist ws _ _ j
theorem due_bt {ws : List Str} {ks : List Kind} {r : Addr} (t : Deck H a g n) (h : Dp K H (.ref r) (.list (strL ws ks))) (f1 : r ≠ a) (f2 : r ≠ g) : Dp K (bt a g H) (.ref r) (.list (strL ws ks)) := by
  obtain ⟨A, G, h1, h2⟩ := t.lists
  obtain ⟨_, _, _, e1, e2, _⟩ := t.ex
  have nag := deck_ne e1 e2
  refine dp_nt _ _ ?_
  rw [ct_cd]
  exact dpl_cd (cd_of h2 nag.symm) f2 (strL_nol ws ks) (dpl_cd h1 f1 (strL_nol ws ks) h)
/-! ### what stretches tells can be compared -/
def wayOk (d : PyData) : Prop := d.canLay0 = true ∧ d.depth ≤ 1
theorem optD_lay {o : Option Fv} (h : ∀ v, o = some v → fvOk v = true) : (optD o).canLay0 = true ∧ (optD o).depth = 0 := by
  cases o with
  | none => exact ⟨rfl, rfl⟩
  | some v => exact fv_lay (h v rfl)
theorem getD_ok {fs : List Fv} (h : ∀ v ∈ fs, fvOk v = true) (i : Nat) : fvOk (fs.getD i (.i 0)) = true := by
  rw [List.getD_eq_getElem?_getD]
  cases e : fs[i]? with
  | none => rfl
  | some v => exact h v (List.mem_of_getElem? e)
def KOk (ks : List Kind) : Prop := ∀ k ∈ ks, ∀ v ∈ k.2, fvOk v = true
theorem col_ok {ks : List Kind} (h : KOk ks) (i : Nat) : ∀ v ∈ col i ks, fvOk v = true := fun v hv => by
  unfold col at hv
  obtain ⟨k, hk, rfl⟩ := List.mem_map.mp hv
  exact getD_ok (h k hk) i
theorem unl_ok {cs : List Fv} (h : ∀ v ∈ cs, fvOk v = true) : (∀ v, (unl cs).1 = some v → fvOk v = true) ∧ (∀ v, (unl cs).2 = some v → fvOk v = true) := by
  unfold unl
  cases e : cs.getLast? with
  | none => exact ⟨fun v q => (nomatch q), fun v q => (nomatch q)⟩
  | some l => exact ⟨fun v q => (by cases q; exact h _ (List.mem_of_getLast? e)), fun v q => h v (List.mem_filter.mp (List.mem_of_getLast? q)).1⟩
theorem wv_lay {way : Str} {i : Nat} {ks : List Kind} {op : Option (List Fv)} (h : KOk ks) (ho : ∀ o, op = some o → ∀ v ∈ o, fvOk v = true) : (wvD way i ks op).canLay0 = true ∧ (wvD way i ks op).depth ≤ 1 := by
  unfold wvD
  split
  · obtain ⟨h1, h2⟩ := optD_lay (o := op.map fun o => o.getD i (.i 0)) fun v q => by
      cases op with
      | none => cases q
      | some o => cases q; exact getD_ok (ho o rfl) i
    exact ⟨h1, by omega⟩
  · split
    · obtain ⟨u1, u2⟩ := unl_ok (col_ok h i)
      obtain ⟨a1, a2⟩ := optD_lay u1
      obtain ⟨b1, b2⟩ := optD_lay u2
      simp [PyData.canLay0, PyData.canLayAll0, PyData.depth, PyData.depthAll, a1, a2, b1, b2]
    · split
      · obtain ⟨h1, h2⟩ := optD_lay (o := (col i ks).head?) fun v q => col_ok h i v (List.mem_of_head? q)
        exact ⟨h1, by omega⟩
      · obtain ⟨h1, h2⟩ := optD_lay (o := (col i ks).getLast?) fun v q => col_ok h i v (List.mem_of_getLast? q)
        exact ⟨h1, by omega⟩
theorem all_lay (m : Nat) : ∀ (ds : List PyData), (∀ d ∈ ds, d.canLay0 = true ∧ d.depth ≤ m) → PyData.canLayAll0 ds = true ∧ PyData.depthAll ds ≤ m
  | [], _ => ⟨rfl, Nat.zero_le _⟩
  | x :: xs, h => by
    obtain ⟨h1, h2⟩ := all_lay m xs fun z hz => h z (List.mem_cons_of_mem _ hz)
    obtain ⟨h3, h4⟩ := h x (List.mem_cons_self ..)
    constructor
    · simp only [PyData.canLayAll0, h1, h3, Bool.and_self]
    · simp only [PyData.depthAll]
      omega
theorem opn_mem {ws : List Str} {ks : List Kind} {k : Kind} (h : k ∈ opn ws ks) : k ∈ ks := by
  unfold opn at h
  rcases List.mem_append.mp h with h | h
  · exact List.mem_of_mem_take h
  · obtain ⟨pr, hpr, rfl⟩ := List.mem_map.mp h
    exact List.mem_of_mem_drop (List.of_mem_zip (List.mem_filter.mp hpr).1).2
theorem opv_ok {ops : List Kind} (h : KOk ops) (j : Nat) : ∀ o, opv ops j = some o → ∀ v ∈ o, fvOk v = true := by
  intro o e v hv
  cases j with
  | zero => cases e
  | succ j =>
    have e2 : (ops.getD j (0, [])).2 = o := Option.some.inj e
    rw [List.getD_eq_getElem?_getD] at e2
    cases q : ops[j]? with
    | none => rw [q] at e2; rw [← e2] at hv; cases hv
    | some k => rw [q] at e2; rw [← e2] at hv; exact h k (List.mem_of_getElem? q) v hv
theorem ver_lay {ws : List Str} {ord ops : List Kind} (h1 : KOk ord) (h2 : KOk ops) (j : Nat) : (verD ws ord ops j).canLay0 = true ∧ (verD ws ord ops j).depth ≤ 5 := by
  have hb : (bgn ops j).canLay0 = true ∧ (bgn ops j).depth = 0 := by cases j <;> exact ⟨rfl, rfl⟩
  have hf : (fin_ ops j).canLay0 = true ∧ (fin_ ops j).depth = 0 := by
    unfold fin_
    split <;> exact ⟨rfl, rfl⟩
  obtain ⟨v1, v2⟩ := all_lay 1 (vvD ws ord (opv ops j)) fun d hd => by
    unfold vvD at hd
    obtain ⟨i, _, rfl⟩ := List.mem_map.mp hd
    exact wv_lay h1 (opv_ok h2 j)
  unfold verD
  simp [PyData.canLay0, PyData.canLayAll0, PyData.depth, PyData.depthAll, hb.1, hb.2, hf.1, hf.2, v1]
  omega
theorem str_shaped {ws : List Str} {ks : List Kind} (h : KOk ks) : SeqAt.shaped (.list (strL ws ks)) = true := by
  have h1 : KOk (srt ks) := fun k hk => h k ((srt_perm ks).mem_iff.mp hk)
  have h2 : KOk (opn ws (srt ks)) := fun k hk => h1 k (opn_mem hk)
  obtain ⟨v1, v2⟩ := all_lay 5 (strL ws ks) fun d hd => by
    unfold strL at hd
    obtain ⟨j, _, rfl⟩ := List.mem_map.mp hd
    exact ver_lay h1 h2 j
  simp [SeqAt.shaped, PyData.canLay0, PyData.depth, v1]
  omega
theorem Few.ok {ks : List Kind} (h : Few ks) : KOk ks := fun k hk v hv => valL_ok (h k hk v hv)
/-! ### kinds as data -/
def kindD (k : Kind) : PyData := .tuple [.int k.1, fsD k.2]
theorem kinds_dp : ∀ {ys : List V} {ks : List Kind}, Paired (KindAt K H) ys ks → DpAll K H ys (ks.map kindD)
  | _, _, .nil => .nil
  | _, _, .cons ⟨p, q, e1, e2, e3⟩ t => by
    rw [e1]
    exact .cons (.tup e2 (.cons (.int _) (.cons (fs_dp e3) .nil))) (kinds_dp t)
theorem kinds_shaped {ks : List Kind} (h : KOk ks) : SeqAt.shaped (.list (ks.map kindD)) = true := by
  obtain ⟨v1, v2⟩ := all_lay 5 (ks.map kindD) fun d hd => by
    obtain ⟨k, hk, rfl⟩ := List.mem_map.mp hd
    obtain ⟨h1, h2⟩ := fvs_lay k.2 (h k hk)
    simp [kindD, fsD, PyData.canLay0, PyData.canLayAll0, PyData.depth, PyData.depthAll, h1, h2]
  simp [SeqAt.shaped, PyData.canLay0, PyData.depth, v1]
  omega
theorem eqv_list_nil (L : List PyData) : PyData.eqv (.list L) (.list []) = L.isEmpty := by
  cases L <;> simp [PyData.eqv, PyData.eqvAll]
theorem find_at {ds : List (Str × List (Str × Str))} {i : Nat} {d : Str × List (Str × Str)} (h : ds[i]? = some d) (hn : (ds.map (·.1)).Nodup) : ds.find? (fun e => decide (e.1 = d.1)) = some d := by
  induction ds generalizing i with
  | nil => simp at h
  | cons x r ih =>
    rw [List.map_cons, List.nodup_cons] at hn
    cases i with
    | zero =>
      cases h
      simp
    | succ i =>
      have h2 : r[i]? = some d := h
      have hm : d.1 ∈ r.map (·.1) := List.mem_map_of_mem (List.mem_of_getElem? h2)
      have ne : ¬ x.1 = d.1 := fun e => hn.1 (by rw [e]; exact hm)
      rw [List.find?_cons_of_neg (by simpa using ne)]
      exact ih h2 hn.2
end
end Kd

namespace Kd
open PySem PySem.Spec PyProof.Rows L2 LamX
section
variable {P : Program} {w : World} {K : PySem.W.Frag} {mg : Str → Option Value} {base : Heap} {f : Addr} {fd : FuncData}
abbrev InitD (K : PySem.W.Frag) (e f : Addr) (fd : FuncData) : Prop := FunD K "__init__" "Plan.__init__" (defArgs s_Plan_init) (defBody s_Plan_init) (defScope s_Plan_init) [.ref e] [] f fd
theorem init_b2 {e : Addr} (F : InitD K e f fd) : ∃ ds, Vals [V.ref e] ds ∧ Binds K fd ["self", "dimensions", "measures"] ds :=
  F.binds1 (ps := ["self", "dimensions", "measures"]) 2 0 (by simp) rfl fun T kV doc pm an cdv ct us its h1 h2 => match us, its, h1, h2 with
    | [_, _], [_], _, _ => ⟨_, rfl, rfl⟩
theorem init_b3 {e : Addr} (F : InitD K e f fd) : ∃ ds, Vals [] ds ∧ Binds K fd ["self", "dimensions", "measures"] ds :=
  F.binds1 (ps := ["self", "dimensions", "measures"]) 3 1 (by simp) rfl fun T kV doc pm an cdv ct us its h1 h2 => match us, its, h1, h2 with
    | [_, _, _], [_], _, _ => ⟨_, rfl, rfl⟩
/-- a def of the module, its promise and how it is called -/
structure Fun (P : Program) (w : World) (K : PySem.W.Frag) (mg : Str → Option Value) (base : Heap) (x : Str) (n : Nat) (ps : List Str) (sp : Sp) (f : Addr) (fd : FuncData) : Prop where
  G : FnOk P w K mg base CX0 n f fd ps sp
  k : PySem.W.keepIn K (.ref f) = true
  b : Binds K fd ps []
  g : mg x = some (.ref f)
/-- the class Plan, and how it is called -/
structure PlanC (P : Program) (w : World) (K : PySem.W.Frag) (mg : Str → Option Value) (base : Heap) (C e fI : Addr) (fdI : FuncData) : Prop where
  T : PlTxt K C
  M : Mk K C fI
  GI : FnOk P w K mg base CX0 5 fI fdI ["self", "dimensions", "measures"] (spInit K C)
  gC : mg "Plan" = some (.ref C)
  I : InitD K e fI fdI
  E : ∀ H, SqT K H e []
def spLaw (K : PySem.W.Frag) (Pt : Addr) : Sp := fun vs H Q _ => ∃ (l : Addr) (ns : List Int), vs = [.ref l] ∧ SqL K H l (ns.map V.int) ∧ ns.length ≤ 63 ∧ Tabs [(Pt, qS)] H ∧ ∀ H', Q (.bl true) H'
theorem turns_of (ns : List Int) (hn : ns.length ≤ 63) : ∃ N : Nat, N ≤ 64 ∧ (1 + (if ((ns.map V.int).length : Int) < 8 then ((ns.map V.int).length : Int) else 8)) = (N : Int) := by
  rw [List.length_map]
  by_cases c : (ns.length : Int) < 8
  · rw [if_pos c]
    exact ⟨1 + ns.length, by omega, by omega⟩
  · rw [if_neg c]
    exact ⟨9, by omega, by omega⟩
theorem atI_0 {α : Type} {xs : List α} {j : Nat} {v : α} (h : xs[j]? = some v) : atI xs (0 + (j : Int)) = some v := by
  rw [show (0 : Int) + (j : Int) = (j : Int) by omega]
  exact atI_nat h
theorem paired_app {α β : Type} {R : α → β → Prop} : ∀ {a c : List α} {b d : List β}, Paired R a b → Paired R c d → Paired R (a ++ c) (b ++ d)
  | _, _, _, _, .nil, h => h
  | _, _, _, _, .cons x t, h => .cons x (paired_app t h)
theorem paired_rev {α β : Type} {R : α → β → Prop} : ∀ {a : List α} {b : List β}, Paired R a b → Paired R a.reverse b.reverse
  | _, _, .nil => .nil
  | _, _, .cons x t => by
    rw [List.reverse_cons, List.reverse_cons]
    exact paired_app (paired_rev t) (.cons x .nil)
/-- a Plan is made of good lists -/
theorem made {C a g hp bp : Addr} {n : Nat} {H5 : Hp} {ds : List (Str × List (Str × Str))} {ms : List Str} {R : Addr → Hp → Prop} {E : XK} (T5 : Deck H5 a g n) (hd : DimsAt K H5 hp ds) (hm : Txs K H5 bp ms) (sz : Szd ds ms) (ff : ffV ds ms = .non)
    (k : ∀ x H7, Same H5 H7 → PlanAt K C (bt a g H7) x ds ms → R x H7) : ∀ x dx, H5 x = none → H5 dx = none → dx ≠ x → spInit K C [.ref x, .ref hp, .ref bp] (upd (upd H5 dx (.own x)) x (.ins C dx [])) (fun v H2 => v = .non ∧ R x H2) E := by
  intro x dx nx ndx nex
  have sx : Same H5 (upd (upd H5 dx (.own x)) x (.ins C dx [])) := fun b o q => by rw [upd_ne (ne_of_none q nx), upd_ne (ne_of_none q ndx)]; exact q
  refine ⟨x, dx, hp, bp, ds, ms, rfl, upd_same, DimsAt.same sx hd, Same.txs sx hm, sz, ff, fun H7 pa pb px npa npb e1 e2 e3 e4 s7 => ⟨rfl, ?_⟩⟩
  have s57 : Same H5 H7 := fun b o e => cd_sub _ _ (s7 b o (cd_of (sx b o e) (ne_of_none e nx)))
  have T7 := T5.same s57
  obtain ⟨nxa, nxg⟩ := T5.na nx
  obtain ⟨npaa, npag⟩ := (T5.same sx).na npa
  obtain ⟨npba, npbg⟩ := (T5.same sx).na npb
  exact k x H7 s57 (plan_nt ⟨dx, pa, pb, px, ct_of e1 nxa nxg, ct_of e2 npaa npag, PySem.Paired.mono (fun _ _ h => dim_ct T7 h) e3, ct_of e4 npba npbg⟩)
theorem kinds_ofbt {H : Hp} {a g l : Addr} {ks : List Kind} (h : KindsAt K (bt a g H) l ks) : KindsAt K (ct a g H) l ks := KindsAt.same bt_sub h
end
end Kd

namespace Kd
open PySem PySem.Spec PyProof.Rows L2 LamX
theorem rep_snoc (b : Bool) (i : Nat) : List.replicate i (V.bl b) ++ [V.bl b] = List.replicate (i + 1) (V.bl b) := by
  rw [List.replicate_succ']
theorem rep_map (b : Bool) (i : Nat) : List.replicate i (V.bl b) = (List.replicate i b).map V.bl := by
  rw [List.map_replicate]
theorem rep_all (i : Nat) : (List.replicate i true).all id = true := by
  rw [List.all_eq_true]
  intro x hx
  rw [(List.mem_replicate.mp hx).2]
  rfl
section
variable {P : Program} {w : World} {K : PySem.W.Frag} {mg : Str → Option Value} {base : Heap} {f : Addr} {fd : FuncData}
/-! ### _law_same -/
/-- data less than n deep, of short lists -/
def Okd : Nat → PyData → Prop
  | 0, _ => False
  | n + 1, .list ds => ds.length ≤ 4000 ∧ ∀ d ∈ ds, Okd n d
  | n + 1, .tuple ds => ds.length ≤ 4000 ∧ ∀ d ∈ ds, Okd n d
  | _ + 1, .dict _ => False
  | _ + 1, _ => True
theorem eqT {x : V} {q : Decidable (x = x)} {Q : VK} {H : Hp} (h : Q (.bl true) H) : Q (.bl (@decide (x = x) q)) H := by
  rw [decide_eq_true rfl]
  exact h
def spSame (K : PySem.W.Frag) (n : Nat) : Sp := fun vs H Q _ => ∃ (x y : V) (d : PyData), vs = [x, y] ∧ Dp K H x d ∧ Dp K H y d ∧ Okd n d ∧ ∀ H', Same H H' → Q (.bl true) H'
abbrev N_l_same : List Str := ["found", "due", "k"]
theorem sc_l_same : FnScope N_l_same ["found", "due"] (defScope s_l_same) := ⟨rfl, rfl, rfl, by decide +kernel, rfl, by decide +kernel, by decide +kernel⟩
/-! slots: 0 found 1 due 2 k; cells: due found -/
theorem ok_same (F : FnP K "_law_same" "_law_same" s_l_same f fd) (kA : PySem.W.keepIn K (.ref f) = true) (bA : Binds K fd ["found", "due"] []) (gA : mg "_law_same" = some (.ref f)) (z_isinstance : mg "isinstance" = none) (z_bool : mg "bool" = none) (z_int : mg "int" = none) (z_str : mg "str" = none) (z_list : mg "list" = none) (z_tuple : mg "tuple" = none) (z_len : mg "len" = none) (z_range : mg "range" = none) (z_all : mg "all" = none) :
    ∀ n, FnOk P w K mg base CX0 (n + 1) f fd ["found", "due"] (spSame K n)
  | 0 => by
    refine F.ok sc_l_same (fun vs H Q E h => ?_) (fun cdv A outer s H vs Q E hr h => ?_)
    · obtain ⟨x, y, d, rfl, _⟩ := h
      rfl
    · obtain ⟨x, y, d, rfl, _, _, h, _⟩ := h
      exact h.elim
  | n + 1 => by
    have G := ok_same F kA bA gA z_isinstance z_bool z_int z_str z_list z_tuple z_len z_range z_all n
    have c_same : Fun P w K mg base "_law_same" (n + 1) ["found", "due"] (spSame K n) f fd := ⟨G, kA, bA, gA⟩
    refine F.ok sc_l_same (fun vs H Q E h => ?_) (fun cdv A outer s H vs Q E hr h => ?_)
    · obtain ⟨x, y, d, rfl, _⟩ := h
      rfl
    · obtain ⟨x, y, d, rfl, hx, hy, ho, k⟩ := h
      have nd := sc_l_same.nd
      refine ⟨_, PSs.nox (pss_cons (ps_if (pt_cmpR op_ne (pe_callB call_isi (by rfl) z_isinstance (by decide +kernel) (pa_cons (pv 0) (pa_cons (pe_bltn (v := .ty "list") (by rfl) z_list (by decide +kernel) rfl) pa_nil))) (pe_callB call_isi (by rfl) z_isinstance (by decide +kernel) (pa_cons (pv 1) (pa_cons (pe_bltn (v := .ty "list") (by rfl) z_list (by decide +kernel) rfl) pa_nil))) (nomark _))
          (pss_one (ps_ret pe_bl))
          pss_nil)
        (pss_cons (ps_if (pt_cmpR op_ne (pe_callB call_isi (by rfl) z_isinstance (by decide +kernel) (pa_cons (pv 0) (pa_cons (pe_bltn (v := .ty "tuple") (by rfl) z_tuple (by decide +kernel) rfl) pa_nil))) (pe_callB call_isi (by rfl) z_isinstance (by decide +kernel) (pa_cons (pv 1) (pa_cons (pe_bltn (v := .ty "tuple") (by rfl) z_tuple (by decide +kernel) rfl) pa_nil))) (nomark _))
          (pss_one (ps_ret pe_bl))
          pss_nil)
        (pss_cons (ps_if (pt_val (pe_callB call_isiT (by rfl) z_isinstance (by decide +kernel) (pa_cons (pv 1) (pa_cons (pe_tup (pa_cons (pe_bltn (v := .ty "list") (by rfl) z_list (by decide +kernel) rfl) (pa_cons (pe_bltn (v := .ty "tuple") (by rfl) z_tuple (by decide +kernel) rfl) (pa_nil)))) pa_nil))))
          (pss_cons (ps_if (pt_cmpR op_ne (pe_callB call_len_seq (by rfl) z_len boot_len (pa_cons (pv 0) pa_nil)) (pe_callB call_len_seq (by rfl) z_len boot_len (pa_cons (pv 1) pa_nil)) (nomark _))
            (pss_one (ps_ret pe_bl))
            pss_nil)
          (pss_one (ps_ret (pe_callB (cr_all rfl) (by rfl) z_all (by decide +kernel) (pa_cons (pe_lc (own := [("k", 2)]) (g := gName 2) (tt := tYes) (te := tCall (spSame K n) [] E0 (tCons (tOp (rIx K) (tVar 0) (tVar 2)) (tCons (tOp (rIx K) (tVar 1) (tVar 2)) tNil))) rfl nd (pi_range1 rfl z_range (pa_cons (pe_callB call_len_seq (by rfl) z_len boot_len (pa_cons (pv 1) pa_nil)) pa_nil)) (blkOk_by (own := [("k", 2)]) (N := N_l_same) (sc := defScope s_l_same) (by decide +kernel))
          (fun _ _ _ _ _ => pg_name (i := 2) nd rfl (Or.inl rfl)) (fun _ _ _ _ _ => pts_nil) (fun _ _ _ _ _ => pe_call c_same.G hr rfl c_same.g c_same.k c_same.b .nil pass0 (pa_cons (pe_ix ix_seq (pv 0) (pv 2) (fun _ _ => rfl)) (pa_cons (pe_ix ix_seq (pv 1) (pv 2) (fun _ _ => rfl)) pa_nil)))) pa_nil)))))
          pss_nil)
        (pss_cons (ps_if (pt_cmp (pc_isN (pv 1)))
          (pss_one (ps_ret (pe_cmp (pc_isN (pv 0)) rfl)))
          pss_nil)
        (pss_cons (ps_if (pt_val (pe_callB call_isiT (by rfl) z_isinstance (by decide +kernel) (pa_cons (pv 1) (pa_cons (pe_tup (pa_cons (pe_bltn (v := .ty "bool") (by rfl) z_bool (by decide +kernel) rfl) (pa_cons (pe_bltn (v := .ty "str") (by rfl) z_str (by decide +kernel) rfl) (pa_nil)))) pa_nil))))
          (pss_one (ps_ret (pe_and (pe_cmpR op_eq (pe_callB call_isi (by rfl) z_isinstance (by decide +kernel) (pa_cons (pv 0) (pa_cons (pe_bltn (v := .ty "bool") (by rfl) z_bool (by decide +kernel) rfl) pa_nil))) (pe_callB call_isi (by rfl) z_isinstance (by decide +kernel) (pa_cons (pv 1) (pa_cons (pe_bltn (v := .ty "bool") (by rfl) z_bool (by decide +kernel) rfl) pa_nil))) (nomark _)) (pe_one (pe_cmpR op_eq (pv 0) (pv 1) (nomark _))))))
          pss_nil)
        (pss_one (ps_ret (pe_and (pe_callB call_isi (by rfl) z_isinstance (by decide +kernel) (pa_cons (pv 0) (pa_cons (pe_bltn (v := .ty "int") (by rfl) z_int (by decide +kernel) rfl) pa_nil))) (pe_and (pe_not (pe_callB call_isi (by rfl) z_isinstance (by decide +kernel) (pa_cons (pv 0) (pa_cons (pe_bltn (v := .ty "bool") (by rfl) z_bool (by decide +kernel) rfl) pa_nil)))) (pe_one (pe_cmpR op_eq (pv 0) (pv 1) (nomark _)))))))))))), ?_⟩
      have kit2 : ∀ {a b c : String} {r1 r2 : Bool}, kitB a b = some r1 → kitB a c = some r2 → PySem.W.kitAny K (.type a) [.type b, .type c] = some (r1 || r2) := fun {a b c r1 r2} h1 h2 =>
        kitAny_cons (kit_ty h1) (fun e => by subst e; exact kitAny_cons (kit_ty h2) (fun e => by subst e; exact kitAny_nil) (fun e => by rw [e]; rfl)) (fun e => by rw [e]; rfl)
      cases d with
      | none =>
        cases hx
        cases hy
        refine ⟨_, rfl, _, _, _, _, _, rfl, ClsV.ty _, .base .non, kit_ty (r := false) (by decide +kernel), _, rfl, _, _, _, _, _, rfl, ClsV.ty _, .base .non, kit_ty (r := false) (by decide +kernel), rfl, _, rfl, iteNS rfl ?_⟩
        refine ⟨_, rfl, _, _, _, _, _, rfl, ClsV.ty _, .base .non, kit_ty (r := false) (by decide +kernel), _, rfl, _, _, _, _, _, rfl, ClsV.ty _, .base .non, kit_ty (r := false) (by decide +kernel), rfl, _, rfl, iteNS rfl ?_⟩
        refine ⟨_, rfl, by show 2 ≤ sizeLine; decide, fun tp ntp => ?_⟩
        refine ⟨_, tp, _, _, _, _, rfl, upd_same, .cons (ClsV.ty _) (.cons (ClsV.ty _) .nil), .base .non, kit2 (r1 := false) (r2 := false) (by decide +kernel) (by decide +kernel), _, rfl, iteF ?_⟩
        exact ⟨_, rfl, _, rfl, iteT ⟨_, rfl, k _ (same_new ntp)⟩⟩
      | bool b =>
        cases hx
        cases hy
        refine ⟨_, rfl, _, _, _, _, _, rfl, ClsV.ty _, .base (.bl _), kit_ty (r := false) (by decide +kernel), _, rfl, _, _, _, _, _, rfl, ClsV.ty _, .base (.bl _), kit_ty (r := false) (by decide +kernel), rfl, _, rfl, iteNS rfl ?_⟩
        refine ⟨_, rfl, _, _, _, _, _, rfl, ClsV.ty _, .base (.bl _), kit_ty (r := false) (by decide +kernel), _, rfl, _, _, _, _, _, rfl, ClsV.ty _, .base (.bl _), kit_ty (r := false) (by decide +kernel), rfl, _, rfl, iteNS rfl ?_⟩
        refine ⟨_, rfl, by show 2 ≤ sizeLine; decide, fun tp ntp => ?_⟩
        refine ⟨_, tp, _, _, _, _, rfl, upd_same, .cons (ClsV.ty _) (.cons (ClsV.ty _) .nil), .base (.bl _), kit2 (r1 := false) (r2 := false) (by decide +kernel) (by decide +kernel), _, rfl, iteF ?_⟩
        refine ⟨_, rfl, _, rfl, iteF ?_⟩
        refine ⟨_, rfl, by show 2 ≤ sizeLine; decide, fun tq ntq => ?_⟩
        refine ⟨_, tq, _, _, _, _, rfl, upd_same, .cons (ClsV.ty _) (.cons (ClsV.ty _) .nil), .base (.bl _), kit2 (r1 := true) (r2 := false) (by decide +kernel) (by decide +kernel), _, rfl, iteT ?_⟩
        refine ⟨_, rfl, _, _, _, _, _, rfl, ClsV.ty _, .base (.bl _), kit_ty (r := true) (by decide +kernel), _, rfl, _, _, _, _, _, rfl, ClsV.ty _, .base (.bl _), kit_ty (r := true) (by decide +kernel), rfl, _, rfl, iteT ?_⟩
        refine ⟨_, rfl, _, rfl, rfl, ?_⟩
        exact eqT (k _ ((same_new ntp).trans (same_new ntq)))
      | int i =>
        cases hx
        cases hy
        refine ⟨_, rfl, _, _, _, _, _, rfl, ClsV.ty _, .base (.int _), kit_ty (r := false) (by decide +kernel), _, rfl, _, _, _, _, _, rfl, ClsV.ty _, .base (.int _), kit_ty (r := false) (by decide +kernel), rfl, _, rfl, iteNS rfl ?_⟩
        refine ⟨_, rfl, _, _, _, _, _, rfl, ClsV.ty _, .base (.int _), kit_ty (r := false) (by decide +kernel), _, rfl, _, _, _, _, _, rfl, ClsV.ty _, .base (.int _), kit_ty (r := false) (by decide +kernel), rfl, _, rfl, iteNS rfl ?_⟩
        refine ⟨_, rfl, by show 2 ≤ sizeLine; decide, fun tp ntp => ?_⟩
        refine ⟨_, tp, _, _, _, _, rfl, upd_same, .cons (ClsV.ty _) (.cons (ClsV.ty _) .nil), .base (.int _), kit2 (r1 := false) (r2 := false) (by decide +kernel) (by decide +kernel), _, rfl, iteF ?_⟩
        refine ⟨_, rfl, _, rfl, iteF ?_⟩
        refine ⟨_, rfl, by show 2 ≤ sizeLine; decide, fun tq ntq => ?_⟩
        refine ⟨_, tq, _, _, _, _, rfl, upd_same, .cons (ClsV.ty _) (.cons (ClsV.ty _) .nil), .base (.int _), kit2 (r1 := false) (r2 := false) (by decide +kernel) (by decide +kernel), _, rfl, iteF ?_⟩
        refine ⟨_, rfl, _, _, _, _, _, rfl, ClsV.ty _, .base (.int _), kit_ty (r := true) (by decide +kernel), _, rfl, iteT ?_⟩
        refine ⟨_, rfl, _, _, _, _, _, rfl, ClsV.ty _, .base (.int _), kit_ty (r := false) (by decide +kernel), _, rfl, _, rfl, iteT ?_⟩
        refine ⟨_, rfl, _, rfl, rfl, ?_⟩
        exact eqT (k _ ((same_new ntp).trans (same_new ntq)))
      | str z =>
        cases hx
        cases hy
        refine ⟨_, rfl, _, _, _, _, _, rfl, ClsV.ty _, .base (.str _), kit_ty (r := false) (by decide +kernel), _, rfl, _, _, _, _, _, rfl, ClsV.ty _, .base (.str _), kit_ty (r := false) (by decide +kernel), rfl, _, rfl, iteNS rfl ?_⟩
        refine ⟨_, rfl, _, _, _, _, _, rfl, ClsV.ty _, .base (.str _), kit_ty (r := false) (by decide +kernel), _, rfl, _, _, _, _, _, rfl, ClsV.ty _, .base (.str _), kit_ty (r := false) (by decide +kernel), rfl, _, rfl, iteNS rfl ?_⟩
        refine ⟨_, rfl, by show 2 ≤ sizeLine; decide, fun tp ntp => ?_⟩
        refine ⟨_, tp, _, _, _, _, rfl, upd_same, .cons (ClsV.ty _) (.cons (ClsV.ty _) .nil), .base (.str _), kit2 (r1 := false) (r2 := false) (by decide +kernel) (by decide +kernel), _, rfl, iteF ?_⟩
        refine ⟨_, rfl, _, rfl, iteF ?_⟩
        refine ⟨_, rfl, by show 2 ≤ sizeLine; decide, fun tq ntq => ?_⟩
        refine ⟨_, tq, _, _, _, _, rfl, upd_same, .cons (ClsV.ty _) (.cons (ClsV.ty _) .nil), .base (.str _), kit2 (r1 := false) (r2 := true) (by decide +kernel) (by decide +kernel), _, rfl, iteT ?_⟩
        refine ⟨_, rfl, _, _, _, _, _, rfl, ClsV.ty _, .base (.str _), kit_ty (r := false) (by decide +kernel), _, rfl, _, _, _, _, _, rfl, ClsV.ty _, .base (.str _), kit_ty (r := false) (by decide +kernel), rfl, _, rfl, iteT ?_⟩
        refine ⟨_, rfl, _, rfl, rfl, ?_⟩
        exact eqT (k _ ((same_new ntp).trans (same_new ntq)))
      | list ds =>
        cases hx with
        | lst qx rx =>
        cases hy with
        | lst qy ry =>
          rename_i p xs q ys
          have lx := DpAll.len rx
          have ly := DpAll.len ry
          have ho1 : ds.length ≤ 4000 := ho.1
          refine ⟨_, rfl, _, _, _, _, _, rfl, ClsV.ty _, tyL qx, kit_ty (r := true) (by decide +kernel), _, rfl, _, _, _, _, _, rfl, ClsV.ty _, tyL qy, kit_ty (r := true) (by decide +kernel), rfl, _, rfl, iteNS rfl ?_⟩
          refine ⟨_, rfl, _, _, _, _, _, rfl, ClsV.ty _, tyL qx, kit_ty (r := false) (by decide +kernel), _, rfl, _, _, _, _, _, rfl, ClsV.ty _, tyL qy, kit_ty (r := false) (by decide +kernel), rfl, _, rfl, iteNS rfl ?_⟩
          refine ⟨_, rfl, by show 2 ≤ sizeLine; decide, fun tp ntp => ?_⟩
          have st := same_new (o := .tup [.ty "list", .ty "tuple"]) ntp
          refine ⟨_, tp, _, _, _, _, rfl, upd_same, .cons (ClsV.ty _) (.cons (ClsV.ty _) .nil), tyL (st.seq qy), kit2 (r1 := true) (r2 := false) (by decide +kernel) (by decide +kernel), _, rfl, iteT ?_⟩
          generalize upd H tp (.tup [.ty "list", .ty "tuple"]) = H1 at st ⊢
          refine ⟨_, rfl, _, _, rfl, .inl (st.seq qx), _, rfl, _, _, rfl, .inl (st.seq qy), rfl, _, rfl, iteNS (by rw [lx, ly]) ?_⟩
          refine ⟨_, rfl, _, _, rfl, .inl (st.seq qy), _, rfl, by omega, by omega, fun D hD => ?_⟩
          rw [Int.toNat_natCast]
          refine lc_build (walk_range (lo := 0)) hD (fun i us R => Same H1 R ∧ us = List.replicate i (V.bl true)) ⟨Same.refl _, rfl⟩ (fun _ _ _ _ _ => trivial) ?_ ?_
          · rintro i us v Ha Hb hi e lu ⟨sR, rfl⟩ ⟨rfl, rfl⟩
            obtain ⟨vy, hvy⟩ : ∃ v, ys[i]? = some v := ⟨ys[i], List.getElem?_eq_getElem hi⟩
            obtain ⟨vx, hvx⟩ : ∃ v, xs[i]? = some v := ⟨xs[i], List.getElem?_eq_getElem (by omega)⟩
            obtain ⟨d1, g1, dx⟩ := DpAll.at_ rx hvx
            obtain ⟨d2, g2, dy⟩ := DpAll.at_ ry hvy
            rw [g1] at g2
            cases g2
            have sb := st.trans (sR.trans cd_sub)
            refine ⟨rfl, yes ?_⟩
            refine ⟨_, rfl, _, rfl, .inl ⟨p, xs, _, vx, rfl, rfl, sb.seq qx, atI_0 hvx, _, rfl, _, rfl, .inl ⟨q, ys, _, vy, rfl, rfl, sb.seq qy, atI_0 hvy, ?_⟩⟩⟩
            refine ⟨vx, vy, d1, rfl, Dp.same sb _ _ dx, Dp.same sb _ _ dy, ho.2 d1 (List.mem_of_getElem? g1), fun H3 s3 => ?_⟩
            exact LcNx.add (s3 _ _ e) lu (by omega) ⟨sR.trans (cd_same s3), rep_snoc true i⟩
          · rintro us H2 e2 l2 ⟨sR, rfl⟩
            rw [rep_map] at e2
            refine ⟨D, _, rfl, SqL.of e2, ?_⟩
            rw [rep_all]
            exact k H2 (st.trans (sR.trans cd_sub))
      | tuple ds =>
        cases hx with
        | tup qx rx =>
        cases hy with
        | tup qy ry =>
          rename_i p xs q ys
          have lx := DpAll.len rx
          have ly := DpAll.len ry
          have ho1 : ds.length ≤ 4000 := ho.1
          refine ⟨_, rfl, _, _, _, _, _, rfl, ClsV.ty _, tyT qx, kit_ty (r := false) (by decide +kernel), _, rfl, _, _, _, _, _, rfl, ClsV.ty _, tyT qy, kit_ty (r := false) (by decide +kernel), rfl, _, rfl, iteNS rfl ?_⟩
          refine ⟨_, rfl, _, _, _, _, _, rfl, ClsV.ty _, tyT qx, kit_ty (r := true) (by decide +kernel), _, rfl, _, _, _, _, _, rfl, ClsV.ty _, tyT qy, kit_ty (r := true) (by decide +kernel), rfl, _, rfl, iteNS rfl ?_⟩
          refine ⟨_, rfl, by show 2 ≤ sizeLine; decide, fun tp ntp => ?_⟩
          have st := same_new (o := .tup [.ty "list", .ty "tuple"]) ntp
          refine ⟨_, tp, _, _, _, _, rfl, upd_same, .cons (ClsV.ty _) (.cons (ClsV.ty _) .nil), tyT (Same.seqT st qy), kit2 (r1 := false) (r2 := true) (by decide +kernel) (by decide +kernel), _, rfl, iteT ?_⟩
          generalize upd H tp (.tup [.ty "list", .ty "tuple"]) = H1 at st ⊢
          refine ⟨_, rfl, _, _, rfl, .inr (Same.seqT st qx), _, rfl, _, _, rfl, .inr (Same.seqT st qy), rfl, _, rfl, iteNS (by rw [lx, ly]) ?_⟩
          refine ⟨_, rfl, _, _, rfl, .inr (Same.seqT st qy), _, rfl, by omega, by omega, fun D hD => ?_⟩
          rw [Int.toNat_natCast]
          refine lc_build (walk_range (lo := 0)) hD (fun i us R => Same H1 R ∧ us = List.replicate i (V.bl true)) ⟨Same.refl _, rfl⟩ (fun _ _ _ _ _ => trivial) ?_ ?_
          · rintro i us v Ha Hb hi e lu ⟨sR, rfl⟩ ⟨rfl, rfl⟩
            obtain ⟨vy, hvy⟩ : ∃ v, ys[i]? = some v := ⟨ys[i], List.getElem?_eq_getElem hi⟩
            obtain ⟨vx, hvx⟩ : ∃ v, xs[i]? = some v := ⟨xs[i], List.getElem?_eq_getElem (by omega)⟩
            obtain ⟨d1, g1, dx⟩ := DpAll.at_ rx hvx
            obtain ⟨d2, g2, dy⟩ := DpAll.at_ ry hvy
            rw [g1] at g2
            cases g2
            have sb := st.trans (sR.trans cd_sub)
            refine ⟨rfl, yes ?_⟩
            refine ⟨_, rfl, _, rfl, .inr (.inl ⟨p, xs, _, vx, rfl, rfl, Same.seqT sb qx, atI_0 hvx, _, rfl, _, rfl, .inr (.inl ⟨q, ys, _, vy, rfl, rfl, Same.seqT sb qy, atI_0 hvy, ?_⟩)⟩)⟩
            refine ⟨vx, vy, d1, rfl, Dp.same sb _ _ dx, Dp.same sb _ _ dy, ho.2 d1 (List.mem_of_getElem? g1), fun H3 s3 => ?_⟩
            exact LcNx.add (s3 _ _ e) lu (by omega) ⟨sR.trans (cd_same s3), rep_snoc true i⟩
          · rintro us H2 e2 l2 ⟨sR, rfl⟩
            rw [rep_map] at e2
            refine ⟨D, _, rfl, SqL.of e2, ?_⟩
            rw [rep_all]
            exact k H2 (st.trans (sR.trans cd_sub))
      | dict _ => exact (show False from ho).elim
end
end Kd

namespace Kd
open PySem PySem.Spec PyProof.Rows L2 LamX
def nonD (a : Str × Str) : PyData := if a.2 = "before" then .tuple [.none, .none] else .none
theorem wv_none (way : Str) (i : Nat) : wvD way i [] none = if way = "before" then .tuple [.none, .none] else .none := by
  unfold wvD
  by_cases hb : way = "before"
  · rw [if_neg (by rw [hb]; decide +kernel), if_pos hb, if_pos hb]
    rfl
  · by_cases hd : way = "day"
    · rw [if_pos hd, if_neg hb]
      rfl
    · rw [if_neg hd, if_neg hb, if_neg hb]
      split <;> rfl
theorem str_none9 (as : List (Str × Str)) : strL (as.map (·.2)) [] = [.tuple [.none, .none, .tuple (as.map nonD)]] := by
  have e : srt [] = [] := by unfold srt; exact List.mergeSort_nil
  unfold strL
  rw [e]
  show [PyData.tuple [.none, .none, .tuple (vvD (as.map (·.2)) [] none)]] = _
  have e2 : vvD (as.map (·.2)) [] none = as.map nonD := by
    unfold vvD
    refine List.ext_getElem (by simp) fun i h1 h2 => ?_
    have h3 : i < as.length := by simpa using h2
    rw [List.getElem_map, List.getElem_map, List.getElem_range, wv_none, List.getD_eq_getElem?_getD, List.getElem?_map, List.getElem?_eq_getElem h3]
    rfl
  rw [e2]
theorem st_eq {t : L2.St → Hp → Prop} {σ σ' : L2.St} {H : Hp} (e : σ = σ') (h : t σ' H) : t σ H := by
  subst e
  exact h
theorem okd_non (a : Str × Str) : Okd 2 (nonD a) := by
  unfold nonD
  split
  · refine ⟨by show 2 ≤ 4000; decide, fun d hd => ?_⟩
    rcases List.mem_cons.mp hd with rfl | hd
    · exact trivial
    · rw [List.mem_singleton.mp hd]
      exact trivial
  · exact trivial
theorem okd_none9 {as : List (Str × Str)} (h : as.length ≤ 5) : Okd 5 (.list [.tuple [.none, .none, .tuple (as.map nonD)]]) := by
  refine ⟨by show 1 ≤ 4000; decide, fun d hd => ?_⟩
  rw [List.mem_singleton.mp hd]
  refine ⟨by show 3 ≤ 4000; decide, fun d hd => ?_⟩
  rcases List.mem_cons.mp hd with rfl | hd
  · exact trivial
  · rcases List.mem_cons.mp hd with rfl | hd
    · exact trivial
    · rw [List.mem_singleton.mp hd]
      refine ⟨by rw [List.length_map]; omega, fun d hd => ?_⟩
      obtain ⟨a, _, rfl⟩ := List.mem_map.mp hd
      exact okd_non a
theorem IsNm.flat9 {z : Str} (h : IsNm z) : KdRp.FlatS (.str z) := ⟨fun c hc => by have := h.low c hc; omega, by have := h.le8; omega⟩
theorem find_none9 {ds : List (Str × List (Str × Str))} {z : Str} (h : z ∉ ds.map (·.1)) : ds.find? (fun d => decide (d.1 = z)) = none := by
  rw [List.find?_eq_none]
  intro d hd q
  exact h (by rw [← of_decide_eq_true q]; exact List.mem_map_of_mem hd)
theorem take_snoc9 {α β : Type} {f : α → β} {xs : List α} {i : Nat} {z : α} (h : xs[i]? = some z) : ((xs.take i).map f) ++ [f z] = (xs.take (i + 1)).map f := by
  obtain ⟨h1, h2⟩ := List.getElem?_eq_some_iff.mp h
  rw [List.take_succ_eq_append_getElem h1, List.map_append, h2]
  rfl
theorem take_flt9 {α : Type} {p : α → Bool} {xs : List α} {i : Nat} {z : α} (h : xs[i]? = some z) : (xs.take (i + 1)).filter p = (xs.take i).filter p ++ if p z = true then [z] else [] := by
  obtain ⟨h1, h2⟩ := List.getElem?_eq_some_iff.mp h
  rw [List.take_succ_eq_append_getElem h1, List.filter_append, h2]
  by_cases c : p z = true <;> simp [c]
section
variable {P : Program} {w : World} {K : PySem.W.Frag} {mg : Str → Option Value} {base : Heap} {f : Addr} {fd : FuncData}
theorem DpAll.snoc9 {H : Hp} : ∀ {vs : List V} {ds : List PyData} {v : V} {d : PyData}, DpAll K H vs ds → Dp K H v d → DpAll K H (vs ++ [v]) (ds ++ [d])
  | _, _, _, _, .nil, h => .cons h .nil
  | _, _, _, _, .cons a t, h => .cons a (DpAll.snoc9 t h)
abbrev N_law : List Str := ["script", "deck", "k", "parts", "measures", "scheme", "name", "attributes", "names", "one", "way", "due", "others", "other", "rows"]
theorem sc_law : FnScope N_law ["script"] (defScope s_law) := ⟨rfl, rfl, rfl, by decide +kernel, rfl, by decide +kernel, by decide +kernel⟩
/-! slots: 0 script 1 deck 2 k 3 parts 4 measures 5 scheme 6 name 7 attributes 8 names 9 one 10 way 11 due 12 others 13 other 14 rows; cells: names -/
set_option maxHeartbeats 0 in
theorem ok_law {C e fI Pt f1 f3 f6 f7 f8 f9 : Addr} {fdI d1 d3 d6 d7 d8 d9 : FuncData} (F : FnP K "law" "law" s_law f fd) (PC : PlanC P w K mg base C e fI fdI)
    (c_deck : Fun P w K mg base "_law_deck" 1 ["script"] (spDeck K) f1 d1) (c_plan : Fun P w K mg base "_law_plan" 4 ["deck", "most"] (spPlan K) f3 d3) (c_name : Fun P w K mg base "_law_name" 2 ["deck", "used"] (spName K) f6 d6)
    (c_refused : Fun P w K mg base "_law_refused" 5 ["scheme", "name", "rows"] (spRef9 K C) f7 d7) (c_same : Fun P w K mg base "_law_same" 6 ["found", "due"] (spSame K 5) f8 d8) (c_stretches : Fun P w K mg base "stretches" 4 ["plan", "dimension", "kinds"] (spStr K C Pt) f9 d9)
    (z_list : mg "list" = none) (z_tuple : mg "tuple" = none) (z_len : mg "len" = none) (z_min : mg "min" = none) (z_range : mg "range" = none) : FnOk P w K mg base CX0 8 f fd ["script"] (spLaw K Pt) := by
  obtain ⟨i3, v3, b3⟩ := init_b3 PC.I
  refine F.ok sc_law (fun vs H Q E h => ?_) (fun cdv A outer s H vs Q E hr h => ?_)
  · obtain ⟨l, ns, rfl, _⟩ := h
    rfl
  · obtain ⟨l, ns, rfl, hS, hn, hTb, k⟩ := h
    have nd := sc_law.nd
    refine ⟨_, PSs.nox (pss_cons (ps_set (i := 1) nd rfl (Or.inl rfl) (pe_call c_deck.G (hr.mono (by decide)) rfl c_deck.g c_deck.k c_deck.b .nil pass0 (pa_cons (pv 0) pa_nil)))
      (pss_cons (ps_for PassesOwn.never rfl (pi_range1 rfl z_range (pa_cons (pe_op op_add pe_int (pe_callB (call_min2 rfl) (by rfl) z_min (by decide +kernel) (pa_cons pe_int (pa_cons (pe_callB call_len_seq (by rfl) z_len boot_len (pa_cons (pv 0) pa_nil)) pa_nil)))) pa_nil)) (pg_name (i := 2) nd rfl (Or.inl rfl))
        (pss_cons (ps_asg (pe_call c_plan.G (hr.mono (by decide)) rfl c_plan.g c_plan.k c_plan.b .nil pass0 (pa_cons (pv 1) (pa_cons pe_int pa_nil))) (pg_tup rfl (pgs_cons (pg_name (i := 3) nd rfl (Or.inl rfl)) (pgs_cons (pg_name (i := 4) nd rfl (Or.inl rfl)) pgs_nil))))
        (pss_cons (ps_set (i := 5) nd rfl (Or.inl rfl) (pe_make PC.M PC.GI (hr.mono (by decide)) rfl PC.gC b3 v3 pass0 (pa_cons (pe_callTy call_list_of (by rfl) z_list (by decide +kernel) (pa_cons (pv 3) pa_nil)) (pa_cons (pe_callTy call_list_of (by rfl) z_list (by decide +kernel) (pa_cons (pv 4) pa_nil)) pa_nil))))
        (pss_cons (ps_set (i := 8) nd rfl (Or.inr rfl) (pe_lc (own := [("name", 6), ("attributes", 7)]) (g := gTup K 2 (gCons (gName 6) (gCons (gName 7) gNil))) (tt := tYes) (te := tVar 6) rfl nd (pi_list (pv 3)) (blkOk_by (own := [("name", 6), ("attributes", 7)]) (N := N_law) (sc := defScope s_law) (by decide +kernel))
        (fun _ _ _ _ _ => pg_tup rfl (pgs_cons (pg_name (i := 6) nd rfl (Or.inl rfl)) (pgs_cons (pg_name (i := 7) nd rfl (Or.inl rfl)) pgs_nil))) (fun _ _ _ _ _ => pts_nil) (fun _ _ _ _ _ => pv 6)))
        (pss_one (ps_for PassesOwn.never rfl (pi_list (pv 3)) (pg_tup rfl (pgs_cons (pg_name (i := 6) nd rfl (Or.inl rfl)) (pgs_cons (pg_name (i := 7) nd rfl (Or.inl rfl)) pgs_nil)))
          (pss_cons (ps_set (i := 11) nd rfl (Or.inl rfl) (pe_callTy call_tuple_of (by rfl) z_tuple (by decide +kernel) (pa_cons (pe_lc (own := [("one", 9), ("way", 10)]) (g := gTup K 2 (gCons (gName 9) (gCons (gName 10) gNil))) (tt := tYes) (te := tIf (tTest (tOp rEq (tVar 10) (tC (.str "before")))) (tTup (tCons (tC .non) (tCons (tC .non) tNil))) (tC .non)) rfl nd (pi_tup (pv 7)) (blkOk_by (own := [("one", 9), ("way", 10)]) (N := N_law) (sc := defScope s_law) (by decide +kernel))
        (fun _ _ _ _ _ => pg_tup rfl (pgs_cons (pg_name (i := 9) nd rfl (Or.inl rfl)) (pgs_cons (pg_name (i := 10) nd rfl (Or.inl rfl)) pgs_nil))) (fun _ _ _ _ _ => pts_nil) (fun _ _ _ _ _ => pe_ifExp (pt_cmpR op_eq (pv 10) pe_str (nomark _)) (pe_tup (pa_cons pe_non (pa_cons pe_non pa_nil))) pe_non)) pa_nil)))
          (pss_cons (ps_if (pt_not (pt_val (pe_call c_same.G (hr.mono (by decide)) rfl c_same.g c_same.k c_same.b .nil pass0 (pa_cons (pe_call c_stretches.G (hr.mono (by decide)) rfl c_stretches.g c_stretches.k c_stretches.b .nil pass0 (pa_cons (pv 5) (pa_cons (pv 6) (pa_cons (pe_lst pa_nil) pa_nil)))) (pa_cons (pe_lst (pa_cons (pe_tup (pa_cons pe_non (pa_cons pe_non (pa_cons (pv 11) pa_nil)))) pa_nil)) pa_nil)))))
            (pss_one (ps_ret pe_bl))
            pss_nil)
          (pss_cons (ps_set (i := 12) nd rfl (Or.inl rfl) (pe_op op_cat (pe_op op_cat (pe_lc (own := [("one", 9), ("way", 10)]) (g := gTup K 2 (gCons (gName 9) (gCons (gName 10) gNil))) (tt := tYes) (te := tVar 9) rfl nd (pi_tup (pv 7)) (blkOk_by (own := [("one", 9), ("way", 10)]) (N := N_law) (sc := defScope s_law) (by decide +kernel))
        (fun _ _ _ _ _ => pg_tup rfl (pgs_cons (pg_name (i := 9) nd rfl (Or.inl rfl)) (pgs_cons (pg_name (i := 10) nd rfl (Or.inl rfl)) pgs_nil))) (fun _ _ _ _ _ => pts_nil) (fun _ _ _ _ _ => pv 9)) (pv 4)) (pe_lst (pa_cons (pe_call c_name.G (hr.mono (by decide)) rfl c_name.g c_name.k c_name.b .nil pass0 (pa_cons (pv 1) (pa_cons (pv 8) pa_nil))) pa_nil))))
          (pss_one (ps_for PassesOwn.never rfl (pi_list (pe_lc (own := [("one", 9)]) (g := gName 9) (tt := tTest (tOp (rIn K true) (tVar 9) (tVar 8))) (te := tVar 9) rfl nd (pi_list (pv 12)) (blkOk_by (own := [("one", 9)]) (N := N_law) (sc := defScope s_law) (by decide +kernel))
        (fun _ _ _ _ _ => pg_name (i := 9) nd rfl (Or.inl rfl)) (fun _ _ _ _ _ => pts_one (pt_cmpR op_notIn_seq (pv 9) (pv 8) (by rfl))) (fun _ _ _ _ _ => pv 9))) (pg_name (i := 13) nd rfl (Or.inl rfl))
            (pss_one (ps_for PassesOwn.never rfl (pi_list (pe_lst (pa_cons (pe_lst pa_nil) (pa_cons (pe_lst (pa_cons (pe_tup (pa_cons pe_int (pa_cons (pe_tup pa_nil) pa_nil))) pa_nil)) pa_nil)))) (pg_name (i := 14) nd rfl (Or.inl rfl))
              (pss_one (ps_if (pt_not (pt_val (pe_call c_same.G (hr.mono (by decide)) rfl c_same.g c_same.k c_same.b .nil pass0 (pa_cons (pe_call c_refused.G (hr.mono (by decide)) rfl c_refused.g c_refused.k c_refused.b .nil pass0 (pa_cons (pv 5) (pa_cons (pv 13) (pa_cons (pv 14) pa_nil)))) (pa_cons (pe_tup (pa_cons (pv 13) (pa_cons pe_non pa_nil))) pa_nil)))))
                (pss_one (ps_ret pe_bl))
                pss_nil)))))))))))))))
      (pss_one (ps_ret pe_bl)))), ?_⟩
    refine ⟨_, rfl, l, ns, rfl, hS, hn, fun a g H1 na ng T1 s1 => ?_⟩
    have Tb1 := hTb.ext s1
    refine set_st (σ' := [some (.ref l), some (.ref a), none, none, none, none, none, none, none, none, none, none, none, none, none]) rfl ?_
    refine ⟨_, rfl, l, _, rfl, .inl (s1.seq hS), _, _, rfl, _, _, rfl, rfl, _, rfl, ?_⟩
    obtain ⟨N, hN1, hN2⟩ := turns_of ns hn
    rw [hN2]
    refine ⟨by omega, by omega, ?_⟩
    rw [Int.toNat_natCast]
    refine for_range (lo := 0) (fun i σ H2 => ∃ (x2 x3 x4 x5 x6 x7 x8 x9 x10 x11 x12 x13 x14 : Option V), σ = [some (.ref l), some (.ref a), x2, x3, x4, x5, x6, x7, x8, x9, x10, x11, x12, x13, x14] ∧ Deck H2 a g (600 * i) ∧ Tabs [(Pt, qS)] H2) ⟨_, _, _, _, _, _, _, _, _, _, _, _, _, rfl, T1, Tb1⟩ ?_ ?_
    · rintro i σ H2 hi ⟨x2, x3, x4, x5, x6, x7, x8, x9, x10, x11, x12, x13, x14, rfl, T2, Tb2⟩
      refine ⟨_, rfl, a, g, 600 * i, 4, rfl, T2, by omega, by decide, by decide, fun r lo mo ds ms H3 hlo hmo hr3 L3 T3 s3 => ?_⟩
      obtain ⟨⟨xs, q1, q2⟩, hm3, ok⟩ := L3
      have lxs := q2.length
      have d4 := ok.d4
      refine ⟨r, _, rfl, SqT.of (ct_sub _ _ hr3), rfl, _, _, rfl, _, _, rfl, rfl, ?_⟩
      refine st_eq (σ' := [some (.ref l), some (.ref a), some (.int (0 + (i : Int))), some (.ref lo), some (.ref mo), x5, x6, x7, x8, x9, x10, x11, x12, x13, x14]) rfl ?_
      refine ⟨_, rfl, lo, xs, rfl, .inl (ct_sub.seq q1), fun hp nh => ?_⟩
      have sh : Same H3 (upd H3 hp (.lst xs)) := same_new nh
      refine ⟨_, rfl, mo, _, rfl, .inl (SqL.of (sh _ _ (ct_sub _ _ hm3))), fun bp nb => ?_⟩
      have sb : Same (upd H3 hp (.lst xs)) (upd (upd H3 hp (.lst xs)) bp (.lst (ms.map V.str))) := same_new nb
      have fh := sb _ _ (upd_same (H := H3) (a := hp) (o := .lst xs))
      have fb : upd (upd H3 hp (.lst xs)) bp (.lst (ms.map V.str)) bp = some (.lst (ms.map V.str)) := upd_same
      have s38 := sh.trans sb
      generalize upd (upd H3 hp (.lst xs)) bp (.lst (ms.map V.str)) = H8 at fh fb s38 ⊢
      refine made (T3.same s38) ⟨xs, SqL.of fh, PySem.Paired.mono (fun _ _ h => DimAt.same (ct_sub.trans s38) h) q2⟩ (.inl (SqL.of fb)) ok.szd ok.ff fun x H9 s89 pl9 => ?_
      refine set_st (σ' := [some (.ref l), some (.ref a), some (.int (0 + (i : Int))), some (.ref lo), some (.ref mo), some (.ref x), x6, x7, x8, x9, x10, x11, x12, x13, x14]) rfl ?_
      have s39 := s38.trans s89
      have T9 : Deck H9 a g (600 * i + 400) := T3.same s39
      have c39 : Same (ct a g H3) (ct a g H9) := ct_same s39
      have lo9 : SqL K (bt a g H9) lo xs := seqL_bt (c39.seq q1)
      have dm9 : Paired (DimAt K (bt a g H9)) xs ds := PySem.Paired.mono (fun _ _ h => dim_nt (DimAt.same c39 h)) q2
      have mo9 : bt a g H9 mo = some (.lst (ms.map V.str)) := nt_of (c39 _ _ hm3) (fun _ z => nomatch z)
      have Tb9 : Tabs [(Pt, qS)] H9 := Tabs.ext (tabs_draw T2 s3 Tb2) s39
      -- names
      refine ⟨_, rfl, lo, rfl, ⟨_, bt_sub2.seq lo9⟩, fun D hD => lc_build (walk_list (K := K) (a := lo)) hD (fun i ys R => Same H9 R ∧ ys = (ds.take i).map fun d => V.str d.1) ⟨Same.refl _, rfl⟩ (fun _ _ _ _ p => (bt_sub2.trans (p.1.trans cd_sub)).seq lo9) ?_ ?_⟩
      · rintro i2 ys y H4 H4' hi2 e4 ly ⟨s4, rfl⟩ ⟨rfl, hy⟩
        obtain ⟨d, hd, pp, qq, rfl, a1, a2⟩ := paired_at dm9 hy
        refine ⟨pp, _, rfl, Same.seqT (bt_sub2.trans (s4.trans cd_sub)) a1, rfl, _, _, rfl, _, _, rfl, rfl, rfl, yes ?_⟩
        exact ⟨_, rfl, LcNx.add e4 ly (by omega) ⟨s4, take_snoc9 hd⟩⟩
      · rintro ys H10 e10 ly ⟨s10, rfl⟩
        have eN0 : (ds.take xs.length).map (fun d => V.str d.1) = (ds.map (·.1)).map V.str := by
          rw [lxs, List.take_length, List.map_map]
          rfl
        rw [eN0] at e10
        have s910 : Same H9 H10 := s10.trans cd_sub
        have hDn : H9 D = none := hD
        obtain ⟨nDa, nDg⟩ := T9.na hDn
        have T10 := T9.same s910
        have Tb10 := Tabs.ext Tb9 s910
        have b910 : Same (bt a g H9) (bt a g H10) := bt_same0 s910
        have nm10 : SqL K (bt a g H10) D ((ds.map (·.1)).map V.str) := seqL_bt (SqL.of (ct_of e10 nDa nDg))
        have lo10 := b910.seq lo9
        have mo10 := b910 _ _ mo9
        have dm10 : Paired (DimAt K (bt a g H10)) xs ds := PySem.Paired.mono (fun _ _ h => DimAt.same b910 h) dm9
        have pl10 := pl9.same b910
        refine set_st (σ' := [some (.ref l), some (.ref a), some (.int (0 + (i : Int))), some (.ref lo), some (.ref mo), some (.ref x), x6, x7, some (.ref D), x9, x10, x11, x12, x13, x14]) rfl ?_
        refine ⟨_, rfl, lo, rfl, ⟨_, bt_sub2.seq lo10⟩, for_list (K := K) (a := lo) (xs := xs) (fun i2 σ H13 => ∃ (x6 x7 x9 x10 x11 x12 x13 x14 : Option V), σ = [some (.ref l), some (.ref a), some (.int (0 + (i : Int))), some (.ref lo), some (.ref mo), some (.ref x), x6, x7, some (.ref D), x9, x10, x11, x12, x13, x14] ∧ Deck H13 a g (600 * i + 400 + 12 * i2) ∧ Tabs [(Pt, qS)] H13 ∧ Same (bt a g H10) (bt a g H13)) ⟨_, _, _, _, _, _, _, _, rfl, T10, Tb10, Same.refl _⟩ (fun i2 σ H13 _ ⟨_, _, _, _, _, _, _, _, _, _, _, s13⟩ => (s13.trans bt_sub2).seq lo10) ?_ ?_⟩
        · rintro i2 y σ H13 hy ⟨x6, x7, x9, x10, x11, x12, x13, x14, rfl, T13, Tb13, s13⟩
          have hi2 := (List.getElem?_eq_some_iff.mp hy).1
          obtain ⟨d, hd, pp, qq, rfl, a1, zs, a3, a4⟩ := paired_at dm10 hy
          have lzs := a4.length
          have hdm : d ∈ ds := List.mem_of_getElem? hd
          have hal := ok.al d hdm
          have s13s := s13.trans bt_sub2
          refine ⟨pp, _, rfl, Same.seqT s13s a1, rfl, _, _, rfl, _, _, rfl, rfl, ?_⟩
          refine st_eq (σ' := [some (.ref l), some (.ref a), some (.int (0 + (i : Int))), some (.ref lo), some (.ref mo), some (.ref x), some (.str d.1), some (.ref qq), some (.ref D), x9, x10, x11, x12, x13, x14]) rfl ?_
          -- due
          refine ⟨_, rfl, qq, rfl, ⟨_, Same.seqT s13s a3⟩, fun B hB => lc_build (walk_tup (K := K) (a := qq)) hB (fun i ys R => Same H13 R ∧ DpAll K R ys ((d.2.take i).map nonD)) ⟨Same.refl _, .nil⟩ (fun _ _ _ _ p => Same.seqT (s13s.trans (p.1.trans cd_sub)) a3) ?_ ?_⟩
          · rintro j ys y H4 H4' hj e4 ly ⟨s4, hys⟩ ⟨rfl, hy⟩
            obtain ⟨at_, hat, rr, rfl, a5⟩ := paired_at a4 hy
            refine ⟨rr, _, rfl, Same.seqT (s13s.trans (s4.trans cd_sub)) a5, rfl, _, _, rfl, _, _, rfl, rfl, rfl, yes ?_⟩
            refine ⟨_, rfl, rfl, _, rfl, ?_⟩
            have ej := take_snoc9 (f := nonD) hat
            by_cases hb : at_.2 = "before"
            · rw [decide_eq_true (congrArg V.str hb)]
              refine iteT ⟨by show 2 ≤ sizeLine; decide, fun t ht => ?_⟩
              have nBt : B ≠ t := ne_of_none e4 ht
              have s5 : Same (cd B H4') (cd B (upd H4' t (.tup [.non, .non]))) := cd_same (same_new ht)
              refine LcNx.add (by rw [upd_ne nBt]; exact e4) ly (by omega) ⟨s4.trans s5, ?_⟩
              rw [← ej]
              refine DpAll.snoc9 (DpAll.same s5 _ _ hys) ?_
              unfold nonD
              rw [if_pos hb]
              exact .tup (SqT.of (cd_of upd_same nBt.symm)) (.cons .non (.cons .non .nil))
            · rw [decide_eq_false (fun z => hb (by injection z))]
              refine iteF (LcNx.add e4 ly (by omega) ⟨s4, ?_⟩)
              rw [← ej]
              refine DpAll.snoc9 hys ?_
              unfold nonD
              rw [if_neg hb]
              exact .non
          · rintro ys H14 e14 ly ⟨s14, hys⟩
            rw [lzs, List.take_length] at hys
            refine ⟨B, ys, rfl, .inl ⟨SqL.of e14, fun du ndu => ?_⟩⟩
            have s15 : Same H14 (upd H14 du (.tup ys)) := same_new ndu
            have dp15 : Dp K (upd H14 du (.tup ys)) (.ref du) (.tuple (d.2.map nonD)) := .tup (SqT.of upd_same) (DpAll.same (cd_sub.trans s15) _ _ hys)
            have s135 : Same H13 (upd H14 du (.tup ys)) := (s14.trans cd_sub).trans s15
            generalize upd H14 du (.tup ys) = H15 at s135 dp15 ⊢
            clear s15
            refine set_st (σ' := [some (.ref l), some (.ref a), some (.int (0 + (i : Int))), some (.ref lo), some (.ref mo), some (.ref x), some (.str d.1), some (.ref qq), some (.ref D), x9, x10, some (.ref du), x12, x13, x14]) rfl ?_
            have T15 := T13.same s135
            have Tb15 := Tabs.ext Tb13 s135
            refine ⟨_, rfl, _, rfl, by show 0 ≤ sizeLine; decide, fun p0 np0 => ?_⟩
            have s16 : Same H15 (upd H15 p0 (.lst [])) := same_new np0
            have f16 : upd H15 p0 (.lst []) p0 = some (.lst []) := upd_same
            generalize upd H15 p0 (.lst []) = H16 at s16 f16 ⊢
            have T16 := T15.same s16
            have b1316 : Same (bt a g H13) (bt a g H16) := bt_same0 (s135.trans s16)
            have b16 : Same (bt a g H10) (bt a g H16) := s13.trans b1316
            refine ⟨x, p0, d.1, ds, ms, d, [], rfl, pl10.same (b16.trans bt_sub2), find_at hd ok.du, ⟨[], SqL.of f16, .nil⟩, fun k hk => (nomatch hk), hal, by show 0 ≤ 200; decide, Tabs.ext Tb15 s16, fun r1 H17 eN Tb17 fr dp17 => ?_⟩
            have T17 := T16.ext eN
            have b17 : Same (bt a g H10) (bt a g H17) := b16.trans (bt_ext eN)
            have d17 : Dp K H17 (.ref du) (.tuple (d.2.map nonD)) := Dp.same ((ext_nt eN).trans nt_sub) _ _ (dp_nt _ _ (Dp.same s16 _ _ dp15))
            rw [str_none9] at dp17
            refine ⟨_, rfl, by show 3 ≤ sizeLine; decide, fun q3 nq3 => ⟨by show 1 ≤ sizeLine; decide, fun q4 nq4 => ?_⟩⟩
            have j3 := same_new (o := .tup [.non, .non, .ref du]) nq3
            have j4 := same_new (o := .lst [.ref q3]) nq4
            have w3 := j4 _ _ (upd_same (H := H17) (a := q3) (o := .tup [.non, .non, .ref du]))
            have jj := j3.trans j4
            refine ⟨_, _, _, rfl, Dp.same jj _ _ dp17, .lst (SqL.of upd_same) (.cons (.tup (SqT.of w3) (.cons .non (.cons .non (.cons (Dp.same jj _ _ d17) .nil)))) .nil), okd_none9 hal, fun H18 s18 => ⟨_, rfl, iteF ?_⟩⟩
            have s1718 : Same H17 H18 := jj.trans s18
            have T18 := T17.same s1718
            have Tb18 := Tabs.ext Tb17 s1718
            have b18 : Same (bt a g H10) (bt a g H18) := b17.trans (bt_same0 s1718)
            clear s18 jj w3 j3 j4
            -- others
            have a3' := Same.seqT (b18.trans bt_sub2) a3
            refine ⟨_, rfl, qq, rfl, ⟨_, a3'⟩, fun O hO => lc_build (walk_tup (K := K) (a := qq)) hO (fun i ys R => Same H18 R ∧ ys = (d.2.take i).map fun a => V.str a.1) ⟨Same.refl _, rfl⟩ (fun _ _ _ _ p => Same.seqT (p.1.trans cd_sub) a3') ?_ ?_⟩
            · rintro j ys y H4 H4' hj e4 ly ⟨s4, rfl⟩ ⟨rfl, hy⟩
              obtain ⟨at_, hat, rr, rfl, a5⟩ := paired_at a4 hy
              refine ⟨rr, _, rfl, Same.seqT ((b18.trans bt_sub2).trans (s4.trans cd_sub)) a5, rfl, _, _, rfl, _, _, rfl, rfl, rfl, yes ?_⟩
              exact ⟨_, rfl, LcNx.add e4 ly (by omega) ⟨s4, take_snoc9 hat⟩⟩
            · rintro ys H19 e19 ly ⟨s19, rfl⟩
              have eA : (d.2.take zs.length).map (fun d => V.str d.1) = (d.2.map (·.1)).map V.str := by
                rw [lzs, List.take_length, List.map_map]
                rfl
              rw [eA] at e19
              have s1819 : Same H18 H19 := s19.trans cd_sub
              have b19 : Same (bt a g H10) (bt a g H19) := b18.trans (bt_same0 s1819)
              have T19 := T18.same s1819
              have Tb19 := Tabs.ext Tb18 s1819
              refine ⟨_, rfl, O, mo, _, _, rfl, rfl, e19, bt_sub2 _ _ (b19 _ _ mo10), by rw [List.length_map, List.length_map, List.length_map]; exact Nat.le_trans (Nat.add_le_add hal ok.m4) (by decide), fun p2 np2 => ?_⟩
              have s20 := same_new (o := .lst ((d.2.map (·.1)).map V.str ++ ms.map V.str)) np2
              have f20 : upd H19 p2 (.lst ((d.2.map (·.1)).map V.str ++ ms.map V.str)) p2 = _ := upd_same
              obtain ⟨n2a, n2g⟩ := T19.na np2
              generalize upd H19 p2 (.lst ((d.2.map (·.1)).map V.str ++ ms.map V.str)) = H20 at s20 f20 ⊢
              have T20 := T19.same s20
              have Tb20 := Tabs.ext Tb19 s20
              have b20 : Same (bt a g H10) (bt a g H20) := b19.trans (bt_same0 s20)
              refine ⟨_, rfl, _, rfl, a, g, D, _, _, rfl, T20, by omega, (b20.trans bt_sub).seq nm10, by rw [List.length_map]; omega, fun z H21 hz hzu T21 s21 => ?_⟩
              have Tb21 := tabs_draw T20 s21 Tb20
              have b21 : Same (bt a g H10) (bt a g H21) := b20.trans (bt_same s21)
              have f21 : H21 p2 = _ := ctkeep s21 f20 n2a n2g
              refine ⟨by show 1 ≤ sizeLine; decide, fun p3 np3 => ?_⟩
              have s22 := same_new (o := .lst [.str z]) np3
              refine ⟨p2, p3, _, _, rfl, rfl, s22 _ _ f21, upd_same, by simp only [List.length_append, List.length_map, List.length_cons, List.length_nil]; exact Nat.le_trans (Nat.add_le_add (Nat.add_le_add hal ok.m4) (Nat.le_refl 1)) (by decide), fun p4 np4 => ?_⟩
              have eO : (d.2.map (·.1)).map V.str ++ ms.map V.str ++ [V.str z] = ((d.2.map (·.1)) ++ ms ++ [z]).map V.str := by simp
              rw [eO]
              have s23 := same_new (o := .lst (((d.2.map (·.1)) ++ ms ++ [z]).map V.str)) np4
              have f23 : upd (upd H21 p3 (.lst [.str z])) p4 (.lst (((d.2.map (·.1)) ++ ms ++ [z]).map V.str)) p4 = _ := upd_same
              have s2123 := s22.trans s23
              generalize upd (upd H21 p3 (.lst [.str z])) p4 (.lst (((d.2.map (·.1)) ++ ms ++ [z]).map V.str)) = H23 at s2123 f23 ⊢
              clear s22 s23
              have hoth : ∀ y ∈ (d.2.map (·.1)) ++ ms ++ [z], IsNm y := fun y hy => by
                rcases List.mem_append.mp hy with hy | hy
                · rcases List.mem_append.mp hy with hy | hy
                  · obtain ⟨at_, hat, rfl⟩ := List.mem_map.mp hy
                    exact (ok.an d hdm at_ hat).1
                  · exact ok.mn y hy
                · rw [List.mem_singleton.mp hy]
                  exact hz
              have hol : ((d.2.map (·.1)) ++ ms ++ [z]).length ≤ 10 := by
                simp only [List.length_append, List.length_map, List.length_cons, List.length_nil]
                have := ok.m4
                omega
              generalize (d.2.map (·.1)) ++ ms ++ [z] = oth at f23 hoth hol ⊢
              have T23 := T21.same s2123
              have Tb23 := Tabs.ext Tb21 s2123
              have b23 : Same (bt a g H10) (bt a g H23) := b21.trans (bt_same0 s2123)
              refine set_st (σ' := [some (.ref l), some (.ref a), some (.int (0 + (i : Int))), some (.ref lo), some (.ref mo), some (.ref x), some (.str d.1), some (.ref qq), some (.ref D), x9, x10, some (.ref du), some (.ref p4), x13, x14]) rfl ?_
              -- the others that are no names
              refine ⟨_, rfl, p4, rfl, ⟨_, SqL.of f23⟩, fun O2 hO2 => lc_build (walk_list (K := K) (a := p4)) hO2 (fun i ys R => Same H23 R ∧ ys = ((oth.take i).filter fun z => decide (z ∉ ds.map (·.1))).map V.str) ⟨Same.refl _, rfl⟩ (fun _ _ _ _ p => (p.1.trans cd_sub).seq (SqL.of f23)) ?_ ?_⟩
              · rintro j ys y H4 H4' hj e4 ly ⟨s4, rfl⟩ ⟨rfl, hy⟩
                rw [List.length_map] at hj
                obtain ⟨o, rfl, hoj⟩ := strs_at hy
                have s4' : Same H23 H4' := s4.trans cd_sub
                refine ⟨rfl, _, rfl, _, rfl, D, _, rfl, .inl ((b23.trans bt_sub2 |>.trans s4').seq nm10), rfl, flat_strs _, _, rfl, ?_⟩
                rw [inV_strs]
                have ef := take_flt9 (p := fun z => decide (z ∉ ds.map (·.1))) hoj
                by_cases c : o ∈ ds.map (·.1)
                · rw [decide_eq_true c]
                  refine iteF (LcNx.skip e4 ly ⟨s4, ?_⟩)
                  rw [ef, if_neg (by simpa using c), List.append_nil]
                · rw [decide_eq_false c]
                  refine iteT ⟨_, rfl, LcNx.add e4 ly (by omega) ⟨s4, ?_⟩⟩
                  rw [ef, if_pos (by simpa using c), List.map_append]
                  rfl
              · rintro ys H24 e24 ly ⟨s24, rfl⟩
                rw [List.length_map, List.take_length] at e24
                have s2324 : Same H23 H24 := s24.trans cd_sub
                have T24 := T23.same s2324
                have Tb24 := Tabs.ext Tb23 s2324
                have b24 : Same (bt a g H10) (bt a g H24) := b23.trans (bt_same0 s2324)
                obtain ⟨nOa, nOg⟩ := T23.na hO2
                have hgo : ∀ y ∈ oth.filter (fun z => decide (z ∉ ds.map (·.1))), IsNm y ∧ y ∉ ds.map (·.1) := fun y hy => by
                  obtain ⟨h1, h2⟩ := List.mem_filter.mp hy
                  exact ⟨hoth y h1, of_decide_eq_true h2⟩
                generalize oth.filter (fun z => decide (z ∉ ds.map (·.1))) = gos at e24 hgo ⊢
                have go24 : SqL K (bt a g H24) O2 (gos.map V.str) := seqL_bt (SqL.of (ct_of e24 nOa nOg))
                refine ⟨O2, rfl, ⟨_, SqL.of e24⟩, for_list (K := K) (a := O2) (xs := gos.map V.str) (fun i3 σ H25 => ∃ (x13 x14 : Option V), σ = [some (.ref l), some (.ref a), some (.int (0 + (i : Int))), some (.ref lo), some (.ref mo), some (.ref x), some (.str d.1), some (.ref qq), some (.ref D), x9, x10, some (.ref du), some (.ref p4), x13, x14] ∧ Same H24 H25) ⟨_, _, rfl, Same.refl _⟩ (fun i3 σ H25 _ ⟨_, _, _, s25⟩ => s25.seq (SqL.of e24)) ?_ ?_⟩
                · rintro i3 y σ H25 hy ⟨x13, x14, rfl, s25⟩
                  obtain ⟨o, rfl, ho⟩ := strs_at hy
                  obtain ⟨ho1, ho2⟩ := hgo o (List.mem_of_getElem? ho)
                  refine set_st (σ' := [some (.ref l), some (.ref a), some (.int (0 + (i : Int))), some (.ref lo), some (.ref mo), some (.ref x), some (.str d.1), some (.ref qq), some (.ref D), x9, x10, some (.ref du), some (.ref p4), some (.str o), x14]) rfl ?_
                  refine ⟨by show 0 ≤ sizeLine; decide, fun r1 nr1 => ⟨by show 0 ≤ sizeLine; decide, fun r2 nr2 => ⟨by show 2 ≤ sizeLine; decide, fun r3 nr3 => ⟨by show 1 ≤ sizeLine; decide, fun r4 nr4 => ⟨by show 2 ≤ sizeLine; decide, fun r5 nr5 => ?_⟩⟩⟩⟩⟩
                  have g1 := same_new (o := .lst []) nr1
                  have g2 := same_new (o := .tup []) nr2
                  have g3 := same_new (o := .tup [.int 1, .ref r2]) nr3
                  have g4 := same_new (o := .lst [.ref r3]) nr4
                  have g5 := same_new (o := .lst [.ref r1, .ref r4]) nr5
                  have gg := g1.trans (g2.trans (g3.trans (g4.trans g5)))
                  have f5 := upd_same (H := upd (upd (upd (upd H25 r1 (.lst [])) r2 (.tup [])) r3 (.tup [.int 1, .ref r2])) r4 (.lst [.ref r3])) (a := r5) (o := .lst [.ref r1, .ref r4])
                  generalize upd (upd (upd (upd (upd H25 r1 (.lst [])) r2 (.tup [])) r3 (.tup [.int 1, .ref r2])) r4 (.lst [.ref r3])) r5 (.lst [.ref r1, .ref r4]) = H26 at gg f5 ⊢
                  clear g1 g2 g3 g4 g5
                  have s2426 : Same H24 H26 := s25.trans gg
                  refine ⟨r5, rfl, ⟨_, SqL.of f5⟩, for_list (K := K) (a := r5) (xs := [.ref r1, .ref r4]) (fun i4 σ H27 => ∃ (x14 : Option V), σ = [some (.ref l), some (.ref a), some (.int (0 + (i : Int))), some (.ref lo), some (.ref mo), some (.ref x), some (.str d.1), some (.ref qq), some (.ref D), x9, x10, some (.ref du), some (.ref p4), some (.str o), x14] ∧ Same H26 H27) ⟨_, rfl, Same.refl _⟩ (fun i4 σ H27 _ ⟨_, _, s27⟩ => s27.seq (SqL.of f5)) ?_ ?_⟩
                  · rintro i4 y σ H27 hy ⟨x14, rfl, s27⟩
                    obtain ⟨rw_, rfl⟩ : ∃ q, y = .ref q := by
                      match i4, hy with
                      | 0, h => exact ⟨r1, (Option.some.inj h).symm⟩
                      | 1, h => exact ⟨r4, (Option.some.inj h).symm⟩
                    refine set_st (σ' := [some (.ref l), some (.ref a), some (.int (0 + (i : Int))), some (.ref lo), some (.ref mo), some (.ref x), some (.str d.1), some (.ref qq), some (.ref D), x9, x10, some (.ref du), some (.ref p4), some (.str o), some (.ref rw_)]) rfl ?_
                    have s2427 : Same H24 H27 := s2426.trans s27
                    refine ⟨_, rfl, _, rfl, _, rfl, x, rw_, o, ds, ms, rfl, pl10.same ((b24.trans bt_sub2).trans s2427), find_none9 ho2, ho1.flat9, fun t H28 s28 ht => ?_⟩
                    refine ⟨_, rfl, by show 2 ≤ sizeLine; decide, fun t2 nt2 => ?_⟩
                    have s29 := same_new (o := .tup [.str o, .non]) nt2
                    refine ⟨_, _, .tuple [.str o, .none], rfl, .tup (SqT.of (s29 _ _ ht)) (.cons (.str o) (.cons .non .nil)), .tup (SqT.of upd_same) (.cons (.str o) (.cons .non .nil)), ⟨by show 2 ≤ 4000; decide, fun d hd => ?_⟩, fun H30 s30 => ⟨_, rfl, iteF ⟨_, rfl, ((s27.trans s28).trans s29).trans s30⟩⟩⟩
                    rcases List.mem_cons.mp hd with rfl | hd
                    · exact trivial
                    · rw [List.mem_singleton.mp hd]
                      exact trivial
                  · rintro σ H27 ⟨x14, rfl, s27⟩
                    exact ⟨_, _, rfl, s2426.trans s27⟩
                · rintro σ H25 ⟨x13, x14, rfl, s25⟩
                  exact ⟨_, _, _, _, _, _, _, _, rfl, (T24.same s25).mono (by omega), Tabs.ext Tb24 s25, b24.trans (bt_same0 s25)⟩
        · rintro σ H13 ⟨x6, x7, x9, x10, x11, x12, x13, x14, rfl, T13, Tb13, s13⟩
          exact ⟨_, _, _, _, _, _, _, _, _, _, _, _, _, rfl, T13.mono (by omega), Tb13⟩
    · rintro σ H2 ⟨x2, x3, x4, x5, x6, x7, x8, x9, x10, x11, x12, x13, x14, rfl, T2, Tb2⟩
      exact k H2
end
end Kd

namespace Kd
open PySem PySem.Spec PyProof.Rows L2 LamX
def d_DayError_init : He.DefD := ⟨("DayError", some "__init__"), "__init__", "DayError.__init__", defArgs s_DayError_init, defBody s_DayError_init, defScope s_DayError_init, [], []⟩
def d_NoPlan_init : He.DefD := ⟨("NoPlan", some "__init__"), "__init__", "NoPlan.__init__", defArgs s_NoPlan_init, defBody s_NoPlan_init, defScope s_NoPlan_init, [], []⟩
def d_NoRow_init : He.DefD := ⟨("NoRow", some "__init__"), "__init__", "NoRow.__init__", defArgs s_NoRow_init, defBody s_NoRow_init, defScope s_NoRow_init, [], []⟩
def d_NoFact_init : He.DefD := ⟨("NoFact", some "__init__"), "__init__", "NoFact.__init__", defArgs s_NoFact_init, defBody s_NoFact_init, defScope s_NoFact_init, [], []⟩
def d_NoThing_init : He.DefD := ⟨("NoThing", some "__init__"), "__init__", "NoThing.__init__", defArgs s_NoThing_init, defBody s_NoThing_init, defScope s_NoThing_init, [], []⟩
def d_Twice_init : He.DefD := ⟨("Twice", some "__init__"), "__init__", "Twice.__init__", defArgs s_Twice_init, defBody s_Twice_init, defScope s_Twice_init, [], []⟩
def d_NoGroup_init : He.DefD := ⟨("NoGroup", some "__init__"), "__init__", "NoGroup.__init__", defArgs s_NoGroup_init, defBody s_NoGroup_init, defScope s_NoGroup_init, [], []⟩
def d_NoMeasure_init : He.DefD := ⟨("NoMeasure", some "__init__"), "__init__", "NoMeasure.__init__", defArgs s_NoMeasure_init, defBody s_NoMeasure_init, defScope s_NoMeasure_init, [], []⟩
def d_NoWatch_init : He.DefD := ⟨("NoWatch", some "__init__"), "__init__", "NoWatch.__init__", defArgs s_NoWatch_init, defBody s_NoWatch_init, defScope s_NoWatch_init, [], []⟩
def d_NoTime_init : He.DefD := ⟨("NoTime", some "__init__"), "__init__", "NoTime.__init__", defArgs s_NoTime_init, defBody s_NoTime_init, defScope s_NoTime_init, [], []⟩
def d_NoText_init : He.DefD := ⟨("NoText", some "__init__"), "__init__", "NoText.__init__", defArgs s_NoText_init, defBody s_NoText_init, defScope s_NoText_init, [], []⟩
def d_NoDeskRow_init : He.DefD := ⟨("NoDeskRow", some "__init__"), "__init__", "NoDeskRow.__init__", defArgs s_NoDeskRow_init, defBody s_NoDeskRow_init, defScope s_NoDeskRow_init, [], []⟩
def d_is_name : He.DefD := ⟨("is_name", none), "is_name", "is_name", defArgs s_is_name, defBody s_is_name, defScope s_is_name, [], []⟩
def d_is_made_of : He.DefD := ⟨("is_made_of", none), "is_made_of", "is_made_of", defArgs s_is_made_of, defBody s_is_made_of, defScope s_is_made_of, [], []⟩
def d_Plan_init : He.DefD := ⟨("Plan", some "__init__"), "__init__", "Plan.__init__", defArgs s_Plan_init, defBody s_Plan_init, defScope s_Plan_init, [.adr (He.dflAt ("Plan", some "__init__") 0)], []⟩
def d_Plan_dimensions : He.DefD := ⟨("Plan", some "dimensions"), "dimensions", "Plan.dimensions", defArgs s_Plan_dimensions, defBody s_Plan_dimensions, defScope s_Plan_dimensions, [], []⟩
def d_Plan_measures : He.DefD := ⟨("Plan", some "measures"), "measures", "Plan.measures", defArgs s_Plan_measures, defBody s_Plan_measures, defScope s_Plan_measures, [], []⟩
def d_Plan_eq : He.DefD := ⟨("Plan", some "__eq__"), "__eq__", "Plan.__eq__", defArgs s_Plan_eq, defBody s_Plan_eq, defScope s_Plan_eq, [], []⟩
def d_Plan_ne : He.DefD := ⟨("Plan", some "__ne__"), "__ne__", "Plan.__ne__", defArgs s_Plan_ne, defBody s_Plan_ne, defScope s_Plan_ne, [], []⟩
def d_first_fault : He.DefD := ⟨("first_fault", none), "first_fault", "first_fault", defArgs s_first_fault, defBody s_first_fault, defScope s_first_fault, [], []⟩
def d_are_faulty : He.DefD := ⟨("are_faulty", none), "are_faulty", "are_faulty", defArgs s_are_faulty, defBody s_are_faulty, defScope s_are_faulty, [], []⟩
def d_attributes_of : He.DefD := ⟨("attributes_of", none), "attributes_of", "attributes_of", defArgs s_attributes_of, defBody s_attributes_of, defScope s_attributes_of, [], []⟩
def d_stretches : He.DefD := ⟨("stretches", none), "stretches", "stretches", defArgs s_stretches, defBody s_stretches, defScope s_stretches, [], []⟩
def d_opening_kinds : He.DefD := ⟨("opening_kinds", none), "opening_kinds", "opening_kinds", defArgs s_opening_kinds, defBody s_opening_kinds, defScope s_opening_kinds, [], []⟩
def d_changes_day : He.DefD := ⟨("changes_day", none), "changes_day", "changes_day", defArgs s_changes_day, defBody s_changes_day, defScope s_changes_day, [], []⟩
def d_version_values : He.DefD := ⟨("version_values", none), "version_values", "version_values", defArgs s_version_values, defBody s_version_values, defScope s_version_values, [], []⟩
def d_day_value : He.DefD := ⟨("day_value", none), "day_value", "day_value", defArgs s_day_value, defBody s_day_value, defScope s_day_value, [], []⟩
def d_steady_value : He.DefD := ⟨("steady_value", none), "steady_value", "steady_value", defArgs s_steady_value, defBody s_steady_value, defScope s_steady_value, [], []⟩
def d_last_and_unlike : He.DefD := ⟨("last_and_unlike", none), "last_and_unlike", "last_and_unlike", defArgs s_last_and_unlike, defBody s_last_and_unlike, defScope s_last_and_unlike, [], []⟩
def d_l_deck : He.DefD := ⟨("_law_deck", none), "_law_deck", "_law_deck", defArgs s_l_deck, defBody s_l_deck, defScope s_l_deck, [], []⟩
def d_l_take : He.DefD := ⟨("_law_take", none), "_law_take", "_law_take", defArgs s_l_take, defBody s_l_take, defScope s_l_take, [], []⟩
def d_l_name : He.DefD := ⟨("_law_name", none), "_law_name", "_law_name", defArgs s_l_name, defBody s_l_name, defScope s_l_name, [], []⟩
def d_l_names : He.DefD := ⟨("_law_names", none), "_law_names", "_law_names", defArgs s_l_names, defBody s_l_names, defScope s_l_names, [], []⟩
def d_l_one_of : He.DefD := ⟨("_law_one_of", none), "_law_one_of", "_law_one_of", defArgs s_l_one_of, defBody s_l_one_of, defScope s_l_one_of, [], []⟩
def d_l_plan : He.DefD := ⟨("_law_plan", none), "_law_plan", "_law_plan", defArgs s_l_plan, defBody s_l_plan, defScope s_l_plan, [], []⟩
def d_l_day : He.DefD := ⟨("_law_day", none), "_law_day", "_law_day", defArgs s_l_day, defBody s_l_day, defScope s_l_day, [], []⟩
def d_l_value : He.DefD := ⟨("_law_value", none), "_law_value", "_law_value", defArgs s_l_value, defBody s_l_value, defScope s_l_value, [], []⟩
def d_l_values : He.DefD := ⟨("_law_values", none), "_law_values", "_law_values", defArgs s_l_values, defBody s_l_values, defScope s_l_values, [], []⟩
def d_l_same : He.DefD := ⟨("_law_same", none), "_law_same", "_law_same", defArgs s_l_same, defBody s_l_same, defScope s_l_same, [], []⟩
def d_l_refused : He.DefD := ⟨("_law_refused", none), "_law_refused", "_law_refused", defArgs s_l_refused, defBody s_l_refused, defScope s_l_refused, [], []⟩
def d_law : He.DefD := ⟨("law", none), "law", "law", defArgs s_law, defBody s_law, defScope s_law, [], []⟩
def fn : List He.DefD := [d_DayError_init, d_NoPlan_init, d_NoRow_init, d_NoFact_init, d_NoThing_init, d_Twice_init, d_NoGroup_init, d_NoMeasure_init, d_NoWatch_init, d_NoTime_init, d_NoText_init, d_NoDeskRow_init, d_is_name, d_is_made_of, d_Plan_init, d_Plan_dimensions, d_Plan_measures, d_Plan_eq, d_Plan_ne, d_first_fault, d_are_faulty, d_attributes_of, d_stretches, d_opening_kinds, d_changes_day, d_version_values, d_day_value, d_steady_value, d_last_and_unlike, d_l_deck, d_l_take, d_l_name, d_l_names, d_l_one_of, d_l_plan, d_l_day, d_l_value, d_l_values, d_l_same, d_l_refused, d_law]
def fa : List He.Fa := [(.glo "DayError" : He.Fa), (.glo "NoPlan" : He.Fa), (.glo "NoRow" : He.Fa), (.glo "NoFact" : He.Fa), (.glo "NoThing" : He.Fa), (.glo "Twice" : He.Fa), (.glo "NoGroup" : He.Fa), (.glo "NoMeasure" : He.Fa), (.glo "NoWatch" : He.Fa), (.glo "NoTime" : He.Fa), (.glo "NoText" : He.Fa), (.glo "NoDeskRow" : He.Fa), (.glo "Plan" : He.Fa), (.glo "is_name" : He.Fa), (.glo "is_made_of" : He.Fa), (.glo "first_fault" : He.Fa), (.glo "are_faulty" : He.Fa), (.glo "attributes_of" : He.Fa), (.glo "stretches" : He.Fa), (.glo "opening_kinds" : He.Fa), (.glo "changes_day" : He.Fa), (.glo "version_values" : He.Fa), (.glo "day_value" : He.Fa), (.glo "steady_value" : He.Fa), (.glo "last_and_unlike" : He.Fa), (.glo "_law_deck" : He.Fa), (.glo "_law_take" : He.Fa), (.glo "_law_name" : He.Fa), (.glo "_law_names" : He.Fa), (.glo "_law_one_of" : He.Fa), (.glo "_law_plan" : He.Fa), (.glo "_law_day" : He.Fa), (.glo "_law_value" : He.Fa), (.glo "_law_values" : He.Fa), (.glo "_law_same" : He.Fa), (.glo "_law_refused" : He.Fa), (.glo "law" : He.Fa), (.str "SMALL_LETTERS" "abcdefghijklmnopqrstuvwxyz" : He.Fa), (.int "LONGEST_NAME" 8 : He.Fa), (.int "MOST_DIMENSIONS" 4 : He.Fa), (.int "MOST_ATTRIBUTES" 5 : He.Fa), (.int "MOST_MEASURES" 4 : He.Fa), (.free "ValueError" : He.Fa), (.free "abs" : He.Fa), (.free "all" : He.Fa), (.free "any" : He.Fa), (.free "bool" : He.Fa), (.free "enumerate" : He.Fa), (.free "int" : He.Fa), (.free "isinstance" : He.Fa), (.free "len" : He.Fa), (.free "list" : He.Fa), (.free "min" : He.Fa), (.free "range" : He.Fa), (.free "repr" : He.Fa), (.free "set" : He.Fa), (.free "sorted" : He.Fa), (.free "str" : He.Fa), (.free "tuple" : He.Fa), (.free "zip" : He.Fa), (.cls "Plan" : He.Fa), (.mkr "Plan" : He.Fa), (.noat "Plan" "dimension_list" : He.Fa), (.noat "Plan" "measure_list" : He.Fa), (.meth "Plan" "dimensions" : He.Fa), (.meth "Plan" "measures" : He.Fa), (.meth "Plan" "__eq__" : He.Fa), (.meth "Plan" "__ne__" : He.Fa)]
def loose : List PySem.Str := [("DayError" : PySem.Str), ("NoPlan" : PySem.Str), ("NoRow" : PySem.Str), ("NoFact" : PySem.Str), ("NoThing" : PySem.Str), ("Twice" : PySem.Str), ("NoGroup" : PySem.Str), ("NoMeasure" : PySem.Str), ("NoWatch" : PySem.Str), ("NoTime" : PySem.Str), ("NoText" : PySem.Str), ("NoDeskRow" : PySem.Str), ("SMALL_LETTERS" : PySem.Str), ("LONGEST_NAME" : PySem.Str), ("is_name" : PySem.Str), ("is_made_of" : PySem.Str), ("MOST_DIMENSIONS" : PySem.Str), ("MOST_ATTRIBUTES" : PySem.Str), ("MOST_MEASURES" : PySem.Str), ("Plan" : PySem.Str), ("first_fault" : PySem.Str), ("are_faulty" : PySem.Str), ("attributes_of" : PySem.Str), ("stretches" : PySem.Str), ("opening_kinds" : PySem.Str), ("changes_day" : PySem.Str), ("version_values" : PySem.Str), ("day_value" : PySem.Str), ("steady_value" : PySem.Str), ("last_and_unlike" : PySem.Str), ("_law_deck" : PySem.Str), ("_law_take" : PySem.Str), ("_law_name" : PySem.Str), ("_law_names" : PySem.Str), ("_law_one_of" : PySem.Str), ("_law_plan" : PySem.Str), ("_law_day" : PySem.Str), ("_law_value" : PySem.Str), ("_law_values" : PySem.Str), ("_law_same" : PySem.Str), ("_law_refused" : PySem.Str)]
/-! ### the head: the facts, and that a def's default is the empty tuple -/
def exB0 (K : PySem.W.Frag) : Bool := match K.lookup (He.dflAt ("Plan", some "__init__") 0 K) with
  | some ⟨.type c, _, .seq its _, _⟩ => decide (c = "tuple") && decide (its.toList = [])
  | _ => false
theorem exB0_ok {K : PySem.W.Frag} (h : exB0 K = true) (H : Hp) : SqT K H (He.dflAt ("Plan", some "__init__") 0 K) [] := by
  unfold exB0 at h
  cases q : K.lookup (He.dflAt ("Plan", some "__init__") 0 K) with
  | none => rw [q] at h; cases h
  | some o =>
    obtain ⟨oc, od, dt, sl⟩ := o
    rw [q] at h
    cases oc with
    | type c =>
      cases dt with
      | seq its n =>
        obtain ⟨h1, h2⟩ := He.ba (show (decide (c = "tuple") && decide (its.toList = [])) = true from h)
        have h3 : its.toList = [] := of_decide_eq_true h2
        refine .inr ⟨_, its, n, q, congrArg Value.type (of_decide_eq_true h1), rfl, ?_, by rw [h3]; exact .nil⟩
        have h4 : its.size = 0 := by rw [← Array.length_toList, h3]; rfl
        rw [h4]
        exact Nat.zero_le _
      | _ => cases h
    | _ => cases dt <;> cases h
def exO (K : PySem.W.Frag) : List Addr := [He.ga K "NoDeskRow", He.ga K "NoFact", He.ga K "NoGroup", He.ga K "NoMeasure", He.ga K "NoPlan", He.ga K "NoRow", He.ga K "NoText", He.ga K "NoTime", He.ga K "NoWatch", He.ga K "Twice"]
def exX (K : PySem.W.Frag) : Bool := decide (PySem.W.exmOne K (.ref (He.ga K "NoThing")) (.ref (He.ga K "DayError")) = some true) && (decide (PySem.W.kitOne K (.ref (He.ga K "NoThing")) (.ref (He.ga K "NoThing")) = some true) && (decide (PySem.W.kitOne K (.ref (He.ga K "NoThing")) (.type "ValueError") = some true) && (decide (PySem.W.kitAny K (.ref (He.ga K "NoThing")) ((exO K).map Value.ref) = some false) && (KdXc.cfnB K (He.ga K "DayError") (He.fAd K ("DayError", some "__init__")) "__init__" && (KdXc.veB K && (KdXc.errB K (He.ga K "NoThing") (He.fAd K ("NoThing", some "__init__"))))))))
def exB (K : PySem.W.Frag) : Bool := exB0 K && exX K
theorem exB_ok {K : PySem.W.Frag} (h : exB K = true) (H : Hp) : SqT K H (He.dflAt ("Plan", some "__init__") 0 K) [] := exB0_ok (He.ba h).1 H
def tf : List He.Defn := [("stretches", none)]
def asC (g : Addr → Option Obj) : List Addr := He.asD g 6 ++ [cStatics]
def obY (g : Addr → Option Obj) (as : List Addr) : He.AlX := (He.obsT fa fn [] (He.frT g as), exB (He.frT g as) && He.tabsB g tf (He.frT g as))
theorem saysY {w : World} {h : Heap} {as : List Addr} (e : obY h.get? as = He.valX fn [] w) : He.SaysX fa fn [] tf exB w h (He.frT h.get? as) := by
  have e2 : (exB (He.frT h.get? as) && He.tabsB h.get? tf (He.frT h.get? as)) = true := congrArg Prod.snd e
  obtain ⟨u1, u2⟩ := He.ba e2
  have u3 : ∀ p ∈ tf, PySem.W.codeHdIn (He.frT h.get? as) (He.cT (He.frT h.get? as) p).1 (He.cT (He.frT h.get? as) p).2 = true ∧ ∃ o, h.get? (He.cT (He.frT h.get? as) p).2 = some o ∧ He.emptyTab o = true := fun p hp => by
    obtain ⟨u4, u5⟩ := He.ba (List.all_eq_true.mp u2 p hp)
    cases q : h.get? (He.cT (He.frT h.get? as) p).2 with
    | none => rw [q] at u5; cases u5
    | some o => rw [q] at u5; exact ⟨u4, o, rfl, u5⟩
  refine ⟨congrArg Prod.fst e, u1, fun p hp => (u3 p hp).1, fun p hp => ?_, fun p hp => ?_⟩
  · obtain ⟨_, o, q, z⟩ := u3 p hp
    exact He.frT_none q z
  · obtain ⟨_, o, q, z⟩ := u3 p hp
    rw [q, He.emptyTab_eq z]
def hkE : PySem.W.Hook where
  α := He.AlX
  obs := fun s => obY s.heap.get? (asC s.heap.get?)
  val := fun u => He.valX fn [] u
  says := fun u h => ∃ K : PySem.W.Frag, K.In h ∧ He.SaysX fa fn [] tf exB u h K
  of := fun _ _ q => ⟨_, He.frT_in, saysY q⟩
  keeps := fun _ _ _ ⟨K, u1, u2⟩ u3 => ⟨K, PySem.W.Frag.In.keeps u1 u3, ⟨u2.t, u2.more, u2.hd, u2.out, fun p hp => u3 _ _ (u2.empty p hp)⟩⟩
abbrev R : PySem.W.OpenRow := PySem.W.OpenLaw.row PySem.Challenge.rw_kindsofday_k09_nothing_kept
def ob (s : PySem.W.SharedT) : He.AlX := obY (HandSHeadRun.getT s) (asC (HandSHeadRun.getT s))
theorem ob_eq (s : PySem.W.SharedT) : ob s = hkE.obs s.abs := by
  have e : HandSHeadRun.getT s = s.abs.heap.get? := funext (HandSHeadRun.getT_eq s)
  unfold ob
  rw [e]
  rfl
theorem run (w : World) : HandSHeadRun.RunEq R (PySem.W.view R.prog [46]) hkE ob 9000 loose w := by
  intro os
  kernel_rfl
theorem code_at {K : PySem.W.Frag} {x qual : Str} {ps : Arguments} {bd : List Stmt} {sc : Scope} {dv : List V} {kw : List (Str × V)} {p : Str × Option Str} {fd : FuncData} (F : FunD K x qual ps bd sc dv kw (He.fAd K p) fd) : fd.code = .ref (He.cT K p).1 := by
  obtain ⟨oc, od, dV, kV, doc, pm, an, cdv, ct, osl, rfl, lk, hcd, _, _⟩ := F.ex
  obtain ⟨c, e⟩ := He.codeIn_ref hcd
  subst e
  have q := He.codeOf_eq (c := c) lk rfl
  show Value.ref c = Value.ref (He.codeOf K p)
  rw [q]
theorem facts {P : Program} {w : World} {K : PySem.W.Frag} {h : Heap} {mg : Str → Option Value} {f : Addr} (X : K.In h) (G : h.Ns mainGlobals mg) (hfa : mg ("law" : Str) = some (.ref f)) (c : He.SaysD fa fn K) (ce : exB K = true) :
    ∃ fd : FuncData, (∀ (s : Shared) (v : Value), BindsTo s fd ⟨[v], []⟩ [("script", v)]) ∧ ∀ base : Heap, K.In base → base.Ns mainGlobals mg → (∀ p ∈ tf, TabB base mg (He.cT K p).1 (He.cT K p).2) → FnOk P w K mg base CX0 8 f fd ["script"] (spLaw K (He.cT K ("stretches", none)).2) := by
  obtain ⟨fd_DayError_init, F_DayError_init⟩ := c.def_ 0 (d := d_DayError_init) rfl
  obtain ⟨fd_NoPlan_init, F_NoPlan_init⟩ := c.def_ 1 (d := d_NoPlan_init) rfl
  obtain ⟨fd_NoRow_init, F_NoRow_init⟩ := c.def_ 2 (d := d_NoRow_init) rfl
  obtain ⟨fd_NoFact_init, F_NoFact_init⟩ := c.def_ 3 (d := d_NoFact_init) rfl
  obtain ⟨fd_NoThing_init, F_NoThing_init⟩ := c.def_ 4 (d := d_NoThing_init) rfl
  obtain ⟨fd_Twice_init, F_Twice_init⟩ := c.def_ 5 (d := d_Twice_init) rfl
  obtain ⟨fd_NoGroup_init, F_NoGroup_init⟩ := c.def_ 6 (d := d_NoGroup_init) rfl
  obtain ⟨fd_NoMeasure_init, F_NoMeasure_init⟩ := c.def_ 7 (d := d_NoMeasure_init) rfl
  obtain ⟨fd_NoWatch_init, F_NoWatch_init⟩ := c.def_ 8 (d := d_NoWatch_init) rfl
  obtain ⟨fd_NoTime_init, F_NoTime_init⟩ := c.def_ 9 (d := d_NoTime_init) rfl
  obtain ⟨fd_NoText_init, F_NoText_init⟩ := c.def_ 10 (d := d_NoText_init) rfl
  obtain ⟨fd_NoDeskRow_init, F_NoDeskRow_init⟩ := c.def_ 11 (d := d_NoDeskRow_init) rfl
  obtain ⟨fd_is_name, F_is_name⟩ := c.def_ 12 (d := d_is_name) rfl
  obtain ⟨fd_is_made_of, F_is_made_of⟩ := c.def_ 13 (d := d_is_made_of) rfl
  obtain ⟨fd_Plan_init, F_Plan_init⟩ := c.def_ 14 (d := d_Plan_init) rfl
  obtain ⟨fd_Plan_dimensions, F_Plan_dimensions⟩ := c.def_ 15 (d := d_Plan_dimensions) rfl
  obtain ⟨fd_Plan_measures, F_Plan_measures⟩ := c.def_ 16 (d := d_Plan_measures) rfl
  obtain ⟨fd_Plan_eq, F_Plan_eq⟩ := c.def_ 17 (d := d_Plan_eq) rfl
  obtain ⟨fd_Plan_ne, F_Plan_ne⟩ := c.def_ 18 (d := d_Plan_ne) rfl
  obtain ⟨fd_first_fault, F_first_fault⟩ := c.def_ 19 (d := d_first_fault) rfl
  obtain ⟨fd_are_faulty, F_are_faulty⟩ := c.def_ 20 (d := d_are_faulty) rfl
  obtain ⟨fd_attributes_of, F_attributes_of⟩ := c.def_ 21 (d := d_attributes_of) rfl
  obtain ⟨fd_stretches, F_stretches⟩ := c.def_ 22 (d := d_stretches) rfl
  obtain ⟨fd_opening_kinds, F_opening_kinds⟩ := c.def_ 23 (d := d_opening_kinds) rfl
  obtain ⟨fd_changes_day, F_changes_day⟩ := c.def_ 24 (d := d_changes_day) rfl
  obtain ⟨fd_version_values, F_version_values⟩ := c.def_ 25 (d := d_version_values) rfl
  obtain ⟨fd_day_value, F_day_value⟩ := c.def_ 26 (d := d_day_value) rfl
  obtain ⟨fd_steady_value, F_steady_value⟩ := c.def_ 27 (d := d_steady_value) rfl
  obtain ⟨fd_last_and_unlike, F_last_and_unlike⟩ := c.def_ 28 (d := d_last_and_unlike) rfl
  obtain ⟨fd_l_deck, F_l_deck⟩ := c.def_ 29 (d := d_l_deck) rfl
  obtain ⟨fd_l_take, F_l_take⟩ := c.def_ 30 (d := d_l_take) rfl
  obtain ⟨fd_l_name, F_l_name⟩ := c.def_ 31 (d := d_l_name) rfl
  obtain ⟨fd_l_names, F_l_names⟩ := c.def_ 32 (d := d_l_names) rfl
  obtain ⟨fd_l_one_of, F_l_one_of⟩ := c.def_ 33 (d := d_l_one_of) rfl
  obtain ⟨fd_l_plan, F_l_plan⟩ := c.def_ 34 (d := d_l_plan) rfl
  obtain ⟨fd_l_day, F_l_day⟩ := c.def_ 35 (d := d_l_day) rfl
  obtain ⟨fd_l_value, F_l_value⟩ := c.def_ 36 (d := d_l_value) rfl
  obtain ⟨fd_l_values, F_l_values⟩ := c.def_ 37 (d := d_l_values) rfl
  obtain ⟨fd_l_same, F_l_same⟩ := c.def_ 38 (d := d_l_same) rfl
  obtain ⟨fd_l_refused, F_l_refused⟩ := c.def_ 39 (d := d_l_refused) rfl
  obtain ⟨fd_law, F_law⟩ := c.def_ 40 (d := d_law) rfl
  have e := hfa.symm.trans (He.glo_ok X G (c.fact 36 (f := .glo "law") rfl))
  cases e
  have b := FunD.bindsA (ps := ["script"]) F_law fun _ _ _ _ _ _ us hl => match us, hl with | [_], _ => rfl
  have b_DayError_init : Binds K fd_DayError_init ["self", "what"] [] := FunD.bindsN F_DayError_init fun _ _ _ _ _ _ us hl => match us, hl with | [_, _], _ => rfl
  have b_NoPlan_init : Binds K fd_NoPlan_init ["self", "what"] [] := FunD.bindsN F_NoPlan_init fun _ _ _ _ _ _ us hl => match us, hl with | [_, _], _ => rfl
  have b_NoRow_init : Binds K fd_NoRow_init ["self", "what"] [] := FunD.bindsN F_NoRow_init fun _ _ _ _ _ _ us hl => match us, hl with | [_, _], _ => rfl
  have b_NoFact_init : Binds K fd_NoFact_init ["self", "what"] [] := FunD.bindsN F_NoFact_init fun _ _ _ _ _ _ us hl => match us, hl with | [_, _], _ => rfl
  have b_NoThing_init : Binds K fd_NoThing_init ["self", "what"] [] := FunD.bindsN F_NoThing_init fun _ _ _ _ _ _ us hl => match us, hl with | [_, _], _ => rfl
  have b_Twice_init : Binds K fd_Twice_init ["self", "what"] [] := FunD.bindsN F_Twice_init fun _ _ _ _ _ _ us hl => match us, hl with | [_, _], _ => rfl
  have b_NoGroup_init : Binds K fd_NoGroup_init ["self", "what"] [] := FunD.bindsN F_NoGroup_init fun _ _ _ _ _ _ us hl => match us, hl with | [_, _], _ => rfl
  have b_NoMeasure_init : Binds K fd_NoMeasure_init ["self", "what"] [] := FunD.bindsN F_NoMeasure_init fun _ _ _ _ _ _ us hl => match us, hl with | [_, _], _ => rfl
  have b_NoWatch_init : Binds K fd_NoWatch_init ["self", "what"] [] := FunD.bindsN F_NoWatch_init fun _ _ _ _ _ _ us hl => match us, hl with | [_, _], _ => rfl
  have b_NoTime_init : Binds K fd_NoTime_init ["self", "what"] [] := FunD.bindsN F_NoTime_init fun _ _ _ _ _ _ us hl => match us, hl with | [_, _], _ => rfl
  have b_NoText_init : Binds K fd_NoText_init ["self", "what"] [] := FunD.bindsN F_NoText_init fun _ _ _ _ _ _ us hl => match us, hl with | [_, _], _ => rfl
  have b_NoDeskRow_init : Binds K fd_NoDeskRow_init ["self", "what"] [] := FunD.bindsN F_NoDeskRow_init fun _ _ _ _ _ _ us hl => match us, hl with | [_, _], _ => rfl
  have b_is_name : Binds K fd_is_name ["text"] [] := FunD.bindsN F_is_name fun _ _ _ _ _ _ us hl => match us, hl with | [_], _ => rfl
  have b_is_made_of : Binds K fd_is_made_of ["text", "signs"] [] := FunD.bindsN F_is_made_of fun _ _ _ _ _ _ us hl => match us, hl with | [_, _], _ => rfl
  have b_Plan_dimensions : Binds K fd_Plan_dimensions ["self"] [] := FunD.bindsN F_Plan_dimensions fun _ _ _ _ _ _ us hl => match us, hl with | [_], _ => rfl
  have b_Plan_measures : Binds K fd_Plan_measures ["self"] [] := FunD.bindsN F_Plan_measures fun _ _ _ _ _ _ us hl => match us, hl with | [_], _ => rfl
  have b_Plan_eq : Binds K fd_Plan_eq ["self", "other"] [] := FunD.bindsN F_Plan_eq fun _ _ _ _ _ _ us hl => match us, hl with | [_, _], _ => rfl
  have b_Plan_ne : Binds K fd_Plan_ne ["self", "other"] [] := FunD.bindsN F_Plan_ne fun _ _ _ _ _ _ us hl => match us, hl with | [_, _], _ => rfl
  have b_first_fault : Binds K fd_first_fault ["dimensions", "measures"] [] := FunD.bindsN F_first_fault fun _ _ _ _ _ _ us hl => match us, hl with | [_, _], _ => rfl
  have b_are_faulty : Binds K fd_are_faulty ["names", "most"] [] := FunD.bindsN F_are_faulty fun _ _ _ _ _ _ us hl => match us, hl with | [_, _], _ => rfl
  have b_attributes_of : Binds K fd_attributes_of ["plan", "dimension"] [] := FunD.bindsN F_attributes_of fun _ _ _ _ _ _ us hl => match us, hl with | [_, _], _ => rfl
  have b_stretches : Binds K fd_stretches ["plan", "dimension", "kinds"] [] := FunD.bindsN F_stretches fun _ _ _ _ _ _ us hl => match us, hl with | [_, _, _], _ => rfl
  have b_opening_kinds : Binds K fd_opening_kinds ["ways", "ordered"] [] := FunD.bindsN F_opening_kinds fun _ _ _ _ _ _ us hl => match us, hl with | [_, _], _ => rfl
  have b_changes_day : Binds K fd_changes_day ["ways", "old", "new"] [] := FunD.bindsN F_changes_day fun _ _ _ _ _ _ us hl => match us, hl with | [_, _, _], _ => rfl
  have b_version_values : Binds K fd_version_values ["ways", "steady", "opening"] [] := FunD.bindsN F_version_values fun _ _ _ _ _ _ us hl => match us, hl with | [_, _, _], _ => rfl
  have b_day_value : Binds K fd_day_value ["at", "opening"] [] := FunD.bindsN F_day_value fun _ _ _ _ _ _ us hl => match us, hl with | [_, _], _ => rfl
  have b_steady_value : Binds K fd_steady_value ["way", "column"] [] := FunD.bindsN F_steady_value fun _ _ _ _ _ _ us hl => match us, hl with | [_, _], _ => rfl
  have b_last_and_unlike : Binds K fd_last_and_unlike ["column"] [] := FunD.bindsN F_last_and_unlike fun _ _ _ _ _ _ us hl => match us, hl with | [_], _ => rfl
  have b_l_deck : Binds K fd_l_deck ["script"] [] := FunD.bindsN F_l_deck fun _ _ _ _ _ _ us hl => match us, hl with | [_], _ => rfl
  have b_l_take : Binds K fd_l_take ["deck", "many"] [] := FunD.bindsN F_l_take fun _ _ _ _ _ _ us hl => match us, hl with | [_, _], _ => rfl
  have b_l_name : Binds K fd_l_name ["deck", "used"] [] := FunD.bindsN F_l_name fun _ _ _ _ _ _ us hl => match us, hl with | [_, _], _ => rfl
  have b_l_names : Binds K fd_l_names ["deck", "many"] [] := FunD.bindsN F_l_names fun _ _ _ _ _ _ us hl => match us, hl with | [_, _], _ => rfl
  have b_l_one_of : Binds K fd_l_one_of ["deck", "some"] [] := FunD.bindsN F_l_one_of fun _ _ _ _ _ _ us hl => match us, hl with | [_, _], _ => rfl
  have b_l_plan : Binds K fd_l_plan ["deck", "most"] [] := FunD.bindsN F_l_plan fun _ _ _ _ _ _ us hl => match us, hl with | [_, _], _ => rfl
  have b_l_day : Binds K fd_l_day ["deck"] [] := FunD.bindsN F_l_day fun _ _ _ _ _ _ us hl => match us, hl with | [_], _ => rfl
  have b_l_value : Binds K fd_l_value ["deck"] [] := FunD.bindsN F_l_value fun _ _ _ _ _ _ us hl => match us, hl with | [_], _ => rfl
  have b_l_values : Binds K fd_l_values ["deck", "attributes"] [] := FunD.bindsN F_l_values fun _ _ _ _ _ _ us hl => match us, hl with | [_, _], _ => rfl
  have b_l_same : Binds K fd_l_same ["found", "due"] [] := FunD.bindsN F_l_same fun _ _ _ _ _ _ us hl => match us, hl with | [_, _], _ => rfl
  have b_l_refused : Binds K fd_l_refused ["scheme", "name", "rows"] [] := FunD.bindsN F_l_refused fun _ _ _ _ _ _ us hl => match us, hl with | [_, _, _], _ => rfl
  have g_DayError := He.glo_ok X G (c.fact 0 (f := .glo "DayError") rfl)
  have g_NoPlan := He.glo_ok X G (c.fact 1 (f := .glo "NoPlan") rfl)
  have g_NoRow := He.glo_ok X G (c.fact 2 (f := .glo "NoRow") rfl)
  have g_NoFact := He.glo_ok X G (c.fact 3 (f := .glo "NoFact") rfl)
  have g_NoThing := He.glo_ok X G (c.fact 4 (f := .glo "NoThing") rfl)
  have g_Twice := He.glo_ok X G (c.fact 5 (f := .glo "Twice") rfl)
  have g_NoGroup := He.glo_ok X G (c.fact 6 (f := .glo "NoGroup") rfl)
  have g_NoMeasure := He.glo_ok X G (c.fact 7 (f := .glo "NoMeasure") rfl)
  have g_NoWatch := He.glo_ok X G (c.fact 8 (f := .glo "NoWatch") rfl)
  have g_NoTime := He.glo_ok X G (c.fact 9 (f := .glo "NoTime") rfl)
  have g_NoText := He.glo_ok X G (c.fact 10 (f := .glo "NoText") rfl)
  have g_NoDeskRow := He.glo_ok X G (c.fact 11 (f := .glo "NoDeskRow") rfl)
  have g_Plan := He.glo_ok X G (c.fact 12 (f := .glo "Plan") rfl)
  have g_is_name := He.glo_ok X G (c.fact 13 (f := .glo "is_name") rfl)
  have g_is_made_of := He.glo_ok X G (c.fact 14 (f := .glo "is_made_of") rfl)
  have g_first_fault := He.glo_ok X G (c.fact 15 (f := .glo "first_fault") rfl)
  have g_are_faulty := He.glo_ok X G (c.fact 16 (f := .glo "are_faulty") rfl)
  have g_attributes_of := He.glo_ok X G (c.fact 17 (f := .glo "attributes_of") rfl)
  have g_stretches := He.glo_ok X G (c.fact 18 (f := .glo "stretches") rfl)
  have g_opening_kinds := He.glo_ok X G (c.fact 19 (f := .glo "opening_kinds") rfl)
  have g_changes_day := He.glo_ok X G (c.fact 20 (f := .glo "changes_day") rfl)
  have g_version_values := He.glo_ok X G (c.fact 21 (f := .glo "version_values") rfl)
  have g_day_value := He.glo_ok X G (c.fact 22 (f := .glo "day_value") rfl)
  have g_steady_value := He.glo_ok X G (c.fact 23 (f := .glo "steady_value") rfl)
  have g_last_and_unlike := He.glo_ok X G (c.fact 24 (f := .glo "last_and_unlike") rfl)
  have g_l_deck := He.glo_ok X G (c.fact 25 (f := .glo "_law_deck") rfl)
  have g_l_take := He.glo_ok X G (c.fact 26 (f := .glo "_law_take") rfl)
  have g_l_name := He.glo_ok X G (c.fact 27 (f := .glo "_law_name") rfl)
  have g_l_names := He.glo_ok X G (c.fact 28 (f := .glo "_law_names") rfl)
  have g_l_one_of := He.glo_ok X G (c.fact 29 (f := .glo "_law_one_of") rfl)
  have g_l_plan := He.glo_ok X G (c.fact 30 (f := .glo "_law_plan") rfl)
  have g_l_day := He.glo_ok X G (c.fact 31 (f := .glo "_law_day") rfl)
  have g_l_value := He.glo_ok X G (c.fact 32 (f := .glo "_law_value") rfl)
  have g_l_values := He.glo_ok X G (c.fact 33 (f := .glo "_law_values") rfl)
  have g_l_same := He.glo_ok X G (c.fact 34 (f := .glo "_law_same") rfl)
  have g_l_refused := He.glo_ok X G (c.fact 35 (f := .glo "_law_refused") rfl)
  obtain ⟨t_SMALL_LETTERS, g_SMALL_LETTERS⟩ := He.str_ok X G (c.fact 37 (f := .str "SMALL_LETTERS" "abcdefghijklmnopqrstuvwxyz") rfl)
  obtain ⟨t_LONGEST_NAME, g_LONGEST_NAME⟩ := He.int_ok X G (c.fact 38 (f := .int "LONGEST_NAME" 8) rfl)
  obtain ⟨t_MOST_DIMENSIONS, g_MOST_DIMENSIONS⟩ := He.int_ok X G (c.fact 39 (f := .int "MOST_DIMENSIONS" 4) rfl)
  obtain ⟨t_MOST_ATTRIBUTES, g_MOST_ATTRIBUTES⟩ := He.int_ok X G (c.fact 40 (f := .int "MOST_ATTRIBUTES" 5) rfl)
  obtain ⟨t_MOST_MEASURES, g_MOST_MEASURES⟩ := He.int_ok X G (c.fact 41 (f := .int "MOST_MEASURES" 4) rfl)
  have z_ValueError := He.free_ok X G (c.fact 42 (f := .free "ValueError") rfl)
  have z_abs := He.free_ok X G (c.fact 43 (f := .free "abs") rfl)
  have z_all := He.free_ok X G (c.fact 44 (f := .free "all") rfl)
  have z_any := He.free_ok X G (c.fact 45 (f := .free "any") rfl)
  have z_bool := He.free_ok X G (c.fact 46 (f := .free "bool") rfl)
  have z_enumerate := He.free_ok X G (c.fact 47 (f := .free "enumerate") rfl)
  have z_int := He.free_ok X G (c.fact 48 (f := .free "int") rfl)
  have z_isinstance := He.free_ok X G (c.fact 49 (f := .free "isinstance") rfl)
  have z_len := He.free_ok X G (c.fact 50 (f := .free "len") rfl)
  have z_list := He.free_ok X G (c.fact 51 (f := .free "list") rfl)
  have z_min := He.free_ok X G (c.fact 52 (f := .free "min") rfl)
  have z_range := He.free_ok X G (c.fact 53 (f := .free "range") rfl)
  have z_repr := He.free_ok X G (c.fact 54 (f := .free "repr") rfl)
  have z_set := He.free_ok X G (c.fact 55 (f := .free "set") rfl)
  have z_sorted := He.free_ok X G (c.fact 56 (f := .free "sorted") rfl)
  have z_str := He.free_ok X G (c.fact 57 (f := .free "str") rfl)
  have z_tuple := He.free_ok X G (c.fact 58 (f := .free "tuple") rfl)
  have z_zip := He.free_ok X G (c.fact 59 (f := .free "zip") rfl)
  have cls_Plan := He.cls_ok (c.fact 60 (f := .cls "Plan") rfl)
  have mk_Plan := He.mkr_ok (c.fact 61 (f := .mkr "Plan") rfl)
  have no_Plan_dimension_list := He.noat_ok (c.fact 62 (f := .noat "Plan" "dimension_list") rfl)
  have no_Plan_measure_list := He.noat_ok (c.fact 63 (f := .noat "Plan" "measure_list") rfl)
  have me_Plan_dimensions := He.meth_ok (c.fact 64 (f := .meth "Plan" "dimensions") rfl)
  have me_Plan_measures := He.meth_ok (c.fact 65 (f := .meth "Plan" "measures") rfl)
  have me_Plan_eq := He.meth_ok (c.fact 66 (f := .meth "Plan" "__eq__") rfl)
  have me_Plan_ne := He.meth_ok (c.fact 67 (f := .meth "Plan" "__ne__") rfl)
  refine ⟨fd_law, fun s v => b s [v] rfl, fun base _ _ TB => ?_⟩
  have T : PlTxt K (He.ga K "Plan") := ⟨cls_Plan, no_Plan_dimension_list, no_Plan_measure_list⟩
  have G_md := ok_made (P := P) (w := w) (base := base) F_is_made_of z_all
  have G_is := ok_is_name (P := P) (w := w) (base := base) F_is_name G_md F_is_made_of.kp b_is_made_of g_is_made_of z_len g_SMALL_LETTERS g_LONGEST_NAME
  have G_af := ok_are_faulty (P := P) (w := w) (base := base) F_are_faulty G_is F_is_name.kp b_is_name g_is_name z_len z_set z_all
  have G_ff := ok_first (P := P) (w := w) (base := base) F_first_fault G_af F_are_faulty.kp b_are_faulty g_are_faulty g_MOST_DIMENSIONS g_MOST_ATTRIBUTES g_MOST_MEASURES
  have G_in := ok_init (P := P) (w := w) (base := base) F_Plan_init T G_ff F_first_fault.kp b_first_fault g_first_fault z_tuple z_list
  have G_dm := ok_dims (P := P) (w := w) (mg := mg) (base := base) F_Plan_dimensions T z_list
  have G_at := ok_attr (P := P) (w := w) (mg := mg) (base := base) F_attributes_of T G_dm b_Plan_dimensions me_Plan_dimensions
  have G_ch := ok_chg (P := P) (w := w) (mg := mg) (base := base) F_changes_day z_any z_enumerate
  have G_op := ok_open (P := P) (w := w) (mg := mg) (base := base) F_opening_kinds G_ch F_changes_day.kp b_changes_day g_changes_day z_zip
  have G_la := ok_last (P := P) (w := w) (mg := mg) (base := base) F_last_and_unlike
  have G_dv0 := ok_dayv (P := P) (w := w) (mg := mg) (base := base) F_day_value
  have G_sv := ok_stv (P := P) (w := w) (mg := mg) (base := base) F_steady_value G_la F_last_and_unlike.kp b_last_and_unlike g_last_and_unlike
  have G_vv := ok_vv (P := P) (w := w) (mg := mg) (base := base) F_version_values G_dv0 F_day_value.kp b_day_value g_day_value z_enumerate z_tuple
  have G_st := ok_str (P := P) (w := w) (mg := mg) (base := base) F_stretches (code_at F_stretches) (TB _ (List.mem_cons_self ..)) G_at F_attributes_of.kp b_attributes_of g_attributes_of G_op F_opening_kinds.kp b_opening_kinds g_opening_kinds G_vv F_version_values.kp b_version_values g_version_values G_sv F_steady_value.kp b_steady_value g_steady_value z_enumerate z_sorted z_zip
  have G_de := ok_deck (P := P) (w := w) (mg := mg) (base := base) F_l_deck z_abs
  have G_ta := ok_take (P := P) (w := w) (mg := mg) (base := base) F_l_take
  have G_na := ok_name (P := P) (w := w) (mg := mg) (base := base) F_l_name G_ta F_l_take.kp b_l_take g_l_take z_range
  have G_ns := ok_names (P := P) (w := w) (mg := mg) (base := base) F_l_names G_na F_l_name.kp b_l_name g_l_name z_range
  have G_on := ok_one (P := P) (w := w) (mg := mg) (base := base) F_l_one_of G_ta F_l_take.kp b_l_take g_l_take z_len
  have G_pl := ok_plan (P := P) (w := w) (mg := mg) (base := base) F_l_plan G_ta F_l_take.kp b_l_take g_l_take G_ns F_l_names.kp b_l_names g_l_names G_on F_l_one_of.kp b_l_one_of g_l_one_of z_tuple
  have G_dy := ok_day (P := P) (w := w) (mg := mg) (base := base) F_l_day G_ta F_l_take.kp b_l_take g_l_take
  have G_dv := ok_drawV (P := P) (w := w) (mg := mg) (base := base) F_l_value G_ta F_l_take.kp b_l_take g_l_take
  have G_vs := ok_vals (P := P) (w := w) (mg := mg) (base := base) F_l_values G_dv F_l_value.kp b_l_value g_l_value z_tuple
  have hx := (He.ba ce).2
  obtain ⟨hE, hx⟩ := He.ba hx
  obtain ⟨hN, hx⟩ := He.ba hx
  obtain ⟨hVe, hx⟩ := He.ba hx
  obtain ⟨hO, hx⟩ := He.ba hx
  obtain ⟨hD, hx⟩ := He.ba hx
  obtain ⟨hV, hx⟩ := He.ba hx
  have h_NoThing := hx
  have T_NoThing := KdXc.errB_ok h_NoThing
  have D_NoThing := ok_DayError (P := P) (w := w) (mg := mg) (base := base) F_DayError_init T_NoThing z_ValueError (KdXc.valB_ok hV) z_repr
  have E_NoThing : ErrM P w K mg base "NoThing" _ _ fd_NoThing_init := ⟨T_NoThing, ok_NoThing F_NoThing_init T_NoThing D_NoThing (KdXc.cfnB_ok hD) b_DayError_init g_DayError, b_NoThing_init, g_NoThing⟩
  have PC : PlanC P w K mg base _ _ _ _ := ⟨T, mk_Plan, G_in, g_Plan, F_Plan_init, exB_ok ce⟩
  have G_sf := ok_strF (P := P) (w := w) (mg := mg) (base := base) F_stretches G_at F_attributes_of.kp b_attributes_of g_attributes_of E_NoThing
  have G_rf := ok_ref9 (P := P) (w := w) (mg := mg) (base := base) F_l_refused G_sf g_stretches F_stretches.kp b_stretches E_NoThing (of_decide_eq_true hE) g_DayError z_isinstance z_ValueError (of_decide_eq_true hN) (of_decide_eq_true hVe) (of_decide_eq_true hO) g_NoDeskRow g_NoFact g_NoGroup g_NoMeasure g_NoPlan g_NoRow g_NoText g_NoTime g_NoWatch g_Twice
  have G_sm := ok_same (P := P) (w := w) (mg := mg) (base := base) F_l_same F_l_same.kp b_l_same g_l_same z_isinstance z_bool z_int z_str z_list z_tuple z_len z_range z_all 5
  exact ok_law F_law PC ⟨G_de, F_l_deck.kp, b_l_deck, g_l_deck⟩ ⟨G_pl, F_l_plan.kp, b_l_plan, g_l_plan⟩ ⟨G_na, F_l_name.kp, b_l_name, g_l_name⟩ ⟨G_rf, F_l_refused.kp, b_l_refused, g_l_refused⟩ ⟨G_sm, F_l_same.kp, b_l_same, g_l_same⟩ ⟨G_st, F_stretches.kp, b_stretches, g_stretches⟩ z_list z_tuple z_len z_min z_range
end Kd
open PySem PySem.W PySem.Calls PyProof.Rows
theorem PySem.Challenge.cw_kindsofday_k09_nothing_kept_holds : PySem.Challenge.rw_kindsofday_k09_nothing_kept.Holds := by
  w_on; o_law
  refine HandSHeadRun.head_any (r := OpenLaw.row PySem.Challenge.rw_kindsofday_k09_nothing_kept) (q := view (OpenLaw.row PySem.Challenge.rw_kindsofday_k09_nothing_kept).prog [46]) (H := Kd.hkE) (ob := Kd.ob) (M := 9000) (loose := Kd.loose) (d := HandSHeadRun.topDef (OpenLaw.row PySem.Challenge.rw_kindsofday_k09_nothing_kept).prog 46) (kwd := []) Kd.ob_eq
    (by kernel_rfl) (fun s => by kernel_rfl) Kd.run (by kernel_rfl) (by kernel_rfl) (by kernel_rfl) (by rfl) (by first | assumption | decide +kernel) (by decide +kernel) ⟨rfl, rfl, rfl, rfl, rfl, by decide +kernel⟩ ?hw ?hc
  case hw => w_witness2
  case hc =>
    refine LamX.walk_ofTsE (l := PySem.Challenge.rw_kindsofday_k09_nothing_kept) (n := 63) (k := 8) (x := "script") (CX := fun _ => L2.CX0) rfl (by decide) (by kernel_rfl) ⟨rfl, by decide, by decide⟩ ?F (fun _ _ _ _ _ z => z)
    intro w mg fa h Y G hmg0
    obtain ⟨K, KX, c⟩ := Y
    have hmg : mg ("law" : PySem.Str) = some (.ref fa) := by
      have e : (HandSHeadRun.topDef (OpenLaw.row PySem.Challenge.rw_kindsofday_k09_nothing_kept).prog 46).name = ("law" : PySem.Str) := by kernel_rfl
      rw [← e]
      exact hmg0
    obtain ⟨fd, hb, hF⟩ := Kd.facts (P := (PySem.Challenge.rw_kindsofday_k09_nothing_kept).prog) (w := w) KX G hmg c.t.d c.more
    refine ⟨K, KX, fd, Kd.tf.map (He.cT K), Kd.spLaw K (He.cT K ("stretches", none)).2, ?_, ?_, ?_, hb, fun H a ns hl _ hT hS => ⟨a, ns, rfl, hS, hl, fun p hp => ?_, fun _ => rfl⟩, fun base hK hN hTB => hF base hK hN fun p hp => hTB _ (List.mem_map_of_mem hp)⟩
    · intro p hp
      obtain ⟨q, hq, rfl⟩ := List.mem_map.mp hp
      exact c.empty q hq
    · intro p hp
      obtain ⟨q, hq, rfl⟩ := List.mem_map.mp hp
      exact c.out q hq
    · intro p hp
      obtain ⟨q, hq, rfl⟩ := List.mem_map.mp hp
      exact PySem.W.codeHd_of_K KX (c.hd q hq)
    · rw [List.mem_singleton.mp hp]
      exact LamX.TabS.nil (hT _ (List.mem_map_of_mem (List.mem_cons_self ..)))
