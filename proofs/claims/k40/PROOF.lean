import PyProof.Rows.All
import Wide.All
import OpenK.AllK
import Wide.FinOn
import HandS.ForMost
import HandS.Strs
import HandS.Zip
import HandS.IsInst
import HandS.Walk
import HandS.FStrTup
import HandS.ExcInit
import HandS.RaiseMore
import HandS.OwnEq
import HandS.Head0
import HandS.HeadHook1
import HandS.Text
import HandS.FStr
import HandS.Defaults
import HandS.MakeKw
import HandS.Wide
import HandS.WideBits
import HandS.More
import HandS.HeadHook2
import HandS.MakeKwOnly
import HandS.NoneIn
import HandS.Steps
import HandS.Deep
import HandS.Exc
import KE.KStateDown
import HandS.Head1
import HandS.Head2
import HandS.HeadEnd
import HandS.HeadHook3
import HandS.HeadHook4
import HandS.HeadWalk
import PySem.Challenge.RW_kindsofday_k40_plans_written_and_read
set_option Elab.async false
set_option linter.all false
set_option maxRecDepth 100000
set_option maxHeartbeats 0
/-! len(set(xs)) where xs is a list or a tuple of texts of any number -/
namespace KdS
open PySem PySem.Spec PyProof.Rows
/-- how many unlike ones the first i have -/
def dcn (xs : List Str) : Nat → Nat
  | 0 => 0
  | i + 1 => if (xs.take i).any (· == xs.getD i Str.empty) = true then dcn xs i else dcn xs i + 1
theorem dcn_le (xs : List Str) : ∀ i, dcn xs i ≤ i
  | 0 => Nat.le_refl _
  | i + 1 => by
    have h := dcn_le xs i
    unfold dcn
    split <;> omega
theorem take_any (xs : List Str) {i : Nat} (h : i < xs.length) (k : Str) : (xs.take (i + 1)).any (· == k) = ((xs.take i).any (· == k) || decide (k = xs.getD i Str.empty)) := by
  have e : xs.getD i Str.empty = xs[i] := by simp [h]
  rw [List.take_succ_eq_append_getElem h, List.any_append, e]
  have e2 : ([xs[i]].any fun x => x == k) = decide (k = xs[i]) := by
    by_cases q : k = xs[i]
    · simp [q]
    · have q2 : ¬ xs[i] = k := fun z => q z.symm
      simp [q, q2]
  rw [e2]
theorem dcn_nodup {xs : List Str} (hn : xs.Nodup) : ∀ i, i ≤ xs.length → dcn xs i = i
  | 0, _ => rfl
  | i + 1, h => by
    have ih := dcn_nodup hn i (by omega)
    unfold dcn
    rw [if_neg, ih]
    intro hc
    obtain ⟨y, hy, e⟩ := List.any_eq_true.mp hc
    have hi : i < xs.length := h
    have eg : xs.getD i Str.empty = xs[i] := by simp [hi]
    rw [eg] at e
    have e1 : y = xs[i] := by simpa using e
    obtain ⟨j, hj, ej⟩ := List.getElem_of_mem hy
    rw [List.length_take] at hj
    rw [List.getElem_take] at ej
    have e3 : xs[j]'(by omega) = xs[i] := ej.trans e1
    have := (List.getElem_inj hn).mp e3
    omega
/-- unlike ones are fewer where one stands twice -/
theorem dcn_dup {xs : List Str} {j i : Nat} (hji : j < i) (hi : i < xs.length) (e : xs[j]'(by omega) = xs[i]) : ∀ n, i < n → dcn xs n < n
  | 0, h => by omega
  | n + 1, h => by
    by_cases q : n = i
    · subst q
      have h1 := dcn_le xs n
      unfold dcn
      rw [if_pos]
      · omega
      · refine List.any_eq_true.mpr ⟨xs[j]'(by omega), ?_, by simp [hi, e]⟩
        exact List.mem_iff_getElem.mpr ⟨j, by rw [List.length_take]; omega, by rw [List.getElem_take]⟩
    · have h1 := dcn_dup hji hi e n (by omega)
      unfold dcn
      split <;> omega
section
variable {prog : Program} {w : World} {A : Around} {R : Result → Shared → Prop} {I : Addr} {fp wr : List Addr} {G : Array GenState → Array GenState → Prop} {n : Nat} {P : Nat → Value → Prop} {St : Nat → Shared → Prop}
/-- what the set at S holds behind i items -/
abbrev Held (prog : Program) (w : World) (S : Addr) (xs : List Str) (i : Nat) (h : Heap) : Prop := h.SetOf (PySem.strKind prog w) S (fun k => (xs.take i).any (· == k)) (dcn xs i)
theorem Held.kept {S : Addr} {xs : List Str} {i : Nat} {h h' : Heap} (q : Held prog w S xs i h) (k : ∀ o, h.get? S = some o → h'.get? S = some o) : Held prog w S xs i h' := by
  obtain ⟨o, es, ep, t, ho, rest⟩ := q
  exact ⟨o, es, ep, t, k o ho, rest⟩
theorem grow (W : WalksS prog w A.in1 I fp wr G n P St) (S : Addr) (nS : S ∉ fp) (xs : List Str) (hx : xs.length = n) (hb : n + 1 < scanBound) (hv : ∀ i v, P i v → ∃ t, v = .str (xs.getD i Str.empty) t) :
    ∀ (k i : Nat) (s : Shared), n - i = k → i ≤ n → St i s → Held prog w S xs i s.heap → (∀ s', Moved (S :: wr) G s s' → Held prog w S xs n s'.heap → R (.ok (.ret .none)) s') →
      codeAny (model prog w) A (.builtin "set.update.loop" ⟨[.ref S, .ref I], []⟩) R s := by
  have nW : S ∉ wr := fun z => nS (W.sub _ z)
  have up : ∀ b ∈ wr, b ∈ S :: wr := fun b z => List.mem_cons_of_mem _ z
  intro k
  induction k with
  | zero =>
    intro i s hk hi st hS out
    obtain rfl : i = n := by omega
    refine codeAny_builtin PyProof.Rows.F.entry_set_update_loop (by
      rw [Around.under_plainId PyProof.Rows.F.plain_set_update_loop _]
      show wpAny _ A.in1 (pyNext (.ref I) >>= _) _ _ s
      exact wpAny_bind (W.done s _ _ st fun s1 mv => wpAny_pure (out s1 (mv.mono up) (hS.kept fun o q => mv.heap S _ nW q))))
  | succ k ih =>
    intro i s hk hi st hS out
    have hlt : i < n := by omega
    refine codeAny_builtin PyProof.Rows.F.entry_set_update_loop (by
      rw [Around.under_plainId PyProof.Rows.F.plain_set_update_loop _]
      show wpAny _ A.in1 (pyNext (.ref I) >>= _) _ _ s
      refine wpAny_bind (W.item i s _ _ hlt st fun v s1 hP st1 mv => ?_)
      obtain ⟨t, rfl⟩ := hv i v hP
      have hS1 : Held prog w S xs i s1.heap := hS.kept fun o q => mv.heap S _ nW q
      show wpAny _ A.in1 (holding [Value.str (xs.getD i Str.empty) t] (setAdd S (.str (xs.getD i Str.empty) t)) >>= _) _ _ s1
      refine wpAny_bind (wpAny_holding ?_)
      unfold setAdd
      refine wpAny_holding (wpAny_bind ((PySem.strKind prog w).pyHash (k := xs.getD i Str.empty) (strKind_is _ _ _ _) ?_))
      refine wpAny_setAddHashed_of (knd := PySem.strKind prog w) (s := { s1 with toks := s1.toks + 1 }) (strKind_is _ _ _ _) rfl hS1 (by have := dcn_le xs i; omega) fun h2 sb hS2 => ?_
      have hS3 : Held prog w S xs (i + 1) h2 := SetOf_congr hS2 (fun k => (take_any xs (by omega) k).symm) rfl
      refine wpAny_pure ⟨plainId_quiet PyProof.Rows.F.plain_set_update_loop _, ih (i + 1) _ (by omega) hlt (W.frame _ s1 _ _ st1 (Nat.le_succ _) fun b z o q => ?_) hS3 fun s4 mv4 hS4 => ?_⟩
      · rw [sb.2 b (fun z2 : b = S => nS (z2 ▸ z))]
        exact q
      · refine out s4 (Moved.trans W.gtrans ((mv.mono up).then_heap (Nat.le_succ _) fun b o z q => ?_) mv4) hS4
        rw [sb.2 b (fun z2 : b = S => z (by rw [z2]; exact List.mem_cons_self))]
        exact q)
end
section
variable {prog : Program} {w : World} {A : Around} {E : Value → Shared → Prop} {s : Shared}
abbrev setObj (led : Bool) : Obj := { cls := .type "set", dict := none, data := .set #[] 0 (.fresh 0 0 led) }
set_option maxHeartbeats 3200000 in
/-- set(v), by what __init__ does with the new empty set -/
theorem set_by {v : Value} {Q : Value → Shared → Prop} {P : Shared → Prop} (hi : ∀ led : Bool, wpAny (model prog w) A.in1.in1 (Builtin.«set.__init__» ⟨[.ref s.heap.objs.size, v], []⟩) (fun r s2 => r = .done (.ret .none) ∧ P s2) E { s with heap := s.heap.push (setObj led) })
    (h : ∀ s2, P s2 → Q (.ref s.heap.objs.size) s2) : wpAny (model prog w) A (call (.type "set") [v]) Q E s := by
  obtain ⟨c, tl, hmro⟩ := PySem.F.called_set.mro
  have f1 := PySem.F.called_set.made
  have f2 := PySem.F.called_set.sub
  have f3 := PySem.F.called_set.notType
  have f4 := PySem.F.called_set.canCreate
  have f5 := PySem.F.typeCall_set_1 v
  refine wpAny_call (codeAny_of_tree (show wpAny _ _ (callAny (.type "set") _) _ _ _ from wpAny_pure ⟨Code.quiet_builtin _ (by decide +kernel), codeAny_builtin PySem.F.entry_type_call (by
    rw [Around.under_plain (weight_type_call_type "set" [v] []) rfl]
    repeat (any_goals (first | assumption | wp_step))
    refine codeAny_mono (code_set_new_1 v (E := E) (Q₁ := fun ob s1 => ∃ led : Bool, ob = .ref s.heap.objs.size ∧ s1 = { s with heap := s.heap.push (setObj led) }) fun led => ⟨led, rfl, rfl⟩) fun r s1 hr => ?_
    cases r with
    | error e => exact hr
    | ok fl =>
      cases fl with
      | ret ob =>
        obtain ⟨led, rfl, rfl⟩ := hr
        have g0 : (s.heap.push (setObj led)).get? s.heap.objs.size = some (setObj led) := Heap.get?_push_size _ rfl
        have gT : Shared.TypeIs { s with heap := s.heap.push (setObj led) } (.ref s.heap.objs.size) "set" := ⟨_, g0, rfl⟩
        have f6 := PySem.F.called_set.init.lookup
        have f7 := PySem.F.called_set.init.bind (.ref s.heap.objs.size)
        repeat (any_goals (first | assumption | wp_step))
        refine codeAny_mono (codeAny_call_builtin (R := wants (fun r s2 => r = .none ∧ P s2) E) PySem.F.called_set.init.plain PySem.F.entry_set_init (check_set_init_1 gT (wpAny_mono (hi led) (fun r s2 q => ?_) fun _ _ q => q))) fun r2 s2 q2 => ?_
        · obtain ⟨rfl, q⟩ := q
          exact ⟨rfl, q⟩
        · cases r2 with
          | error e => exact q2
          | ok fl2 =>
            cases fl2 with
            | ret r3 =>
              obtain ⟨rfl, q⟩ := q2
              repeat (any_goals (first | assumption | wp_step))
              exact h _ q
            | _ => exact q2.elim
      | _ => exact hr.elim)⟩))
/-- the list's way and the tuple's way of __init__: what is held behind it -/
def After (prog : Program) (w : World) (s : Shared) (xs : List Str) (s2 : Shared) : Prop := ∃ h2 tk, s2 = { s with heap := h2, toks := tk } ∧ Held prog w s.heap.objs.size xs xs.length h2 ∧ ∀ b o, b < s.heap.objs.size → s.heap.get? b = some o → h2.get? b = some o
theorem fresh_held {led : Bool} {it : Obj} {xs : List Str} : Held prog w s.heap.objs.size xs 0 ((s.heap.push (setObj led)).push it) :=
  SetOf_congr ((PyProof.Rows.setObjOf_fresh (knd := PySem.strKind prog w) led).setOf (Heap.get?_push_of_some _ (Heap.get?_push_size _ rfl)) (by unfold scanBound; omega)) (fun _ => rfl) rfl
theorem after_moved {G : Array GenState → Array GenState → Prop} {led : Bool} {it : Obj} {xs : List Str} {s2 : Shared} (hG : ∀ a b, G a b → b = a)
    (mv : Moved (s.heap.objs.size :: [(s.heap.push (setObj led)).objs.size]) G { s with heap := (s.heap.push (setObj led)).push it } s2) (q : Held prog w s.heap.objs.size xs xs.length s2.heap) : After prog w s xs s2 := by
  obtain ⟨h2, g2, d2, t2, o2⟩ := s2
  obtain rfl : g2 = s.gens := hG _ _ mv.gens
  obtain rfl : d2 = s.drawn := mv.drawn
  obtain rfl : o2 = s.os := mv.os
  refine ⟨h2, t2, rfl, q, fun b o hb e => mv.heap b o (fun z => ?_) (Heap.get?_push_of_some _ (Heap.get?_push_of_some _ e))⟩
  rw [Heap.size_push] at z
  rcases List.mem_cons.mp z with z | z
  · exact absurd z (Nat.ne_of_lt hb)
  · exact absurd (List.mem_singleton.mp z) (Nat.ne_of_lt (Nat.lt_succ_of_lt hb))
theorem strAt {items : Array Value} {xs : List Str} (hi : StrsAre items.toList xs) (i : Nat) (v : Value) (hv : items[i]? = some v) : ∃ t, v = .str (xs.getD i Str.empty) t := SS.strs_at hi i v (by rw [Array.getElem?_toList]; exact hv)
set_option maxHeartbeats 3200000 in
theorem init_list {l : Addr} {items : Array Value} {xs : List Str} {led : Bool} (hh : A.in1.in1.in1.handled = none) (hl : s.heap.IsList l items) (hi : StrsAre items.toList xs) (hb : xs.length + 1 < scanBound) :
    wpAny (model prog w) A.in1.in1 (Builtin.«set.__init__» ⟨[.ref s.heap.objs.size, .ref l], []⟩) (fun r s2 => r = .done (.ret .none) ∧ After prog w s xs s2) E { s with heap := s.heap.push (setObj led) } := by
  have hsz : xs.length = items.size := by rw [← StrsAre.len_eq hi, Array.length_toList]
  obtain ⟨⟨oc, od, dt, sl⟩, ho, hc, m, hd⟩ := hl
  simp only at hc hd
  subst hc hd
  have ho1 := Heap.get?_push_of_some (setObj led) ho
  have hl1 : (s.heap.push (setObj led)).IsList l items := ⟨_, ho1, rfl, m, rfl⟩
  have f1 := PySem.F.sub_list_set
  have f2 := PySem.F.sub_list_frozenset
  have f3 : (Value.type "list" == Value.type "dict") = false := by decide
  unfold Builtin.«set.__init__» noKeywords Builtin.Frozenset.updateFrom
  generalize hPI : pyIter = PI
  wp_walk
  subst hPI
  refine wpAny_pyIter_list hl1 (wpAny_bind (wpAny_runValue ?_))
  have hS : l < s.heap.objs.size := Heap.lt_size ho
  have n1 : l ≠ (s.heap.push (setObj led)).objs.size := by rw [Heap.size_push]; exact Nat.ne_of_lt (Nat.lt_succ_of_lt hS)
  have n2 : s.heap.objs.size ∉ [(s.heap.push (setObj led)).objs.size, l] := by
    rw [Heap.size_push]
    intro z
    rcases List.mem_cons.mp z with z | z
    · exact absurd z (Nat.ne_of_lt (Nat.lt_succ_self _))
    · exact absurd (List.mem_singleton.mp z) (Nat.ne_of_gt hS)
  refine grow ((Walks.list hh _ l n1 items).toS) s.heap.objs.size n2 xs hsz (by omega) (strAt hi) (items.size - 0) 0 _ (by omega) (Nat.zero_le _) ⟨⟨_, Heap.get?_push_size _ rfl, rfl, rfl⟩, hl1.push _⟩ fresh_held fun s2 mv q => ?_
  rw [← hsz] at q
  exact wpAny_pure (wpAny_pure ⟨rfl, after_moved (fun _ _ z => z) mv q⟩)
set_option maxHeartbeats 3200000 in
theorem init_tup {l : Addr} {items : Array Value} {xs : List Str} {led : Bool} (hh : A.in1.in1.in1.handled = none) (hl : s.heap.IsTuple l items) (hi : StrsAre items.toList xs) (hb : xs.length + 1 < scanBound) :
    wpAny (model prog w) A.in1.in1 (Builtin.«set.__init__» ⟨[.ref s.heap.objs.size, .ref l], []⟩) (fun r s2 => r = .done (.ret .none) ∧ After prog w s xs s2) E { s with heap := s.heap.push (setObj led) } := by
  have hsz : xs.length = items.size := by rw [← StrsAre.len_eq hi, Array.length_toList]
  obtain ⟨⟨oc, od, dt, sl⟩, ho, hc, m, hd⟩ := hl
  simp only at hc hd
  subst hc hd
  have ho1 := Heap.get?_push_of_some (setObj led) ho
  have hl1 : (s.heap.push (setObj led)).IsTuple l items := ⟨_, ho1, rfl, m, rfl⟩
  have f1 := PySem.F.sub_tuple_set
  have f2 := PySem.F.sub_tuple_frozenset
  have f3 : (Value.type "tuple" == Value.type "dict") = false := by decide
  unfold Builtin.«set.__init__» noKeywords Builtin.Frozenset.updateFrom
  generalize hPI : pyIter = PI
  wp_walk
  subst hPI
  refine wpAny_pyIter_tuple hl1 (wpAny_bind (wpAny_runValue ?_))
  have hS : l < s.heap.objs.size := Heap.lt_size ho
  have n1 : l ≠ (s.heap.push (setObj led)).objs.size := by rw [Heap.size_push]; exact Nat.ne_of_lt (Nat.lt_succ_of_lt hS)
  have n2 : s.heap.objs.size ∉ [(s.heap.push (setObj led)).objs.size, l] := by
    rw [Heap.size_push]
    intro z
    rcases List.mem_cons.mp z with z | z
    · exact absurd z (Nat.ne_of_lt (Nat.lt_succ_self _))
    · exact absurd (List.mem_singleton.mp z) (Nat.ne_of_gt hS)
  refine grow ((Walks.tuple hh _ l n1 items).toS) s.heap.objs.size n2 xs hsz (by omega) (strAt hi) (items.size - 0) 0 _ (by omega) (Nat.zero_le _) ⟨⟨_, Heap.get?_push_size _ rfl, rfl, rfl⟩, hl1.push _⟩ fresh_held fun s2 mv q => ?_
  rw [← hsz] at q
  exact wpAny_pure (wpAny_pure ⟨rfl, after_moved (fun _ _ z => z) mv q⟩)
end
end KdS
namespace Kd
open PySem PySem.Spec PyProof.Rows L2
theorem strs_vals : ∀ {xs : List Str} {us : List Value}, Vals (xs.map V.str) us → StrsAre us xs
  | [], _, .nil => .nil
  | x :: xs, _, .cons r t => by
    obtain ⟨k, rfl⟩ := r
    exact .cons x k (strs_vals t)
/-- a list or a tuple of texts -/
def Txs (K : PySem.W.Frag) (H : Hp) (l : Addr) (xs : List Str) : Prop := SqL K H l (xs.map V.str) ∨ SqT K H l (xs.map V.str)
def tLenSetS (K : PySem.W.Frag) (ta : TE) : TE := fun σ H Q => ta σ H fun x H1 => ∃ (l : Addr) (xs : List Str), x = .ref l ∧ Txs K H1 l xs ∧ xs.length ≤ 4000 ∧ Q (.int (KdS.dcn xs xs.length : Nat)) H1
theorem pe_lenSetS {X : Cx} {a : Expr} {ta : TE} {p p2 q pos : Pos} (hg : Gl X "len") (hm : X.mg "len" = none) (hg2 : Gl X "set") (hm2 : X.mg "set" = none) (ha : PE X a ta) (hc : X.calm = true := by rfl)
    (na : starEach [a] X.env = (false, eval a X.env) :: starEach [] X.env := by rfl) : PE X (.Call (.Name "len" p) [.Call (.Name "set" p2) [a] [] q] [] pos) (tLenSetS X.K ta) := by
  refine ⟨fun pins s σ H Q I h => Call_ (ld_blt I hg hm boot_len (PyProof.Rows.callWith_builtin1 (PyProof.Rows.args_cons ?_ rfl) rfl rfl))⟩
  refine Call_ (ld_blt I hg2 hm2 boot_set (PyProof.Rows.callWith_type1 (PyProof.Rows.args_cons (thn (ha.run pins s σ H _ I h) fun v s1 ⟨x, H1, I1, r1, q1⟩ => PyProof.Rows.args_nil ?_) na) na rfl))
  obtain ⟨l, xs, rfl, hq, hl, q1⟩ := q1
  cases r1
  have hh := I1.ok.hd hc
  have hb : xs.length + 1 < scanBound := by unfold scanBound; omega
  refine KdS.set_by (P := KdS.After X.prog X.w s1 xs) (fun led => ?_) fun s2 af => ?_
  · rcases hq with hq | hq
    · obtain ⟨its, r, pl, hz⟩ := I1.list hq
      exact KdS.init_list (by simp [hh]) pl.isList (by simpa using strs_vals r) hb
    · obtain ⟨its, r, pl, hz⟩ := I1.tuple hq
      exact KdS.init_tup (by simp [hh]) pl (by simpa using strs_vals r) hb
  · obtain ⟨h2, tk, rfl, hS, hk⟩ := af
    obtain ⟨o, es, ep, t, ho, hex, hd, _, _, _, hf, hn⟩ := hS
    have I2 : Inv X pins σ H1 { s1 with heap := h2, toks := tk } := I1.kept fun b o e => hk b o (Heap.lt_size e) e
    have hle := KdS.dcn_le xs xs.length
    exact PyProof.Rows.args_nil (call_len_set ho hex hd hf (by rw [hn] <;> omega) ⟨.int (KdS.dcn xs xs.length : Nat), H1, I2.tok _, ⟨_, by rw [hn]⟩, q1⟩)
end Kd

namespace Kd
open PySem PySem.Spec PyProof.Rows L2
/-! ### heaps -/
section
variable {K : PySem.W.Frag} {H H' : Hp} {a g b p l : Addr} {o : HO}
theorem same_new (h : H p = Option.none) : Same H (upd H p o) := fun b u e => by rw [upd_ne (ne_of_none e h)]; exact e
theorem Same.to_new {H1 : Hp} (s : Same H H1) (h : H1 p = Option.none) : Same H (upd H1 p o) := s.trans (same_new h)
theorem Same.seqT {xs : List V} (e : Same H H') (h : SqT K H a xs) : SqT K H' a xs := by
  rcases h with (h | ⟨o, h⟩) | h
  · exact .inl (.inl (e _ _ h))
  · exact .inl (.inr ⟨o, e _ _ h⟩)
  · exact .inr h
theorem Same.txs {xs : List Str} (e : Same H H') (h : Txs K H l xs) : Txs K H' l xs := h.elim (fun q => .inl (e.seq q)) fun q => .inr (Same.seqT e q)
/-- the two objects of a tray cut out -/
def ct (a g : Addr) (H : Hp) : Hp := fun b => if b = a ∨ b = g then Option.none else H b
theorem ct_sub : Same (ct a g H) H := fun b o e => by
  unfold ct at e
  split at e
  · cases e
  · exact e
theorem ct_ne (e : ct a g H b = some o) : b ≠ a ∧ b ≠ g := by
  unfold ct at e
  split at e
  · cases e
  · rename_i h
    exact ⟨fun z => h (.inl z), fun z => h (.inr z)⟩
theorem ct_of (e : H b = some o) (ha : b ≠ a) (hg : b ≠ g) : ct a g H b = some o := by
  unfold ct
  rw [if_neg (fun z => z.elim ha hg)]
  exact e
theorem ct_upd (ha : p ≠ a) (hg : p ≠ g) : ct a g (upd H p o) = upd (ct a g H) p o := by
  funext b
  unfold ct upd
  by_cases e : b = p
  · subst e
    rw [if_neg (fun z => z.elim ha hg), if_pos rfl, if_pos rfl]
  · rw [if_neg e, if_neg e]
theorem ct_upda : ct a g (upd H a o) = ct a g H := by
  funext b
  unfold ct upd
  by_cases e : b = a
  · rw [if_pos (.inl e), if_pos (.inl e)]
  · rw [if_neg e]
theorem ct_updg : ct a g (upd H g o) = ct a g H := by
  funext b
  unfold ct upd
  by_cases e : b = g
  · rw [if_pos (.inr e), if_pos (.inr e)]
  · rw [if_neg e]
theorem ct_same (s : Same H H') : Same (ct a g H) (ct a g H') := fun b o e => ct_of (s b o (ct_sub b o e)) (ct_ne e).1 (ct_ne e).2
theorem ct_none (h : H p = Option.none) : ct a g H p = Option.none := by
  unfold ct
  split
  · rfl
  · exact h
end
/-! ### data -/
section
variable {K : PySem.W.Frag} {H H' : Hp}
mutual
theorem Dp.same (e : Same H H') : ∀ (d : PyData) (v : V), Dp K H v d → Dp K H' v d
  | .none, _, h => by cases h; exact .non
  | .bool b, _, h => by cases h; exact .bl b
  | .int i, _, h => by cases h; exact .int i
  | .str x, _, h => by cases h; exact .str x
  | .list ds, _, h => by
    cases h with
    | lst q r => exact .lst (e.seq q) (DpAll.same e ds _ r)
  | .tuple ds, _, h => by
    cases h with
    | tup q r => exact .tup (Same.seqT e q) (DpAll.same e ds _ r)
  | .dict _, _, h => by cases h
theorem DpAll.same (e : Same H H') : ∀ (ds : List PyData) (vs : List V), DpAll K H vs ds → DpAll K H' vs ds
  | [], _, h => by cases h; exact .nil
  | d :: ds, _, h => by
    cases h with
    | cons q r => exact .cons (Dp.same e d _ q) (DpAll.same e ds _ r)
end
theorem DpAll.len : ∀ {vs : List V} {ds : List PyData}, DpAll K H vs ds → vs.length = ds.length
  | _, _, .nil => rfl
  | _, _, .cons _ r => congrArg Nat.succ (DpAll.len r)
theorem DpAll.at_ : ∀ {vs : List V} {ds : List PyData} {i : Nat} {v : V}, DpAll K H vs ds → vs[i]? = some v → ∃ d, ds[i]? = some d ∧ Dp K H v d
  | _, _, i, v, .nil, e => by simp at e
  | _, _, 0, v, .cons q _, e => ⟨_, rfl, by have e2 : _ = v := Option.some.inj e; rw [← e2]; exact q⟩
  | _, _, i + 1, v, .cons _ r, e => DpAll.at_ (i := i) r e
theorem DpAll.strs : ∀ (xs : List Str), DpAll K H (xs.map V.str) (xs.map PyData.str)
  | [] => .nil
  | x :: xs => .cons (.str x) (DpAll.strs xs)
theorem tyL {a : Addr} {xs : List V} (h : SqL K H a xs) : TyX K H (.ref a) (.type "list") := by
  rcases h with (h | ⟨o, h⟩) | ⟨o, its, n, h1, h2, _⟩
  · exact .base (.lst h)
  · exact .base (.frz h)
  · exact .kList h1 h2
theorem tyT {a : Addr} {xs : List V} (h : SqT K H a xs) : TyX K H (.ref a) (.type "tuple") := by
  rcases h with (h | ⟨o, h⟩) | ⟨o, its, n, h1, h2, _⟩
  · exact .base (.tup h)
  · exact .fTuple h
  · exact .kTuple h1 h2
end
/-! ### texts of small letters -/
def Low (z : Str) : Prop := ∀ c ∈ z.cps.toList, 97 ≤ c ∧ c ≤ 122
structure IsNm (z : Str) : Prop where
  low : Low z
  pos : 1 ≤ z.length
  le8 : z.length ≤ 8
theorem Low.append {x y : Str} (h1 : Low x) (h2 : Low y) : Low (x ++ y) := fun c hc => by
  have e : (x ++ y).cps.toList = x.cps.toList ++ y.cps.toList := TL.tl_append x y
  rw [e] at hc
  exact (List.mem_append.mp hc).elim (h1 c) (h2 c)
theorem len_append (x y : Str) : (x ++ y).length = x.length + y.length := by
  show (x.cps ++ y.cps).size = x.cps.size + y.cps.size
  exact Array.size_append
theorem Low.cut {z : Str} (h : Low z) (lo hi : Option Int) : Low (cutS z lo hi) := fun c hc => by
  unfold cutS at hc
  exact h c (List.mem_of_mem_drop (List.mem_of_mem_take hc))
theorem Low.one {c : Nat} (h : 97 ≤ c ∧ c ≤ 122) : Low ⟨#[c]⟩ := fun d hd => by
  have e : d = c := by simpa using hd
  rw [e]
  exact h
theorem Low.empty : Low Str.empty := fun c hc => by
  have : c ∈ ([] : List Nat) := hc
  cases this
/-- the written letters -/
abbrev abc : Str := "abcdefghijklmnopqrstuvwxyz"
theorem abc_list : abc.cps.toList = List.range' 97 26 := by decide +kernel
theorem abc_len : abc.length = 26 := by decide +kernel
theorem mem_abc {c : Nat} : c ∈ abc.cps.toList ↔ 97 ≤ c ∧ c ≤ 122 := by
  rw [abc_list, List.mem_range'_1]
  omega
theorem abc_at {i : Nat} (h : i < 26) : abc.cps.toList[i]? = some (97 + i) := by
  rw [abc_list, List.getElem?_range' h]
  congr 1
  omega
theorem Low.abc : Low abc := fun c hc => mem_abc.mp hc
theorem IsNm.one {c : Nat} (h : 97 ≤ c ∧ c ≤ 122) : IsNm ⟨#[c]⟩ := ⟨.one h, by show 1 ≤ 1; decide, by show 1 ≤ 8; decide⟩
theorem join_list_eq (y : Str) (h : y.cps.toList = []) (parts : List Str) : (Txt.join y parts).cps.toList = (parts.map fun z => z.cps.toList).flatten := by
  rw [TL.join_eq]
  have e := TL.tl_join y parts
  have e2 : ∀ l : List (List Nat), TL.joinL [] l = l.flatten := fun l => by
    induction l with
    | nil => rfl
    | cons p r ih =>
      cases r with
      | nil => simp [TL.joinL]
      | cons q r2 =>
        show p ++ ([] ++ TL.joinL [] (q :: r2)) = _
        rw [ih]
        simp
  have e3 : TL.tl y = [] := h
  rw [e3, e2] at e
  exact e
/-! ### a comprehension, by what it has made and the heap without it -/
/-- the heap without the object at D -/
def cd (D : Addr) (H : Hp) : Hp := ct D D H
theorem cd_sub {D : Addr} {H : Hp} : Same (cd D H) H := ct_sub
theorem cd_upd {D : Addr} {H : Hp} {o : HO} : cd D (upd H D o) = cd D H := ct_upda
theorem cd_free {D : Addr} {H : Hp} (h : H D = Option.none) : cd D H = H := by
  funext b
  unfold cd ct
  by_cases e : b = D
  · subst e
    rw [if_pos (.inl rfl), h]
  · rw [if_neg (fun z => z.elim e e)]
theorem cd_at {D : Addr} {H : Hp} : cd D H D = Option.none := by
  unfold cd ct
  rw [if_pos (.inl rfl)]
theorem cd_of {D b : Addr} {H : Hp} {o : HO} (e : H b = some o) (n : b ≠ D) : cd D H b = some o := ct_of e n n
theorem cd_same {D : Addr} {H H' : Hp} (s : Same H H') : Same (cd D H) (cd D H') := ct_same s
/-- what was there ahead of D is in the rest -/
theorem Same.cd {H0 H : Hp} {D : Addr} (s : Same H0 H) (h : H0 D = Option.none) : Same H0 (cd D H) := fun b o e => cd_of (s b o e) (ne_of_none e h)
theorem Same.upd {H0 H : Hp} {D : Addr} {o : HO} (s : Same H0 H) (h : H0 D = Option.none) : Same H0 (upd H D o) := fun b u e => by rw [upd_ne (ne_of_none e h)]; exact s b u e
/-- between two turns: the list at D is ys, no longer than the turns, and Pv of the heap without it -/
def LcNx (D : Addr) (Pv : Nat → List V → Hp → Prop) (i : Nat) (H : Hp) : Prop := ∃ ys, H D = some (.lst ys) ∧ ys.length ≤ i ∧ Pv i ys (cd D H)
theorem LcNx.add {D : Addr} {Pv : Nat → List V → Hp → Prop} {i : Nat} {ys : List V} {y : V} {H : Hp} (e : H D = some (.lst ys)) (l : ys.length ≤ i) (hi : i < 4000) (p : Pv (i + 1) (ys ++ [y]) (cd D H)) :
    ∃ acc, H D = some (.lst acc) ∧ acc.length < sizeLine ∧ LcNx D Pv (i + 1) (upd H D (.lst (acc ++ [y]))) :=
  ⟨ys, e, Nat.lt_of_le_of_lt (by omega : ys.length ≤ 4000) (by decide), ys ++ [y], upd_same, by rw [List.length_append]; show ys.length + 1 ≤ i + 1; omega, by rw [cd_upd]; exact p⟩
theorem LcNx.skip {D : Addr} {Pv : Nat → List V → Hp → Prop} {i : Nat} {ys : List V} {H : Hp} (e : H D = some (.lst ys)) (l : ys.length ≤ i) (p : Pv (i + 1) ys (cd D H)) : LcNx D Pv (i + 1) H := ⟨ys, e, by omega, p⟩
theorem lc_build {J : It} {n : Nat} {G : Hp → Prop} {Y : Nat → Hp → V → Hp → Prop} (w : Walk J n G Y) {g : TG} {tt : TT} {te : TE} {vs : List Nat} {σ : L2.St} {H1 : Hp} {D : Addr} {Qd : Hp → Prop} (hD : H1 D = Option.none)
    (Pv : Nat → List V → Hp → Prop) (h0 : Pv 0 [] H1) (hG : ∀ i ys H, i ≤ n → Pv i ys (cd D H) → G H)
    (hs : ∀ i ys x H H', i < n → H D = some (.lst ys) → ys.length ≤ i → Pv i ys (cd D H) → Y i H x H' → g x (wipe σ vs) H' fun σ2 H2 => wipe σ2 vs = wipe σ vs ∧ tt σ2 H2 fun b H3 =>
      if b = true then te σ2 H3 fun y H4 => ∃ acc, H4 D = some (.lst acc) ∧ acc.length < sizeLine ∧ LcNx D Pv (i + 1) (L2.upd H4 D (.lst (acc ++ [y]))) else LcNx D Pv (i + 1) H3) (hd : ∀ ys H, H D = some (.lst ys) → ys.length ≤ n → Pv n ys (cd D H) → Qd H) :
    ∃ W : Nat → Nat → Hp → Prop, (∃ m, W 0 m (L2.upd H1 D (.lst []))) ∧ ∀ i m H, W i m H →
      (J.stop i H ∧ Qd H) ∨ (J.go i H ∧ ∃ Nx : Hp → Prop, (∀ H', Nx H' → ∃ m', m' < m ∧ W (i + 1) m' H') ∧ ∀ x H', J.yld i H x H' → g x (wipe σ vs) H' fun σ2 H2 => wipe σ2 vs = wipe σ vs ∧ tt σ2 H2 fun b H3 =>
        if b = true then te σ2 H3 fun y H4 => ∃ acc, H4 D = some (.lst acc) ∧ acc.length < sizeLine ∧ Nx (L2.upd H4 D (.lst (acc ++ [y]))) else Nx H3) :=
  lc_it w (LcNx D Pv) ⟨[], upd_same, Nat.le_refl _, by rw [cd_upd, cd_free hD]; exact h0⟩ (fun i H hi ⟨ys, _, _, p⟩ => hG i ys H hi p) (fun i x H H' hi ⟨ys, e, l, p⟩ hY => hs i ys x H H' hi e l p hY) (fun H ⟨ys, e, l, p⟩ => hd ys H e l p)
theorem yes {σ : L2.St} {H : Hp} {A B : Hp → Prop} (h : A H) : tYes σ H fun b H3 => if b = true then A H3 else B H3 := by
  show if true = true then A H else B H
  rw [if_pos rfl]
  exact h
theorem le_line {n : Nat} (h : n ≤ 4000) : n ≤ sizeLine := Nat.le_trans h (by decide)
theorem cd_is0 {D : Addr} {H H0 : Hp} (e : cd D H = H0) : Same H0 H := by rw [← e]; exact cd_sub
theorem seqT_list0 {K : PySem.W.Frag} {H : Hp} {l r : Addr} {L xs : List V} (hl : H l = some (.lst L)) (h : SqT K H r xs) : SqT K (cd l H) r xs := by
  rcases h with (q | ⟨o, q⟩) | q
  · exact .inl (.inl (cd_of q (ne_of q hl (fun z => nomatch z))))
  · exact .inl (.inr ⟨o, cd_of q (ne_of q hl (fun z => nomatch z))⟩)
  · exact .inr q
end Kd

namespace KdEx
open PySem PySem.Spec PyProof.Rows L2
section
variable {prog : Program} {w : World} {A : Around} {E : Value → Shared → Prop} {s : Shared}
/-- repr of a tuple, whatever is under way: some text -/
theorem repr_tuple {a : Addr} {o : Obj} {items : Array Value} {n : Nat} {ts : List Str} {Q : Value → Shared → Prop} (hu : A.units + 8 < cLine) (ha : s.heap.get? a = some o) (hc : o.cls = .type "tuple") (hd : o.data = .seq items n) (hT : ReprAll prog w items.toList ts) (hsz : (tupleText ts).length ≤ sizeLine)
    (h : ∀ (m : Str) (u tk : Tok), m.length ≤ (tupleText ts).length + 5 → Q (.str m u) { s with toks := tk }) : wpAny (model prog w) A (call (.builtin "repr") [.ref a]) Q E s :=
  call_repr_slot (by omega) ⟨o, ha, hc⟩ F.slot_tuple_repr (fmt_tuple_repr ha hc hd hT hsz fun m u tk hm => ⟨m, u, rfl, h m u tk hm⟩)
end
section
variable {X : Cx}
/-- a value of which repr is known whatever is under way, and its text -/
def flatT : V → Str
  | .str z => reprText z
  | .non => "None"
  | .int i => toString i
  | _ => ""
def Flat1 : V → Prop
  | .str z => (∀ c ∈ z.cps.toList, c < 16 ^ 8) ∧ z.length ≤ 4000
  | .non => True
  | _ => False
theorem flat_len {v : V} (h : Flat1 v) : (flatT v).length ≤ 50000 := by
  cases v with
  | str z =>
    have := StrLaws.reprText_len z h.1
    show (reprText z).length ≤ 50000
    have h2 := h.2
    omega
  | non => show ("None" : Str).length ≤ 50000; decide +kernel
  | _ => exact h.elim
theorem reprs {prog : Program} {w : World} : ∀ {ys : List V} {its : List Value}, Vals ys its → (∀ y ∈ ys, Flat1 y) → ReprAll prog w its (ys.map flatT)
  | [], _, r, _ => by
    cases r
    exact .nil
  | y :: l, _, r, h => by
    cases r with
    | cons r1 r2 =>
      have ih := reprs (prog := prog) (w := w) r2 fun z hz => h z (List.mem_cons_of_mem _ hz)
      have hy := h y (List.mem_cons_self ..)
      have hl := flat_len hy
      cases y with
      | str z =>
        obtain ⟨t, rfl⟩ := r1
        exact .cons (ReprIs.str z t (Nat.le_trans hl (by decide))) ih
      | non =>
        cases r1
        exact .cons ReprIs.none ih
      | _ => exact hy.elim
theorem piled_le : ∀ (ts : List Str), (∀ t ∈ ts, t.length ≤ 50000) → piled ts ≤ 60000 * ts.length
  | [], _ => Nat.zero_le _
  | t :: ts, h => by
    have ih := piled_le ts fun z hz => h z (List.mem_cons_of_mem _ hz)
    have h1 := h t (List.mem_cons_self ..)
    have e : piled (t :: ts) ≤ t.length + 2 + piled ts := by
      unfold piled
      simp
      try omega
    rw [List.length_cons]
    omega
/-- repr of a text, or of a short tuple of texts and None: some text -/
def rRepr (K : PySem.W.Frag) : List V → Hp → VK → Prop := fun xs H Q => ∃ x, xs = [x] ∧ ((∃ z : Str, x = .str z ∧ Flat1 x) ∨ ∃ (a : Addr) (ys : List V), x = .ref a ∧ SqT K H a ys ∧ ys.length ≤ 8 ∧ ∀ y ∈ ys, Flat1 y) ∧ ∀ m : Str, Q (.str m) H
theorem cr_repr (hu : X.A.units + 64 < cLine) : CallR X (.builtin "repr") (rRepr X.K) := by
  intro pins s σ H xs us Q I r h
  obtain ⟨x, rfl, hx, q⟩ := h
  obtain ⟨u, rfl, rx⟩ := vals1 r
  rcases hx with ⟨z, rfl, hz⟩ | ⟨a, ys, rfl, ht, hl, hy⟩
  · obtain ⟨t, rfl⟩ := rx
    refine PySem.P.repr_of_str ⟨.str _, H, I.tok _, ⟨_, rfl⟩, q _⟩ (Nat.le_trans (flat_len (v := .str z) hz) (by decide))
  · cases rx
    obtain ⟨its, rv, ⟨o, ho, hcl, n, hd⟩, _⟩ := I.tuple ht
    have htx := fmt_text (ys.map flatT)
    have hp := piled_le (ys.map flatT) fun t ht => by
      obtain ⟨y, hym, rfl⟩ := List.mem_map.mp ht
      exact flat_len (hy y hym)
    rw [List.length_map] at hp
    have hsl : sizeLine = sizeLine := rfl
    refine repr_tuple (ts := ys.map flatT) (by omega) ho hcl hd (reprs rv hy) (Nat.le_trans (show _ ≤ 500000 by omega) (by decide)) fun m u tk hm => ⟨.str m, H, I.tok _, ⟨u, rfl⟩, q m⟩
end
section
variable {X : Cx} {CX : CXT} {k : Nat} {f C : Addr} {fd : FuncData} {ps : List Str} {sp : Sp} {dvs : List V} {ds : List Value} {E : XK} {x m : Str} {p1 p2 pos : Pos} {e : Expr} {es : List Expr} {t : TA}
/-- C.m(e, ..), C a class of the program, m a def of it -/
structure ClsFn (K : PySem.W.Frag) (C f : Addr) (m : Str) : Prop where
  sp : PySem.W.specialIn K (.ref C) "__getattribute__" = some (some (.builtin "type.__getattribute__"))
  rd : PySem.W.readsIn K C (.type "type") = true
  fi : PySem.W.findCls K (.ref C) (.type "type") m = some (.val (.ref f))
  kp : PySem.W.keepIn K (.ref f) = true
theorem pe_clsfn {pl : Sem Bool} (hg : Gl X x) (hm : X.mg x = some (.ref C)) (T : ClsFn X.K C f m) (F : FnOk X.prog X.w X.K X.mg X.base CX k f fd ps sp) (hr : Room k X.A) (hb : Binds X.K fd ps ds) (hd : Vals dvs ds) (hx : Passes CX X E) (ha : PA X (e :: es) t)
    (hdb : (x == ("__debug__" : Str)) = false := by decide)
    (hc : eval (.Call (.Attribute (.Name x p1) m p2) (e :: es) [] pos) X.env = (do
      let ov ← eval (.Name x p1) X.env
      standAt p2.atName
      let (f, first) ← holding [ov] (getMethod ov m pl)
      callWith pos f first (backTo pos (starEach (e :: es) X.env)) (backToKw pos (keywordEach [] X.env))) := by rfl)
    (he : starEach (e :: es) X.env = (false, eval e X.env) :: starEach es X.env := by rfl) (hpl : (backTo pos (starEach es X.env)).any (·.1) = false := by rfl) :
    PE X (.Call (.Attribute (.Name x p1) m p2) (e :: es) [] pos) (tCall sp dvs E t) := by
  refine ⟨fun pins s σ H Q I h => ?_⟩
  refine PySem.W.methodCall_KW (ld_glob I hg hm ?_ hdb) hc
  refine PySem.W.method_cls I.kIn T.sp ?_
  refine PySem.W.cls_value I.kIn T.rd T.fi rfl ?_
  show wpAny _ _ (callWith pos (Value.ref f) [] (backTo pos (starEach (e :: es) X.env)) []) _ _ _
  refine PySem.W.callWith_K (h₀ := X.base) I.ok.mod.kin T.kp (thn (ha.run pos pins _ σ H _ (I.tok _) h) fun us s1 ⟨vs, H1, I1, r, q⟩ => ⟨I1.kIn, ?_⟩) he hpl
  exact run_fn F hr hb hd hx I1 r q
end
/-! ### == and != by an own def -/
section
variable {X : Cx} {CX : CXT} {n : Nat} {C f : Addr} {fd : FuncData} {ps : List Str} {sp : Sp} {E : XK} {op : CmpOp}
def rOwn (C : Addr) (sp : Sp) (E : XK) : R2 := fun x y H Q => ∃ a b dx dy fs gs, x = .ref a ∧ y = .ref b ∧ H a = some (.ins C dx fs) ∧ H b = some (.ins C dy gs) ∧ sp [.ref a, .ref b] H (fun v H' => ∃ r, v = .bl r ∧ Q (.bl r) H') E
theorem rich_own (F : FnOk X.prog X.w X.K X.mg X.base CX n f fd ps sp) (hs : PySem.W.findIn X.K (.ref C) (cmpInfo op).2.1 = some (some (.ref f))) (hf : PySem.W.isFn X.K (.ref f) = true) (hb : Binds X.K fd ps []) (hx : Passes CX X E) (hr : Room n X.A)
    {pins : List (Addr × Obj)} {s : Shared} {σ : L2.St} {H : Hp} {x y : V} {v u : Value} {Q : VK} (I : Inv X pins σ H s) (rx : RelV x v) (ry : RelV y u) (h : rOwn C sp E x y H Q) : wpAny (model X.prog X.w) X.A (richCompare op v u) (EP X pins σ Q) X.xe s := by
  obtain ⟨a, b, dx, dy, fs, gs, rfl, rfl, ha, hb', hsp⟩ := h
  cases rx
  cases ry
  obtain ⟨mA, J, _⟩ := ins_get I.hok ha
  obtain ⟨mB, J', _⟩ := ins_get I.hok hb'
  obtain ⟨od, J, _⟩ := J.look
  obtain ⟨od', J', _⟩ := J'.look
  obtain ⟨m, hF⟩ := I.fr
  refine PySem.W.cmp_K (op := op) (tb := .ref C) hr.units0 hF I.ok.mod.kin J J'.type (by simp [PySem.W.notFirst]) hs hf ?_
  have hl := F.len _ _ _ _ hsp
  have r2 : Vals [V.ref a, V.ref b] [Value.ref a, Value.ref b] := .cons rfl (.cons rfl .nil)
  refine wpAny_call (codeAny_mono (F.run X.A X.stack s H ⟨[.ref a, .ref b], []⟩ [.ref a, .ref b] [.ref a, .ref b] _ E hr I.env0 (by
    have := hb s [.ref a, .ref b] I.kIn (by simpa using hl)
    simpa using this) r2 hsp) fun r s' hq => ?_)
  cases r with
  | error e => exact hx pins σ H s e s' I hq
  | ok fl =>
    cases fl with
    | ret w =>
      obtain ⟨z, H', I', rz, r, ez, q⟩ := I.after hq
      subst ez
      cases rz
      exact ⟨.bl r, H', I', rfl, q⟩
    | next => exact False.elim hq
    | brk => exact False.elim hq
    | cont => exact False.elim hq
theorem op_eqOwn (F : FnOk X.prog X.w X.K X.mg X.base CX n f fd ps sp) (hs : PySem.W.findIn X.K (.ref C) "__eq__" = some (some (.ref f))) (hf : PySem.W.isFn X.K (.ref f) = true) (hb : Binds X.K fd ps []) (hx : Passes CX X E) (hr : Room n X.A) : OpR X (compareOp .Eq) (rOwn C sp E) := by
  intro pins s σ H x y v u Q I rx ry h
  exact rich_own (op := .Eq) F hs hf hb hx hr I rx ry h
theorem op_neOwn (F : FnOk X.prog X.w X.K X.mg X.base CX n f fd ps sp) (hs : PySem.W.findIn X.K (.ref C) "__ne__" = some (some (.ref f))) (hf : PySem.W.isFn X.K (.ref f) = true) (hb : Binds X.K fd ps []) (hx : Passes CX X E) (hr : Room n X.A) : OpR X (compareOp .NotEq) (rOwn C sp E) := by
  intro pins s σ H x y v u Q I rx ry h
  exact rich_own (op := .NotEq) F hs hf hb hx hr I rx ry h
end
end KdEx

namespace Kd
open PySem PySem.Spec PyProof.Rows L2
/-! ### what the head says of a tuple of texts and of a class -/
def strB : List Str → List Value → Bool
  | [], [] => true
  | z :: zs, .str y _ :: vs => decide (y = z) && strB zs vs
  | _, _ => false
theorem strB_ok : ∀ {zs : List Str} {vs : List Value}, strB zs vs = true → Vals (zs.map V.str) vs
  | [], [], _ => .nil
  | [], _ :: _, h => by cases h
  | _ :: _, [], h => by cases h
  | z :: zs, v :: vs, h => by
    cases v with
    | str y t =>
      obtain ⟨h1, h2⟩ := He.ba (show (decide (y = z) && strB zs vs) = true from h)
      have e : y = z := of_decide_eq_true h1
      subst e
      exact .cons ⟨t, rfl⟩ (strB_ok h2)
    | _ => cases h
def tupB (K : PySem.W.Frag) (a : Addr) (zs : List Str) : Bool := match K.lookup a with
  | some ⟨.type c, _, .seq its _, _⟩ => decide (c = "tuple") && (decide (its.size ≤ 4000) && strB zs its.toList)
  | _ => false
theorem tupB_ok {K : PySem.W.Frag} {a : Addr} {zs : List Str} (h : tupB K a zs = true) (H : Hp) : SqT K H a (zs.map V.str) := by
  unfold tupB at h
  cases q : K.lookup a with
  | none => rw [q] at h; cases h
  | some o =>
    obtain ⟨oc, od, dt, sl⟩ := o
    rw [q] at h
    cases oc with
    | type c =>
      cases dt with
      | seq its n =>
        obtain ⟨h1, h⟩ := He.ba (show (decide (c = "tuple") && (decide (its.size ≤ 4000) && strB zs its.toList)) = true from h)
        obtain ⟨h2, h3⟩ := He.ba h
        exact .inr ⟨_, its, n, q, congrArg Value.type (of_decide_eq_true h1), rfl, le_line (of_decide_eq_true h2), strB_ok h3⟩
      | _ => cases h
    | _ => cases dt <;> cases h
def clsB (K : PySem.W.Frag) (C : Addr) : Bool := He.eqO (PySem.W.findIn K (.ref C) "__class__") (some (some (.builtin "object.__class__"))) && (He.eqO (PySem.W.specialIn K (.builtin "object.__class__") "__get__") (some (some (.builtin "getset_descriptor.__get__"))) &&
  (decide (PySem.W.takesIn K (.builtin "object.__class__") = some true) && (decide (PySem.W.mroIn K C (.type "object") = some true) && decide (PySem.W.kitOne K (.ref C) (.ref C) = some true))))
theorem clsB_ok {K : PySem.W.Frag} {C : Addr} (h : clsB K C = true) (cl : Cls K C) : (∀ (H : Hp) (x dx : Addr) (fs : List (Str × V)), H x = some (.ins C dx fs) → TyOf K H (.ref x) (.ref C)) ∧ PySem.W.kitOne K (.ref C) (.ref C) = some true := by
  obtain ⟨h1, h⟩ := He.ba h
  obtain ⟨h2, h⟩ := He.ba h
  obtain ⟨h3, h⟩ := He.ba h
  obtain ⟨h4, h5⟩ := He.ba h
  exact ⟨fun H x dx fs e => .ins e cl (He.eqO_ok h1) (He.eqO_ok h2) (of_decide_eq_true h3) (of_decide_eq_true h4), of_decide_eq_true h5⟩
end Kd

namespace Kd
open PySem PySem.Spec PyProof.Rows L2
/-- f'..', its reading under a name -/
def tFs (ts : List TE) : TE := fun σ H Q => tJs ts Str.empty σ H fun out H1 => Q (.str out) H1
def rSplit : V → List V → Hp → VK → Prop := fun x xs H Q => ∃ a b, x = .str a ∧ xs = [.str b] ∧ (b.length == 0) = false ∧ a.length + 2 ≤ sizeLine ∧ rNewStrs (Txt.split a b) H Q
/-! ### the writing of a plan, as a mirror -/
abbrev Dm := Str × List (Str × Str)
def attT (a : Str × Str) : Str := a.1 ++ (":" : Str) ++ a.2
def dimW (d : Dm) : List Str := [("dim" : Str), d.1] ++ d.2.map attT
def dimT (d : Dm) : Str := Txt.join " " (dimW d)
def sumW (ms : List Str) : List Str := [("sum" : Str)] ++ ms
def sumT (ms : List Str) : List Str := if ms.isEmpty = true then [] else [Txt.join " " (sumW ms)]
def planW (ds : List Dm) (ms : List Str) : List Str := ds.map dimT ++ sumT ms
def planT (ds : List Dm) (ms : List Str) : Str := Txt.join "; " (planW ds ms)
/-- a way of the four -/
def IsWay (z : Str) : Prop := z ∈ (["first", "last", "day", "before"] : List Str)
theorem IsWay.nm {z : Str} (h : IsWay z) : Low z ∧ z.length ≤ 8 := by
  have h1 : ∀ z ∈ (["first", "last", "day", "before"] : List Str), (z.cps.toList.all fun c => decide (97 ≤ c ∧ c ≤ 122)) = true ∧ z.length ≤ 8 := by decide +kernel
  obtain ⟨a, b⟩ := h1 z h
  exact ⟨fun c hc => of_decide_eq_true (List.all_eq_true.mp a c hc), b⟩
theorem tl_joinL (y : Str) (ps : List Str) : TL.tl (Txt.join y ps) = TL.joinL (TL.tl y) (ps.map TL.tl) := by rw [TL.join_eq, TL.tl_join]
theorem mem_joinL {S : List Nat} {c : Nat} : ∀ {ps : List (List Nat)}, c ∈ TL.joinL S ps → c ∈ S ∨ ∃ p ∈ ps, c ∈ p
  | [], h => by cases h
  | [p], h => .inr ⟨p, List.mem_singleton.mpr rfl, h⟩
  | p :: q :: r, h => by
    have h : c ∈ p ++ (S ++ TL.joinL S (q :: r)) := h
    rcases List.mem_append.mp h with h | h
    · exact .inr ⟨p, List.mem_cons_self .., h⟩
    · rcases List.mem_append.mp h with h | h
      · exact .inl h
      · rcases mem_joinL h with h | ⟨z, hz, h⟩
        · exact .inl h
        · exact .inr ⟨z, List.mem_cons_of_mem _ hz, h⟩
theorem free_join {y : Str} {c : Nat} {ps : List Str} (hy : c ∉ TL.tl y) (h : ∀ p ∈ ps, c ∉ TL.tl p) : c ∉ TL.tl (Txt.join y ps) := fun hc => by
  rw [tl_joinL] at hc
  rcases mem_joinL hc with hc | ⟨p, hp, hc⟩
  · exact hy hc
  · obtain ⟨z, hz, rfl⟩ := List.mem_map.mp hp
    exact h z hz hc
theorem Low.free {z : Str} (h : Low z) {c : Nat} (hc : c < 97) : c ∉ TL.tl z := fun e => by
  have := (h c e).1
  omega
/-- dimensions whose names are names and whose ways are ways -/
def WOk (d : Dm) : Prop := Low d.1 ∧ ∀ a ∈ d.2, Low a.1 ∧ IsWay a.2
theorem tl_colon : TL.tl (":" : Str) = [58] := by decide +kernel
theorem tl_blank : TL.tl (" " : Str) = [32] := by decide +kernel
theorem tl_semi : TL.tl ("; " : Str) = [59, 32] := by decide +kernel
theorem attT_free {a : Str × Str} (h1 : Low a.1) (h2 : Low a.2) {c : Nat} (hc : c < 97) (n : c ≠ 58) : c ∉ TL.tl (attT a) := fun e => by
  unfold attT at e
  rw [TL.tl_append, TL.tl_append, tl_colon] at e
  rcases List.mem_append.mp e with e | e
  · rcases List.mem_append.mp e with e | e
    · exact h1.free hc e
    · exact n (List.mem_singleton.mp e)
  · exact h2.free hc e
theorem dimW_free {d : Dm} (h : WOk d) {c : Nat} (hc : c < 97) (n : c ≠ 58) : ∀ p ∈ dimW d, c ∉ TL.tl p := fun p hp => by
  have hd : Low ("dim" : Str) := fun c hc => by
    have : ∀ c ∈ ("dim" : Str).cps.toList, 97 ≤ c ∧ c ≤ 122 := by decide +kernel
    exact this c hc
  unfold dimW at hp
  rcases List.mem_append.mp hp with hp | hp
  · rcases List.mem_cons.mp hp with rfl | hp
    · exact hd.free hc
    · rw [List.mem_singleton.mp hp]
      exact h.1.free hc
  · obtain ⟨a, ha, rfl⟩ := List.mem_map.mp hp
    exact attT_free (h.2 a ha).1 (h.2 a ha).2.nm.1 hc n
theorem split_dim {d : Dm} (h : WOk d) : Txt.split (dimT d) " " = dimW d := TL.split_join tl_blank (by decide +kernel) (by unfold dimW; simp) (dimW_free h (by decide) (by decide))
theorem split_att {a : Str × Str} (h1 : Low a.1) (h2 : Low a.2) : Txt.split (attT a) ":" = [a.1, a.2] := by
  have e : attT a = Txt.join ":" [a.1, a.2] := by rw [TL.join_eq]; rfl
  rw [e]
  refine TL.split_join tl_colon (by decide +kernel) (by simp) fun p hp => ?_
  rcases List.mem_cons.mp hp with rfl | hp
  · exact h1.free (by decide)
  · rw [List.mem_singleton.mp hp]
    exact h2.free (by decide)
theorem low_sum : Low ("sum" : Str) := fun c hc => by
  have : ∀ c ∈ ("sum" : Str).cps.toList, 97 ≤ c ∧ c ≤ 122 := by decide +kernel
  exact this c hc
theorem split_sum {ms : List Str} (h : ∀ z ∈ ms, Low z) : Txt.split (Txt.join " " (sumW ms)) " " = sumW ms := by
  refine TL.split_join tl_blank (by decide +kernel) (by unfold sumW; simp) fun p hp => ?_
  unfold sumW at hp
  rcases List.mem_append.mp hp with hp | hp
  · rw [List.mem_singleton.mp hp]
    exact low_sum.free (by decide)
  · exact (h p hp).free (by decide)
theorem dimT_free {d : Dm} (h : WOk d) : 59 ∉ TL.tl (dimT d) := free_join (by rw [tl_blank]; decide) (dimW_free h (by decide) (by decide))
theorem sum_free {ms : List Str} (h : ∀ z ∈ ms, Low z) : 59 ∉ TL.tl (Txt.join " " (sumW ms)) := free_join (by rw [tl_blank]; decide) fun p hp => by
  unfold sumW at hp
  rcases List.mem_append.mp hp with hp | hp
  · rw [List.mem_singleton.mp hp]
    exact low_sum.free (by decide)
  · exact (h p hp).free (by decide)
theorem split_plan {ds : List Dm} {ms : List Str} (hn : ds ≠ []) (h : ∀ d ∈ ds, WOk d) (hm : ∀ z ∈ ms, Low z) : Txt.split (planT ds ms) "; " = planW ds ms := by
  refine TL.split_join tl_semi (by decide +kernel) (by unfold planW; simp [hn]) fun p hp => ?_
  unfold planW at hp
  rcases List.mem_append.mp hp with hp | hp
  · obtain ⟨d, hd, rfl⟩ := List.mem_map.mp hp
    exact dimT_free (h d hd)
  · unfold sumT at hp
    split at hp
    · cases hp
    · rw [List.mem_singleton.mp hp]
      exact sum_free hm
/-! ### lengths -/
theorem joinL_len {S : List Nat} : ∀ ps : List (List Nat), (TL.joinL S ps).length ≤ (ps.map (·.length)).sum + ps.length * S.length
  | [] => Nat.zero_le _
  | [p] => by show p.length ≤ p.length + 0 + 1 * S.length; omega
  | p :: q :: r => by
    have := joinL_len (S := S) (q :: r)
    show (p ++ (S ++ TL.joinL S (q :: r))).length ≤ p.length + ((q :: r).map (·.length)).sum + ((q :: r).length + 1) * S.length
    rw [List.length_append, List.length_append, Nat.add_mul]
    omega
theorem sum_le {b : Nat} : ∀ {xs : List Str}, (∀ x ∈ xs, x.length ≤ b) → (xs.map (·.length)).sum ≤ xs.length * b
  | [], _ => Nat.zero_le _
  | x :: xs, h => by
    have h1 := h x (List.mem_cons_self ..)
    have h2 := sum_le fun z hz => h z (List.mem_cons_of_mem _ hz)
    show x.length + (xs.map (·.length)).sum ≤ (xs.length + 1) * b
    rw [Nat.add_mul]
    omega
theorem join_len {y : Str} {xs : List Str} {b : Nat} (h : ∀ x ∈ xs, x.length ≤ b) : (Txt.join y xs).length ≤ xs.length * (b + y.length) := by
  rw [TL.len_tl, tl_joinL]
  refine Nat.le_trans (joinL_len _) ?_
  have e : ((xs.map TL.tl).map (·.length)).sum = (xs.map (·.length)).sum := by
    rw [List.map_map]
    refine congrArg List.sum (List.map_congr_left fun z _ => (TL.len_tl z).symm)
  have := sum_le h
  rw [e, List.length_map, ← TL.len_tl, Nat.mul_add]
  omega
theorem attT_len {a : Str × Str} (h1 : a.1.length ≤ 8) (h2 : a.2.length ≤ 8) : (attT a).length ≤ 17 := by
  unfold attT
  rw [len_append, len_append]
  have : (":" : Str).length = 1 := by decide +kernel
  omega
end Kd

namespace Kd
open PySem PySem.Spec PyProof.Rows L2
def top (i : Nat) : Stmt := PySem.Challenge.pw_kindsofday_k40_plans_written_and_read.main.body.getD i (.Pass ⟨0, 0, 0, 0⟩)
abbrev s_show_plan : Stmt := top 1
abbrev s_show_dimension : Stmt := top 2
abbrev s_DayError_init : Stmt := inClass (top 4) 0
abbrev s_NoPlan_init : Stmt := inClass (top 5) 0
abbrev s_NoText_init : Stmt := inClass (top 6) 0
abbrev s_is_name : Stmt := top 10
abbrev s_is_made_of : Stmt := top 11
abbrev s_Plan_init : Stmt := inClass (top 16) 0
abbrev s_Plan_dimensions : Stmt := inClass (top 16) 1
abbrev s_Plan_measures : Stmt := inClass (top 16) 2
abbrev s_Plan_eq : Stmt := inClass (top 16) 3
abbrev s_Plan_ne : Stmt := inClass (top 16) 4
abbrev s_first_fault : Stmt := top 17
abbrev s_are_faulty : Stmt := top 18
abbrev s_read_plan : Stmt := top 21
abbrev s_read_dimension : Stmt := top 22
abbrev s_l_tray : Stmt := top 24
abbrev s_l_draw : Stmt := top 25
abbrev s_l_alike : Stmt := top 26
abbrev s_l_name : Stmt := top 27
abbrev s_l_names : Stmt := top 28
abbrev s_l_lists : Stmt := top 29
abbrev s_l_value_shown : Stmt := top 30
abbrev s_l_plan_shown : Stmt := top 31
abbrev s_l_row_shown : Stmt := top 32
abbrev s_l_rows_shown : Stmt := top 33
abbrev s_law : Stmt := top 34
abbrev FnP (K : PySem.W.Frag) (x qual : Str) (st : Stmt) (f : Addr) (fd : FuncData) : Prop := FunD K x qual (defArgs st) (defBody st) (defScope st) [] [] f fd
section
variable {P : Program} {w : World} {K : PySem.W.Frag} {mg : Str → Option Value} {base : Heap} {f : Addr} {fd : FuncData}
/-! ### is_name -/
def nmB (z : Str) : Bool := decide (1 ≤ z.length) && (decide (z.length ≤ 8) && z.cps.toList.all fun c => decide (97 ≤ c ∧ c ≤ 122))
def spIsName : Sp := fun vs H Q _ => ∃ z : Str, vs = [.str z] ∧ z.length ≤ 4000 ∧ ∀ H', Same H H' → Q (.bl (nmB z)) H'
/-! ### is_made_of -/
def madeB (z s : Str) : Bool := z.cps.toList.all fun c => decide (c ∈ s.cps.toList)
theorem made_abc (z : Str) : madeB z abc = z.cps.toList.all fun c => decide (97 ≤ c ∧ c ≤ 122) := by
  unfold madeB
  congr 1
  funext c
  simp only [mem_abc]
def spMade : Sp := fun vs H Q _ => ∃ z s : Str, vs = [.str z, .str s] ∧ z.length ≤ 4000 ∧ ∀ H', Same H H' → Q (.bl (madeB z s)) H'
theorem sc_made : FnScope ["text", "signs", "sign"] ["text", "signs"] (defScope s_is_made_of) := ⟨rfl, rfl, rfl, by decide +kernel, rfl, by decide +kernel, by decide +kernel⟩
theorem ok_made (F : FnP K "is_made_of" "is_made_of" s_is_made_of f fd) (ga : mg "all" = none) : FnOk P w K mg base CX0 1 f fd ["text", "signs"] spMade := by
  refine F.ok sc_made (fun vs H Q E h => ?_) (fun cdv A outer s H vs Q E hr h => ?_)
  · obtain ⟨z, s, rfl, _⟩ := h
    rfl
  · obtain ⟨z, s2, rfl, hz, k⟩ := h
    refine ⟨_, PSs.nox (pss_one (ps_ret (pe_callB (cr_all rfl) (by rfl) ga (by decide +kernel) (pa_cons (pe_lc (own := [("sign", 2)]) (g := gName 2) (tt := tYes) rfl sc_made.nd (pi_str (pv 0)) (blkOk_by (own := [("sign", 2)]) (N := ["text", "signs", "sign"]) (sc := defScope s_is_made_of) (by decide +kernel))
        (fun _ _ _ _ _ => pg_name (i := 2) sc_made.nd rfl (Or.inl rfl)) (fun _ _ _ _ _ => pts_nil) (fun _ _ _ _ _ => pe_cmpR op_in_sign (pv 2) (pv 1) (by rfl))) pa_nil)))), ?_⟩
    have ez : z.length = z.cps.toList.length := by rw [Array.length_toList]; rfl
    refine ⟨_, rfl, z, rfl, fun D hD => lc_build walk_str hD (fun i ys R => Same H R ∧ ys = (z.cps.toList.take i).map fun c => V.bl (decide (c ∈ s2.cps.toList))) ⟨Same.refl H, rfl⟩ (fun _ _ _ _ _ => trivial) ?_ ?_⟩
    · rintro i ys x H2 H2' hi e l ⟨sm, rfl⟩ ⟨rfl, c, hc, rfl⟩
      refine ⟨rfl, yes ?_⟩
      refine ⟨_, rfl, _, rfl, c, s2, rfl, rfl, LcNx.add e l (by have : z.length = z.cps.size := rfl; omega) ⟨sm, ?_⟩⟩
      have hc2 : z.cps.toList[i]? = some c := by rw [Array.getElem?_toList]; exact hc
      obtain ⟨h1, h2⟩ := List.getElem?_eq_some_iff.mp hc2
      rw [List.take_succ_eq_append_getElem h1, List.map_append, h2]
      rfl
    · rintro ys H2 e l ⟨sm, rfl⟩
      refine ⟨D, (z.cps.toList.take z.cps.size).map fun c => decide (c ∈ s2.cps.toList), rfl, SqL.of (by rw [List.map_map]; exact e), ?_⟩
      have e1 : madeB z s2 = (((z.cps.toList.take z.cps.size).map fun c => decide (c ∈ s2.cps.toList)).all id) := by
        have et : z.cps.toList.take z.cps.size = z.cps.toList := List.take_of_length_le (by rw [Array.length_toList]; exact Nat.le_refl _)
        unfold madeB
        rw [et, List.all_map]
        rfl
      rw [← e1]
      exact k H2 (sm.trans cd_sub)
theorem sc_is_name : FnScope ["text"] ["text"] (defScope s_is_name) := ⟨rfl, rfl, rfl, by decide +kernel, rfl, by decide +kernel, by decide +kernel⟩
theorem ok_is_name {fM : Addr} {fdM : FuncData} (F : FnP K "is_name" "is_name" s_is_name f fd) (GM : FnOk P w K mg base CX0 1 fM fdM ["text", "signs"] spMade) (kM : PySem.W.keepIn K (.ref fM) = true) (bM : Binds K fdM ["text", "signs"] []) (gM : mg "is_made_of" = some (.ref fM)) (gl : mg "len" = none) {t1 t2 : Nat} (gS : mg "SMALL_LETTERS" = some (.str abc t1)) (gL : mg "LONGEST_NAME" = some (.int 8 t2)) : FnOk P w K mg base CX0 2 f fd ["text"] spIsName := by
  refine F.ok sc_is_name (fun vs H Q E h => ?_) (fun cdv A outer s H vs Q E hr h => ?_)
  · obtain ⟨z, rfl, _⟩ := h
    rfl
  · obtain ⟨z, rfl, hz, k⟩ := h
    refine ⟨_, PSs.nox (pss_one (ps_ret (pe_and (pe_chain op_le op_le pe_int (pe_callB call_len_str (by rfl) gl boot_len (pa_cons (pv 0) pa_nil)) (pe_glob (v := .int 8) rfl gL ⟨_, rfl⟩))
      (pe_one (pe_call GM hr rfl gM kM bM .nil pass0 (pa_cons (pv 0) (pa_cons (pe_glob (v := .str abc) rfl gS ⟨_, rfl⟩) pa_nil))))))), ?_⟩
    refine ⟨_, rfl, z, rfl, le_line hz, _, _, rfl, rfl, _, rfl, ?_⟩
    refine ite2 (fun c1 => ?_) (fun c1 => ?_)
    · have c1 : (1 : Int) ≤ (z.length : Int) := of_decide_eq_true c1
      refine ⟨_, _, rfl, rfl, _, rfl, ?_⟩
      refine ite2 (fun c2 => ?_) (fun c2 => ?_)
      · have c2 : (z.length : Int) ≤ 8 := of_decide_eq_true c2
        refine ⟨_, rfl, z, abc, rfl, hz, fun H2 s2 => ?_⟩
        have e1 : nmB z = madeB z abc := by
          unfold nmB
          rw [made_abc, decide_eq_true (by omega : 1 ≤ z.length), decide_eq_true (by omega : z.length ≤ 8)]
          simp only [Bool.true_and]
        rw [← e1]
        exact k H2 s2
      · have c2 : ¬ (z.length : Int) ≤ 8 := fun q => c2 (decide_eq_true q)
        have e1 : nmB z = false := by
          unfold nmB
          rw [decide_eq_false (by omega : ¬ z.length ≤ 8), Bool.false_and, Bool.and_false]
        rw [e1] at k
        exact k H (Same.refl H)
    · have c1 : ¬ (1 : Int) ≤ (z.length : Int) := fun q => c1 (decide_eq_true q)
      have e1 : nmB z = false := by
        unfold nmB
        rw [decide_eq_false (by omega : ¬ 1 ≤ z.length), Bool.false_and]
      rw [e1] at k
      exact ⟨_, rfl, iteF (k H (Same.refl H))⟩
/-! ### are_faulty -/
def fltB (xs : List Str) (m : Int) : Bool := decide (m < (xs.length : Int)) || (decide (((KdS.dcn xs xs.length : Nat) : Int) < (xs.length : Int)) || !(xs.all nmB))
def spFaulty (K : PySem.W.Frag) : Sp := fun vs H Q _ => ∃ (l : Addr) (xs : List Str) (m : Int), vs = [.ref l, .int m] ∧ Txs K H l xs ∧ xs.length ≤ 4000 ∧ (∀ z ∈ xs, z.length ≤ 4000) ∧ ∀ H', Same H H' → Q (.bl (fltB xs m)) H'
theorem sc_are_faulty : FnScope ["names", "most", "name"] ["names", "most"] (defScope s_are_faulty) := ⟨rfl, rfl, rfl, by decide +kernel, rfl, by decide +kernel, by decide +kernel⟩
theorem flt_end {xs : List Str} {m : Int} (h1 : ¬ m < (xs.length : Int)) (h2 : ¬ ((KdS.dcn xs xs.length : Nat) : Int) < (xs.length : Int)) : fltB xs m = !((xs.take xs.length).map nmB).all id := by
  unfold fltB
  rw [decide_eq_false h1, decide_eq_false h2, List.take_length, List.all_map, Bool.false_or, Bool.false_or]
  rfl
theorem strs_at {xs : List Str} {i : Nat} {x : V} (h : (xs.map V.str)[i]? = some x) : ∃ z, x = .str z ∧ xs[i]? = some z := by
  rw [List.getElem?_map] at h
  cases e : xs[i]? with
  | none => rw [e] at h; cases h
  | some z => rw [e] at h; exact ⟨z, (Option.some.inj h).symm, rfl⟩
theorem take_nm {xs : List Str} {i : Nat} {z : Str} (h : xs[i]? = some z) : ((xs.take i).map fun z => V.bl (nmB z)) ++ [V.bl (nmB z)] = (xs.take (i + 1)).map fun z => V.bl (nmB z) := by
  obtain ⟨h1, h2⟩ := List.getElem?_eq_some_iff.mp h
  rw [List.take_succ_eq_append_getElem h1, List.map_append, h2]
  rfl
theorem ok_are_faulty {fI : Addr} {fdI : FuncData} (F : FnP K "are_faulty" "are_faulty" s_are_faulty f fd) (GI : FnOk P w K mg base CX0 2 fI fdI ["text"] spIsName) (kI : PySem.W.keepIn K (.ref fI) = true) (bI : Binds K fdI ["text"] []) (gI : mg "is_name" = some (.ref fI))
    (gl : mg "len" = none) (gs : mg "set" = none) (ga : mg "all" = none) : FnOk P w K mg base CX0 3 f fd ["names", "most"] (spFaulty K) := by
  refine F.ok sc_are_faulty (fun vs H Q E h => ?_) (fun cdv A outer s H vs Q E hr h => ?_)
  · obtain ⟨l, xs, m, rfl, _⟩ := h
    rfl
  · obtain ⟨l, xs, m, rfl, hx, hn, hz, k⟩ := h
    rcases hx with hx | hx
    · refine ⟨_, PSs.nox (pss_cons (ps_if (PW.pt (pw_or (pt_cmpR op_gt (pe_callB call_len_seq (by rfl) gl boot_len (pa_cons (pv 0) pa_nil)) (pv 1) (nomark _)) (pw_or1 (pt_cmpR op_lt (pe_lenSetS rfl gl rfl gs (pv 0)) (pe_callB call_len_seq (by rfl) gl boot_len (pa_cons (pv 0) pa_nil)) (nomark _))))) (pss_one (ps_ret pe_bl)) pss_nil)
        (pss_one (ps_ret (pe_not (pe_callB (cr_all rfl) (by rfl) ga (by decide +kernel) (pa_cons (pe_lc (own := [("name", 2)]) (g := gName 2) (tt := tYes) rfl sc_are_faulty.nd (pi_list (pv 0)) (blkOk_by (own := [("name", 2)]) (N := ["names", "most", "name"]) (sc := defScope s_are_faulty) (by decide +kernel))
          (fun _ _ _ _ _ => pg_name (i := 2) sc_are_faulty.nd rfl (Or.inl rfl)) (fun _ _ _ _ _ => pts_nil) (fun _ _ _ _ _ => pe_call GI hr rfl gI kI bI .nil pass0 (pa_cons (pv 2) pa_nil))) pa_nil)))))), ?_⟩
      refine ⟨_, rfl, l, _, rfl, .inl hx, _, rfl, _, _, rfl, rfl, _, rfl, ?_⟩
      refine ite2 (fun c1 => ?_) (fun c1 => ?_)
      · have c1 : m < ((xs.map V.str).length : Int) := of_decide_eq_true c1
        rw [List.length_map] at c1
        have e1 : fltB xs m = true := by unfold fltB; rw [decide_eq_true c1, Bool.true_or]
        rw [e1] at k
        exact iteT (k H (Same.refl H))
      · have c1 : ¬ m < ((xs.map V.str).length : Int) := fun q => c1 (decide_eq_true q)
        rw [List.length_map] at c1
        refine ⟨_, rfl, l, xs, rfl, .inl hx, hn, _, rfl, l, _, rfl, .inl hx, _, _, rfl, rfl, _, rfl, ?_⟩
        refine ite2 (fun c2 => ?_) (fun c2 => ?_)
        · have c2 : ((KdS.dcn xs xs.length : Nat) : Int) < ((xs.map V.str).length : Int) := of_decide_eq_true c2
          rw [List.length_map] at c2
          have e1 : fltB xs m = true := by unfold fltB; rw [decide_eq_true c2, Bool.true_or, Bool.or_true]
          rw [e1] at k
          exact k H (Same.refl H)
        · have c2 : ¬ ((KdS.dcn xs xs.length : Nat) : Int) < ((xs.map V.str).length : Int) := fun q => c2 (decide_eq_true q)
          rw [List.length_map] at c2
          refine ⟨_, rfl, l, rfl, ⟨_, hx⟩, fun D hD => lc_build (walk_list (K := K) (a := l)) hD (fun i ys R => Same H R ∧ ys = (xs.take i).map fun z => V.bl (nmB z)) ⟨Same.refl H, rfl⟩ (fun _ _ _ _ p => Same.seq (p.1.trans cd_sub) hx) ?_ ?_⟩
          · rintro i ys x H2 H2' hi e ly ⟨sm, rfl⟩ ⟨rfl, hy⟩
            obtain ⟨z, rfl, hy2⟩ := strs_at hy
            refine ⟨rfl, yes ?_⟩
            refine ⟨_, rfl, z, rfl, hz z (List.mem_of_getElem? hy2), fun H3 s3 => LcNx.add (s3 _ _ e) ly (by rw [List.length_map] at hi; omega) ⟨sm.trans (cd_same s3), ?_⟩⟩
            exact take_nm hy2
          · rintro ys H2 e ly ⟨sm, rfl⟩
            rw [List.length_map] at e
            refine ⟨D, (xs.take xs.length).map nmB, rfl, SqL.of (by rw [List.map_map]; exact e), _, rfl, ?_⟩
            have e2 := flt_end c1 c2
            rw [e2] at k
            exact k H2 (sm.trans cd_sub)
    · refine ⟨_, PSs.nox (pss_cons (ps_if (PW.pt (pw_or (pt_cmpR op_gt (pe_callB call_len_seq (by rfl) gl boot_len (pa_cons (pv 0) pa_nil)) (pv 1) (nomark _)) (pw_or1 (pt_cmpR op_lt (pe_lenSetS rfl gl rfl gs (pv 0)) (pe_callB call_len_seq (by rfl) gl boot_len (pa_cons (pv 0) pa_nil)) (nomark _))))) (pss_one (ps_ret pe_bl)) pss_nil)
        (pss_one (ps_ret (pe_not (pe_callB (cr_all rfl) (by rfl) ga (by decide +kernel) (pa_cons (pe_lc (own := [("name", 2)]) (g := gName 2) (tt := tYes) rfl sc_are_faulty.nd (pi_tup (pv 0)) (blkOk_by (own := [("name", 2)]) (N := ["names", "most", "name"]) (sc := defScope s_are_faulty) (by decide +kernel))
          (fun _ _ _ _ _ => pg_name (i := 2) sc_are_faulty.nd rfl (Or.inl rfl)) (fun _ _ _ _ _ => pts_nil) (fun _ _ _ _ _ => pe_call GI hr rfl gI kI bI .nil pass0 (pa_cons (pv 2) pa_nil))) pa_nil)))))), ?_⟩
      refine ⟨_, rfl, l, _, rfl, .inr hx, _, rfl, _, _, rfl, rfl, _, rfl, ?_⟩
      refine ite2 (fun c1 => ?_) (fun c1 => ?_)
      · have c1 : m < ((xs.map V.str).length : Int) := of_decide_eq_true c1
        rw [List.length_map] at c1
        have e1 : fltB xs m = true := by unfold fltB; rw [decide_eq_true c1, Bool.true_or]
        rw [e1] at k
        exact iteT (k H (Same.refl H))
      · have c1 : ¬ m < ((xs.map V.str).length : Int) := fun q => c1 (decide_eq_true q)
        rw [List.length_map] at c1
        refine ⟨_, rfl, l, xs, rfl, .inr hx, hn, _, rfl, l, _, rfl, .inr hx, _, _, rfl, rfl, _, rfl, ?_⟩
        refine ite2 (fun c2 => ?_) (fun c2 => ?_)
        · have c2 : ((KdS.dcn xs xs.length : Nat) : Int) < ((xs.map V.str).length : Int) := of_decide_eq_true c2
          rw [List.length_map] at c2
          have e1 : fltB xs m = true := by unfold fltB; rw [decide_eq_true c2, Bool.true_or, Bool.or_true]
          rw [e1] at k
          exact k H (Same.refl H)
        · have c2 : ¬ ((KdS.dcn xs xs.length : Nat) : Int) < ((xs.map V.str).length : Int) := fun q => c2 (decide_eq_true q)
          rw [List.length_map] at c2
          refine ⟨_, rfl, l, rfl, ⟨_, hx⟩, fun D hD => lc_build (walk_tup (K := K) (a := l)) hD (fun i ys R => Same H R ∧ ys = (xs.take i).map fun z => V.bl (nmB z)) ⟨Same.refl H, rfl⟩ (fun _ _ _ _ p => Same.seqT (p.1.trans cd_sub) hx) ?_ ?_⟩
          · rintro i ys x H2 H2' hi e ly ⟨sm, rfl⟩ ⟨rfl, hy⟩
            obtain ⟨z, rfl, hy2⟩ := strs_at hy
            refine ⟨rfl, yes ?_⟩
            refine ⟨_, rfl, z, rfl, hz z (List.mem_of_getElem? hy2), fun H3 s3 => LcNx.add (s3 _ _ e) ly (by rw [List.length_map] at hi; omega) ⟨sm.trans (cd_same s3), ?_⟩⟩
            exact take_nm hy2
          · rintro ys H2 e ly ⟨sm, rfl⟩
            rw [List.length_map] at e
            refine ⟨D, (xs.take xs.length).map nmB, rfl, SqL.of (by rw [List.map_map]; exact e), _, rfl, ?_⟩
            have e2 := flt_end c1 c2
            rw [e2] at k
            exact k H2 (sm.trans cd_sub)
/-! ### a plan's lists in the heap -/
def AttAt (K : PySem.W.Frag) (H : Hp) (y : V) (a : Str × Str) : Prop := ∃ r, y = .ref r ∧ SqT K H r [.str a.1, .str a.2]
def AttsAt (K : PySem.W.Frag) (H : Hp) (q : Addr) (as : List (Str × Str)) : Prop := ∃ ys, SqT K H q ys ∧ Paired (AttAt K H) ys as
def DimAt (K : PySem.W.Frag) (H : Hp) (x : V) (d : Str × List (Str × Str)) : Prop := ∃ p q, x = .ref p ∧ SqT K H p [.str d.1, .ref q] ∧ AttsAt K H q d.2
def DimsAt (K : PySem.W.Frag) (H : Hp) (l : Addr) (ds : List (Str × List (Str × Str))) : Prop := ∃ xs, SqL K H l xs ∧ Paired (DimAt K H) xs ds
theorem AttAt.same {H H' : Hp} {y : V} {a : Str × Str} (e : Same H H') : AttAt K H y a → AttAt K H' y a := fun ⟨r, h1, h2⟩ => ⟨r, h1, Same.seqT e h2⟩
theorem AttsAt.same {H H' : Hp} {q : Addr} {as : List (Str × Str)} (e : Same H H') : AttsAt K H q as → AttsAt K H' q as := fun ⟨ys, h1, h2⟩ => ⟨ys, Same.seqT e h1, PySem.Paired.mono (fun _ _ => AttAt.same e) h2⟩
theorem DimAt.same {H H' : Hp} {x : V} {d : Str × List (Str × Str)} (e : Same H H') : DimAt K H x d → DimAt K H' x d := fun ⟨p, q, h1, h2, h3⟩ => ⟨p, q, h1, Same.seqT e h2, h3.same e⟩
theorem DimsAt.same {H H' : Hp} {l : Addr} {ds : List (Str × List (Str × Str))} (e : Same H H') : DimsAt K H l ds → DimsAt K H' l ds := fun ⟨xs, h1, h2⟩ => ⟨xs, e.seq h1, PySem.Paired.mono (fun _ _ => DimAt.same e) h2⟩
theorem paired_at {α β : Type} {R : α → β → Prop} : ∀ {l : List α} {m : List β} {i : Nat} {a : α}, Paired R l m → l[i]? = some a → ∃ b, m[i]? = some b ∧ R a b
  | _, _, i, a, .nil, e => by simp at e
  | _, _, 0, a, .cons h _, e => ⟨_, rfl, by have e2 : _ = a := Option.some.inj e; rw [← e2]; exact h⟩
  | _, _, i + 1, a, .cons _ r, e => paired_at (i := i) r e
theorem take_snoc {α β : Type} {g : α → β} {l : List α} {i : Nat} {a : α} (h : l[i]? = some a) : (l.take i).map g ++ [g a] = (l.take (i + 1)).map g := by
  obtain ⟨h1, h2⟩ := List.getElem?_eq_some_iff.mp h
  rw [List.take_succ_eq_append_getElem h1, List.map_append, h2]
  rfl
structure Szd (ds : List (Str × List (Str × Str))) (ms : List Str) : Prop where
  dl : ds.length ≤ 4000
  dn : ∀ d ∈ ds, d.1.length ≤ 4000 ∧ d.2.length ≤ 4000 ∧ ∀ a ∈ d.2, a.1.length ≤ 4000
  ml : ms.length ≤ 4000
  mn : ∀ m ∈ ms, m.length ≤ 4000
/-! ### first_fault -/
def ffV (ds : List (Str × List (Str × Str))) (ms : List Str) : V := if (ds.isEmpty || fltB (ds.map (·.1)) 4) = true then .str "dimensions" else if ds.any (fun d => fltB (d.2.map (·.1)) 5) = true then .str "attributes" else if fltB ms 4 = true then .str "measures" else .non
def spFirst (K : PySem.W.Frag) : Sp := fun vs H Q _ => ∃ (l m : Addr) (ds : List (Str × List (Str × Str))) (ms : List Str), vs = [.ref l, .ref m] ∧ DimsAt K H l ds ∧ Txs K H m ms ∧ Szd ds ms ∧ ∀ H', Same H H' → Q (ffV ds ms) H'
theorem sc_first : FnScope ["dimensions", "measures", "name", "attributes", "names", "attribute", "way"] ["dimensions", "measures"] (defScope s_first_fault) := ⟨rfl, rfl, rfl, by decide +kernel, rfl, by decide +kernel, by decide +kernel⟩
theorem ok_first {fF : Addr} {fdF : FuncData} (F : FnP K "first_fault" "first_fault" s_first_fault f fd) (GF : FnOk P w K mg base CX0 3 fF fdF ["names", "most"] (spFaulty K)) (kF : PySem.W.keepIn K (.ref fF) = true) (bF : Binds K fdF ["names", "most"] []) (gF : mg "are_faulty" = some (.ref fF))
    {t1 t2 t3 : Nat} (g1 : mg "MOST_DIMENSIONS" = some (.int 4 t1)) (g2 : mg "MOST_ATTRIBUTES" = some (.int 5 t2)) (g3 : mg "MOST_MEASURES" = some (.int 4 t3)) : FnOk P w K mg base CX0 4 f fd ["dimensions", "measures"] (spFirst K) := by
  refine F.ok sc_first (fun vs H Q E h => ?_) (fun cdv A outer s H vs Q E hr h => ?_)
  · obtain ⟨l, m, ds, ms, rfl, _⟩ := h
    rfl
  · obtain ⟨l, m, ds, ms, rfl, ⟨xs, hl, hp⟩, hm, sz, k⟩ := h
    have nd := sc_first.nd
    refine ⟨_, PSs.nox (pss_cons (ps_setLc (i := 4) (own := [("name", 2), ("attributes", 3)]) (g := gTup K 2 (gCons (gName 2) (gCons (gName 3) gNil))) (tt := tYes) rfl nd rfl rfl (sw_true rfl rfl rfl (by decide +kernel)) (pi_list (pv 0)) (blkOk_by (own := [("name", 2), ("attributes", 3)]) (N := ["dimensions", "measures", "name", "attributes", "names", "attribute", "way"]) (sc := defScope s_first_fault) (by decide +kernel))
        (fun _ _ _ _ _ => pg_tup rfl (pgs_cons (pg_name (i := 2) nd rfl (Or.inl rfl)) (pgs_cons (pg_name (i := 3) nd rfl (Or.inl rfl)) pgs_nil))) (fun _ _ _ _ _ => pts_nil) (fun _ _ _ _ _ => pv 2))
      (pss_cons (ps_if (PW.pt (pw_or (pt_not (pt_truth (pv 4) (by intro _; rfl))) (pw_or1 (pt_val (pe_call GF hr rfl gF kF bF .nil pass0 (pa_cons (pv 4) (pa_cons (pe_glob (v := .int 4) rfl g1 ⟨_, rfl⟩) pa_nil))))))) (pss_one (ps_ret pe_str)) pss_nil)
      (pss_cons (ps_for PassesOwn.never rfl (pi_list (pv 0)) (pg_tup rfl (pgs_cons (pg_name (i := 2) nd rfl (Or.inl rfl)) (pgs_cons (pg_name (i := 3) nd rfl (Or.inl rfl)) pgs_nil)))
        (pss_one (ps_if (pt_val (pe_call GF hr rfl gF kF bF .nil pass0 (pa_cons (pe_lc (own := [("attribute", 5), ("way", 6)]) (g := gTup K 2 (gCons (gName 5) (gCons (gName 6) gNil))) (tt := tYes) rfl nd (pi_tup (pv 3)) (blkOk_by (own := [("attribute", 5), ("way", 6)]) (N := ["dimensions", "measures", "name", "attributes", "names", "attribute", "way"]) (sc := defScope s_first_fault) (by decide +kernel))
          (fun _ _ _ _ _ => pg_tup rfl (pgs_cons (pg_name (i := 5) nd rfl (Or.inl rfl)) (pgs_cons (pg_name (i := 6) nd rfl (Or.inl rfl)) pgs_nil))) (fun _ _ _ _ _ => pts_nil) (fun _ _ _ _ _ => pv 5)) (pa_cons (pe_glob (v := .int 5) rfl g2 ⟨_, rfl⟩) pa_nil)))) (pss_one (ps_ret pe_str)) pss_nil)))
      (pss_cons (ps_if (pt_val (pe_call GF hr rfl gF kF bF .nil pass0 (pa_cons (pv 1) (pa_cons (pe_glob (v := .int 4) rfl g3 ⟨_, rfl⟩) pa_nil)))) (pss_one (ps_ret pe_str)) pss_nil)
      (pss_one (ps_ret pe_non)))))), ?_⟩
    refine ⟨_, rfl, l, rfl, ⟨_, hl⟩, fun D hD => lc_build (walk_list (K := K) (a := l)) hD (fun i ys R => Same H R ∧ ys = (ds.take i).map fun d => V.str d.1) ⟨Same.refl H, rfl⟩ (fun _ _ _ _ p => Same.seq (p.1.trans cd_sub) hl) ?_ ?_⟩
    · rintro i ys x H2 H2' hi e ly ⟨sm, rfl⟩ ⟨rfl, hy⟩
      obtain ⟨d, hd, p, q, rfl, h1, h2⟩ := paired_at hp hy
      have sz1 := sz.dl
      have hlen := hp.length
      refine ⟨p, _, rfl, Same.seqT (sm.trans cd_sub) h1, rfl, _, _, rfl, _, _, rfl, rfl, rfl, yes ?_⟩
      refine ⟨_, rfl, LcNx.add e ly (by omega) ⟨sm, take_snoc hd⟩⟩
    · rintro ys H2 e ly ⟨sm, rfl⟩
      have hlen := hp.length
      have eN : (ds.take xs.length).map (fun d => V.str d.1) = (ds.map (·.1)).map V.str := by
        rw [hlen, List.take_length, List.map_map]
        rfl
      rw [eN] at e
      have s2 : Same H H2 := sm.trans cd_sub
      have l1 := sz.dl
      have hnm : ∀ z ∈ ds.map (·.1), z.length ≤ 4000 := fun z hz => by
        obtain ⟨d, hd, rfl⟩ := List.mem_map.mp hz
        exact (sz.dn d hd).1
      refine ⟨_, rfl, _, .inl ⟨_, SqL.of e, rfl⟩, ?_⟩
      by_cases e0 : ds = []
      · subst e0
        exact iteT (iteT (k H2 s2))
      · have ne : (!((ds.map (·.1)).map V.str).isEmpty) = true := by
          cases ds with
          | nil => exact absurd rfl e0
          | cons d r => rfl
        rw [ne]
        refine iteF ⟨_, rfl, D, ds.map (·.1), 4, rfl, .inl (SqL.of e), by rw [List.length_map]; exact l1, hnm, fun H3 s3 => ⟨_, rfl, ?_⟩⟩
        have ie : ds.isEmpty = false := by
          cases ds with
          | nil => exact absurd rfl e0
          | cons d r => rfl
        have s03 : Same H H3 := s2.trans s3
        by_cases c1 : fltB (ds.map (·.1)) 4 = true
        · rw [c1]
          have ev : ffV ds ms = .str "dimensions" := by unfold ffV; rw [ie, c1]; rfl
          rw [ev] at k
          exact iteT (k H3 s03)
        · have c1 : fltB (ds.map (·.1)) 4 = false := by simpa using c1
          rw [c1]
          refine iteF ?_
          refine ⟨_, rfl, l, rfl, ⟨_, s03.seq hl⟩, for_list (K := K) (a := l) (xs := xs) (fun i σ H4 => ∃ u v, σ = [some (.ref l), some (.ref m), u, v, some (.ref D), none, none] ∧ Same H H4 ∧ (ds.take i).any (fun d => fltB (d.2.map (·.1)) 5) = false) ⟨_, _, rfl, s03, rfl⟩ (fun i σ H4 _ ⟨_, _, _, s4, _⟩ => s4.seq hl) ?_ ?_⟩
          · rintro i x σ H4 hi ⟨u, v, rfl, s4, na⟩
            obtain ⟨d, hd, p, q, rfl, h1, ys, h2, h3⟩ := paired_at hp hi
            have hdm := List.mem_of_getElem? hd
            obtain ⟨_, la, lz⟩ := sz.dn d hdm
            have hyl := h3.length
            refine ⟨p, _, rfl, Same.seqT s4 h1, rfl, _, _, rfl, _, _, rfl, rfl, ?_⟩
            refine ⟨_, rfl, q, rfl, ⟨_, Same.seqT s4 h2⟩, fun B hB => lc_build (walk_tup (K := K) (a := q)) hB (fun i ys R => Same H4 R ∧ ys = (d.2.take i).map fun d => V.str d.1) ⟨Same.refl H4, rfl⟩ (fun _ _ _ _ p => Same.seqT (s4.trans (p.1.trans cd_sub)) h2) ?_ ?_⟩
            · rintro j zs x H5 H5' hj e5 lz5 ⟨s5, rfl⟩ ⟨rfl, hy⟩
              obtain ⟨a, ha, r, rfl, h4⟩ := paired_at h3 hy
              refine ⟨r, _, rfl, Same.seqT (s4.trans (s5.trans cd_sub)) h4, rfl, _, _, rfl, _, _, rfl, rfl, rfl, yes ?_⟩
              refine ⟨_, rfl, LcNx.add e5 lz5 (by omega) ⟨s5, take_snoc ha⟩⟩
            · rintro zs H5 e5 lz5 ⟨s5, rfl⟩
              have eA : (d.2.take ys.length).map (fun d => V.str d.1) = (d.2.map (·.1)).map V.str := by
                rw [hyl, List.take_length, List.map_map]
                rfl
              rw [eA] at e5
              refine ⟨B, d.2.map (·.1), 5, rfl, .inl (SqL.of e5), by rw [List.length_map]; exact la, fun z hz => ?_, fun H6 s6 => ⟨_, rfl, ?_⟩⟩
              · obtain ⟨a, ha, rfl⟩ := List.mem_map.mp hz
                exact lz a ha
              · have s06 : Same H H6 := (s4.trans (s5.trans cd_sub)).trans s6
                by_cases c2 : fltB (d.2.map (·.1)) 5 = true
                · rw [c2]
                  have ea : ds.any (fun d => fltB (d.2.map (·.1)) 5) = true := List.any_eq_true.mpr ⟨d, hdm, c2⟩
                  have ev : ffV ds ms = .str "attributes" := by unfold ffV; rw [ie, c1, ea]; rfl
                  rw [ev] at k
                  exact iteT (k H6 s06)
                · have c2 : fltB (d.2.map (·.1)) 5 = false := by simpa using c2
                  rw [c2]
                  refine iteF ⟨_, _, rfl, s06, ?_⟩
                  obtain ⟨g1, g2⟩ := List.getElem?_eq_some_iff.mp hd
                  rw [List.take_succ_eq_append_getElem g1, List.any_append, na, g2]
                  simp [c2]
          · rintro σ H4 ⟨u, v, rfl, s4, na⟩
            rw [hlen, List.take_length] at na
            refine ⟨_, rfl, m, ms, 4, rfl, Same.txs s4 hm, sz.ml, sz.mn, fun H5 s5 => ⟨_, rfl, ?_⟩⟩
            have s05 : Same H H5 := s4.trans s5
            by_cases c3 : fltB ms 4 = true
            · rw [c3]
              have ev : ffV ds ms = .str "measures" := by unfold ffV; rw [ie, c1, na, c3]; rfl
              rw [ev] at k
              exact iteT (k H5 s05)
            · have c3 : fltB ms 4 = false := by simpa using c3
              rw [c3]
              have ev : ffV ds ms = .non := by unfold ffV; rw [ie, c1, na, c3]; rfl
              rw [ev] at k
              exact iteF (k H5 s05)
end
end Kd

namespace Kd
open PySem PySem.Spec PyProof.Rows L2
section
variable {P : Program} {w : World} {K : PySem.W.Frag} {mg : Str → Option Value} {base : Heap} {f : Addr} {fd : FuncData}
/-! ### the plan as an object -/
def plF (a b : Addr) : List (Str × V) := [("dimension_list", .ref a), ("measure_list", .ref b)]
theorem pl_ne : ¬ (("dimension_list" : Str) = "measure_list") := by decide +kernel
theorem pl_put (a b : Addr) : putF "measure_list" (.ref b) (putF "dimension_list" (.ref a) []) = plF a b := by
  show (if ("dimension_list" : Str) = "measure_list" then [(("dimension_list" : Str), V.ref b)] else (("dimension_list" : Str), V.ref a) :: putF "measure_list" (.ref b) []) = plF a b
  rw [if_neg pl_ne]
  rfl
theorem pl_dim (a b : Addr) : (plF a b).lookup ("dimension_list" : Str) = some (.ref a) := by
  unfold plF
  rw [List.lookup_cons]
  rw [show (("dimension_list" : Str) == "dimension_list") = true by decide +kernel]
theorem pl_mea (a b : Addr) : (plF a b).lookup ("measure_list" : Str) = some (.ref b) := by
  unfold plF
  rw [List.lookup_cons, show (("measure_list" : Str) == "dimension_list") = false by decide +kernel, List.lookup_cons, show (("measure_list" : Str) == "measure_list") = true by decide +kernel]
theorem pl_no0 {a b : Addr} {m : Str} (h1 : (m == ("dimension_list" : Str)) = false) (h2 : (m == ("measure_list" : Str)) = false) : (plF a b).lookup m = none := by
  unfold plF
  rw [List.lookup_cons, h1, List.lookup_cons, h2]
  rfl
/-- a Plan of ds and ms stands at x -/
structure PlanAt (K : PySem.W.Frag) (C : Addr) (H : Hp) (x : Addr) (ds : List (Str × List (Str × Str))) (ms : List Str) : Prop where
  ex : ∃ dx a b xs, H x = some (.ins C dx (plF a b)) ∧ H a = some (.lst xs) ∧ Paired (DimAt K H) xs ds ∧ H b = some (.lst (ms.map V.str))
theorem PlanAt.same {C x : Addr} {H H' : Hp} {ds : List (Str × List (Str × Str))} {ms : List Str} (e : Same H H') (h : PlanAt K C H x ds ms) : PlanAt K C H' x ds ms := by
  obtain ⟨dx, a, b, xs, h1, h2, h3, h4⟩ := h.ex
  exact ⟨dx, a, b, xs, e _ _ h1, e _ _ h2, PySem.Paired.mono (fun _ _ => DimAt.same e) h3, e _ _ h4⟩
/-! data do not lean on an instance -/
theorem seqL_cd {x C dx a : Addr} {H : Hp} {fs : List (Str × V)} {xs : List V} (hx : H x = some (.ins C dx fs)) (h : SqL K H a xs) : SqL K (cd x H) a xs := by
  rcases h with (q | ⟨o, q⟩) | q
  · exact .inl (.inl (cd_of q (ne_of q hx (fun z => nomatch z))))
  · exact .inl (.inr ⟨o, cd_of q (ne_of q hx (fun z => nomatch z))⟩)
  · exact .inr q
theorem seqT_cd {x C dx a : Addr} {H : Hp} {fs : List (Str × V)} {xs : List V} (hx : H x = some (.ins C dx fs)) (h : SqT K H a xs) : SqT K (cd x H) a xs := by
  rcases h with (q | ⟨o, q⟩) | q
  · exact .inl (.inl (cd_of q (ne_of q hx (fun z => nomatch z))))
  · exact .inl (.inr ⟨o, cd_of q (ne_of q hx (fun z => nomatch z))⟩)
  · exact .inr q
theorem txs_cd {x C dx a : Addr} {H : Hp} {fs : List (Str × V)} {xs : List Str} (hx : H x = some (.ins C dx fs)) (h : Txs K H a xs) : Txs K (cd x H) a xs := h.elim (fun q => .inl (seqL_cd hx q)) fun q => .inr (seqT_cd hx q)
theorem dim_cd {x C dx : Addr} {H : Hp} {fs : List (Str × V)} {y : V} {d : Str × List (Str × Str)} (hx : H x = some (.ins C dx fs)) : DimAt K H y d → DimAt K (cd x H) y d :=
  fun ⟨p, q, h1, h2, zs, h3, h4⟩ => ⟨p, q, h1, seqT_cd hx h2, zs, seqT_cd hx h3, PySem.Paired.mono (fun _ _ ⟨r, e1, e2⟩ => ⟨r, e1, seqT_cd hx e2⟩) h4⟩
structure PlTxt (K : PySem.W.Frag) (C : Addr) : Prop where
  cl : Cls K C
  nD : NoAttr K C "dimension_list"
  nM : NoAttr K C "measure_list"
def rTupOf (K : PySem.W.Frag) : List V → Hp → VK → Prop := fun xs H Q => ∃ p ys, xs = [.ref p] ∧ ((SqL K H p ys ∧ ∀ l, H l = none → Q (.ref l) (upd H l (.tup ys))) ∨ (SqT K H p ys ∧ Q (.ref p) H))
def spInit (K : PySem.W.Frag) (C : Addr) : Sp := fun vs H Q _ => ∃ (x dx l m : Addr) (ds : List (Str × List (Str × Str))) (ms : List Str), vs = [.ref x, .ref l, .ref m] ∧ H x = some (.ins C dx []) ∧ DimsAt K H l ds ∧ Txs K H m ms ∧ Szd ds ms ∧ ffV ds ms = .non ∧
  ∀ (H' : Hp) (a b : Addr) (xs : List V), H a = none → H b = none → H' x = some (.ins C dx (plF a b)) → H' a = some (.lst xs) → Paired (DimAt K H') xs ds → H' b = some (.lst (ms.map V.str)) → Same (cd x H) (cd x H') → Q .non H'
theorem sc_init : FnScope ["self", "dimensions", "measures", "fault", "name", "attributes"] ["self", "dimensions", "measures"] (defScope s_Plan_init) := ⟨rfl, rfl, rfl, by decide +kernel, rfl, by decide +kernel, by decide +kernel⟩
theorem ok_init {fF C : Addr} {fdF : FuncData} {dvs : List V} (F : FunD K "__init__" "Plan.__init__" (defArgs s_Plan_init) (defBody s_Plan_init) (defScope s_Plan_init) dvs [] f fd) (T : PlTxt K C) (GF : FnOk P w K mg base CX0 4 fF fdF ["dimensions", "measures"] (spFirst K)) (kF : PySem.W.keepIn K (.ref fF) = true) (bF : Binds K fdF ["dimensions", "measures"] []) (gF : mg "first_fault" = some (.ref fF))
    (gt : mg "tuple" = none) (gl : mg "list" = none) : FnOk P w K mg base CX0 5 f fd ["self", "dimensions", "measures"] (spInit K C) := by
  refine F.ok sc_init (fun vs H Q E h => ?_) (fun cdv A outer s H vs Q E hr h => ?_)
  · obtain ⟨x, dx, l, m, ds, ms, rfl, _⟩ := h
    rfl
  · obtain ⟨x, dx, l, m, ds, ms, rfl, hx, hl, hm, sz, ev, k⟩ := h
    have nd := sc_init.nd
    refine ⟨_, PSs.nox (pss_cons (ps_set (i := 3) nd rfl (Or.inl rfl) (pe_call GF hr rfl gF kF bF .nil pass0 (pa_cons (pv 1) (pa_cons (pv 2) pa_nil))))
      (pss_cons (ps_if (pt_cmp (pc_notN (pv 3))) (pss_one ps_never) pss_nil)
      (pss_cons (ps_fld (pv 0) (pe_lc (own := [("name", 4), ("attributes", 5)]) (g := gTup K 2 (gCons (gName 4) (gCons (gName 5) gNil))) (tt := tYes) (te := tTup (tCons (tVar 4) (tCons (tCB (rTupOf K) (tCons (tVar 5) tNil)) tNil))) rfl nd (pi_list (pv 1)) (blkOk_by (own := [("name", 4), ("attributes", 5)]) (N := ["self", "dimensions", "measures", "fault", "name", "attributes"]) (sc := defScope s_Plan_init) (by decide +kernel))
        (fun _ _ _ _ _ => pg_tup rfl (pgs_cons (pg_name (i := 4) nd rfl (Or.inl rfl)) (pgs_cons (pg_name (i := 5) nd rfl (Or.inl rfl)) pgs_nil))) (fun _ _ _ _ _ => pts_nil) (fun _ _ _ _ _ => pe_tup (pa_cons (pv 4) (pa_cons (pe_callTy call_tuple_of (by rfl) gt (by decide +kernel) (pa_cons (pv 5) pa_nil)) pa_nil)))) rfl)
      (pss_one (ps_fld (pv 0) (pe_callTy call_list_of (by rfl) gl (by decide +kernel) (pa_cons (pv 2) pa_nil)) rfl))))), ?_⟩
    refine ⟨_, rfl, _, rfl, l, m, ds, ms, rfl, hl, hm, sz, fun H1 s1 => ?_⟩
    rw [ev]
    refine ⟨_, rfl, _, rfl, ?_⟩
    refine iteF ?_
    obtain ⟨xs, hl1, hp⟩ := DimsAt.same s1 hl
    have hlen := hp.length
    have l1 := sz.dl
    refine ⟨_, rfl, l, rfl, ⟨_, hl1⟩, fun D hD => lc_build (walk_list (K := K) (a := l)) hD (fun i ys R => Same H1 R ∧ Paired (DimAt K R) ys (ds.take i)) ⟨Same.refl H1, .nil⟩ (fun _ _ _ _ p => Same.seq (p.1.trans cd_sub) hl1) ?_ ?_⟩
    · rintro i ys y H2 H2' hi e ly ⟨sm, py⟩ ⟨rfl, hy⟩
      obtain ⟨d, hd, p, q, rfl, h1, h2⟩ := paired_at hp hy
      refine ⟨p, _, rfl, Same.seqT (sm.trans cd_sub) h1, rfl, _, _, rfl, _, _, rfl, rfl, rfl, yes ?_⟩
      obtain ⟨zs, h3, h4⟩ := id h2
      refine ⟨_, rfl, _, rfl, q, zs, rfl, .inr ⟨Same.seqT (sm.trans cd_sub) h3, by show 2 ≤ sizeLine; decide, fun t ht => ?_⟩⟩
      have nDt : D ≠ t := ne_of_none e ht
      have s3 : Same (cd D H2') (cd D (upd H2' t (.tup [.str d.1, .ref q]))) := cd_same (same_new ht)
      refine LcNx.add (by rw [upd_ne nDt]; exact e) ly (by omega) ⟨sm.trans s3, ?_⟩
      obtain ⟨g1, g2⟩ := List.getElem?_eq_some_iff.mp hd
      rw [List.take_succ_eq_append_getElem g1, g2]
      exact PySem.Paired.snoc (PySem.Paired.mono (fun _ _ => DimAt.same s3) py) ⟨t, q, rfl, SqT.of (cd_of upd_same nDt.symm), AttsAt.same (sm.trans s3) h2⟩
    · rintro ys H2 e ly ⟨sm, py⟩
      rw [hlen, List.take_length] at py
      have s2 : Same H1 H2 := sm.trans cd_sub
      have hx2 : H2 x = some (.ins C dx []) := s2 _ _ (s1 _ _ hx)
      have nDx : D ≠ x := (ne_of_none (s1 _ _ hx) hD).symm
      refine ⟨_, rfl, x, C, dx, _, rfl, hx2, T.cl, T.nD, (by show 0 < 1000; decide), ?_⟩
      have s3 : Same (cd x H2) (upd H2 x (.ins C dx (putF "dimension_list" (.ref D) []))) := fun c o q => by rw [upd_ne (ct_ne q).1]; exact cd_sub _ _ q
      have hm3 : Txs K (upd H2 x (.ins C dx (putF "dimension_list" (.ref D) []))) m ms := Same.txs s3 (txs_cd hx2 (Same.txs (s1.trans s2) hm))
      refine ⟨_, rfl, m, ms.map V.str, rfl, hm3, fun b hb => ?_⟩
      have nxb : x ≠ b := ne_of_none upd_same hb
      have hDb : D ≠ b := fun z => by
        rw [← z, upd_ne nDx] at hb
        rw [e] at hb
        cases hb
      refine ⟨_, rfl, x, C, dx, _, rfl, (by rw [upd_ne nxb]; exact upd_same), T.cl, T.nM, (by show 1 < 1000; decide), ?_⟩
      have e1 : putF "measure_list" (V.ref b) (putF "dimension_list" (V.ref D) []) = plF D b := pl_put D b
      have s4 : Same (cd x H2) (upd (upd (upd H2 x (.ins C dx (putF "dimension_list" (.ref D) []))) b (.lst (ms.map V.str))) x (.ins C dx (putF "measure_list" (V.ref b) (putF "dimension_list" (V.ref D) [])))) := fun c o q => by
        have nc := (ct_ne q).1
        have qc := cd_sub _ _ q
        have ncb : c ≠ b := ne_of_none (show upd H2 x (.ins C dx (putF "dimension_list" (.ref D) [])) c = some o by rw [upd_ne nc]; exact qc) hb
        rw [upd_ne nc, upd_ne ncb, upd_ne nc]
        exact qc
      have py2 : Paired (DimAt K (cd x H2)) ys ds := PySem.Paired.mono (fun y d q => dim_cd hx2 (DimAt.same cd_sub q)) py
      refine k _ D b ys (s1.free hD) ?_ (Eq.trans upd_same (congrArg (fun z => some (HO.ins C dx z)) e1)) (s4 _ _ (cd_of e nDx)) (PySem.Paired.mono (fun _ _ => DimAt.same s4) py2) ?_ ?_
      · have hb2 : H2 b = none := by
          rw [upd_ne nxb.symm] at hb
          exact hb
        exact (s1.trans s2).free hb2
      · rw [upd_ne nxb.symm, upd_same]
      · have s5 : Same (cd x H) (cd x H2) := cd_same (s1.trans s2)
        have s6 := cd_same (D := x) s4
        exact s5.trans (fun c o q => s6 c o (cd_of q (ct_ne q).1))
end
end Kd
namespace Kd
open PySem PySem.Spec PyProof.Rows L2
section
variable {P : Program} {w : World} {K : PySem.W.Frag} {mg : Str → Option Value} {base : Heap} {f : Addr} {fd : FuncData}
def spDims (K : PySem.W.Frag) (C : Addr) : Sp := fun vs H Q _ => ∃ (x : Addr) (ds : List (Str × List (Str × Str))) (ms : List Str), vs = [.ref x] ∧ PlanAt K C H x ds ms ∧ ∀ l xs, H l = none → Paired (DimAt K H) xs ds → Q (.ref l) (upd H l (.lst xs))
def spMeas (K : PySem.W.Frag) (C : Addr) : Sp := fun vs H Q _ => ∃ (x : Addr) (ds : List (Str × List (Str × Str))) (ms : List Str), vs = [.ref x] ∧ PlanAt K C H x ds ms ∧ ∀ l, H l = none → Q (.ref l) (upd H l (.lst (ms.map V.str)))
theorem sc_dims : FnScope ["self"] ["self"] (defScope s_Plan_dimensions) := ⟨rfl, rfl, rfl, by decide +kernel, rfl, by decide +kernel, by decide +kernel⟩
theorem ok_dims {C : Addr} (F : FnP K "dimensions" "Plan.dimensions" s_Plan_dimensions f fd) (T : PlTxt K C) (gl : mg "list" = none) : FnOk P w K mg base CX0 1 f fd ["self"] (spDims K C) := by
  refine F.ok sc_dims (fun vs H Q E h => ?_) (fun cdv A outer s H vs Q E hr h => ?_)
  · obtain ⟨x, ds, ms, rfl, _⟩ := h
    rfl
  · obtain ⟨x, ds, ms, rfl, ⟨dx, a, b, xs, h1, h2, h3, h4⟩, k⟩ := h
    refine ⟨_, PSs.nox (pss_one (ps_ret (pe_callTy call_list_of (by rfl) gl (by decide +kernel) (pa_cons (pe_fld (pv 0) rfl) pa_nil)))), ?_⟩
    exact ⟨_, rfl, x, C, dx, _, _, rfl, h1, T.cl, T.nD, pl_dim a b, a, xs, rfl, .inl (SqL.of h2), fun l hl => k l xs hl h3⟩
theorem sc_meas : FnScope ["self"] ["self"] (defScope s_Plan_measures) := ⟨rfl, rfl, rfl, by decide +kernel, rfl, by decide +kernel, by decide +kernel⟩
theorem ok_meas {C : Addr} (F : FnP K "measures" "Plan.measures" s_Plan_measures f fd) (T : PlTxt K C) (gl : mg "list" = none) : FnOk P w K mg base CX0 1 f fd ["self"] (spMeas K C) := by
  refine F.ok sc_meas (fun vs H Q E h => ?_) (fun cdv A outer s H vs Q E hr h => ?_)
  · obtain ⟨x, ds, ms, rfl, _⟩ := h
    rfl
  · obtain ⟨x, ds, ms, rfl, ⟨dx, a, b, xs, h1, h2, h3, h4⟩, k⟩ := h
    refine ⟨_, PSs.nox (pss_one (ps_ret (pe_callTy call_list_of (by rfl) gl (by decide +kernel) (pa_cons (pe_fld (pv 0) rfl) pa_nil)))), ?_⟩
    exact ⟨_, rfl, x, C, dx, _, _, rfl, h1, T.cl, T.nM, pl_mea a b, b, _, rfl, .inl (SqL.of h4), fun l hl => k l hl⟩
end
end Kd

namespace Kd
open PySem PySem.Spec PyProof.Rows L2
/-- a tray of at most n draws stands at a, its list of great ones at g -/
structure Tray (H : Hp) (a g : Addr) (n : Nat) : Prop where
  ex : ∃ (c f m : Int) (gs : List Int), H a = some (.lst [.ref g, .int c, .int f, .int m]) ∧ H g = some (.lst (gs.map V.int)) ∧ (0 ≤ f ∧ f < 2305843009213693951) ∧ 0 ≤ m ∧ m ≤ n
section
variable {P : Program} {w : World} {K : PySem.W.Frag} {mg : Str → Option Value} {base : Heap} {f : Addr} {fd : FuncData}
def spTray (K : PySem.W.Frag) : Sp := fun vs H Q _ => ∃ (l : Addr) (ns : List Int), vs = [.ref l] ∧ SqL K H l (ns.map V.int) ∧ ns.length ≤ 63 ∧ ∀ a g H', H a = none → H g = none → Tray H' a g 0 → Same H H' → Q (.ref a) H'
theorem sc_tray : FnScope ["script", "fold", "great", "cell", "much"] ["script"] (defScope s_l_tray) := ⟨rfl, rfl, rfl, by decide +kernel, rfl, by decide +kernel, by decide +kernel⟩
theorem ints_at {xs : List Int} {i : Nat} {x : V} (h : (xs.map V.int)[i]? = some x) : ∃ z, x = .int z ∧ xs[i]? = some z := by
  rw [List.getElem?_map] at h
  cases e : xs[i]? with
  | none => rw [e] at h; cases h
  | some z => rw [e] at h; exact ⟨z, (Option.some.inj h).symm, rfl⟩
theorem ok_tray (F : FnP K "_law_tray" "_law_tray" s_l_tray f fd) (gm : mg "max" = none) : FnOk P w K mg base CX0 1 f fd ["script"] (spTray K) := by
  refine F.ok sc_tray (fun vs H Q E h => ?_) (fun cdv A outer s H vs Q E hr h => ?_)
  · obtain ⟨l, ns, rfl, _⟩ := h
    rfl
  · obtain ⟨l, ns, rfl, hS, hn, k⟩ := h
    have nd := sc_tray.nd
    refine ⟨_, PSs.nox (pss_cons (ps_set (i := 1) nd rfl (Or.inl rfl) pe_int)
      (pss_cons (ps_set (i := 2) nd rfl (Or.inl rfl) (pe_lst pa_nil))
      (pss_cons (ps_for PassesOwn.never rfl (pi_list (pv 0)) (pg_name (i := 3) nd rfl (Or.inl rfl))
        (pss_cons (ps_set (i := 1) nd rfl (Or.inl rfl) (pe_op op_mod (pe_op op_add (pe_op op_mul (pv 1) pe_int) (pv 3)) (pe_op op_sub (pe_op op_pow pe_int pe_int) pe_int)))
        (pss_cons (ps_set (i := 4) nd rfl (Or.inl rfl) (pe_callB (call_max2 rfl) (by rfl) gm (by decide +kernel) (pa_cons (pv 3) (pa_cons (pe_op op_sub pe_int (pv 3)) pa_nil))))
        (pss_one (ps_if (pt_cmpR op_ge (pv 4) (pe_op op_pow pe_int pe_int) (nomark _)) (pss_one (ps_expr (pe_bm PySem.F.plainAttrs_list PySem.F.slot_list_append PySem.F.type_list_append mt_append (pv 2) (pa_cons (pe_op op_sub (pv 4) (pe_op op_pow pe_int pe_int)) pa_nil)))) pss_nil)))))
      (pss_one (ps_ret (pe_lst (pa_cons (pv 2) (pa_cons pe_int (pa_cons (pv 1) (pa_cons pe_int pa_nil)))))))))), ?_⟩
    refine ⟨by show 0 ≤ sizeLine; decide, fun g hg => ?_⟩
    refine ⟨_, rfl, l, rfl, ⟨_, (same_new hg).seq hS⟩, for_list (K := K) (a := l) (xs := ns.map V.int) (fun i σ H2 => ∃ (fo : Int) (gs : List Int) (u v : Option V), σ = [some (.ref l), some (.int fo), some (.ref g), u, v] ∧ Same H H2 ∧ H2 g = some (.lst (gs.map V.int)) ∧ gs.length ≤ i ∧ 0 ≤ fo ∧ fo < 2305843009213693951)
      ⟨_, [], _, _, rfl, same_new hg, upd_same, Nat.le_refl _, by decide, by decide⟩ (fun i σ H2 _ ⟨_, _, _, _, _, s2, _⟩ => s2.seq hS) ?_ ?_⟩
    · rintro i x σ H2 hi ⟨fo, gs, u, v, rfl, s2, h2, l2, f0, f1⟩
      have hil : i < (ns.map V.int).length := (List.getElem?_eq_some_iff.mp hi).1
      rw [List.length_map] at hil
      obtain ⟨z, rfl, hz⟩ := ints_at hi
      refine ⟨_, rfl, _, _, rfl, rfl, .inl ⟨by omega, by omega⟩, _, rfl, _, _, rfl, rfl, _, _, rfl, rfl, ⟨by decide, by decide, by decide⟩, _, _, rfl, rfl, _, _, rfl, rfl, ?_, ?_⟩
      · show (0 : Int) < 2 ^ 61 - 1
        decide
      · have fb : 0 ≤ (fo * 1000003 + z) % (2 ^ Int.toNat 61 - 1) ∧ (fo * 1000003 + z) % (2 ^ Int.toNat 61 - 1) < 2305843009213693951 :=
          ⟨Int.emod_nonneg _ (by decide), Int.lt_of_lt_of_le (Int.emod_lt_of_pos _ (by decide)) (by decide)⟩
        refine ⟨_, rfl, _, rfl, _, _, rfl, rfl, _, _, rfl, ?_⟩
        refine ⟨_, rfl, _, _, rfl, rfl, ⟨by decide, by decide, by decide⟩, _, _, rfl, rfl, _, rfl, ?_⟩
        refine ite2 (fun _ => ?_) (fun _ => ?_)
        · refine ⟨_, rfl, .inl ⟨rfl, _, SqL.of h2⟩, _, rfl, _, _, rfl, rfl, ⟨by decide, by decide, by decide⟩, _, _, rfl, rfl, g, _, _, rfl, rfl, h2, small1000 (by rw [List.length_map]; omega), ?_⟩
          exact ⟨_, gs ++ [_], _, _, rfl, Same.upd s2 hg, by rw [upd_same, List.map_append]; rfl, by rw [List.length_append]; show gs.length + 1 ≤ i + 1; omega, fb.1, fb.2⟩
        · exact ⟨_, gs, _, _, rfl, s2, h2, by omega, fb.1, fb.2⟩
    · rintro σ H2 ⟨fo, gs, u, v, rfl, s2, h2, l2, f0, f1⟩
      refine ⟨_, rfl, _, rfl, by show 4 ≤ sizeLine; decide, fun a ha => ?_⟩
      refine k a g _ (s2.free ha) hg ⟨0, fo, 0, gs, upd_same, by rw [upd_ne (ne_of_none h2 ha)]; exact h2, ⟨f0, f1⟩, by decide, by decide⟩ (Same.to_new s2 ha)
def spDraw : Sp := fun vs H Q _ => ∃ (a g : Addr) (n : Nat) (many : Int), vs = [.ref a, .int many] ∧ Tray H a g n ∧ n ≤ 1000000 ∧ 0 < many ∧ many < 2 ^ 60 ∧ ∀ (r : Int) H', 0 ≤ r → r < many → Tray H' a g (n + 1) → Same (ct a g H) (ct a g H') → Q (.int r) H'
theorem sc_draw : FnScope ["tray", "many", "found", "mixed"] ["tray", "many"] (defScope s_l_draw) := ⟨rfl, rfl, rfl, by decide +kernel, rfl, by decide +kernel, by decide +kernel⟩
theorem DpAll.ints {K : PySem.W.Frag} {H : Hp} : ∀ (xs : List Int), DpAll K H (xs.map V.int) (xs.map PyData.int)
  | [] => .nil
  | x :: xs => .cons (.int x) (DpAll.ints xs)
theorem lay_ints : ∀ xs : List Int, PyData.canLayAll0 (xs.map PyData.int) = true ∧ PyData.depthAll (xs.map PyData.int) = 0
  | [] => ⟨rfl, rfl⟩
  | x :: xs => by
    obtain ⟨h1, h2⟩ := lay_ints xs
    constructor
    · simp only [List.map_cons, PyData.canLayAll0, PyData.canLay0, h1, Bool.and_self]
    · simp only [List.map_cons, PyData.depthAll, PyData.depth, h2, Nat.max_self]
theorem shaped_ints (xs : List Int) : SeqAt.shaped (.list (xs.map PyData.int)) = true := by
  obtain ⟨h1, h2⟩ := lay_ints xs
  simp [SeqAt.shaped, PyData.canLay0, PyData.depth, h1, h2]
theorem mix_lt {x : Int} : (x % (2 ^ Int.toNat 61 - 1)).natAbs < 2 ^ 64 := by
  have h0 : 0 ≤ x % (2 ^ Int.toNat 61 - 1) := Int.emod_nonneg _ (by decide)
  have h1 : x % (2 ^ Int.toNat 61 - 1) < 2 ^ Int.toNat 61 - 1 := Int.emod_lt_of_pos _ (by decide)
  have h2 : (2 : Int) ^ Int.toNat 61 - 1 = 2305843009213693951 := by decide
  rw [h2] at *
  omega
def lenAt (g : Addr) (H : Hp) : Nat := match H g with
  | some (.lst xs) => xs.length
  | _ => 0
theorem lenAt_of {g : Addr} {H : Hp} {xs : List V} (h : H g = some (.lst xs)) : lenAt g H = xs.length := by unfold lenAt; rw [h]
theorem tray_ne {H : Hp} {a g : Addr} {c f m : Int} {gs : List Int} (h1 : H a = some (.lst [.ref g, .int c, .int f, .int m])) (h2 : H g = some (.lst (gs.map V.int))) : a ≠ g := ne_of h1 h2 (fun z => by
  have e : [V.ref g, V.int c, V.int f, V.int m] = gs.map V.int := by injection z
  cases gs with
  | nil => cases e
  | cons x r => cases e)
theorem ok_draw (F : FnP K "_law_draw" "_law_draw" s_l_draw f fd) : FnOk P w K mg base CX0 1 f fd ["tray", "many"] spDraw := by
  refine F.ok sc_draw (fun vs H Q E h => ?_) (fun cdv A outer s H vs Q E hr h => ?_)
  · obtain ⟨a, g, n, many, rfl, _⟩ := h
    rfl
  · obtain ⟨a, g, n, many, rfl, hT, hn, m0, m1, k⟩ := h
    have nd := sc_draw.nd
    refine ⟨_, PSs.nox (pss_cons (ps_while PassesOwn.never (PW.pt (pw_and (pt_cmpR op_lt (pe_ix ix_list (pv 0) pe_int (fun _ _ => rfl)) pe_int (nomark _)) (pw_and1 (pt_cmpR (op_neD hr.units) (pe_ix ix_list (pv 0) pe_int (fun _ _ => rfl)) (pe_lst pa_nil) (nomark _)))))
        (pss_one (ps_asg (pe_bm PySem.F.plainAttrs_list PySem.F.slot_list_pop PySem.F.type_list_pop mt_popAt (pe_ix ix_list (pv 0) pe_int (fun _ _ => rfl)) (pa_cons pe_int pa_nil)) (pg_sub (pv 0) pe_int set_list))))
      (pss_cons (ps_if (pt_cmpR op_ge (pe_ix ix_list (pv 0) pe_int (fun _ _ => rfl)) pe_int (nomark _))
        (pss_cons (ps_set (i := 2) nd rfl (Or.inl rfl) (pe_op op_mod (pe_ix ix_list (pv 0) pe_int (fun _ _ => rfl)) (pv 1)))
        (pss_cons (ps_asg (pe_op op_fdivW (pe_ix ix_list (pv 0) pe_int (fun _ _ => rfl)) (pv 1)) (pg_sub (pv 0) pe_int set_list))
        (pss_one (ps_ret (pv 2))))) pss_nil)
      (pss_cons (ps_asg (pe_op op_add (pe_ix ix_list (pv 0) pe_int (fun _ _ => rfl)) pe_int) (pg_sub (pv 0) pe_int set_list))
      (pss_cons (ps_set (i := 3) nd rfl (Or.inl rfl) (pe_op op_mod (pe_op op_add (pe_op op_mul (pe_op op_add (pe_ix ix_list (pv 0) pe_int (fun _ _ => rfl)) pe_int) (pe_op op_pow (pe_op op_add (pe_ix ix_list (pv 0) pe_int (fun _ _ => rfl)) pe_int) pe_int)) (pe_op op_mul pe_int (pe_ix ix_list (pv 0) pe_int (fun _ _ => rfl)))) (pe_op op_sub (pe_op op_pow pe_int pe_int) pe_int)))
      (pss_one (ps_ret (pe_op op_mod (pe_op op_fdiv (pe_op op_mod (pe_op op_pow (pv 3) pe_int) (pe_op op_add (pe_op op_pow pe_int pe_int) pe_int)) pe_int) (pv 1)))))))), ?_⟩
    refine while_by (fun σ H2 => σ = [some (.ref a), some (.int many), none, none] ∧ Tray H2 a g n ∧ Same (ct a g H) (ct a g H2)) (fun _ H2 => lenAt g H2) ⟨rfl, hT, Same.refl _⟩ ?_ ?_
    · rintro σ H2 ⟨rfl, ⟨c, fo, m, gs, h1, h2, hf, hm⟩, s2⟩
      have nag := tray_ne h1 h2
      have eT : ∀ H3, H3 a = some (.lst [.ref g, .int c, .int fo, .int m]) → H3 g = some (.lst (gs.map V.int)) → Same (ct a g H) (ct a g H3) → Tray H3 a g n := fun H3 q1 q2 _ => ⟨c, fo, m, gs, q1, q2, hf, hm⟩
      refine ⟨_, rfl, a, _, _, _, rfl, rfl, SqL.of h1, atI_nat (j := 1) rfl, _, _, rfl, rfl, _, rfl, ?_⟩
      refine ite2 (fun c1 => ?_) (fun c1 => ?_)
      · refine ⟨_, rfl, a, _, _, _, rfl, rfl, SqL.of h1, atI_nat (j := 0) rfl, by show 0 ≤ sizeLine; decide, fun p hp => ?_⟩
        have npa : a ≠ p := ne_of_none h1 hp
        have npg : g ≠ p := ne_of_none h2 hp
        have h1p : upd H2 p (.lst []) a = some (.lst [.ref g, .int c, .int fo, .int m]) := by rw [upd_ne npa]; exact h1
        have h2p : upd H2 p (.lst []) g = some (.lst (gs.map V.int)) := by rw [upd_ne npg]; exact h2
        have s3 : Same (ct a g H) (ct a g (upd H2 p (.lst []))) := s2.trans (ct_same (same_new hp))
        refine ⟨.list (gs.map PyData.int), .list [], .lst (SqL.of h2p) (DpAll.ints gs), .lst (SqL.of upd_same) .nil, shaped_ints gs, by decide, _, rfl, ?_⟩
        cases gs with
        | nil =>
          refine iteF ?_
          refine ⟨_, rfl, a, _, _, _, rfl, rfl, SqL.of h1p, atI_nat (j := 1) rfl, _, _, rfl, rfl, _, rfl, ?_⟩
          refine ite2 (fun c2 => ?_) (fun c2 => ?_)
          · refine ⟨_, rfl, a, _, _, _, rfl, rfl, SqL.of h1p, atI_nat (j := 1) rfl, _, rfl, _, _, rfl, rfl, m0, ?_⟩
            refine ⟨_, rfl, a, _, _, _, rfl, rfl, SqL.of h1p, atI_nat (j := 1) rfl, _, rfl, _, _, rfl, rfl, wide_div (b := 60) m0 (by omega) (by decide) (by decide), _, rfl, a, _, _, 1, rfl, rfl, h1p, rfl, ?_⟩
            exact ⟨_, rfl, k _ _ (Int.emod_nonneg _ (by omega)) (Int.emod_lt_of_pos _ m0) ⟨_, fo, m, _, upd_same, by rw [upd_ne nag.symm]; exact h2p, hf, hm.1, by omega⟩ (by rw [ct_upda]; exact s3)⟩
          · refine ⟨_, rfl, a, _, _, _, rfl, rfl, SqL.of h1p, atI_nat (j := 3) rfl, _, _, rfl, rfl, _, rfl, a, _, _, 3, rfl, rfl, h1p, rfl, ?_⟩
            have q0 := hf.1
            have q1 := hf.2
            have q2 := hm.1
            have q3 := hm.2
            refine ⟨_, rfl, a, _, _, _, rfl, rfl, SqL.of upd_same, atI_nat (j := 2) rfl, _, _, rfl, rfl, _, rfl, a, _, _, _, rfl, rfl, SqL.of upd_same, atI_nat (j := 3) rfl, _, _, rfl, rfl, _, _, rfl, rfl, ⟨by decide, by decide, by omega⟩, _, _, rfl, rfl, .inl ⟨by omega, by omega⟩,
              _, rfl, a, _, _, _, rfl, rfl, SqL.of upd_same, atI_nat (j := 3) rfl, _, _, rfl, rfl, .inl ⟨by decide, by decide⟩, _, _, rfl, rfl, _, _, rfl, rfl, ⟨by decide, by decide, by decide⟩, _, _, rfl, rfl, _, _, rfl, rfl, (by show (0 : Int) < 2 ^ 61 - 1; decide), ?_⟩
            refine ⟨_, rfl, _, _, rfl, rfl, ⟨by decide, by decide, mix_lt⟩, _, _, rfl, rfl, ⟨by decide, by decide, by decide⟩, _, _, rfl, rfl, _, _, rfl, rfl, (by show (0 : Int) < 10 ^ 18 + 9; decide), _, _, rfl, rfl, ⟨by decide, by decide⟩, _, rfl, _, _, rfl, rfl, m0, ?_⟩
            exact k _ _ (Int.emod_nonneg _ (by omega)) (Int.emod_lt_of_pos _ m0) ⟨c, fo, m + 1, _, upd_same, by rw [upd_ne nag.symm]; exact h2p, hf, by omega, by omega⟩ (by rw [ct_upda]; exact s3)
        | cons z zs =>
          refine iteT ?_
          refine ⟨_, rfl, a, _, _, _, rfl, rfl, SqL.of h1p, atI_nat (j := 0) rfl, .inl ⟨rfl, _, SqL.of h2p⟩, g, _, 0, 0, _, rfl, rfl, h2p, by decide, by decide, by simp [seqIndex?], rfl, ?_⟩
          refine ⟨_, rfl, a, _, _, 1, rfl, rfl, (by rw [upd_ne nag]; exact h1p), rfl, ?_⟩
          refine ⟨⟨rfl, ⟨z, fo, m, zs, upd_same, by rw [upd_ne nag.symm, upd_same]; rfl, hf, hm⟩, by rw [ct_upda, ct_updg]; exact s3⟩, ?_⟩
          show lenAt g _ < lenAt g H2
          rw [lenAt_of h2, lenAt_of (g := g) (xs := zs.map V.int) (by rw [upd_ne nag.symm, upd_same]; rfl), List.length_map, List.length_map]
          exact Nat.lt_succ_self _
      · have h1p := h1
        have h2p := h2
        have s3 := s2
        refine iteF ?_
        refine ⟨_, rfl, a, _, _, _, rfl, rfl, SqL.of h1p, atI_nat (j := 1) rfl, _, _, rfl, rfl, _, rfl, ?_⟩
        refine ite2 (fun c2 => ?_) (fun c2 => ?_)
        · refine ⟨_, rfl, a, _, _, _, rfl, rfl, SqL.of h1p, atI_nat (j := 1) rfl, _, rfl, _, _, rfl, rfl, m0, ?_⟩
          refine ⟨_, rfl, a, _, _, _, rfl, rfl, SqL.of h1p, atI_nat (j := 1) rfl, _, rfl, _, _, rfl, rfl, wide_div (b := 60) m0 (by omega) (by decide) (by decide), _, rfl, a, _, _, 1, rfl, rfl, h1p, rfl, ?_⟩
          exact ⟨_, rfl, k _ _ (Int.emod_nonneg _ (by omega)) (Int.emod_lt_of_pos _ m0) ⟨_, fo, m, _, upd_same, by rw [upd_ne nag.symm]; exact h2p, hf, hm.1, by omega⟩ (by rw [ct_upda]; exact s3)⟩
        · have a1 : ¬ c < 2 := fun q => c1 (decide_eq_true q)
          have a2 : ¬ (2 : Int) ≤ c := fun q => c2 (decide_eq_true q)
          exfalso
          omega
    · rintro σ H2 Q1 Q2 hQ ⟨v, e0, p, xs, i, x, e1, e2, hs, ha, i2, j2, e3, e4, b, e5, q⟩
      refine ⟨v, e0, p, xs, i, x, e1, e2, hs, ha, i2, j2, e3, e4, b, e5, ?_⟩
      cases b with
      | false => exact iteF (hQ _ _ (by simpa using q))
      | true =>
        have q := (if_pos rfl : (if true = true then _ else _) = _).mp q
        obtain ⟨v, e0, p, xs, i, x, e1, e2, hs, ha, hl, hp⟩ := q
        refine iteT ⟨v, e0, p, xs, i, x, e1, e2, hs, ha, hl, fun p np => ?_⟩
        obtain ⟨d, e, d1, d2, d3, d4, b, e6, q⟩ := hp p np
        exact ⟨d, e, d1, d2, d3, d4, b, e6, hQ _ _ q⟩
end
end Kd

namespace Kd
open PySem PySem.Spec PyProof.Rows L2
/-- data less than n deep, of short lists -/
def Okd : Nat → PyData → Prop
  | 0, _ => False
  | n + 1, .list ds => ds.length ≤ 4000 ∧ ∀ d ∈ ds, Okd n d
  | n + 1, .tuple ds => ds.length ≤ 4000 ∧ ∀ d ∈ ds, Okd n d
  | _ + 1, .dict _ => False
  | _ + 1, _ => True
section
variable {P : Program} {w : World} {K : PySem.W.Frag} {mg : Str → Option Value} {base : Heap} {f : Addr} {fd : FuncData}
theorem eqT {x : V} {q : Decidable (x = x)} {Q : VK} {H : Hp} (h : Q (.bl true) H) : Q (.bl (@decide (x = x) q)) H := by
  rw [decide_eq_true rfl]
  exact h
def spAlike (K : PySem.W.Frag) (n : Nat) : Sp := fun vs H Q _ => ∃ (x y : V) (d : PyData), vs = [x, y] ∧ Dp K H x d ∧ Dp K H y d ∧ Okd n d ∧ ∀ H', Same H H' → Q (.bl true) H'
theorem sc_alike : FnScope ["found", "due", "k"] ["found", "due"] (defScope s_l_alike) := ⟨rfl, rfl, rfl, by decide +kernel, rfl, by decide +kernel, by decide +kernel⟩
theorem ok_alike (F : FnP K "_law_alike" "_law_alike" s_l_alike f fd) (kA : PySem.W.keepIn K (.ref f) = true) (bA : Binds K fd ["found", "due"] []) (gA : mg "_law_alike" = some (.ref f)) (gi : mg "isinstance" = none) (gb : mg "bool" = none) (gn : mg "int" = none) (gs : mg "str" = none) (gl : mg "list" = none) (gt : mg "tuple" = none) (ge : mg "len" = none) (gr : mg "range" = none) :
    ∀ n, FnOk P w K mg base CX0 (n + 1) f fd ["found", "due"] (spAlike K n)
  | 0 => by
    refine F.ok sc_alike (fun vs H Q E h => ?_) (fun cdv A outer s H vs Q E hr h => ?_)
    · obtain ⟨x, y, d, rfl, _⟩ := h
      rfl
    · obtain ⟨x, y, d, rfl, _, _, h, _⟩ := h
      exact h.elim
  | n + 1 => by
    have G := ok_alike F kA bA gA gi gb gn gs gl gt ge gr n
    refine F.ok sc_alike (fun vs H Q E h => ?_) (fun cdv A outer s H vs Q E hr h => ?_)
    · obtain ⟨x, y, d, rfl, _⟩ := h
      rfl
    · obtain ⟨x, y, d, rfl, hx, hy, ho, k⟩ := h
      have nd := sc_alike.nd
      refine ⟨_, PSs.nox (pss_cons (ps_if (pt_cmp (pc_isN (pv 1))) (pss_one (ps_ret (pe_cmp (pc_isN (pv 0)) rfl))) pss_nil)
        (pss_cons (ps_if (pt_val (pe_callB call_isi (by rfl) gi (by decide +kernel) (pa_cons (pv 1) (pa_cons (pe_bltn (v := .ty "bool") (by rfl) gb (by decide +kernel) rfl) pa_nil)))) (pss_one (ps_ret (pe_and (pe_callB call_isi (by rfl) gi (by decide +kernel) (pa_cons (pv 0) (pa_cons (pe_bltn (v := .ty "bool") (by rfl) gb (by decide +kernel) rfl) pa_nil))) (pe_one (pe_cmpR op_eq (pv 0) (pv 1) (nomark _)))))) pss_nil)
        (pss_cons (ps_if (pt_val (pe_callB call_isi (by rfl) gi (by decide +kernel) (pa_cons (pv 1) (pa_cons (pe_bltn (v := .ty "int") (by rfl) gn (by decide +kernel) rfl) pa_nil)))) (pss_one (ps_ret (pe_and (pe_callB call_isi (by rfl) gi (by decide +kernel) (pa_cons (pv 0) (pa_cons (pe_bltn (v := .ty "int") (by rfl) gn (by decide +kernel) rfl) pa_nil))) (pe_and (pe_not (pe_callB call_isi (by rfl) gi (by decide +kernel) (pa_cons (pv 0) (pa_cons (pe_bltn (v := .ty "bool") (by rfl) gb (by decide +kernel) rfl) pa_nil)))) (pe_one (pe_cmpR op_eq (pv 0) (pv 1) (nomark _))))))) pss_nil)
        (pss_cons (ps_if (pt_val (pe_callB call_isi (by rfl) gi (by decide +kernel) (pa_cons (pv 1) (pa_cons (pe_bltn (v := .ty "str") (by rfl) gs (by decide +kernel) rfl) pa_nil)))) (pss_one (ps_ret (pe_and (pe_callB call_isi (by rfl) gi (by decide +kernel) (pa_cons (pv 0) (pa_cons (pe_bltn (v := .ty "str") (by rfl) gs (by decide +kernel) rfl) pa_nil))) (pe_one (pe_cmpR op_eq (pv 0) (pv 1) (nomark _)))))) pss_nil)
        (pss_cons (ps_if (PW.pt (pw_or (pt_cmpR op_ne (pe_callB call_isi (by rfl) gi (by decide +kernel) (pa_cons (pv 0) (pa_cons (pe_bltn (v := .ty "list") (by rfl) gl (by decide +kernel) rfl) pa_nil))) (pe_callB call_isi (by rfl) gi (by decide +kernel) (pa_cons (pv 1) (pa_cons (pe_bltn (v := .ty "list") (by rfl) gl (by decide +kernel) rfl) pa_nil))) (nomark _))
            (pw_or1 (pt_cmpR op_ne (pe_callB call_isi (by rfl) gi (by decide +kernel) (pa_cons (pv 0) (pa_cons (pe_bltn (v := .ty "tuple") (by rfl) gt (by decide +kernel) rfl) pa_nil))) (pe_callB call_isi (by rfl) gi (by decide +kernel) (pa_cons (pv 1) (pa_cons (pe_bltn (v := .ty "tuple") (by rfl) gt (by decide +kernel) rfl) pa_nil))) (nomark _))))) (pss_one (ps_ret pe_bl)) pss_nil)
        (pss_cons (ps_if (pt_cmpR op_ne (pe_callB call_len_seq (by rfl) ge boot_len (pa_cons (pv 0) pa_nil)) (pe_callB call_len_seq (by rfl) ge boot_len (pa_cons (pv 1) pa_nil)) (nomark _)) (pss_one (ps_ret pe_bl)) pss_nil)
        (pss_cons (ps_for PassesOwn.never rfl (pi_range1 rfl gr (pa_cons (pe_callB call_len_seq (by rfl) ge boot_len (pa_cons (pv 1) pa_nil)) pa_nil)) (pg_name (i := 2) nd rfl (Or.inl rfl))
          (pss_one (ps_if (pt_not (pt_val (pe_call G hr rfl gA kA bA .nil pass0 (pa_cons (pe_ix ix_seq (pv 0) (pv 2) (fun _ _ => rfl)) (pa_cons (pe_ix ix_seq (pv 1) (pv 2) (fun _ _ => rfl)) pa_nil))))) (pss_one (ps_ret pe_bl)) pss_nil)))
        (pss_one (ps_ret pe_bl))))))))), ?_⟩
      cases d with
      | none =>
        cases hx
        cases hy
        exact ⟨_, rfl, _, rfl, iteT ⟨_, rfl, k H (Same.refl H)⟩⟩
      | bool b =>
        cases hx
        cases hy
        refine ⟨_, rfl, _, rfl, iteF ?_⟩
        refine ⟨_, rfl, _, _, _, _, _, rfl, ClsV.ty _, .base (.bl _), kit_ty (by decide +kernel), _, rfl, iteT ?_⟩
        refine ⟨_, rfl, _, _, _, _, _, rfl, ClsV.ty _, .base (.bl _), kit_ty (by decide +kernel), _, rfl, iteT ?_⟩
        refine ⟨_, rfl, _, rfl, rfl, ?_⟩
        exact eqT (k H (Same.refl H))
      | int i =>
        cases hx
        cases hy
        refine ⟨_, rfl, _, rfl, iteF ?_⟩
        refine ⟨_, rfl, _, _, _, _, _, rfl, ClsV.ty _, .base (.int _), kit_ty (by decide +kernel), _, rfl, iteF ?_⟩
        refine ⟨_, rfl, _, _, _, _, _, rfl, ClsV.ty _, .base (.int _), kit_ty (by decide +kernel), _, rfl, iteT ?_⟩
        refine ⟨_, rfl, _, _, _, _, _, rfl, ClsV.ty _, .base (.int _), kit_ty (by decide +kernel), _, rfl, iteT ?_⟩
        refine ⟨_, rfl, _, _, _, _, _, rfl, ClsV.ty _, .base (.int _), kit_ty (r := false) (by decide +kernel), _, rfl, _, rfl, iteT ?_⟩
        refine ⟨_, rfl, _, rfl, rfl, ?_⟩
        exact eqT (k H (Same.refl H))
      | str z =>
        cases hx
        cases hy
        refine ⟨_, rfl, _, rfl, iteF ?_⟩
        refine ⟨_, rfl, _, _, _, _, _, rfl, ClsV.ty _, .base (.str _), kit_ty (by decide +kernel), _, rfl, iteF ?_⟩
        refine ⟨_, rfl, _, _, _, _, _, rfl, ClsV.ty _, .base (.str _), kit_ty (by decide +kernel), _, rfl, iteF ?_⟩
        refine ⟨_, rfl, _, _, _, _, _, rfl, ClsV.ty _, .base (.str _), kit_ty (by decide +kernel), _, rfl, iteT ?_⟩
        refine ⟨_, rfl, _, _, _, _, _, rfl, ClsV.ty _, .base (.str _), kit_ty (by decide +kernel), _, rfl, iteT ?_⟩
        refine ⟨_, rfl, _, rfl, rfl, ?_⟩
        exact eqT (k H (Same.refl H))
      | list ds =>
        cases hx with
        | lst qx rx =>
        cases hy with
        | lst qy ry =>
          rename_i p xs q ys
          have lx := DpAll.len rx
          have ly := DpAll.len ry
          have ho1 : ds.length ≤ 4000 := ho.1
          refine ⟨_, rfl, _, rfl, iteF ?_⟩
          refine ⟨_, rfl, _, _, _, _, _, rfl, ClsV.ty _, tyL qy, kit_ty (by decide +kernel), _, rfl, iteF ?_⟩
          refine ⟨_, rfl, _, _, _, _, _, rfl, ClsV.ty _, tyL qy, kit_ty (by decide +kernel), _, rfl, iteF ?_⟩
          refine ⟨_, rfl, _, _, _, _, _, rfl, ClsV.ty _, tyL qy, kit_ty (by decide +kernel), _, rfl, iteF ?_⟩
          refine ⟨_, rfl, _, _, _, _, _, rfl, ClsV.ty _, tyL qx, kit_ty (r := true) (by decide +kernel), _, rfl, _, _, _, _, _, rfl, ClsV.ty _, tyL qy, kit_ty (r := true) (by decide +kernel), rfl, _, rfl, ?_⟩
          refine iteNS rfl ?_
          refine ⟨_, rfl, _, _, _, _, _, rfl, ClsV.ty _, tyL qx, kit_ty (r := false) (by decide +kernel), _, rfl, _, _, _, _, _, rfl, ClsV.ty _, tyL qy, kit_ty (r := false) (by decide +kernel), rfl, _, rfl, ?_⟩
          refine iteNS rfl ?_
          refine ⟨_, rfl, _, _, rfl, .inl qx, _, rfl, _, _, rfl, .inl qy, rfl, _, rfl, ?_⟩
          refine iteNS (by rw [lx, ly]) ?_
          refine ⟨_, rfl, _, _, rfl, .inl qy, _, rfl, by omega, by omega, for_range (fun i σ H2 => ∃ u, σ = [some (.ref p), some (.ref q), u] ∧ Same H H2) ⟨_, rfl, Same.refl H⟩ ?_ ?_⟩
          · rintro i σ H2 hi ⟨u, rfl, s2⟩
            rw [Int.toNat_natCast] at hi
            have e0 : (0 : Int) + (i : Int) = (i : Int) := Int.zero_add _
            obtain ⟨vy, hvy⟩ : ∃ v, ys[i]? = some v := ⟨ys[i], List.getElem?_eq_getElem hi⟩
            obtain ⟨vx, hvx⟩ : ∃ v, xs[i]? = some v := ⟨xs[i], List.getElem?_eq_getElem (by omega)⟩
            obtain ⟨d1, g1, dx⟩ := DpAll.at_ rx hvx
            obtain ⟨d2, g2, dy⟩ := DpAll.at_ ry hvy
            rw [g1] at g2
            cases g2
            refine ⟨_, rfl, _, rfl, .inl ⟨p, xs, _, vx, rfl, rfl, Same.seq s2 qx, (by rw [e0]; exact atI_nat hvx), _, rfl, _, rfl, .inl ⟨q, ys, _, vy, rfl, rfl, Same.seq s2 qy, (by rw [e0]; exact atI_nat hvy), ?_⟩⟩⟩
            refine ⟨vx, vy, d1, rfl, Dp.same s2 _ _ dx, Dp.same s2 _ _ dy, ho.2 d1 (List.mem_of_getElem? g1), fun H3 s3 => ⟨_, rfl, iteF ⟨_, rfl, s2.trans s3⟩⟩⟩
          · rintro σ H2 ⟨u, rfl, s2⟩
            exact k H2 s2
      | tuple ds =>
        cases hx with
        | tup qx rx =>
        cases hy with
        | tup qy ry =>
          rename_i p xs q ys
          have lx := DpAll.len rx
          have ly := DpAll.len ry
          have ho1 : ds.length ≤ 4000 := ho.1
          refine ⟨_, rfl, _, rfl, iteF ?_⟩
          refine ⟨_, rfl, _, _, _, _, _, rfl, ClsV.ty _, tyT qy, kit_ty (by decide +kernel), _, rfl, iteF ?_⟩
          refine ⟨_, rfl, _, _, _, _, _, rfl, ClsV.ty _, tyT qy, kit_ty (by decide +kernel), _, rfl, iteF ?_⟩
          refine ⟨_, rfl, _, _, _, _, _, rfl, ClsV.ty _, tyT qy, kit_ty (by decide +kernel), _, rfl, iteF ?_⟩
          refine ⟨_, rfl, _, _, _, _, _, rfl, ClsV.ty _, tyT qx, kit_ty (r := false) (by decide +kernel), _, rfl, _, _, _, _, _, rfl, ClsV.ty _, tyT qy, kit_ty (r := false) (by decide +kernel), rfl, _, rfl, ?_⟩
          refine iteNS rfl ?_
          refine ⟨_, rfl, _, _, _, _, _, rfl, ClsV.ty _, tyT qx, kit_ty (r := true) (by decide +kernel), _, rfl, _, _, _, _, _, rfl, ClsV.ty _, tyT qy, kit_ty (r := true) (by decide +kernel), rfl, _, rfl, ?_⟩
          refine iteNS rfl ?_
          refine ⟨_, rfl, _, _, rfl, .inr qx, _, rfl, _, _, rfl, .inr qy, rfl, _, rfl, ?_⟩
          refine iteNS (by rw [lx, ly]) ?_
          refine ⟨_, rfl, _, _, rfl, .inr qy, _, rfl, by omega, by omega, for_range (fun i σ H2 => ∃ u, σ = [some (.ref p), some (.ref q), u] ∧ Same H H2) ⟨_, rfl, Same.refl H⟩ ?_ ?_⟩
          · rintro i σ H2 hi ⟨u, rfl, s2⟩
            rw [Int.toNat_natCast] at hi
            have e0 : (0 : Int) + (i : Int) = (i : Int) := Int.zero_add _
            obtain ⟨vy, hvy⟩ : ∃ v, ys[i]? = some v := ⟨ys[i], List.getElem?_eq_getElem hi⟩
            obtain ⟨vx, hvx⟩ : ∃ v, xs[i]? = some v := ⟨xs[i], List.getElem?_eq_getElem (by omega)⟩
            obtain ⟨d1, g1, dx⟩ := DpAll.at_ rx hvx
            obtain ⟨d2, g2, dy⟩ := DpAll.at_ ry hvy
            rw [g1] at g2
            cases g2
            refine ⟨_, rfl, _, rfl, .inr (.inl ⟨p, xs, _, vx, rfl, rfl, Same.seqT s2 qx, (by rw [e0]; exact atI_nat hvx), _, rfl, _, rfl, .inr (.inl ⟨q, ys, _, vy, rfl, rfl, Same.seqT s2 qy, (by rw [e0]; exact atI_nat hvy), ?_⟩)⟩)⟩
            refine ⟨vx, vy, d1, rfl, Dp.same s2 _ _ dx, Dp.same s2 _ _ dy, ho.2 d1 (List.mem_of_getElem? g1), fun H3 s3 => ⟨_, rfl, iteF ⟨_, rfl, s2.trans s3⟩⟩⟩
          · rintro σ H2 ⟨u, rfl, s2⟩
            exact k H2 s2
      | dict _ => exact (show False from ho).elim
end
end Kd

namespace Kd
open PySem PySem.Spec PyProof.Rows L2
/-! ### text * number -/
theorem op_rep_str {X : Cx} : OpR X (binaryOp .Mult) (fun x y H Q => ∃ z n, x = .str z ∧ y = .int n ∧ MulOk z n ∧ Q (.str (Txt.mul z n)) H) := by
  intro pins s σ H x y v u Q I rx ry h
  obtain ⟨z, n, rfl, rfl, hz, q⟩ := h
  obtain ⟨t, rfl⟩ := rx
  obtain ⟨t2, rfl⟩ := ry
  exact SB.mul hz fun t3 k => ⟨.str (Txt.mul z n), H, I.tok _, ⟨_, rfl⟩, q⟩
/-! ### trays -/
section
variable {H H' H1 H2 H3 : Hp} {a g p D b : Addr} {n m : Nat} {o : HO}
theorem Tray.same (s : Same H H') (t : Tray H a g n) : Tray H' a g n := by
  obtain ⟨c, f, k, gs, h1, h2, h3⟩ := t.ex
  exact ⟨c, f, k, gs, s _ _ h1, s _ _ h2, h3⟩
theorem Tray.new (t : Tray H a g n) (h : H p = Option.none) : Tray (upd H p o) a g n := t.same (same_new h)
theorem Tray.mono (t : Tray H a g n) (h : n ≤ m) : Tray H a g m := by
  obtain ⟨c, f, k, gs, h1, h2, h3, h4, h5⟩ := t.ex
  exact ⟨c, f, k, gs, h1, h2, h3, h4, by omega⟩
theorem Tray.na (t : Tray H a g n) (h : H p = Option.none) : p ≠ a ∧ p ≠ g := by
  obtain ⟨c, f, k, gs, h1, h2, _⟩ := t.ex
  exact ⟨(ne_of_none h1 h).symm, (ne_of_none h2 h).symm⟩
theorem Tray.cd (t : Tray H a g n) (ha : D ≠ a) (hg : D ≠ g) : Tray (cd D H) a g n := by
  obtain ⟨c, f, k, gs, h1, h2, h3⟩ := t.ex
  exact ⟨c, f, k, gs, cd_of h1 ha.symm, cd_of h2 hg.symm, h3⟩
theorem ctnew (h : H p = Option.none) : Same (ct a g H) (ct a g (upd H p o)) := ct_same (same_new h)
theorem ctcd (hD : H1 D = Option.none) (s1 : Same (ct a g H1) (ct a g (cd D H2))) (s2 : Same (ct a g H2) (ct a g H3)) : Same (ct a g H1) (ct a g (cd D H3)) := fun b o e => by
  obtain ⟨na, ng⟩ := ct_ne e
  have nD : b ≠ D := ne_of_none (ct_sub _ _ e) hD
  have e2 := ct_sub _ _ (s1 b o e)
  exact ct_of (cd_of (ct_sub _ _ (s2 b o (ct_of (cd_sub _ _ e2) na ng))) nD) na ng
/-- an object that is no part of the tray stays over a draw -/
theorem ctkeep (s : Same (ct a g H) (ct a g H')) (e : H b = some o) (ha : b ≠ a) (hg : b ≠ g) : H' b = some o := ct_sub _ _ (s b o (ct_of e ha hg))
end
/-! ### names -/
theorem nm_iff {z : Str} : nmB z = true ↔ IsNm z := by
  unfold nmB
  rw [Bool.and_eq_true, Bool.and_eq_true, decide_eq_true_iff, decide_eq_true_iff, List.all_eq_true]
  constructor
  · rintro ⟨h1, h2, h3⟩
    exact ⟨fun c hc => of_decide_eq_true (h3 c hc), h1, h2⟩
  · rintro ⟨h1, h2, h3⟩
    exact ⟨h2, h3, fun c hc => decide_eq_true (h1 c hc)⟩
/-- a name, or the empty text -/
structure Nm0 (z : Str) : Prop where
  low : Low z
  le8 : z.length ≤ 8
theorem IsNm.nm0 {z : Str} (h : IsNm z) : Nm0 z := ⟨h.low, h.le8⟩
theorem Nm0.nm {z : Str} (h : Nm0 z) (ne : z ≠ Str.empty) : IsNm z := ⟨h.low, by
  rcases Nat.eq_zero_or_pos z.length with e | e
  · refine absurd (Str.ext' (Array.eq_empty_of_size_eq_zero e)) ne
  · exact e, h.le8⟩
theorem cut8 (z : Str) : (cutS z none (some 8)).length ≤ 8 := by
  show (((z.cps.toList.drop (HT.sIx z.length 0 none)).take (HT.sIx z.length z.length (some 8) - HT.sIx z.length 0 none)).toArray).size ≤ 8
  rw [List.size_toArray, List.length_take, HT.sIx_none]
  have e : HT.sIx z.length z.length (some ((8 : Nat) : Int)) = min 8 z.length := HT.sIx_nat _ _ _
  have e2 : HT.sIx z.length z.length (some 8) = min 8 z.length := e
  rw [e2]
  omega
theorem flat_len : ∀ (parts : List Str), (∀ z ∈ parts, z.length = 1) → ((parts.map fun z => z.cps.toList).flatten).length = parts.length
  | [], _ => rfl
  | z :: r, h => by
    have ih := flat_len r fun y hy => h y (List.mem_cons_of_mem _ hy)
    have h1 := h z (List.mem_cons_self ..)
    have h2 : z.cps.toList.length = 1 := by rw [Array.length_toList]; exact h1
    rw [List.map_cons, List.flatten_cons, List.length_append, ih, h2, List.length_cons]
    omega
theorem joined {y : Str} (hy : y.cps.toList = []) (parts : List Str) (h1 : ∀ z ∈ parts, z.length = 1) (h2 : ∀ z ∈ parts, Low z) : Low (Txt.join y parts) ∧ (Txt.join y parts).length = parts.length := by
  have e := join_list_eq y hy parts
  constructor
  · intro c hc
    rw [e] at hc
    obtain ⟨l, hl, hcl⟩ := List.mem_flatten.mp hc
    obtain ⟨z, hz, rfl⟩ := List.mem_map.mp hl
    exact h2 z hz c hcl
  · have e2 : (Txt.join y parts).length = (Txt.join y parts).cps.toList.length := by rw [Array.length_toList]; rfl
    rw [e2, e]
    exact flat_len parts h1
theorem sum_ones : ∀ (parts : List Str), (∀ z ∈ parts, z.length = 1) → (parts.map (·.length)).sum = parts.length
  | [], _ => rfl
  | z :: r, h => by
    have ih := sum_ones r fun y hy => h y (List.mem_cons_of_mem _ hy)
    rw [List.map_cons, List.sum_cons, ih, h z (List.mem_cons_self ..), List.length_cons]
    omega
/-- one sign so many times -/
theorem mul_one (c : Nat) (n : Nat) (hn : 2 ≤ n) : Txt.mul ⟨#[c]⟩ (n : Int) = ⟨(List.replicate n c).toArray⟩ := by
  unfold Txt.mul
  have e : ((n : Int) == 1 || (⟨#[c]⟩ : Str).length == 0) = false := by
    have h1 : ((n : Int) == 1) = false := by simp; omega
    have h2 : ((⟨#[c]⟩ : Str).length == 0) = false := rfl
    rw [h1, h2]
    rfl
  rw [if_neg (by omega), e, if_neg Bool.false_ne_true, Int.toNat_natCast]
  have h : ∀ (k : Nat) (acc : List Nat), (List.replicate k #[c]).foldl (· ++ ·) acc.toArray = (acc ++ List.replicate k c).toArray := fun k => by
    induction k with
    | zero => intro acc; simp
    | succ k ih =>
      intro acc
      rw [List.replicate_succ, List.foldl_cons]
      have e2 : acc.toArray ++ #[c] = (acc ++ [c]).toArray := by simp
      rw [e2, ih, List.replicate_succ, List.append_assoc]
      rfl
  have h2 := h n []
  congr 1
theorem mul_nm0 {c : Nat} (hc : 97 ≤ c ∧ c ≤ 122) {n : Nat} (h1 : 2 ≤ n) (h2 : n ≤ 8) : Nm0 (Txt.mul ⟨#[c]⟩ (n : Int)) := by
  rw [mul_one c n h1]
  refine ⟨fun d hd => ?_, ?_⟩
  · have e : d = c := List.eq_of_mem_replicate hd
    rw [e]
    exact hc
  · show (List.replicate n c).toArray.size ≤ 8
    rw [List.size_toArray, List.length_replicate]
    exact h2
theorem mulOk_one (c : Nat) {n : Nat} (h : n ≤ 8) : MulOk ⟨#[c]⟩ (n : Int) := by
  refine ⟨?_, fun h1 _ => ?_, fun _ _ => ?_⟩
  · rw [Bool.or_eq_false_iff]
    exact ⟨decide_eq_false (by omega), decide_eq_false (by omega)⟩
  · show ¬ ((1 : Int) > (2 ^ 63 - 1) / (n : Int))
    have : (1 : Int) ≤ (2 ^ 63 - 1) / (n : Int) := by
      rw [Int.le_ediv_iff_mul_le (by omega)]
      omega
    omega
  · show Builtin.Str.tooLong (1 * (n : Int).toNat) = false
    rw [Int.toNat_natCast, Nat.one_mul]
    have : ∀ k, k ≤ 8 → Builtin.Str.tooLong k = false := by decide
    exact this n h
end Kd

namespace Kd
open PySem PySem.Spec PyProof.Rows L2
section
variable {P : Program} {w : World} {K : PySem.W.Frag} {mg : Str → Option Value} {base : Heap} {f : Addr} {fd : FuncData}
def spName (K : PySem.W.Frag) : Sp := fun vs H Q _ => ∃ (a g u : Addr) (n : Nat) (us : List Str), vs = [.ref a, .ref u] ∧ Tray H a g n ∧ n ≤ 900000 ∧ SqL K (ct a g H) u (us.map V.str) ∧ us.length ≤ 20 ∧ (∀ z ∈ us, IsNm z) ∧
  ∀ z H', IsNm z → z ∉ us → Tray H' a g (n + 13) → Same (ct a g H) (ct a g H') → Q (.str z) H'
abbrev nmN : List Str := ["tray", "used", "letters", "lot", "letter", "k", "name", "words", "old", "at", "one", "some"]
theorem sc_name : FnScope nmN ["tray", "used"] (defScope s_l_name) := ⟨rfl, rfl, rfl, by decide +kernel, rfl, by decide +kernel, by decide +kernel⟩
abbrev rMulS : R2 := fun x y H Q => ∃ z n, x = .str z ∧ y = .int n ∧ MulOk z n ∧ Q (.str (Txt.mul z n)) H
abbrev tDraw (i : Int) : TE := tCall spDraw [] E0 (tCons (tVar 0) (tCons (tC (.int i)) tNil))
/-! #### the last two statements -/
def tTail (K : PySem.W.Frag) : TS := tSeq (tAsg (tOp rCat (tOp rCat (tOp rCat (tLst (tCons (tVar 6) tNil)) (tLc (iStr (tVar 2)) (gName 10) tYes (tVar 10) [10])) (tLc (iStr (tVar 2)) (gName 10) tYes (tOp rMulS (tVar 10) (tC (.int 3))) [10])) (tLc (iStr (tVar 2)) (gName 10) tYes (tOp rMulS (tVar 10) (tC (.int 5))) [10])) (gName 11))
  (tRet (tOp (rIxL K) (tLc (iList K (tVar 11)) (gName 10) (tAnd (tTest (tOp rNe (tVar 10) (tC (.str Str.empty)))) (tTest (tOp (rIn K true) (tVar 10) (tVar 1)))) (tVar 10) [10]) (tC (.int 0))))
theorem cd_is {D : Addr} {H H0 : Hp} (e : cd D H = H0) : Same H0 H := by rw [← e]; exact cd_sub
def tens (F : Nat → Str) (i : Nat) : List V := ((abc.cps.toList.take i).map F).map V.str
theorem tens_add {F : Nat → Str} {i c : Nat} (h : abc.cps[i]? = some c) : tens F i ++ [.str (F c)] = tens F (i + 1) := by
  have h2 : abc.cps.toList[i]? = some c := by rw [Array.getElem?_toList]; exact h
  obtain ⟨h3, h4⟩ := List.getElem?_eq_some_iff.mp h2
  unfold tens
  rw [List.take_succ_eq_append_getElem h3, List.map_append, List.map_append, h4]
  rfl
theorem tens_all (F : Nat → Str) : tens F abc.cps.size = ((List.range' 97 26).map F).map V.str := by
  unfold tens
  rw [List.take_of_length_le (by rw [Array.length_toList]; exact Nat.le_refl _), abc_list]
/-- a comprehension over the letters that makes nothing but texts -/
theorem lc_abc {te : TE} {σ : L2.St} {H1 : Hp} {D : Addr} {Qd : Hp → Prop} (F : Nat → Str) (hD : H1 D = none) (h10 : wipe ((wipe σ [10]).set 10 none) [10] = wipe σ [10])
    (hw : ∀ v, wipe ((wipe σ [10]).set 10 v) [10] = wipe σ [10]) (hte : ∀ (c : Nat) (H2 : Hp) (Q : VK), 97 ≤ c ∧ c ≤ 122 → Q (.str (F c)) H2 → te ((wipe σ [10]).set 10 (some (.str ⟨#[c]⟩))) H2 Q)
    (hd : ∀ H2, H2 D = some (.lst (((List.range' 97 26).map F).map V.str)) → cd D H2 = H1 → Qd H2) :
    ∃ W : Nat → Nat → Hp → Prop, (∃ m, W 0 m (upd H1 D (.lst []))) ∧ ∀ i m H, W i m H →
      ((Its abc).stop i H ∧ Qd H) ∨ ((Its abc).go i H ∧ ∃ Nx : Hp → Prop, (∀ H', Nx H' → ∃ m', m' < m ∧ W (i + 1) m' H') ∧ ∀ x H', (Its abc).yld i H x H' → gName 10 x (wipe σ [10]) H' fun σ2 H2 => wipe σ2 [10] = wipe σ [10] ∧ tYes σ2 H2 fun b H3 =>
        if b = true then te σ2 H3 fun y H4 => ∃ acc, H4 D = some (.lst acc) ∧ acc.length < sizeLine ∧ Nx (upd H4 D (.lst (acc ++ [y]))) else Nx H3) := by
  refine lc_build walk_str hD (fun i ys R => R = H1 ∧ ys = tens F i) ⟨rfl, rfl⟩ (fun _ _ _ _ _ => trivial) ?_ ?_
  · rintro i ys x H2 H2' hi e l ⟨e1, rfl⟩ ⟨rfl, c, hc, rfl⟩
    have hc2 : c ∈ abc.cps.toList := by
      have h2 : abc.cps.toList[i]? = some c := by rw [Array.getElem?_toList]; exact hc
      exact List.mem_of_getElem? h2
    refine ⟨hw _, yes (hte c _ _ (mem_abc.mp hc2) (LcNx.add e l ?_ ⟨e1, tens_add hc⟩))⟩
    have h3 : abc.cps.size = 26 := abc_len
    omega
  · rintro ys H2 e l ⟨e1, rfl⟩
    rw [tens_all] at e
    exact hd H2 e e1
theorem inV_strs (z : Str) : ∀ us : List Str, inV (.str z) (us.map V.str) = decide (z ∈ us)
  | [] => by simp [inV]
  | y :: us => by
    have ih := inV_strs z us
    unfold inV at ih ⊢
    rw [List.map_cons, List.any_cons, ih]
    have e : eqV (.str y) (.str z) = decide (z = y) := by
      show (y == z) = decide (z = y)
      by_cases q : z = y
      · simp [q]
      · have q2 : ¬ y = z := fun h => q h.symm
        simp [q, q2]
    rw [e]
    simp [List.mem_cons]
theorem flat_strs : ∀ us : List Str, (us.map V.str).all flatV = true
  | [] => rfl
  | _ :: us => by
    rw [List.map_cons, List.all_cons, flat_strs us]
    rfl
def keepB (us : List Str) (z : Str) : Bool := !decide (z = Str.empty) && !decide (z ∈ us)
theorem free_letter {us : List Str} (h : us.length ≤ 20) : ∃ c, 97 ≤ c ∧ c ≤ 122 ∧ (⟨#[c]⟩ : Str) ∉ us := by
  apply Classical.byContradiction
  intro hn
  have h1 : ∀ z ∈ (List.range' 97 26).map (fun c => (⟨#[c]⟩ : Str)), z ∈ us := fun z hz => by
    obtain ⟨c, hc, rfl⟩ := List.mem_map.mp hz
    rw [List.mem_range'_1] at hc
    apply Classical.byContradiction
    intro hq
    exact hn ⟨c, by omega, by omega, hq⟩
  have h2 : ((List.range' 97 26).map (fun c => (⟨#[c]⟩ : Str))).Nodup := by decide +kernel
  have h3 := List.Nodup.length_le_of_subset h2 h1
  rw [List.length_map, List.length_range'] at h3
  omega
theorem tail_ok {a g u : Addr} {n m : Nat} {us : List Str} {z : Str} {x3 x4 x5 x7 x8 x9 x10 x11 : Option V} {H Hx : Hp} {Q : VK} {nx : L2.St → Hp → Prop} (hT : Tray Hx a g m) (hm : m ≤ n + 13) (hu : SqL K (ct a g H) u (us.map V.str)) (hs : Same (ct a g H) (ct a g Hx)) (hul : us.length ≤ 20) (hz : Nm0 z)
    (k : ∀ z H', IsNm z → z ∉ us → Tray H' a g (n + 13) → Same (ct a g H) (ct a g H') → Q (.str z) H') :
    tTail K { nx := nx, rt := Q } [some (.ref a), some (.ref u), some (.str abc), x3, x4, x5, some (.str z), x7, x8, x9, x10, x11] Hx := by
  refine ⟨_, rfl, by show 1 ≤ sizeLine; decide, fun p1 n1 => ?_⟩
  refine ⟨_, rfl, abc, rfl, fun D1 d1 => lc_abc (fun c => ⟨#[c]⟩) d1 rfl (fun _ => rfl) (fun c H2 Q2 _ q => ⟨_, rfl, q⟩) fun H2 e2 c2 => ?_⟩
  have s2 := cd_is c2
  have h2 : H2 p1 = some (.lst [.str z]) := s2 _ _ upd_same
  refine ⟨p1, D1, _, _, rfl, rfl, h2, e2, le_line (by simp), fun p3 n3 => ?_⟩
  refine ⟨_, rfl, abc, rfl, fun D4 d4 => lc_abc (fun c => Txt.mul ⟨#[c]⟩ 3) d4 rfl (fun _ => rfl) (fun c H2 Q2 _ q => ⟨_, rfl, _, _, rfl, rfl, mulOk_one c (n := 3) (by decide), q⟩) fun H4 e4 c4 => ?_⟩
  have s4 := cd_is c4
  refine ⟨p3, D4, _, _, rfl, rfl, s4 _ _ upd_same, e4, le_line (by simp), fun p5 n5 => ?_⟩
  refine ⟨_, rfl, abc, rfl, fun D6 d6 => lc_abc (fun c => Txt.mul ⟨#[c]⟩ 5) d6 rfl (fun _ => rfl) (fun c H2 Q2 _ q => ⟨_, rfl, _, _, rfl, rfl, mulOk_one c (n := 5) (by decide), q⟩) fun H6 e6 c6 => ?_⟩
  have s6 := cd_is c6
  refine ⟨p5, D6, _, _, rfl, rfl, s6 _ _ upd_same, e6, le_line (by simp), fun p7 n7 => ?_⟩
  have sx : Same Hx (upd H6 p7 (.lst ([.str z] ++ ((List.range' 97 26).map fun c => (⟨#[c]⟩ : Str)).map V.str ++ ((List.range' 97 26).map fun c => Txt.mul ⟨#[c]⟩ 3).map V.str ++ ((List.range' 97 26).map fun c => Txt.mul ⟨#[c]⟩ 5).map V.str))) :=
    (((((same_new n1).trans s2).trans (same_new n3)).trans s4).trans (same_new n5)).trans (s6.trans (same_new n7))
  have eS : ([V.str z] ++ ((List.range' 97 26).map fun c => (⟨#[c]⟩ : Str)).map V.str ++ ((List.range' 97 26).map fun c => Txt.mul ⟨#[c]⟩ 3).map V.str ++ ((List.range' 97 26).map fun c => Txt.mul ⟨#[c]⟩ 5).map V.str) =
      (z :: ((List.range' 97 26).map (fun c => (⟨#[c]⟩ : Str)) ++ (List.range' 97 26).map (fun c => Txt.mul ⟨#[c]⟩ 3) ++ (List.range' 97 26).map (fun c => Txt.mul ⟨#[c]⟩ 5))).map V.str := by
    simp only [List.map_cons, List.map_append, List.singleton_append, List.cons_append, List.nil_append]
  rw [eS] at sx ⊢
  generalize hSd : z :: ((List.range' 97 26).map (fun c => (⟨#[c]⟩ : Str)) ++ (List.range' 97 26).map (fun c => Txt.mul ⟨#[c]⟩ 3) ++ (List.range' 97 26).map (fun c => Txt.mul ⟨#[c]⟩ 5)) = S at sx ⊢
  have hSl : S.length ≤ 4000 := by rw [← hSd]; simp
  have hS0 : ∀ y ∈ S, Nm0 y := fun y hy => by
    rw [← hSd] at hy
    rcases List.mem_cons.mp hy with rfl | hy
    · exact hz
    · rcases List.mem_append.mp hy with hy | hy
      · rcases List.mem_append.mp hy with hy | hy
        · obtain ⟨c, hc, rfl⟩ := List.mem_map.mp hy
          rw [List.mem_range'_1] at hc
          exact (IsNm.one (by omega)).nm0
        · obtain ⟨c, hc, rfl⟩ := List.mem_map.mp hy
          rw [List.mem_range'_1] at hc
          exact mul_nm0 (n := 3) (by omega) (by decide) (by decide)
      · obtain ⟨c, hc, rfl⟩ := List.mem_map.mp hy
        rw [List.mem_range'_1] at hc
        exact mul_nm0 (n := 5) (by omega) (by decide) (by decide)
  have hS1 : ∀ c, 97 ≤ c ∧ c ≤ 122 → (⟨#[c]⟩ : Str) ∈ S := fun c hc => by
    rw [← hSd]
    refine List.mem_cons_of_mem _ (List.mem_append_left _ (List.mem_append_left _ (List.mem_map.mpr ⟨c, ?_, rfl⟩)))
    rw [List.mem_range'_1]
    omega
  refine ⟨_, rfl, p7, rfl, ⟨_, SqL.of upd_same⟩, fun D hD => lc_build (walk_list (K := K) (a := p7) (xs := S.map V.str)) hD (fun i ys R => R = upd H6 p7 (.lst (S.map V.str)) ∧ ys = ((S.take i).filter (keepB us)).map V.str) ⟨rfl, rfl⟩ (fun i ys H2 _ p => SqL.of (cd_is p.1 _ _ upd_same)) ?_ ?_⟩
  · rintro i ys x H2 H2' hi e l ⟨c, rfl⟩ ⟨rfl, hy⟩
    obtain ⟨y, rfl, hy2⟩ := strs_at hy
    rw [List.length_map] at hi
    have hu2 : SqL K H2' u (us.map V.str) := (((hs.trans (ct_same sx)).trans ct_sub).trans (cd_is c)).seq hu
    refine ⟨rfl, _, rfl, rfl, _, rfl, ?_⟩
    obtain ⟨g1, g2⟩ := List.getElem?_eq_some_iff.mp hy2
    have et : (S.take (i + 1)).filter (keepB us) = (S.take i).filter (keepB us) ++ [y].filter (keepB us) := by
      rw [List.take_succ_eq_append_getElem g1, List.filter_append, g2]
    by_cases c1 : y = Str.empty
    · have e1 : keepB us y = false := by unfold keepB; rw [decide_eq_true c1]; rfl
      rw [c1]
      refine iteNS rfl ?_
      refine iteF (LcNx.skip e l ⟨c, ?_⟩)
      rw [et, List.filter_cons_of_neg (by rw [e1]; decide), List.filter_nil, List.append_nil]
    · have e0 : (!decide (V.str y = V.str Str.empty)) = true := by
        rw [decide_eq_false (fun q => c1 (by injection q))]
        rfl
      rw [e0]
      refine iteT ⟨_, rfl, _, rfl, u, _, rfl, .inl hu2, rfl, flat_strs us, _, rfl, ?_⟩
      rw [inV_strs]
      by_cases c2 : y ∈ us
      · have e1 : keepB us y = false := by unfold keepB; rw [decide_eq_true c2, Bool.not_true, Bool.and_false]
        rw [decide_eq_true c2]
        refine iteF (LcNx.skip e l ⟨c, ?_⟩)
        rw [et, List.filter_cons_of_neg (by rw [e1]; decide), List.filter_nil, List.append_nil]
      · have e1 : keepB us y = true := by unfold keepB; rw [decide_eq_false c2, decide_eq_false c1]; rfl
        rw [decide_eq_false c2]
        refine iteT ⟨_, rfl, LcNx.add e l (by omega) ⟨c, ?_⟩⟩
        rw [et, List.filter_cons_of_pos e1, List.filter_nil, List.map_append]
        rfl
  · rintro ys H2 e l ⟨c, rfl⟩
    rw [List.length_map, List.take_length] at e
    obtain ⟨c1, c2, c3, c4⟩ := free_letter hul
    have hmem : (⟨#[c1]⟩ : Str) ∈ S.filter (keepB us) := List.mem_filter.mpr ⟨hS1 c1 ⟨c2, c3⟩, by
      unfold keepB
      rw [decide_eq_false c4, decide_eq_false (fun q => by
        have q2 : (#[c1] : Array Nat) = #[] := congrArg Str.cps q
        exact absurd (congrArg Array.size q2) (show ¬ (1 : Nat) = 0 by decide))]
      rfl⟩
    cases hf : S.filter (keepB us) with
    | nil => rw [hf] at hmem; cases hmem
    | cons y r =>
      rw [hf] at e
      have hy : y ∈ S.filter (keepB us) := by rw [hf]; exact List.mem_cons_self ..
      obtain ⟨hy1, hy2⟩ := List.mem_filter.mp hy
      unfold keepB at hy2
      rw [Bool.and_eq_true, Bool.not_eq_true', Bool.not_eq_true', decide_eq_false_iff_not, decide_eq_false_iff_not] at hy2
      have s9 : Same Hx H2 := sx.trans (cd_is c)
      refine ⟨D, _, _, _, rfl, rfl, SqL.of e, atI_nat (j := 0) rfl, ?_⟩
      exact k y H2 ((hS0 y hy1).nm hy2.1) hy2.2 ((hT.same s9).mono hm) (hs.trans (ct_same s9))
theorem words_at {j : Nat} (h : j < 12) : ∃ z, (([V.str "dim", V.str "sum", V.str "kind", V.str "fact", V.str "forget", V.str "first", V.str "last", V.str "day", V.str "before", V.str "none", V.str "known", V.str "ok"] : List V)[j]? = some (.str z)) ∧ IsNm z := by
  have h1 : ∀ z ∈ (["dim", "sum", "kind", "fact", "forget", "first", "last", "day", "before", "none", "known", "ok"] : List Str), nmB z = true := by decide +kernel
  have h2 : (["dim", "sum", "kind", "fact", "forget", "first", "last", "day", "before", "none", "known", "ok"] : List Str)[j]? = some ((["dim", "sum", "kind", "fact", "forget", "first", "last", "day", "before", "none", "known", "ok"] : List Str)[j]'h) := List.getElem?_eq_getElem h
  refine ⟨_, ?_, nm_iff.mp (h1 _ (List.getElem_mem h))⟩
  have h3 := congrArg (Option.map V.str) h2
  rw [← List.getElem?_map] at h3
  exact h3
theorem Low.ok {z : Str} (h : Low z) : PyData.strOk z = true := by
  unfold PyData.strOk
  rw [Array.all_eq_true']
  intro c hc
  have := h c (Array.mem_toList_iff.mpr hc)
  exact decide_eq_true (by omega)
theorem lay_strs : ∀ xs : List Str, (∀ z ∈ xs, Low z) → PyData.canLayAll0 (xs.map PyData.str) = true ∧ PyData.depthAll (xs.map PyData.str) = 0
  | [], _ => ⟨rfl, rfl⟩
  | x :: xs, h => by
    obtain ⟨h1, h2⟩ := lay_strs xs fun z hz => h z (List.mem_cons_of_mem _ hz)
    have h3 := (h x (List.mem_cons_self ..)).ok
    constructor
    · simp only [List.map_cons, PyData.canLayAll0, PyData.canLay0, h1, h3, Bool.and_self]
    · simp only [List.map_cons, PyData.depthAll, PyData.depth, h2, Nat.max_self]
theorem shaped_strs (xs : List Str) (h : ∀ z ∈ xs, Low z) : SeqAt.shaped (.list (xs.map PyData.str)) = true := by
  obtain ⟨h1, h2⟩ := lay_strs xs h
  simp [SeqAt.shaped, PyData.canLay0, PyData.depth, h1, h2]
theorem ok_name {fD : Addr} {fdD : FuncData} (F : FnP K "_law_name" "_law_name" s_l_name f fd) (GD : FnOk P w K mg base CX0 1 fD fdD ["tray", "many"] spDraw) (kD : PySem.W.keepIn K (.ref fD) = true) (bD : Binds K fdD ["tray", "many"] []) (gD : mg "_law_draw" = some (.ref fD)) (gr : mg "range" = none) (ge : mg "len" = none) :
    FnOk P w K mg base CX0 2 f fd ["tray", "used"] (spName K) := by
  refine F.ok sc_name (fun vs H Q E h => ?_) (fun cdv A outer s H vs Q E hr h => ?_)
  · obtain ⟨a, g, u, n, us, rfl, _⟩ := h
    rfl
  · obtain ⟨a, g, u, n, us, rfl, hT, hn, hu, hul, hus, k⟩ := h
    have nd := sc_name.nd
    refine ⟨_, PSs.nox (pss_cons (ps_set (i := 2) nd rfl (Or.inr rfl) pe_str)
      (pss_cons (ps_set (i := 3) nd rfl (Or.inl rfl) (pe_call GD hr rfl gD kD bD .nil pass0 (pa_cons (pv 0) (pa_cons pe_int pa_nil))))
      (pss_cons (ps_set (i := 4) nd rfl (Or.inl rfl) (pe_ix ix_str (pv 2) (pe_call GD hr rfl gD kD bD .nil pass0 (pa_cons (pv 0) (pa_cons pe_int pa_nil))) (fun _ _ => rfl)))
      (pss_cons (ps_set (i := 6) nd rfl (Or.inl rfl) (pe_join pe_str (pe_lc (own := [("k", 5)]) (g := gName 5) (tt := tYes) (te := tOp rIxS (tVar 2) (tDraw 26)) rfl nd (pi_range1 rfl gr (pa_cons (pe_op op_add pe_int (pe_call GD hr rfl gD kD bD .nil pass0 (pa_cons (pv 0) (pa_cons pe_int pa_nil)))) pa_nil)) (blkOk_by (own := [("k", 5)]) (N := nmN) (sc := defScope s_l_name) (by decide +kernel))
        (fun _ _ _ _ _ => pg_name (i := 5) nd rfl (Or.inl rfl)) (fun _ _ _ _ _ => pts_nil) (fun _ _ _ _ _ => pe_ix ix_str (pv 2) (pe_call GD hr rfl gD kD bD .nil pass0 (pa_cons (pv 0) (pa_cons pe_int pa_nil))) (fun _ _ => rfl)))))
      (pss_cons (ps_if (pt_cmpR op_eq (pv 3) pe_int (nomark _))
        (pss_cons (ps_set (i := 7) nd rfl (Or.inl rfl) (pe_lst (pa_cons pe_str (pa_cons pe_str (pa_cons pe_str (pa_cons pe_str (pa_cons pe_str (pa_cons pe_str (pa_cons pe_str (pa_cons pe_str (pa_cons pe_str (pa_cons pe_str (pa_cons pe_str (pa_cons pe_str pa_nil))))))))))))))
        (pss_one (ps_set (i := 6) nd rfl (Or.inl rfl) (pe_ix ix_list (pv 7) (pe_call GD hr rfl gD kD bD .nil pass0 (pa_cons (pv 0) (pa_cons pe_int pa_nil))) (fun _ _ => rfl)))))
        (pss_one (ps_if (PW.pt (pw_and (pt_cmpR op_gt (pv 3) pe_int (nomark _)) (pw_and1 (pt_cmpR (op_neD hr.units) (pv 1) (pe_lst pa_nil) (nomark _)))))
          (pss_cons (ps_set (i := 8) nd rfl (Or.inl rfl) (pe_ix ix_list (pv 1) (pe_call GD hr rfl gD kD bD .nil pass0 (pa_cons (pv 0) (pa_cons (pe_callB call_len_seq (by rfl) ge boot_len (pa_cons (pv 1) pa_nil)) pa_nil))) (fun _ _ => rfl)))
          (pss_cons (ps_set (i := 9) nd rfl (Or.inl rfl) (pe_call GD hr rfl gD kD bD .nil pass0 (pa_cons (pv 0) (pa_cons (pe_op op_add (pe_callB call_len_str (by rfl) ge boot_len (pa_cons (pv 8) pa_nil)) pe_int) pa_nil))))
          (pss_one (ps_set (i := 6) nd rfl (Or.inl rfl) (pe_slice sl_str (pe_op op_add_str (pe_op op_add_str (pe_slice sl_str (pv 8) po_none (po_some (pv 9))) (pe_ix ix_list (pe_lst (pa_cons (pv 4) (pa_cons (pv 4) (pa_cons pe_str pa_nil)))) (pe_op op_sub (pv 3) pe_int) (fun _ _ => rfl)))
            (pe_slice sl_str (pv 8) (po_some (pe_op op_add (pv 9) (pe_ix ix_list (pe_lst (pa_cons pe_int (pa_cons pe_int (pa_cons pe_int pa_nil)))) (pe_op op_sub (pv 3) pe_int) (fun _ _ => rfl)))) po_none)) po_none (po_some pe_int)))))) pss_nil)))
      (pss_cons (ps_set (i := 11) nd rfl (Or.inl rfl) (pe_op op_cat (pe_op op_cat (pe_op op_cat (pe_lst (pa_cons (pv 6) pa_nil))
          (pe_lc (own := [("one", 10)]) (g := gName 10) (tt := tYes) rfl nd (pi_str (pv 2)) (blkOk_by (own := [("one", 10)]) (N := nmN) (sc := defScope s_l_name) (by decide +kernel)) (fun _ _ _ _ _ => pg_name (i := 10) nd rfl (Or.inl rfl)) (fun _ _ _ _ _ => pts_nil) (fun _ _ _ _ _ => pv 10)))
          (pe_lc (own := [("one", 10)]) (g := gName 10) (tt := tYes) (te := tOp rMulS (tVar 10) (tC (.int 3))) rfl nd (pi_str (pv 2)) (blkOk_by (own := [("one", 10)]) (N := nmN) (sc := defScope s_l_name) (by decide +kernel)) (fun _ _ _ _ _ => pg_name (i := 10) nd rfl (Or.inl rfl)) (fun _ _ _ _ _ => pts_nil) (fun _ _ _ _ _ => pe_op op_rep_str (pv 10) pe_int)))
          (pe_lc (own := [("one", 10)]) (g := gName 10) (tt := tYes) (te := tOp rMulS (tVar 10) (tC (.int 5))) rfl nd (pi_str (pv 2)) (blkOk_by (own := [("one", 10)]) (N := nmN) (sc := defScope s_l_name) (by decide +kernel)) (fun _ _ _ _ _ => pg_name (i := 10) nd rfl (Or.inl rfl)) (fun _ _ _ _ _ => pts_nil) (fun _ _ _ _ _ => pe_op op_rep_str (pv 10) pe_int))))
      (pss_one (ps_ret (pe_ix ix_list (pe_lc (own := [("one", 10)]) (g := gName 10) (tt := tAnd (tTest (tOp rNe (tVar 10) (tC (.str Str.empty)))) (tTest (tOp (rIn K true) (tVar 10) (tVar 1)))) rfl nd (pi_list (pv 11)) (blkOk_by (own := [("one", 10)]) (N := nmN) (sc := defScope s_l_name) (by decide +kernel)) (fun _ _ _ _ _ => pg_name (i := 10) nd rfl (Or.inl rfl))
          (fun _ _ _ _ _ => pts_one (PW.pt (pw_and (pt_cmpR op_ne (pv 10) pe_str (nomark _)) (pw_and1 (pt_cmpR op_notIn_seq (pv 10) (pv 1) (by rfl)))))) (fun _ _ _ _ _ => pv 10)) pe_int (fun _ _ => rfl)))))))))), ?_⟩
    refine ⟨_, rfl, a, g, n, 5, rfl, hT, by omega, by decide, by decide, fun lot H1 l0 l1 T1 s1 => ?_⟩
    refine ⟨_, rfl, _, rfl, a, g, n + 1, 26, rfl, T1, by omega, by decide, by decide, fun cl H2 c0 c1 T2 s2 => ?_⟩
    obtain ⟨jl, rfl⟩ : ∃ j : Nat, cl = (j : Int) := ⟨cl.toNat, by omega⟩
    refine ⟨abc, _, _, rfl, rfl, le_line (by rw [abc_len]; decide), atI_nat (abc_at (by omega)), ?_⟩
    refine ⟨⟨_, rfl⟩, _, rfl, a, g, n + 1 + 1, 8, rfl, T2, by omega, by decide, by decide, fun r H3 r0 r1 T3 s3 => ?_⟩
    obtain ⟨jr, rfl⟩ : ∃ j : Nat, r = (j : Int) := ⟨r.toNat, by omega⟩
    refine ⟨_, _, rfl, rfl, _, rfl, by omega, by omega, fun D hD => ?_⟩
    have eN : ((1 : Int) + (jr : Int)).toNat = 1 + jr := by omega
    rw [eN]
    obtain ⟨nDa, nDg⟩ := T3.na hD
    refine lc_build (walk_range (lo := 0)) hD (fun i ys R => ∃ parts : List Str, ys = parts.map V.str ∧ parts.length = i ∧ (∀ z ∈ parts, z.length = 1 ∧ Low z) ∧ Tray R a g (n + 3 + i) ∧ Same (ct a g H3) (ct a g R)) ⟨[], rfl, rfl, fun _ h => (nomatch h), T3.mono (by omega), Same.refl _⟩ (fun _ _ _ _ _ => trivial) ?_ ?_
    · rintro i ys x Ha Hb hi e l ⟨parts, rfl, lp, pz, Tp, sp⟩ ⟨rfl, rfl⟩
      refine ⟨rfl, yes ?_⟩
      refine ⟨_, rfl, _, rfl, a, g, n + 3 + i, 26, rfl, Tp.same cd_sub, by omega, by decide, by decide, fun ch Hc h0 h1 Tc sc => ?_⟩
      obtain ⟨jc, rfl⟩ : ∃ j : Nat, ch = (j : Int) := ⟨ch.toNat, by omega⟩
      refine ⟨abc, _, _, rfl, rfl, le_line (by rw [abc_len]; decide), atI_nat (abc_at (by omega)), LcNx.add (ctkeep sc e nDa nDg) l (by omega) ⟨parts ++ [⟨#[97 + jc]⟩], by rw [List.map_append]; rfl, by rw [List.length_append]; show parts.length + 1 = i + 1; omega, fun z hz => ?_, (Tc.cd nDa nDg).mono (by omega), ctcd hD sp sc⟩⟩
      rcases List.mem_append.mp hz with hz | hz
      · exact pz z hz
      · rw [List.mem_singleton.mp hz]
        exact ⟨rfl, Low.one (by omega)⟩
    · rintro ys H4 e l ⟨parts, rfl, lp, pz, Tp, sp⟩
      obtain ⟨jlow, jlen⟩ := joined (y := Str.ofString "") (by decide +kernel) parts (fun z hz => (pz z hz).1) fun z hz => (pz z hz).2
      refine ⟨_, D, parts, rfl, rfl, .inl (SqL.of e), ?_, ?_⟩
      · rw [sum_ones parts fun z hz => (pz z hz).1]
        have e0 : (Str.ofString "").length = 0 := by decide +kernel
        rw [e0]
        omega
      have T4 : Tray H4 a g (n + 11) := (Tp.same cd_sub).mono (by omega)
      have s4 : Same (ct a g H) (ct a g H4) := ((s1.trans s2).trans s3).trans (sp.trans (ct_same cd_sub))
      have hu4 : SqL K H4 u (us.map V.str) := (s4.trans ct_sub).seq hu
      have hu4' : ∀ {p o}, H4 p = none → SqL K (upd H4 p o) u (us.map V.str) := fun h => (same_new h).seq hu4
      have hz4 : Nm0 (Txt.join (Str.ofString "") parts) := ⟨jlow, by omega⟩
      refine ⟨_, rfl, rfl, _, rfl, ?_⟩
      refine ite2 (fun c4 => ?_) (fun c4 => ?_)
      · refine ⟨by show 12 ≤ sizeLine; decide, fun pw nw => ?_⟩
        obtain ⟨nwa, nwg⟩ := T4.na nw
        refine ⟨_, rfl, _, rfl, a, g, n + 11, 12, rfl, T4.new nw, by omega, by decide, by decide, fun q H5 q0 q1 T5 s5 => ?_⟩
        obtain ⟨jq, rfl⟩ : ∃ j : Nat, q = (j : Int) := ⟨q.toNat, by omega⟩
        obtain ⟨wz, w1, w2⟩ := words_at (j := jq) (by omega)
        refine ⟨pw, _, _, _, rfl, rfl, SqL.of (ctkeep s5 upd_same nwa nwg), atI_nat w1, ?_⟩
        exact tail_ok (T5) (by omega) hu ((s4.trans (ctnew nw)).trans s5) hul w2.nm0 k
      · refine ⟨_, rfl, _, _, rfl, rfl, _, rfl, ?_⟩
        have c4 : ¬ lot = 4 := fun q => c4 (decide_eq_true (congrArg V.int q))
        refine ite2 (fun c5 => ?_) (fun c5 => ?_)
        · have c5 : 0 < lot := of_decide_eq_true c5
          refine ⟨_, rfl, by show 0 ≤ sizeLine; decide, fun pe ne => ?_⟩
          refine ⟨.list (us.map PyData.str), .list [], .lst ((hu4' ne)) (DpAll.strs us), .lst (SqL.of upd_same) .nil, shaped_strs us (fun z hz => (hus z hz).low), by decide, _, rfl, ?_⟩
          cases us with
          | nil =>
            refine iteF ?_
            exact tail_ok (T4.new ne) (by omega) hu (s4.trans (ctnew ne)) hul hz4 k
          | cons y0 yr =>
            refine iteT ?_
            have l1 : ((y0 :: yr).map V.str).length = (y0 :: yr).length := List.length_map ..
            refine ⟨_, rfl, _, rfl, _, rfl, u, _, rfl, .inl (hu4' ne), a, g, n + 11, _, rfl, T4.new ne, by omega, by rw [l1]; show (0 : Int) < ((yr.length + 1 : Nat) : Int); omega, by rw [l1]; omega, fun q H5 q0 q1 T5 s5 => ?_⟩
            obtain ⟨jq, rfl⟩ : ∃ j : Nat, q = (j : Int) := ⟨q.toNat, by omega⟩
            have hjq : jq < (y0 :: yr).length := by rw [l1] at q1; omega
            have s45 : Same (ct a g H) (ct a g H5) := (s4.trans (ctnew ne)).trans s5
            have hold := hus _ (List.getElem_mem hjq)
            generalize ho : (y0 :: yr)[jq] = old at hold
            have go : ((y0 :: yr).map V.str)[jq]? = some (.str old) := by rw [List.getElem?_map, List.getElem?_eq_getElem hjq, ho]; rfl
            refine ⟨u, _, _, _, rfl, rfl, (s45.trans ct_sub).seq hu, atI_nat go, ?_⟩
            have lo8 := hold.le8
            refine ⟨_, rfl, _, rfl, old, rfl, le_line (by omega), _, _, rfl, rfl, a, g, n + 11 + 1, _, rfl, T5, by omega, by omega, by omega, fun at_ H6 a0 a1 T6 s6 => ?_⟩
            have l31 : lot = 1 ∨ lot = 2 ∨ lot = 3 := by omega
            have sz0 : ∀ lo hi, (cutS old lo hi).length ≤ 8 := fun lo hi => Nat.le_trans (cutS_length old lo hi) lo8
            have fin : ∀ (t : Str) (lo : Int), Low t → Nm0 (cutS (cutS old none (some at_) ++ t ++ cutS old (some lo) none) none (some 8)) := fun t lo ht => ⟨(((hold.low.cut _ _).append ht).append (hold.low.cut _ _)).cut _ _, cut8 _⟩
            have ll : Low (⟨#[97 + jl]⟩ : Str) := Low.one (by omega)
            have le0 : Low (Str.ofString "") := fun c hc => by
              have e0 : (Str.ofString "").cps.toList = [] := by decide +kernel
              rw [e0] at hc
              cases hc
            have lz0 : (Str.ofString "").length = 0 := by decide +kernel
            have sz1 := sz0 none (some at_)
            rcases l31 with rfl | rfl | rfl
            all_goals
              refine ⟨_, rfl, _, rfl, _, rfl, old, rfl, le_line (by omega), _, rfl, _, rfl, by show 3 ≤ sizeLine; decide, fun p8 n8 => ?_⟩
              refine ⟨_, rfl, _, _, rfl, rfl, p8, _, _, _, rfl, rfl, SqL.of upd_same, rfl, _, _, rfl, rfl, le_line (by first | (show (cutS old none (some at_)).length + 1 ≤ 4000; omega) | (rw [lz0]; omega)), ?_⟩
              refine ⟨_, rfl, _, rfl, by show 3 ≤ sizeLine; decide, fun p9 n9 => ?_⟩
              refine ⟨_, rfl, _, _, rfl, rfl, p9, _, _, _, rfl, rfl, SqL.of upd_same, rfl, _, _, rfl, rfl, _, rfl, old, rfl, le_line (by omega), _, _, rfl, rfl, ?_, ?_⟩
              · refine le_line ?_
                have := sz0 (some (at_ + 0)) none
                have := sz0 (some (at_ + 1)) none
                rw [len_append]
                first | (show (cutS old none (some at_)).length + 1 + _ ≤ 4000; omega) | (rw [lz0]; omega)
              · refine ⟨_, rfl, _, rfl, ?_, ?_⟩
                · refine le_line ?_
                  have := sz0 (some (at_ + 0)) none
                  have := sz0 (some (at_ + 1)) none
                  rw [len_append, len_append]
                  first | (show (cutS old none (some at_)).length + 1 + _ ≤ 4000; omega) | (rw [lz0]; omega)
                · exact tail_ok ((T6.new n8).new n9) (by omega) hu (((s45.trans s6).trans (ctnew n8)).trans (ctnew n9)) hul (fin _ _ (by first | exact ll | exact le0)) k
        · exact tail_ok T4 (by omega) hu s4 hul hz4 k
end
end Kd

namespace Kd
open PySem PySem.Spec PyProof.Rows L2
section
variable {P : Program} {w : World} {K : PySem.W.Frag} {mg : Str → Option Value} {base : Heap} {f : Addr} {fd : FuncData}
/-- a change at an object that was not there ahead -/
theorem ctupd {a g l : Addr} {H0 H : Hp} {o : HO} (s : Same (ct a g H0) (ct a g H)) (hl : H0 l = none) (ha : l ≠ a) (hg : l ≠ g) : Same (ct a g H0) (ct a g (upd H l o)) := by
  rw [ct_upd ha hg]
  exact Same.upd s (ct_none hl)
theorem Tray.updo {a g l : Addr} {H : Hp} {o : HO} {n : Nat} (t : Tray H a g n) (ha : l ≠ a) (hg : l ≠ g) : Tray (upd H l o) a g n := by
  obtain ⟨c, f, k, gs, h1, h2, h3⟩ := t.ex
  exact ⟨c, f, k, gs, by rw [upd_ne ha.symm]; exact h1, by rw [upd_ne hg.symm]; exact h2, h3⟩
def spNames (K : PySem.W.Frag) : Sp := fun vs H Q _ => ∃ (a g : Addr) (n : Nat) (many : Nat), vs = [.ref a, .int (many : Int)] ∧ Tray H a g n ∧ n ≤ 800000 ∧ many ≤ 10 ∧
  ∀ (l : Addr) (xs : List Str) (H' : Hp), H l = none → H' l = some (.lst (xs.map V.str)) → xs.length = many → (∀ z ∈ xs, IsNm z) → xs.Nodup → Tray H' a g (n + 13 * many) → Same (ct a g H) (ct a g H') → Q (.ref l) H'
theorem sc_names : FnScope ["tray", "many", "found", "k"] ["tray", "many"] (defScope s_l_names) := ⟨rfl, rfl, rfl, by decide +kernel, rfl, by decide +kernel, by decide +kernel⟩
theorem ok_names {fN : Addr} {fdN : FuncData} (F : FnP K "_law_names" "_law_names" s_l_names f fd) (GN : FnOk P w K mg base CX0 2 fN fdN ["tray", "used"] (spName K)) (kN : PySem.W.keepIn K (.ref fN) = true) (bN : Binds K fdN ["tray", "used"] []) (gN : mg "_law_name" = some (.ref fN)) (gr : mg "range" = none) :
    FnOk P w K mg base CX0 3 f fd ["tray", "many"] (spNames K) := by
  refine F.ok sc_names (fun vs H Q E h => ?_) (fun cdv A outer s H vs Q E hr h => ?_)
  · obtain ⟨a, g, n, many, rfl, _⟩ := h
    rfl
  · obtain ⟨a, g, n, many, rfl, hT, hn, hm, k⟩ := h
    have nd := sc_names.nd
    refine ⟨_, PSs.nox (pss_cons (ps_set (i := 2) nd rfl (Or.inl rfl) (pe_lst pa_nil))
      (pss_cons (ps_for PassesOwn.never rfl (pi_range1 rfl gr (pa_cons (pv 1) pa_nil)) (pg_name (i := 3) nd rfl (Or.inl rfl))
        (pss_one (ps_expr (pe_bm PySem.F.plainAttrs_list PySem.F.slot_list_append PySem.F.type_list_append mt_append (pv 2) (pa_cons (pe_call GN hr rfl gN kN bN .nil pass0 (pa_cons (pv 0) (pa_cons (pv 2) pa_nil))) pa_nil)))))
      (pss_one (ps_ret (pv 2))))), ?_⟩
    refine ⟨by show 0 ≤ sizeLine; decide, fun l hl => ?_⟩
    obtain ⟨nla, nlg⟩ := hT.na hl
    refine ⟨_, rfl, _, rfl, by omega, by omega, ?_⟩
    rw [Int.toNat_natCast]
    refine for_range (lo := 0) (n := many) (fun i σ H2 => ∃ (xs : List Str) (u : Option V), σ = [some (.ref a), some (.int many), some (.ref l), u] ∧ H2 l = some (.lst (xs.map V.str)) ∧ xs.length = i ∧ (∀ z ∈ xs, IsNm z) ∧ xs.Nodup ∧ Tray H2 a g (n + 13 * i) ∧ Same (ct a g H) (ct a g H2))
      ⟨[], _, rfl, upd_same, rfl, fun _ h => (nomatch h), List.nodup_nil, hT.new hl, ctnew hl⟩ ?_ ?_
    · rintro i σ H2 hi ⟨xs, u, rfl, h2, lx, hx, hd, T2, s2⟩
      refine ⟨_, rfl, .inl ⟨rfl, _, SqL.of h2⟩, _, rfl, _, rfl, a, g, l, n + 13 * i, xs, rfl, T2, by omega, SqL.of (ct_of h2 nla nlg), by omega, hx, fun z H3 hz hz2 T3 s3 => ?_⟩
      have h3 := ctkeep s3 h2 nla nlg
      refine ⟨l, _, _, rfl, rfl, h3, small1000 (by rw [List.length_map]; omega), ?_⟩
      refine ⟨xs ++ [z], _, rfl, by rw [upd_same, List.map_append]; rfl, by rw [List.length_append]; show xs.length + 1 = i + 1; omega, fun y hy => ?_, ?_, (T3.updo nla nlg).mono (by omega), ctupd (s2.trans s3) hl nla nlg⟩
      · rcases List.mem_append.mp hy with hy | hy
        · exact hx y hy
        · rw [List.mem_singleton.mp hy]
          exact hz
      · refine List.nodup_append.mpr ⟨hd, List.nodup_cons.mpr ⟨List.not_mem_nil, List.nodup_nil⟩, fun y hy q hq e => hz2 ?_⟩
        rw [List.mem_singleton.mp hq] at e
        rw [← e]
        exact hy
    · rintro σ H2 ⟨xs, u, rfl, h2, lx, hx, hd, T2, s2⟩
      exact ⟨_, rfl, k l xs H2 hl h2 lx hx hd T2 s2⟩
/-! ### what is drawn is a plan -/
structure Good (ds : List (Str × List (Str × Str))) (ms : List Str) : Prop where
  d1 : 1 ≤ ds.length
  d4 : ds.length ≤ 4
  dn : ∀ d ∈ ds, IsNm d.1
  du : (ds.map (·.1)).Nodup
  al : ∀ d ∈ ds, d.2.length ≤ 5
  an : ∀ d ∈ ds, ∀ a ∈ d.2, IsNm a.1 ∧ IsWay a.2
  au : ∀ d ∈ ds, (d.2.map (·.1)).Nodup
  m4 : ms.length ≤ 4
  mn : ∀ m ∈ ms, IsNm m
  mu : ms.Nodup
theorem flt_false {xs : List Str} {m : Int} (h1 : (xs.length : Int) ≤ m) (h2 : ∀ z ∈ xs, IsNm z) (h3 : xs.Nodup) : fltB xs m = false := by
  unfold fltB
  rw [KdS.dcn_nodup h3 xs.length (Nat.le_refl _), decide_eq_false (by omega), decide_eq_false (by omega), List.all_eq_true.mpr (fun z hz => nm_iff.mpr (h2 z hz))]
  rfl
theorem Good.ff {ds : List (Str × List (Str × Str))} {ms : List Str} (h : Good ds ms) : ffV ds ms = .non := by
  have e1 : ds.isEmpty = false := by
    cases ds with
    | nil => exact absurd h.d1 (by decide)
    | cons _ _ => rfl
  have e2 : fltB (ds.map (·.1)) 4 = false := flt_false (by rw [List.length_map]; have := h.d4; omega) (fun z hz => by
    obtain ⟨d, hd, rfl⟩ := List.mem_map.mp hz
    exact h.dn d hd) h.du
  have e3 : ds.any (fun d => fltB (d.2.map (·.1)) 5) = false := by
    rw [List.any_eq_false]
    intro d hd
    rw [flt_false (by rw [List.length_map]; have := h.al d hd; omega) (fun z hz => by
      obtain ⟨a, ha, rfl⟩ := List.mem_map.mp hz
      exact (h.an d hd a ha).1) (h.au d hd)]
    decide
  have e4 : fltB ms 4 = false := flt_false (by have := h.m4; omega) h.mn h.mu
  unfold ffV
  rw [e1, e2, e3, e4]
  rfl
theorem Good.szd {ds : List (Str × List (Str × Str))} {ms : List Str} (h : Good ds ms) : Szd ds ms where
  dl := by have := h.d4; omega
  dn := fun d hd => ⟨by have := (h.dn d hd).le8; omega, by have := h.al d hd; omega, fun a ha => by have := (h.an d hd a ha).1.le8; omega⟩
  ml := by have := h.m4; omega
  mn := fun m hm => by have := (h.mn m hm).le8; omega
end
end Kd

namespace Kd
open PySem PySem.Spec PyProof.Rows L2
section
variable {P : Program} {w : World} {K : PySem.W.Frag} {mg : Str → Option Value} {base : Heap} {f : Addr} {fd : FuncData}
/-- what lists hands back: l a list of ds, m one of ms, no part of the tray -/
structure Lsts (K : PySem.W.Frag) (H : Hp) (a g l m : Addr) (ds : List (Str × List (Str × Str))) (ms : List Str) : Prop where
  dl : DimsAt K (ct a g H) l ds
  ml : ct a g H m = some (.lst (ms.map V.str))
  ok : Good ds ms
/-! tuples do not lean on lists -/
theorem seqT_list {H : Hp} {l r : Addr} {L xs : List V} (hl : H l = some (.lst L)) (h : SqT K H r xs) : SqT K (cd l H) r xs := by
  rcases h with (q | ⟨o, q⟩) | q
  · exact .inl (.inl (cd_of q (ne_of q hl (fun z => nomatch z))))
  · exact .inl (.inr ⟨o, cd_of q (ne_of q hl (fun z => nomatch z))⟩)
  · exact .inr q
theorem seqT_ct {H : Hp} {a g r : Addr} {n : Nat} {xs : List V} (t : Tray H a g n) (h : SqT K H r xs) : SqT K (ct a g H) r xs := by
  obtain ⟨c, f, k, gs, h1, h2, _⟩ := t.ex
  rcases h with (q | ⟨o, q⟩) | q
  · exact .inl (.inl (ct_of q (ne_of q h1 (fun z => nomatch z)) (ne_of q h2 (fun z => nomatch z))))
  · exact .inl (.inr ⟨o, ct_of q (ne_of q h1 (fun z => nomatch z)) (ne_of q h2 (fun z => nomatch z))⟩)
  · exact .inr q
theorem att_list {H : Hp} {l : Addr} {L : List V} {y : V} {d : Str × Str} (hl : H l = some (.lst L)) : AttAt K H y d → AttAt K (cd l H) y d := fun ⟨r, e1, e2⟩ => ⟨r, e1, seqT_list hl e2⟩
theorem dim_list {H : Hp} {l : Addr} {L : List V} {y : V} {d : Str × List (Str × Str)} (hl : H l = some (.lst L)) : DimAt K H y d → DimAt K (cd l H) y d :=
  fun ⟨p, q, h1, h2, zs, h3, h4⟩ => ⟨p, q, h1, seqT_list hl h2, zs, seqT_list hl h3, PySem.Paired.mono (fun _ _ => att_list hl) h4⟩
theorem att_ct {H : Hp} {a g : Addr} {n : Nat} {y : V} {d : Str × Str} (t : Tray H a g n) : AttAt K H y d → AttAt K (ct a g H) y d := fun ⟨r, e1, e2⟩ => ⟨r, e1, seqT_ct t e2⟩
theorem dim_ct {H : Hp} {a g : Addr} {n : Nat} {y : V} {d : Str × List (Str × Str)} (t : Tray H a g n) : DimAt K H y d → DimAt K (ct a g H) y d :=
  fun ⟨p, q, h1, h2, zs, h3, h4⟩ => ⟨p, q, h1, seqT_ct t h2, zs, seqT_ct t h3, PySem.Paired.mono (fun _ _ => att_ct t) h4⟩
/-- over a draw -/
theorem dim_draw {H H' : Hp} {a g : Addr} {n : Nat} {y : V} {d : Str × List (Str × Str)} (t : Tray H a g n) (s : Same (ct a g H) (ct a g H')) (h : DimAt K H y d) : DimAt K H' y d := (dim_ct t h).same (s.trans ct_sub)
/-- over a store to a list -/
theorem dim_store {H : Hp} {l : Addr} {L : List V} {o : HO} {y : V} {d : Str × List (Str × Str)} (hl : H l = some (.lst L)) (h : DimAt K H y d) : DimAt K (upd H l o) y d :=
  (dim_list hl h).same fun b u e => by rw [upd_ne (ct_ne e).1]; exact cd_sub _ _ e
theorem ctcd2 {a g l : Addr} {H H' : Hp} (s : Same (ct a g H) (ct a g H')) : Same (ct a g (cd l H)) (ct a g (cd l H')) := fun b o e => by
  obtain ⟨na, ng⟩ := ct_ne e
  have e2 := ct_sub _ _ e
  exact ct_of (cd_of (ct_sub _ _ (s b o (ct_of (cd_sub _ _ e2) na ng))) (ct_ne e2).1) na ng
def AttOk (ds : List (Str × List (Str × Str))) : Prop := ∀ d ∈ ds, d.2.length ≤ 5 ∧ (∀ a ∈ d.2, IsNm a.1 ∧ IsWay a.2) ∧ (d.2.map (·.1)).Nodup
theorem ways_at {j : Nat} (h : j < 5) : ∃ z, (([V.str "first", V.str "last", V.str "day", V.str "day", V.str "before"] : List V)[j]? = some (.str z)) ∧ IsWay z := by
  have h1 : ∀ z ∈ (["first", "last", "day", "day", "before"] : List Str), z ∈ (["first", "last", "day", "before"] : List Str) := by decide +kernel
  have h2 : (["first", "last", "day", "day", "before"] : List Str)[j]? = some ((["first", "last", "day", "day", "before"] : List Str)[j]'h) := List.getElem?_eq_getElem h
  refine ⟨_, ?_, h1 _ (List.getElem_mem h)⟩
  have h3 := congrArg (Option.map V.str) h2
  rw [← List.getElem?_map] at h3
  exact h3
theorem two_at {wide : Nat} (hw : wide ≤ 1) (x y : Nat) : ∃ v : Nat, atI [V.int (x : Int), V.int (y : Int)] (wide : Int) = some (.int (v : Int)) ∧ (v = x ∨ v = y) := by
  have : wide = 0 ∨ wide = 1 := by omega
  rcases this with rfl | rfl
  · exact ⟨x, atI_nat (j := 0) rfl, .inl rfl⟩
  · exact ⟨y, atI_nat (j := 1) rfl, .inr rfl⟩
def spLists (K : PySem.W.Frag) : Sp := fun vs H Q _ => ∃ (a g : Addr) (n most : Nat) (wide : Nat), vs = [.ref a, .int (most : Int), .int (wide : Int)] ∧ Tray H a g n ∧ n ≤ 700000 ∧ 1 ≤ most ∧ most ≤ 4 ∧ wide ≤ 1 ∧
  ∀ (r l m : Addr) (ds : List (Str × List (Str × Str))) (ms : List Str) (H' : Hp), ct a g H' r = some (.lst [.ref l, .ref m]) → Lsts K H' a g l m ds ms → Tray H' a g (n + 420) → Same (ct a g H) (ct a g H') → Q (.ref r) H'
abbrev liN : List Str := ["tray", "most", "wide", "found", "name", "some", "one", "ways", "k"]
theorem sc_lists : FnScope liN ["tray", "most", "wide"] (defScope s_l_lists) := ⟨rfl, rfl, rfl, by decide +kernel, rfl, by decide +kernel, by decide +kernel⟩
theorem ok_lists {fD fN : Addr} {fdD fdN : FuncData} (F : FnP K "_law_lists" "_law_lists" s_l_lists f fd) (GD : FnOk P w K mg base CX0 1 fD fdD ["tray", "many"] spDraw) (kD : PySem.W.keepIn K (.ref fD) = true) (bD : Binds K fdD ["tray", "many"] []) (gD : mg "_law_draw" = some (.ref fD))
    (GN : FnOk P w K mg base CX0 3 fN fdN ["tray", "many"] (spNames K)) (kN : PySem.W.keepIn K (.ref fN) = true) (bN : Binds K fdN ["tray", "many"] []) (gN : mg "_law_names" = some (.ref fN)) (gr : mg "range" = none) (ge : mg "len" = none) (gt : mg "tuple" = none) :
    FnOk P w K mg base CX0 4 f fd ["tray", "most", "wide"] (spLists K) := by
  refine F.ok sc_lists (fun vs H Q E h => ?_) (fun cdv A outer s H vs Q E hr h => ?_)
  · obtain ⟨a, g, n, most, wide, rfl, _⟩ := h
    rfl
  · obtain ⟨a, g, n, most, wide, rfl, hT, hn, m1, m4, hw, k⟩ := h
    have nd := sc_lists.nd
    have hr1 : Room 1 _ := hr.mono (by decide)
    refine ⟨_, PSs.nox (pss_cons (ps_set (i := 3) nd rfl (Or.inl rfl) (pe_lst pa_nil))
      (pss_cons (ps_for PassesOwn.never rfl (pi_list (pe_call GN hr rfl gN kN bN .nil pass0 (pa_cons (pv 0) (pa_cons (pe_op op_add pe_int (pe_call GD hr1 rfl gD kD bD .nil pass0 (pa_cons (pv 0) (pa_cons (pv 1) pa_nil)))) pa_nil)))) (pg_name (i := 4) nd rfl (Or.inl rfl))
        (pss_cons (ps_set (i := 5) nd rfl (Or.inr rfl) (pe_call GN hr rfl gN kN bN .nil pass0 (pa_cons (pv 0) (pa_cons (pe_call GD hr1 rfl gD kD bD .nil pass0 (pa_cons (pv 0) (pa_cons (pe_ix ix_list (pe_lst (pa_cons pe_int (pa_cons pe_int pa_nil))) (pv 2) (fun _ _ => rfl)) pa_nil))) pa_nil))))
        (pss_cons (ps_set (i := 7) nd rfl (Or.inr rfl) (pe_lc (own := [("one", 6)]) (g := gName 6) (tt := tYes) (te := tOp (rIxL K) (tLst (tCons (tC (.str "first")) (tCons (tC (.str "last")) (tCons (tC (.str "day")) (tCons (tC (.str "day")) (tCons (tC (.str "before")) tNil)))))) (tDraw 5)) rfl nd (pi_list (pv 5)) (blkOk_by (own := [("one", 6)]) (N := liN) (sc := defScope s_l_lists) (by decide +kernel))
          (fun _ _ _ _ _ => pg_name (i := 6) nd rfl (Or.inl rfl)) (fun _ _ _ _ _ => pts_nil) (fun _ _ _ _ _ => pe_ix ix_list (pe_lst (pa_cons pe_str (pa_cons pe_str (pa_cons pe_str (pa_cons pe_str (pa_cons pe_str pa_nil)))))) (pe_call GD hr1 rfl gD kD bD .nil pass0 (pa_cons (pv 0) (pa_cons pe_int pa_nil))) (fun _ _ => rfl))))
        (pss_one (ps_expr (pe_bm PySem.F.plainAttrs_list PySem.F.slot_list_append PySem.F.type_list_append mt_append (pv 3) (pa_cons (pe_tup (pa_cons (pv 4) (pa_cons (pe_callTy call_tuple_of (by rfl) gt (by decide +kernel) (pa_cons
            (pe_lc (own := [("k", 8)]) (g := gName 8) (tt := tYes) (te := tTup (tCons (tOp (rIxL K) (tVar 5) (tVar 8)) (tCons (tOp (rIxL K) (tVar 7) (tVar 8)) tNil))) rfl nd (pi_range1 rfl gr (pa_cons (pe_callB call_len_seq (by rfl) ge boot_len (pa_cons (pv 5) pa_nil)) pa_nil)) (blkOk_by (own := [("k", 8)]) (N := liN) (sc := defScope s_l_lists) (by decide +kernel))
              (fun _ _ _ _ _ => pg_name (i := 8) nd rfl (Or.inl rfl)) (fun _ _ _ _ _ => pts_nil) (fun _ _ _ _ _ => pe_tup (pa_cons (pe_ix ix_list (pv 5) (pv 8) (fun _ _ => rfl)) (pa_cons (pe_ix ix_list (pv 7) (pv 8) (fun _ _ => rfl)) pa_nil)))) pa_nil)) pa_nil))) pa_nil)))))))
      (pss_one (ps_ret (pe_lst (pa_cons (pv 3) (pa_cons (pe_call GN hr rfl gN kN bN .nil pass0 (pa_cons (pv 0) (pa_cons (pe_call GD hr1 rfl gD kD bD .nil pass0 (pa_cons (pv 0) (pa_cons (pe_ix ix_list (pe_lst (pa_cons pe_int (pa_cons pe_int pa_nil))) (pv 2) (fun _ _ => rfl)) pa_nil))) pa_nil))) pa_nil))))))), ?_⟩
    obtain ⟨w1, hw1, hw1b⟩ := two_at hw 4 6
    obtain ⟨w2, hw2, hw2b⟩ := two_at hw 4 5
    refine ⟨by show 0 ≤ sizeLine; decide, fun lf hf => ?_⟩
    obtain ⟨nfa, nfg⟩ := hT.na hf
    have T1 : Tray (upd H lf (.lst [])) a g n := hT.new hf
    refine ⟨_, rfl, _, rfl, _, rfl, a, g, n, most, rfl, T1, by omega, by omega, by omega, fun r H2 r0 r1 T2 s2 => ?_⟩
    obtain ⟨jr, rfl⟩ : ∃ j : Nat, r = (j : Int) := ⟨r.toNat, by omega⟩
    have f2 : H2 lf = some (.lst []) := ctkeep s2 upd_same nfa nfg
    refine ⟨_, _, rfl, rfl, a, g, n + 1, 1 + jr, by show [V.ref a, V.int (1 + (jr : Int))] = [V.ref a, V.int ((1 + jr : Nat) : Int)]; rw [Int.natCast_add]; rfl, T2, by omega, by omega, fun nl ns H3 hnl h3 l3 hz3 hd3 T3 s3 => ?_⟩
    obtain ⟨nna, nng⟩ := T2.na hnl
    have nnf : nl ≠ lf := (ne_of_none f2 hnl).symm
    have f3 : H3 lf = some (.lst []) := ctkeep s3 f2 nfa nfg
    have hB : ct a g (cd lf H3) nl = some (.lst (ns.map V.str)) := ct_of (cd_of h3 nnf) nna nng
    have s0B : Same (ct a g H) (ct a g (cd lf H3)) := fun b o e => by
      obtain ⟨na, ng⟩ := ct_ne e
      have nl : b ≠ lf := ne_of_none (ct_sub _ _ e) hf
      have e3 := s3 b o (s2 b o (ctnew hf b o e))
      exact ct_of (cd_of (ct_sub _ _ e3) nl) na ng
    refine ⟨nl, rfl, ⟨_, SqL.of h3⟩, for_list (K := K) (a := nl) (xs := ns.map V.str) (fun i σ H4 => ∃ (ds : List (Str × List (Str × Str))) (xs : List V) (x4 x5 x6 x7 x8 : Option V), σ = [some (.ref a), some (.int most), some (.int wide), some (.ref lf), x4, x5, x6, x7, x8] ∧ H4 lf = some (.lst xs) ∧ Paired (DimAt K H4) xs ds ∧ ds.map (·.1) = ns.take i ∧ AttOk ds ∧ Tray H4 a g (n + 60 + 75 * i) ∧ Same (ct a g (cd lf H3)) (ct a g (cd lf H4)) ∧ xs.length = i)
      ⟨[], [], _, _, _, _, _, rfl, f3, .nil, rfl, fun _ h => (nomatch h), T3.mono (by omega), Same.refl _, rfl⟩ (fun i σ H4 _ ⟨_, _, _, _, _, _, _, _, _, _, _, _, _, s4, _⟩ => SqL.of (cd_sub _ _ (ct_sub _ _ (s4 _ _ hB)))) ?_ ?_⟩
    · rintro i x σ H4 hi ⟨ds, xs, x4, x5, x6, x7, x8, rfl, f4, p4, e4, a4, T4, s4, l4⟩
      have hil : i < (ns.map V.str).length := (List.getElem?_eq_some_iff.mp hi).1
      rw [List.length_map] at hil
      obtain ⟨z, rfl, hz⟩ := strs_at hi
      have hzn := hz3 z (List.mem_of_getElem? hz)
      refine ⟨_, rfl, _, rfl, by show 2 ≤ sizeLine; decide, fun p5 n5 => ?_⟩
      refine ⟨_, rfl, p5, _, _, _, rfl, rfl, SqL.of upd_same, hw1, a, g, n + 60 + 75 * i, w1, rfl, T4.new n5, by omega, by omega, by omega, fun c H5 c0 c1 T5 s5 => ?_⟩
      obtain ⟨jc, rfl⟩ : ∃ j : Nat, c = (j : Int) := ⟨c.toNat, by omega⟩
      refine ⟨a, g, n + 60 + 75 * i + 1, jc, rfl, T5, by omega, by omega, fun sl ss H6 hsl h6 l6 hz6 hd6 T6 s6 => ?_⟩
      obtain ⟨nsa, nsg⟩ := T5.na hsl
      have s46 : Same (ct a g H4) (ct a g H6) := ((ctnew n5).trans s5).trans s6
      have f6 : H6 lf = some (.lst xs) := ctkeep s46 f4 nfa nfg
      refine ⟨_, rfl, sl, rfl, ⟨_, SqL.of h6⟩, fun D hD => lc_build (walk_list (K := K) (a := sl) (xs := ss.map V.str)) hD (fun j ys R => ∃ ws : List Str, ys = ws.map V.str ∧ ws.length = j ∧ (∀ z ∈ ws, IsWay z) ∧ Tray R a g (n + 60 + 75 * i + 1 + 13 * jc + j) ∧ Same (ct a g H6) (ct a g R))
        ⟨[], rfl, rfl, fun _ h => (nomatch h), T6, Same.refl _⟩ (fun j ys H7 _ ⟨_, _, _, _, _, s7⟩ => SqL.of (cd_sub _ _ (ct_sub _ _ (s7 _ _ (ct_of h6 nsa nsg))))) ?_ ?_⟩
      · rintro j ys y H7 H7' hj e7 l7 ⟨ws, rfl, lw, hw7, T7, s7⟩ ⟨rfl, hy⟩
        obtain ⟨nDa, nDg⟩ := T6.na hD
        rw [List.length_map] at hj
        refine ⟨rfl, yes ?_⟩
        refine ⟨by show 5 ≤ sizeLine; decide, fun p8 n8 => ?_⟩
        obtain ⟨npa, npg⟩ := (T7.same cd_sub).na n8
        refine ⟨_, rfl, a, g, n + 60 + 75 * i + 1 + 13 * jc + j, 5, rfl, (T7.same cd_sub).new n8, by omega, by decide, by decide, fun q H8 q0 q1 T8 s8 => ?_⟩
        obtain ⟨jq, rfl⟩ : ∃ j : Nat, q = (j : Int) := ⟨q.toNat, by omega⟩
        obtain ⟨wz, v1, v2⟩ := ways_at (j := jq) (by omega)
        have s78 := (ctnew (a := a) (g := g) n8).trans s8
        refine ⟨p8, _, _, _, rfl, rfl, SqL.of (ctkeep s8 upd_same npa npg), atI_nat v1, LcNx.add (ctkeep s78 e7 nDa nDg) l7 (by omega) ⟨ws ++ [wz], by rw [List.map_append]; rfl, by rw [List.length_append]; show ws.length + 1 = j + 1; omega, fun y hy => ?_, (T8.cd nDa nDg).mono (by omega), ctcd hD s7 s78⟩⟩
        rcases List.mem_append.mp hy with hy | hy
        · exact hw7 y hy
        · rw [List.mem_singleton.mp hy]
          exact v2
      · rintro ys H7 e7 l7 ⟨ws, rfl, lw, hw7, T7, s7⟩
        obtain ⟨nDa, nDg⟩ := T6.na hD
        rw [List.length_map] at lw
        have s67 : Same (ct a g H6) (ct a g H7) := s7.trans (ct_same cd_sub)
        have h7 : H7 sl = some (.lst (ss.map V.str)) := ctkeep s67 h6 nsa nsg
        have f7 : H7 lf = some (.lst xs) := ctkeep s67 f6 nfa nfg
        have T7' : Tray H7 a g (n + 60 + 75 * (i + 1)) := (T7.same cd_sub).mono (by rw [List.length_map]; omega)
        refine ⟨_, rfl, .inl ⟨rfl, _, SqL.of f7⟩, _, rfl, _, rfl, sl, _, rfl, .inl (SqL.of h7), _, rfl, by rw [List.length_map]; omega, by rw [List.length_map]; omega, fun D2 hD2 => ?_⟩
        rw [List.length_map, Int.toNat_natCast]
        refine lc_build (walk_range (lo := 0)) hD2 (fun j ys R => Same H7 R ∧ Paired (AttAt K R) ys ((ss.zip ws).take j)) ⟨Same.refl _, .nil⟩ (fun _ _ _ _ _ => trivial) ?_ ?_
        · rintro j ys y H8 H8' hj e8 l8 ⟨s8, p8⟩ ⟨rfl, rfl⟩
          have e0 : (0 : Int) + (j : Int) = (j : Int) := Int.zero_add _
          have hjw : j < ws.length := by omega
          have g1 : (ss.map V.str)[j]? = some (.str ss[j]) := by rw [List.getElem?_map, List.getElem?_eq_getElem hj]; rfl
          have g2 : (ws.map V.str)[j]? = some (.str ws[j]) := by rw [List.getElem?_map, List.getElem?_eq_getElem hjw]; rfl
          have s8' := s8.trans cd_sub
          refine ⟨rfl, yes ?_⟩
          refine ⟨_, rfl, _, rfl, sl, _, _, _, rfl, rfl, SqL.of (s8' _ _ h7), (by rw [e0]; exact atI_nat g1), _, rfl, _, rfl, D, _, _, _, rfl, rfl, SqL.of (s8' _ _ e7), (by rw [e0]; exact atI_nat g2), by show 2 ≤ sizeLine; decide, fun t nt => ?_⟩
          have nDt : D2 ≠ t := ne_of_none e8 nt
          have s9 : Same (cd D2 H8') (cd D2 (upd H8' t (.tup [.str ss[j], .str ws[j]]))) := cd_same (same_new nt)
          refine LcNx.add (by rw [upd_ne nDt]; exact e8) l8 (by omega) ⟨s8.trans s9, ?_⟩
          have hjz : j < (ss.zip ws).length := by rw [List.length_zip]; omega
          rw [List.take_succ_eq_append_getElem hjz, List.getElem_zip]
          exact PySem.Paired.snoc (PySem.Paired.mono (fun _ _ => AttAt.same s9) p8) ⟨t, rfl, SqT.of (cd_of upd_same nDt.symm)⟩
        · rintro ys H8 e8 l8 ⟨s8, p8⟩
          rw [List.take_of_length_le (by rw [List.length_zip]; omega)] at p8
          have s8' := s8.trans cd_sub
          refine ⟨D2, ys, rfl, .inl ⟨SqL.of e8, fun q hq => ?_⟩⟩
          refine ⟨by show 2 ≤ sizeLine; decide, fun t ht => ?_⟩
          have s9 : Same H8 (upd (upd H8 q (.tup ys)) t (.tup [.str z, .ref q])) := (same_new hq).trans (same_new ht)
          have f9 := s9 _ _ (s8' _ _ f7)
          refine ⟨lf, _, _, rfl, rfl, f9, small1000 (by omega), ?_⟩
          have s79 := s8'.trans s9
          have dnew : DimAt K (upd (upd H8 q (.tup ys)) t (.tup [.str z, .ref q])) (.ref t) (z, ss.zip ws) := ⟨t, q, rfl, SqT.of upd_same, ys, SqT.of (same_new ht _ _ upd_same), PySem.Paired.mono (fun _ _ h => (AttAt.same cd_sub h).same s9) p8⟩
          refine ⟨ds ++ [(z, ss.zip ws)], xs ++ [.ref t], _, _, _, _, _, rfl, upd_same, ?_, ?_, ?_, (T7'.same s79).updo nfa nfg, ?_, by rw [List.length_append]; show xs.length + 1 = i + 1; omega⟩
          · refine PySem.Paired.snoc (PySem.Paired.mono (fun y d h => dim_store f9 ((dim_draw T4 (s46.trans s67) h).same s79)) p4) (dim_store f9 dnew)
          · obtain ⟨g1, g2⟩ := List.getElem?_eq_some_iff.mp hz
            rw [List.map_append, e4, List.take_succ_eq_append_getElem g1, g2]
            rfl
          · intro d hd
            rcases List.mem_append.mp hd with hd | hd
            · exact a4 d hd
            · rw [List.mem_singleton.mp hd]
              refine ⟨by show (ss.zip ws).length ≤ 5; rw [List.length_zip]; omega, fun y hy => ?_, ?_⟩
              · exact ⟨hz6 y.1 (List.of_mem_zip hy).1, hw7 y.2 (List.of_mem_zip hy).2⟩
              · show ((ss.zip ws).map (·.1)).Nodup
                rw [show (ss.zip ws).map (·.1) = ss from List.map_fst_zip (by omega)]
                exact hd6
          · have e1 : ∀ o, ct a g (cd lf (upd (upd (upd H8 q (.tup ys)) t (.tup [.str z, .ref q])) lf o)) = ct a g (cd lf (upd (upd H8 q (.tup ys)) t (.tup [.str z, .ref q]))) := fun o => by rw [cd_upd]
            rw [e1]
            exact (s4.trans (ctcd2 (s46.trans s67))).trans (ct_same (cd_same s79))
    · rintro σ H4 ⟨ds, xs, x4, x5, x6, x7, x8, rfl, f4, p4, e4, a4, T4, s4, l4⟩
      rw [List.length_map] at e4 T4 l4
      rw [List.take_length] at e4
      refine ⟨_, rfl, _, rfl, _, rfl, by show 2 ≤ sizeLine; decide, fun p5 n5 => ?_⟩
      refine ⟨_, rfl, p5, _, _, _, rfl, rfl, SqL.of upd_same, hw2, a, g, n + 60 + 75 * ns.length, w2, rfl, T4.new n5, by omega, by omega, by omega, fun c H5 c0 c1 T5 s5 => ?_⟩
      obtain ⟨jc, rfl⟩ : ∃ j : Nat, c = (j : Int) := ⟨c.toNat, by omega⟩
      refine ⟨a, g, n + 60 + 75 * ns.length + 1, jc, rfl, T5, by omega, by omega, fun ml ms H6 hml h6 l6 hz6 hd6 T6 s6 => ?_⟩
      obtain ⟨nma, nmg⟩ := T5.na hml
      refine ⟨by show 2 ≤ sizeLine; decide, fun r nr => ?_⟩
      obtain ⟨nra, nrg⟩ := T6.na nr
      have s46 : Same (ct a g H4) (ct a g H6) := ((ctnew n5).trans s5).trans s6
      have f6 : H6 lf = some (.lst xs) := ctkeep s46 f4 nfa nfg
      have T7 := T6.new (o := .lst [.ref lf, .ref ml]) nr
      have hlen : ds.length = ns.length := by
        have := p4.length
        omega
      refine k r lf ml ds ms _ (ct_of upd_same nra nrg) ⟨⟨xs, SqL.of (ct_of (same_new nr _ _ f6) nfa nfg), PySem.Paired.mono (fun y d h => dim_ct T7 ((dim_draw T4 s46 h).same (same_new nr))) p4⟩, ct_of (same_new nr _ _ h6) nma nmg, ?_⟩ (T7.mono (by omega)) ?_
      · exact ⟨by omega, by omega, fun d hd => hz3 d.1 (by rw [← e4]; exact List.mem_map_of_mem hd), by rw [e4]; exact hd3, fun d hd => (a4 d hd).1, fun d hd => (a4 d hd).2.1, fun d hd => (a4 d hd).2.2, by omega, hz6, hd6⟩
      · have e1 : Same (ct a g H) (ct a g H4) := (s0B.trans s4).trans (ct_same cd_sub)
        exact (e1.trans s46).trans (ctnew nr)
end
end Kd

namespace Kd
open PySem PySem.Spec PyProof.Rows L2
/-! ### the lists as data -/
def attD (a : Str × Str) : PyData := .tuple [.str a.1, .str a.2]
def dimD (d : Str × List (Str × Str)) : PyData := .tuple [.str d.1, .tuple (d.2.map attD)]
def dimsD (ds : List (Str × List (Str × Str))) : PyData := .list (ds.map dimD)
section
variable {K : PySem.W.Frag} {H : Hp}
theorem atts_dp : ∀ {ys : List V} {as : List (Str × Str)}, Paired (AttAt K H) ys as → DpAll K H ys (as.map attD)
  | _, _, .nil => .nil
  | _, _, .cons ⟨r, e1, e2⟩ t => by
    subst e1
    exact .cons (.tup e2 (.cons (.str _) (.cons (.str _) .nil))) (atts_dp t)
theorem dims_dp : ∀ {xs : List V} {ds : List (Str × List (Str × Str))}, Paired (DimAt K H) xs ds → DpAll K H xs (ds.map dimD)
  | _, _, .nil => .nil
  | _, _, .cons ⟨p, q, e1, e2, zs, e3, e4⟩ t => by
    subst e1
    exact .cons (.tup e2 (.cons (.str _) (.cons (.tup e3 (atts_dp e4)) .nil))) (dims_dp t)
theorem DimsAt.dp {l : Addr} {ds : List (Str × List (Str × Str))} (h : DimsAt K H l ds) : Dp K H (.ref l) (dimsD ds) := by
  obtain ⟨xs, h1, h2⟩ := h
  exact .lst h1 (dims_dp h2)
theorem strs_dp {l : Addr} {xs : List Str} (h : SqL K H l (xs.map V.str)) : Dp K H (.ref l) (.list (xs.map PyData.str)) := .lst h (DpAll.strs xs)
end
theorem dims_okd {ds : List (Str × List (Str × Str))} {ms : List Str} (h : Good ds ms) : Okd 5 (dimsD ds) := by
  refine ⟨by rw [List.length_map]; have := h.d4; omega, fun d hd => ?_⟩
  obtain ⟨e, he, rfl⟩ := List.mem_map.mp hd
  refine ⟨by show 2 ≤ 4000; decide, fun x hx => ?_⟩
  rcases List.mem_cons.mp hx with rfl | hx
  · exact trivial
  · rw [List.mem_singleton.mp hx]
    refine ⟨by rw [List.length_map]; have := h.al e he; omega, fun y hy => ?_⟩
    obtain ⟨a, ha, rfl⟩ := List.mem_map.mp hy
    refine ⟨by show 2 ≤ 4000; decide, fun z hz => ?_⟩
    rcases List.mem_cons.mp hz with rfl | hz
    · exact trivial
    · rw [List.mem_singleton.mp hz]
      exact trivial
theorem strs_okd {ms : List Str} (h : ms.length ≤ 4) : Okd 5 (.list (ms.map PyData.str)) := by
  refine ⟨by rw [List.length_map]; omega, fun d hd => ?_⟩
  obtain ⟨e, he, rfl⟩ := List.mem_map.mp hd
  exact trivial
theorem lay_atts : ∀ as : List (Str × Str), (∀ a ∈ as, Low a.1 ∧ Low a.2) → PyData.canLayAll0 (as.map attD) = true ∧ PyData.depthAll (as.map attD) ≤ 1
  | [], _ => ⟨rfl, by decide⟩
  | a :: as, h => by
    obtain ⟨h1, h2⟩ := lay_atts as fun z hz => h z (List.mem_cons_of_mem _ hz)
    obtain ⟨h3, h4⟩ := h a (List.mem_cons_self ..)
    constructor
    · simp only [List.map_cons, attD, PyData.canLayAll0, PyData.canLay0, h1, h3.ok, h4.ok, Bool.and_self]
    · simp only [List.map_cons, attD, PyData.depthAll, PyData.depth]
      omega
theorem lay_dims : ∀ ds : List (Str × List (Str × Str)), (∀ d ∈ ds, Low d.1 ∧ ∀ a ∈ d.2, Low a.1 ∧ Low a.2) → PyData.canLayAll0 (ds.map dimD) = true ∧ PyData.depthAll (ds.map dimD) ≤ 3
  | [], _ => ⟨rfl, by decide⟩
  | d :: ds, h => by
    obtain ⟨h1, h2⟩ := lay_dims ds fun z hz => h z (List.mem_cons_of_mem _ hz)
    obtain ⟨h3, h4⟩ := h d (List.mem_cons_self ..)
    obtain ⟨h5, h6⟩ := lay_atts d.2 h4
    constructor
    · simp only [List.map_cons, dimD, PyData.canLayAll0, PyData.canLay0, h1, h3.ok, h5, Bool.and_self]
    · simp only [List.map_cons, dimD, PyData.depthAll, PyData.depth]
      omega
theorem shaped_dims {ds : List (Str × List (Str × Str))} {ms : List Str} (h : Good ds ms) : SeqAt.shaped (dimsD ds) = true := by
  obtain ⟨h1, h2⟩ := lay_dims ds fun d hd => ⟨(h.dn d hd).low, fun a ha => ⟨(h.an d hd a ha).1.low, (h.an d hd a ha).2.nm.1⟩⟩
  unfold SeqAt.shaped
  rw [Bool.and_eq_true]
  refine ⟨by unfold dimsD; rw [PyData.canLay0]; exact h1, decide_eq_true ?_⟩
  unfold dimsD
  rw [PyData.depth]
  omega
theorem eqv_self {d : PyData} (h : SeqAt.shaped d = true) : PyData.eqv d d = true := SeqAt.eqv_refl d (SeqAt.canLay_of_shaped h)
end Kd

namespace Kd
open PySem PySem.Spec PyProof.Rows L2
section
variable {P : Program} {w : World} {K : PySem.W.Frag} {mg : Str → Option Value} {base : Heap} {f : Addr} {fd : FuncData}
/-- a dimension short enough to be written -/
structure Sht (d : Dm) : Prop where
  n8 : d.1.length ≤ 8
  al : d.2.length ≤ 5
  a8 : ∀ a ∈ d.2, a.1.length ≤ 8 ∧ a.2.length ≤ 8
theorem Good.sht {ds : List Dm} {ms : List Str} (h : Good ds ms) : ∀ d ∈ ds, Sht d := fun d hd => ⟨(h.dn d hd).le8, h.al d hd, fun a ha => ⟨(h.an d hd a ha).1.le8, (h.an d hd a ha).2.nm.2⟩⟩
theorem Good.wok {ds : List Dm} {ms : List Str} (h : Good ds ms) : ∀ d ∈ ds, WOk d := fun d hd => ⟨(h.dn d hd).low, fun a ha => ⟨(h.an d hd a ha).1.low, (h.an d hd a ha).2⟩⟩
theorem dimW_len {d : Dm} (h : Sht d) : ∀ z ∈ dimW d, z.length ≤ 17 := fun z hz => by
  have h3 : ("dim" : Str).length = 3 := by decide +kernel
  unfold dimW at hz
  rcases List.mem_append.mp hz with hz | hz
  · rcases List.mem_cons.mp hz with rfl | hz
    · omega
    · rw [List.mem_singleton.mp hz]
      have := h.n8
      omega
  · obtain ⟨a, ha, rfl⟩ := List.mem_map.mp hz
    exact attT_len (h.a8 a ha).1 (h.a8 a ha).2
theorem dimW_many {d : Dm} (h : Sht d) : (dimW d).length ≤ 7 := by
  unfold dimW
  have := h.al
  rw [List.length_append, List.length_map]
  show 2 + _ ≤ 7
  omega
theorem len_blank : (" " : Str).length = 1 := by decide +kernel
theorem len_semi : ("; " : Str).length = 2 := by decide +kernel
theorem dimW_fit {d : Dm} (h : Sht d) : ((dimW d).map (·.length)).sum + (dimW d).length * (" " : Str).length ≤ 16777216 := by
  have h1 := sum_le (dimW_len h)
  have h2 := dimW_many h
  rw [len_blank]
  omega
theorem dimT_len {d : Dm} (h : Sht d) : (dimT d).length ≤ 126 := by
  have h1 := join_len (y := (" " : Str)) (dimW_len h)
  have h2 := dimW_many h
  rw [len_blank] at h1
  unfold dimT
  omega
/-! ### show_dimension -/
def spShowD (K : PySem.W.Frag) : Sp := fun vs H Q _ => ∃ (q : Addr) (d : Dm), vs = [.str d.1, .ref q] ∧ AttsAt K H q d.2 ∧ Sht d ∧ ∀ H', Same H H' → Q (.str (dimT d)) H'
abbrev N_show_dimension : List Str := ["name", "attributes", "attribute", "way"]
theorem sc_show_dimension : FnScope N_show_dimension ["name", "attributes"] (defScope s_show_dimension) := ⟨rfl, rfl, rfl, by decide +kernel, rfl, by decide +kernel, by decide +kernel⟩
/-! slots: 0 name 1 attributes 2 attribute 3 way; cells:  -/
theorem ok_showD (F : FnP K "show_dimension" "show_dimension" s_show_dimension f fd) : FnOk P w K mg base CX0 1 f fd ["name", "attributes"] (spShowD K) := by
  refine F.ok sc_show_dimension (fun vs H Q E h => ?_) (fun cdv A outer s H vs Q E hr h => ?_)
  · obtain ⟨q, d, rfl, _⟩ := h
    rfl
  · obtain ⟨q, d, rfl, ha, hs, k⟩ := h
    have nd := sc_show_dimension.nd
    refine ⟨_, PSs.nox (pss_one (ps_ret (pe_join pe_str (pe_op op_cat (pe_lst (pa_cons pe_str (pa_cons (pv 0) pa_nil))) (pe_lc (own := [("attribute", 2), ("way", 3)]) (g := gTup K 2 (gCons (gName 2) (gCons (gName 3) gNil))) (tt := tYes) (te := tFs [tFmt (tVar 2), tC (.str ":"), tFmt (tVar 3)]) rfl nd (pi_tup (pv 1)) (blkOk_by (own := [("attribute", 2), ("way", 3)]) (N := N_show_dimension) (sc := defScope s_show_dimension) (by decide +kernel))
        (fun _ _ _ _ _ => pg_tup rfl (pgs_cons (pg_name (i := 2) nd rfl (Or.inl rfl)) (pgs_cons (pg_name (i := 3) nd rfl (Or.inl rfl)) pgs_nil))) (fun _ _ _ _ _ => pts_nil) (fun _ _ _ _ _ => pe_joined (.cons (pe_fmt (pv 2)) (.cons pe_str (.cons (pe_fmt (pv 3)) .nil))))))))), ?_⟩
    obtain ⟨ys, hq, hp⟩ := ha
    have hlen := hp.length
    refine ⟨⟨_, rfl⟩, ?_⟩
    refine ⟨_, rfl, by show 2 ≤ sizeLine; decide, fun p0 n0 => ?_⟩
    have s0 : Same H (upd H p0 (.lst [.str "dim", .str d.1])) := same_new n0
    have e0 : upd H p0 (.lst [.str "dim", .str d.1]) p0 = some (.lst [.str "dim", .str d.1]) := upd_same
    generalize upd H p0 (.lst [.str "dim", .str d.1]) = H0 at s0 e0 ⊢
    refine ⟨_, rfl, q, rfl, ⟨_, Same.seqT s0 hq⟩, fun D hD => ?_⟩
    refine lc_build (walk_tup (K := K) (a := q) (xs := ys)) hD (fun i zs R => Same H0 R ∧ zs = (d.2.take i).map fun a => V.str (attT a)) ⟨Same.refl _, rfl⟩ (fun _ _ _ _ p => Same.seqT (s0.trans (p.1.trans cd_sub)) hq) ?_ ?_
    · rintro i zs y H2 H2' hi e ly ⟨sm, rfl⟩ ⟨rfl, hy⟩
      obtain ⟨a, hA, r, rfl, h1⟩ := paired_at hp hy
      have hal := hs.al
      have sl := hs.a8 a (List.mem_of_getElem? hA)
      have c1 : (":" : Str).length = 1 := by decide +kernel
      refine ⟨r, _, rfl, Same.seqT (s0.trans (sm.trans cd_sub)) h1, rfl, _, _, rfl, _, _, rfl, rfl, rfl, yes ?_⟩
      refine ⟨_, rfl, .inl ⟨_, rfl, le_line (by omega), a.1, rfl, ?_, _, rfl, ?_, _, rfl, .inl ⟨_, rfl, le_line (by omega), a.2, rfl, ?_, ?_⟩⟩⟩
      · rw [len_append]; exact le_line (by show 0 + _ ≤ _; omega)
      · rw [len_append, len_append]; exact le_line (by show 0 + _ + _ ≤ _; omega)
      · rw [len_append, len_append, len_append]; exact le_line (by show 0 + _ + _ + _ ≤ _; omega)
      · have eq : Str.empty ++ a.1 ++ (":" : Str) ++ a.2 = attT a := by
          have e9 : Str.empty ++ a.1 = a.1 := TL.ext_tl (by rw [TL.tl_append]; rfl)
          rw [e9]
          rfl
        rw [eq]
        refine LcNx.add e ly (by omega) ⟨sm, ?_⟩
        obtain ⟨g1, g2⟩ := List.getElem?_eq_some_iff.mp hA
        rw [List.take_succ_eq_append_getElem g1, g2, List.map_append]
        rfl
    · rintro zs H2 e ly ⟨sm, rfl⟩
      rw [hlen, List.take_length] at e
      have s2 : Same H0 H2 := sm.trans cd_sub
      have hal := hs.al
      refine ⟨p0, D, _, _, rfl, rfl, s2 _ _ e0, e, by rw [List.length_map]; exact le_line (by show 2 + _ ≤ _; omega), fun p1 n1 => ?_⟩
      refine ⟨_, p1, dimW d, rfl, rfl, .inl (SqL.of ?_), dimW_fit hs, k _ ((s0.trans s2).trans (same_new n1))⟩
      rw [upd_same]
      unfold dimW
      rw [List.map_append, List.map_map]
      rfl
end
end Kd

namespace Kd
open PySem PySem.Spec PyProof.Rows L2
theorem st_eq {t : L2.St → Hp → Prop} {σ σ' : L2.St} {H : Hp} (e : σ = σ') (h : t σ' H) : t σ H := by
  subst e
  exact h
theorem set_st {i : Nat} {σ σ' : L2.St} {K : L2.St → Hp → Prop} {v : V} {H : Hp} (e : σ.set i (some v) = σ') (h : K σ' H) : (fun x H1 => gName i x σ H1 K) v H := by
  subst e
  exact h
section
variable {P : Program} {w : World} {K : PySem.W.Frag} {mg : Str → Option Value} {base : Heap} {f : Addr} {fd : FuncData}
/-! ### _law_plan_shown -/
theorem sumW_fit {ms : List Str} (h4 : ms.length ≤ 4) (h8 : ∀ z ∈ ms, z.length ≤ 8) : (∀ z ∈ sumW ms, z.length ≤ 8) ∧ (sumW ms).length ≤ 5 := by
  have h3 : ("sum" : Str).length = 3 := by decide +kernel
  refine ⟨fun z hz => ?_, ?_⟩
  · unfold sumW at hz
    rcases List.mem_append.mp hz with hz | hz
    · rw [List.mem_singleton.mp hz]
      omega
    · exact h8 z hz
  · unfold sumW
    rw [List.length_append]
    show 1 + _ ≤ 5
    omega
theorem sumW_fit2 {ms : List Str} (h4 : ms.length ≤ 4) (h8 : ∀ z ∈ ms, z.length ≤ 8) : ((sumW ms).map (·.length)).sum + (sumW ms).length * (" " : Str).length ≤ 16777216 := by
  obtain ⟨a, b⟩ := sumW_fit h4 h8
  have h1 := sum_le a
  rw [len_blank]
  omega
theorem planW_len {ds : List Dm} {ms : List Str} (h : Good ds ms) : (∀ z ∈ planW ds ms, z.length ≤ 126) ∧ (planW ds ms).length ≤ 5 := by
  obtain ⟨a, b⟩ := sumW_fit h.m4 fun z hz => (h.mn z hz).le8
  have d4 := h.d4
  refine ⟨fun z hz => ?_, ?_⟩
  · unfold planW at hz
    rcases List.mem_append.mp hz with hz | hz
    · obtain ⟨d, hd, rfl⟩ := List.mem_map.mp hz
      exact dimT_len (h.sht d hd)
    · unfold sumT at hz
      split at hz
      · cases hz
      · rw [List.mem_singleton.mp hz]
        have h1 := join_len (y := (" " : Str)) a
        rw [len_blank] at h1
        omega
  · unfold planW sumT
    rw [List.length_append, List.length_map]
    split
    · show _ + 0 ≤ 5
      omega
    · show _ + 1 ≤ 5
      omega
theorem planW_fit {ds : List Dm} {ms : List Str} (h : Good ds ms) : ((planW ds ms).map (·.length)).sum + (planW ds ms).length * ("; " : Str).length ≤ 16777216 := by
  obtain ⟨a, b⟩ := planW_len h
  have h1 := sum_le a
  rw [len_semi]
  omega
theorem planT_len {ds : List Dm} {ms : List Str} (h : Good ds ms) : (planT ds ms).length ≤ 640 := by
  obtain ⟨a, b⟩ := planW_len h
  have h1 := join_len (y := ("; " : Str)) a
  rw [len_semi] at h1
  unfold planT
  omega
def spShown (K : PySem.W.Frag) : Sp := fun vs H Q _ => ∃ (l m : Addr) (ds : List Dm) (ms : List Str), vs = [.ref l, .ref m] ∧ DimsAt K H l ds ∧ H m = some (.lst (ms.map V.str)) ∧ Good ds ms ∧ ∀ H', Same H H' → Q (.str (planT ds ms)) H'
abbrev N_l_plan_shown : List Str := ["some", "sums", "parts", "name", "rows", "one", "way"]
theorem sc_l_plan_shown : FnScope N_l_plan_shown ["some", "sums"] (defScope s_l_plan_shown) := ⟨rfl, rfl, rfl, by decide +kernel, rfl, by decide +kernel, by decide +kernel⟩
/-! slots: 0 some 1 sums 2 parts 3 name 4 rows 5 one 6 way; cells:  -/
theorem ok_shown (F : FnP K "_law_plan_shown" "_law_plan_shown" s_l_plan_shown f fd) : FnOk P w K mg base CX0 1 f fd ["some", "sums"] (spShown K) := by
  refine F.ok sc_l_plan_shown (fun vs H Q E h => ?_) (fun cdv A outer s H vs Q E hr h => ?_)
  · obtain ⟨l, m, ds, ms, rfl, _⟩ := h
    rfl
  · obtain ⟨l, m, ds, ms, rfl, ⟨xs, hl, hp⟩, hm, hg, k⟩ := h
    have nd := sc_l_plan_shown.nd
    refine ⟨_, PSs.nox (pss_cons (ps_set (i := 2) nd rfl (Or.inl rfl) (pe_lst pa_nil))
      (pss_cons (ps_for PassesOwn.never rfl (pi_list (pv 0)) (pg_tup rfl (pgs_cons (pg_name (i := 3) nd rfl (Or.inl rfl)) (pgs_cons (pg_name (i := 4) nd rfl (Or.inl rfl)) pgs_nil)))
        (pss_one (ps_expr (pe_bm PySem.F.plainAttrs_list PySem.F.slot_list_append PySem.F.type_list_append mt_append (pv 2) (pa_cons (pe_join pe_str (pe_op op_cat (pe_lst (pa_cons pe_str (pa_cons (pv 3) pa_nil))) (pe_lc (own := [("one", 5), ("way", 6)]) (g := gTup K 2 (gCons (gName 5) (gCons (gName 6) gNil))) (tt := tYes) (te := tOp rAddS (tOp rAddS (tVar 5) (tC (.str ":"))) (tVar 6)) rfl nd (pi_tup (pv 4)) (blkOk_by (own := [("one", 5), ("way", 6)]) (N := N_l_plan_shown) (sc := defScope s_l_plan_shown) (by decide +kernel))
        (fun _ _ _ _ _ => pg_tup rfl (pgs_cons (pg_name (i := 5) nd rfl (Or.inl rfl)) (pgs_cons (pg_name (i := 6) nd rfl (Or.inl rfl)) pgs_nil))) (fun _ _ _ _ _ => pts_nil) (fun _ _ _ _ _ => pe_op op_add_str (pe_op op_add_str (pv 5) pe_str) (pv 6))))) pa_nil)))))
      (pss_cons (ps_if (pt_cmpR (op_neD hr.units) (pv 1) (pe_lst pa_nil) (nomark _))
        (pss_one (ps_expr (pe_bm PySem.F.plainAttrs_list PySem.F.slot_list_append PySem.F.type_list_append mt_append (pv 2) (pa_cons (pe_join pe_str (pe_op op_cat (pe_lst (pa_cons pe_str pa_nil)) (pv 1))) pa_nil))))
        pss_nil)
      (pss_one (ps_ret (pe_join pe_str (pv 2))))))), ?_⟩
    have hlen := hp.length
    have d4 := hg.d4
    refine ⟨by show 0 ≤ sizeLine; decide, fun lf hf => ?_⟩
    refine set_st (σ' := [some (.ref l), some (.ref m), some (.ref lf), none, none, none, none]) rfl ?_
    have s0 : Same H (upd H lf (.lst [])) := same_new hf
    refine ⟨_, rfl, l, rfl, ⟨_, s0.seq hl⟩, ?_⟩
    refine for_list (K := K) (a := l) (xs := xs) (fun i σ H2 => ∃ x3 x4 x5 x6 : Option V, σ = [some (.ref l), some (.ref m), some (.ref lf), x3, x4, x5, x6] ∧ H2 lf = some (.lst ((ds.take i).map fun d => V.str (dimT d))) ∧ Same H (cd lf H2)) ⟨_, _, _, _, rfl, upd_same, Same.cd s0 hf⟩ (fun i σ H2 _ ⟨_, _, _, _, _, _, s2⟩ => (s2.trans cd_sub).seq hl) ?_ ?_
    · rintro i x σ H2 hi ⟨x3, x4, x5, x6, rfl, f2, s2⟩
      obtain ⟨d, hd, p, q, rfl, h1, ys, h2, h3⟩ := paired_at hp hi
      have s02 := s2.trans cd_sub
      have hs := hg.sht d (List.mem_of_getElem? hd)
      have hal := hs.al
      have hle := h3.length
      refine ⟨p, _, rfl, Same.seqT s02 h1, rfl, _, _, rfl, _, _, rfl, rfl, ?_⟩
      refine st_eq (σ' := [some (.ref l), some (.ref m), some (.ref lf), some (.str d.1), some (.ref q), x5, x6]) rfl ?_
      refine ⟨_, rfl, .inl ⟨rfl, _, SqL.of f2⟩, ⟨_, rfl⟩, ?_⟩
      refine ⟨_, rfl, by show 2 ≤ sizeLine; decide, fun p0 n0 => ?_⟩
      have s3 : Same H2 (upd H2 p0 (.lst [.str "dim", .str d.1])) := same_new n0
      have e0 : upd H2 p0 (.lst [.str "dim", .str d.1]) p0 = some (.lst [.str "dim", .str d.1]) := upd_same
      generalize upd H2 p0 (.lst [.str "dim", .str d.1]) = H3 at s3 e0 ⊢
      have s03 := s02.trans s3
      refine ⟨_, rfl, q, rfl, ⟨_, Same.seqT s03 h2⟩, fun D hD => ?_⟩
      refine lc_build (walk_tup (K := K) (a := q) (xs := ys)) hD (fun i zs R => Same H3 R ∧ zs = (d.2.take i).map fun a => V.str (attT a)) ⟨Same.refl _, rfl⟩ (fun _ _ _ _ p => Same.seqT (s03.trans (p.1.trans cd_sub)) h2) ?_ ?_
      · rintro j zs y H4 H4' hj e ly ⟨sm, rfl⟩ ⟨rfl, hy⟩
        obtain ⟨a, hA, r, rfl, h5⟩ := paired_at h3 hy
        have sl := hs.a8 a (List.mem_of_getElem? hA)
        have c1 : (":" : Str).length = 1 := by decide +kernel
        refine ⟨r, _, rfl, Same.seqT (s03.trans (sm.trans cd_sub)) h5, rfl, _, _, rfl, _, _, rfl, rfl, rfl, yes ?_⟩
        refine ⟨_, rfl, _, _, rfl, rfl, le_line (by omega), _, rfl, _, _, rfl, rfl, ?_, ?_⟩
        · rw [len_append]
          exact le_line (by omega)
        refine LcNx.add e ly (by omega) ⟨sm, ?_⟩
        obtain ⟨g1, g2⟩ := List.getElem?_eq_some_iff.mp hA
        rw [List.take_succ_eq_append_getElem g1, g2, List.map_append]
        rfl
      · rintro zs H4 e ly ⟨sm, rfl⟩
        rw [hle, List.take_length] at e
        have s4 : Same H3 H4 := sm.trans cd_sub
        refine ⟨p0, D, _, _, rfl, rfl, s4 _ _ e0, e, by rw [List.length_map]; exact le_line (by show 2 + _ ≤ _; omega), fun p1 n1 => ?_⟩
        have s5 := (s3.trans s4).trans (same_new (o := .lst ([.str "dim", .str d.1] ++ d.2.map fun a => V.str (attT a))) n1)
        refine ⟨_, p1, dimW d, rfl, rfl, .inl (SqL.of ?_), dimW_fit hs, ?_⟩
        · rw [upd_same]
          unfold dimW
          rw [List.map_append, List.map_map]
          rfl
        generalize upd H4 p1 (.lst ([.str "dim", .str d.1] ++ d.2.map fun a => V.str (attT a))) = H5 at s5 ⊢
        have f5 := s5 _ _ f2
        refine ⟨lf, _, _, rfl, rfl, f5, small1000 (by rw [List.length_map, List.length_take]; omega), ?_⟩
        refine ⟨_, _, _, _, rfl, ?_, ?_⟩
        · rw [upd_same]
          obtain ⟨g1, g2⟩ := List.getElem?_eq_some_iff.mp hd
          rw [List.take_succ_eq_append_getElem g1, g2, List.map_append]
          rfl
        · rw [cd_upd]
          exact s2.trans (cd_same s5)
    · rintro σ H2 ⟨x3, x4, x5, x6, rfl, f2, s2⟩
      rw [hlen, List.take_length] at f2
      have s02 := s2.trans cd_sub
      have nlm : m ≠ lf := ne_of_none hm hf
      refine ⟨_, rfl, by show 0 ≤ sizeLine; decide, fun p0 n0 => ?_⟩
      have s3 : Same H2 (upd H2 p0 (.lst [])) := same_new n0
      have e3 : upd H2 p0 (.lst []) p0 = some (.lst []) := upd_same
      generalize upd H2 p0 (.lst []) = H3 at s3 e3 ⊢
      refine ⟨.list (ms.map PyData.str), .list [], strs_dp (SqL.of ((s02.trans s3) _ _ hm)), .lst (SqL.of e3) .nil, shaped_strs ms (fun z hz => (hg.mn z hz).low), by decide +kernel, _, rfl, ?_⟩
      cases ms with
      | nil =>
        refine iteF ?_
        refine ⟨⟨_, rfl⟩, _, rfl, _, lf, planW ds [], rfl, rfl, .inl (SqL.of ?_), planW_fit hg, k _ (s02.trans s3)⟩
        rw [s3 _ _ f2]
        unfold planW sumT
        rw [List.map_append, List.map_map]
        simp
      | cons z zs =>
        refine iteT ?_
        have f3 := s3 _ _ f2
        refine ⟨_, rfl, .inl ⟨rfl, _, SqL.of f3⟩, ⟨_, rfl⟩, ?_⟩
        refine ⟨by show 1 ≤ sizeLine; decide, fun p1 n1 => ?_⟩
        have s4 : Same H3 (upd H3 p1 (.lst [.str "sum"])) := same_new n1
        have e4 : upd H3 p1 (.lst [.str "sum"]) p1 = some (.lst [.str "sum"]) := upd_same
        generalize upd H3 p1 (.lst [.str "sum"]) = H4 at s4 e4 ⊢
        have m4 := hg.m4
        refine ⟨_, rfl, p1, m, _, _, rfl, rfl, e4, (s02.trans (s3.trans s4)) _ _ hm, by rw [List.length_map]; exact le_line (by show 1 + _ ≤ _; omega), fun p2 n2 => ?_⟩
        have s5 := s4.trans (same_new (o := .lst ([.str "sum"] ++ (z :: zs).map V.str)) n2)
        refine ⟨_, p2, sumW (z :: zs), rfl, rfl, .inl (SqL.of ?_), sumW_fit2 m4 (fun y hy => (hg.mn y hy).le8), ?_⟩
        · rw [upd_same]
          unfold sumW
          rw [List.map_append]
          rfl
        generalize upd H4 p2 (.lst ([.str "sum"] ++ (z :: zs).map V.str)) = H5 at s5 ⊢
        have f5 := s5 _ _ f3
        refine ⟨lf, _, _, rfl, rfl, f5, small1000 (by rw [List.length_map]; omega), ?_⟩
        refine ⟨⟨_, rfl⟩, _, rfl, _, lf, planW ds (z :: zs), rfl, rfl, .inl (SqL.of ?_), planW_fit hg, k _ ?_⟩
        · rw [upd_same]
          unfold planW sumT
          rw [List.map_append, List.map_map]
          rfl
        · exact Same.upd (s02.trans (s3.trans s5)) hf
end
end Kd

namespace Kd
open PySem PySem.Spec PyProof.Rows L2
/-- a def of the module, its promise and how it is called -/
structure Fun (P : Program) (w : World) (K : PySem.W.Frag) (mg : Str → Option Value) (base : Heap) (x : Str) (n : Nat) (ps : List Str) (sp : Sp) (f : Addr) (fd : FuncData) : Prop where
  G : FnOk P w K mg base CX0 n f fd ps sp
  k : PySem.W.keepIn K (.ref f) = true
  b : Binds K fd ps []
  g : mg x = some (.ref f)
section
variable {P : Program} {w : World} {K : PySem.W.Frag} {mg : Str → Option Value} {base : Heap} {f : Addr} {fd : FuncData}
/-! ### show_plan -/
def spShowP (K : PySem.W.Frag) (C : Addr) : Sp := fun vs H Q _ => ∃ (x : Addr) (ds : List Dm) (ms : List Str), vs = [.ref x] ∧ PlanAt K C H x ds ms ∧ Good ds ms ∧ ∀ H', Same H H' → Q (.str (planT ds ms)) H'
abbrev N_show_plan : List Str := ["plan", "name", "attributes", "parts", "measures"]
theorem sc_show_plan : FnScope N_show_plan ["plan"] (defScope s_show_plan) := ⟨rfl, rfl, rfl, by decide +kernel, rfl, by decide +kernel, by decide +kernel⟩
/-! slots: 0 plan 1 name 2 attributes 3 parts 4 measures; cells:  -/
theorem ok_showP {C fs fd1 fm1 : Addr} {fds fdd fdm : FuncData} (F : FnP K "show_plan" "show_plan" s_show_plan f fd) (T : PlTxt K C) (c_show_dimension : Fun P w K mg base "show_dimension" 1 ["name", "attributes"] (spShowD K) fs fds)
    (GD : FnOk P w K mg base CX0 1 fd1 fdd ["self"] (spDims K C)) (bD : Binds K fdd ["self"] []) (mD : Meth K C "dimensions" fd1) (GM : FnOk P w K mg base CX0 1 fm1 fdm ["self"] (spMeas K C)) (bM : Binds K fdm ["self"] []) (mM : Meth K C "measures" fm1) :
    FnOk P w K mg base CX0 2 f fd ["plan"] (spShowP K C) := by
  refine F.ok sc_show_plan (fun vs H Q E h => ?_) (fun cdv A outer s H vs Q E hr h => ?_)
  · obtain ⟨x, ds, ms, rfl, _⟩ := h
    rfl
  · obtain ⟨x, ds, ms, rfl, hp, hg, k⟩ := h
    have nd := sc_show_plan.nd
    obtain ⟨dx, pa, pb, px, h1, h2, h3, h4⟩ := id hp.ex
    refine ⟨_, PSs.nox (pss_cons (ps_setLc (i := 3) (own := [("name", 1), ("attributes", 2)]) (g := gTup K 2 (gCons (gName 1) (gCons (gName 2) gNil))) (tt := tYes) (te := tCall (spShowD K) [] E0 (tCons (tVar 1) (tCons (tVar 2) tNil))) rfl nd rfl rfl (sw_true rfl rfl rfl (by decide +kernel)) (pi_list (pe_meth0 (pv 0) T.cl mD GD (hr.mono (by decide)) bD .nil pass0)) (blkOk_by (own := [("name", 1), ("attributes", 2)]) (N := N_show_plan) (sc := defScope s_show_plan) (by decide +kernel))
        (fun _ _ _ _ _ => pg_tup rfl (pgs_cons (pg_name (i := 1) nd rfl (Or.inl rfl)) (pgs_cons (pg_name (i := 2) nd rfl (Or.inl rfl)) pgs_nil))) (fun _ _ _ _ _ => pts_nil) (fun _ _ _ _ _ => pe_call c_show_dimension.G (hr.mono (by decide)) rfl c_show_dimension.g c_show_dimension.k c_show_dimension.b .nil pass0 (pa_cons (pv 1) (pa_cons (pv 2) pa_nil))))
      (pss_cons (ps_set (i := 4) nd rfl (Or.inl rfl) (pe_meth0 (pv 0) T.cl mM GM (hr.mono (by decide)) bM .nil pass0))
      (pss_cons (ps_if (pt_truth (pv 4) (by intro _; rfl))
        (pss_one (ps_expr (pe_bm PySem.F.plainAttrs_list PySem.F.slot_list_append PySem.F.type_list_append mt_append (pv 3) (pa_cons (pe_join pe_str (pe_op op_cat (pe_lst (pa_cons pe_str pa_nil)) (pv 4))) pa_nil))))
        pss_nil)
      (pss_one (ps_ret (pe_join pe_str (pv 3))))))), ?_⟩
    have d4 := hg.d4
    have m4 := hg.m4
    refine ⟨_, rfl, x, dx, _, rfl, h1, pl_no0 (by decide +kernel) (by decide +kernel), x, ds, ms, rfl, hp, fun l xs nl pl => ?_⟩
    have s0 : Same H (upd H l (.lst xs)) := same_new nl
    have e0 : upd H l (.lst xs) l = some (.lst xs) := upd_same
    generalize upd H l (.lst xs) = H0 at s0 e0 ⊢
    have hlen := pl.length
    refine ⟨l, rfl, ⟨_, SqL.of e0⟩, fun D hD => ?_⟩
    refine lc_build (walk_list (K := K) (a := l) (xs := xs)) hD (fun i zs R => Same H0 R ∧ zs = (ds.take i).map fun d => V.str (dimT d)) ⟨Same.refl _, rfl⟩ (fun _ _ _ _ p => SqL.of ((p.1.trans cd_sub) _ _ e0)) ?_ ?_
    · rintro i zs y H2 H2' hi e ly ⟨sm, rfl⟩ ⟨rfl, hy⟩
      obtain ⟨d, hd, p, q, rfl, h5, h6⟩ := paired_at pl hy
      have s02 := s0.trans (sm.trans cd_sub)
      refine ⟨p, _, rfl, Same.seqT s02 h5, rfl, _, _, rfl, _, _, rfl, rfl, rfl, yes ?_⟩
      refine ⟨_, rfl, _, rfl, q, d, rfl, h6.same s02, hg.sht d (List.mem_of_getElem? hd), fun H3 s3 => ?_⟩
      refine LcNx.add (s3 _ _ e) ly (by omega) ⟨sm.trans (cd_same s3), ?_⟩
      obtain ⟨g1, g2⟩ := List.getElem?_eq_some_iff.mp hd
      rw [List.take_succ_eq_append_getElem g1, g2, List.map_append]
      rfl
    · rintro zs H2 e ly ⟨sm, rfl⟩
      rw [hlen, List.take_length] at e
      have hDH : H D = none := s0.free hD
      have s02 : Same H H2 := s0.trans (sm.trans cd_sub)
      refine set_st (σ' := [some (.ref x), none, none, some (.ref D), none]) rfl ?_
      refine ⟨_, rfl, x, dx, _, rfl, s02 _ _ h1, pl_no0 (by decide +kernel) (by decide +kernel), x, ds, ms, rfl, hp.same s02, fun m nm => ?_⟩
      refine set_st (σ' := [some (.ref x), none, none, some (.ref D), some (.ref m)]) rfl ?_
      have s3 : Same H2 (upd H2 m (.lst (ms.map V.str))) := same_new nm
      have e3 : upd H2 m (.lst (ms.map V.str)) m = some (.lst (ms.map V.str)) := upd_same
      generalize upd H2 m (.lst (ms.map V.str)) = H3 at s3 e3 ⊢
      have f3 := s3 _ _ e
      refine ⟨_, rfl, _, .inl ⟨_, SqL.of e3, rfl⟩, ?_⟩
      cases ms with
      | nil =>
        refine iteF ?_
        refine ⟨⟨_, rfl⟩, _, rfl, _, D, planW ds [], rfl, rfl, .inl (SqL.of ?_), planW_fit hg, k _ (s02.trans s3)⟩
        rw [f3]
        unfold planW sumT
        rw [List.map_append, List.map_map]
        simp
      | cons z zs =>
        refine iteT ?_
        refine ⟨_, rfl, .inl ⟨rfl, _, SqL.of f3⟩, ⟨_, rfl⟩, ?_⟩
        refine ⟨by show 1 ≤ sizeLine; decide, fun p1 n1 => ?_⟩
        have s4 : Same H3 (upd H3 p1 (.lst [.str "sum"])) := same_new n1
        have e4 : upd H3 p1 (.lst [.str "sum"]) p1 = some (.lst [.str "sum"]) := upd_same
        generalize upd H3 p1 (.lst [.str "sum"]) = H4 at s4 e4 ⊢
        refine ⟨_, rfl, p1, m, _, _, rfl, rfl, e4, s4 _ _ e3, by rw [List.length_map]; exact le_line (by show 1 + _ ≤ _; omega), fun p2 n2 => ?_⟩
        have s5 := s4.trans (same_new (o := .lst ([.str "sum"] ++ (z :: zs).map V.str)) n2)
        refine ⟨_, p2, sumW (z :: zs), rfl, rfl, .inl (SqL.of ?_), sumW_fit2 m4 (fun y hy => (hg.mn y hy).le8), ?_⟩
        · rw [upd_same]
          unfold sumW
          rw [List.map_append]
          rfl
        generalize upd H4 p2 (.lst ([.str "sum"] ++ (z :: zs).map V.str)) = H5 at s5 ⊢
        have f5 := s5 _ _ f3
        refine ⟨D, _, _, rfl, rfl, f5, small1000 (by rw [List.length_map]; omega), ?_⟩
        refine ⟨⟨_, rfl⟩, _, rfl, _, D, planW ds (z :: zs), rfl, rfl, .inl (SqL.of ?_), planW_fit hg, k _ ?_⟩
        · rw [upd_same]
          unfold planW sumT
          rw [List.map_append, List.map_map]
          rfl
        · exact Same.upd (s02.trans (s3.trans s5)) hDH
end
end Kd

namespace Kd
open PySem PySem.Spec PyProof.Rows L2
theorem cutR2 (xs : List V) (h : 2 ≤ xs.length) : cutV xs (some 2) none = xs.drop 2 := by
  unfold cutV
  rw [HT.sIx_none]
  have e : HT.sIx xs.length 0 (some ((2 : Nat) : Int)) = min 2 xs.length := HT.sIx_nat _ _ _
  have e2 : HT.sIx xs.length 0 (some 2) = min 2 xs.length := e
  rw [e2, Nat.min_eq_left h]
  match xs, h with
  | a :: b :: r, _ => simp
theorem rep_snoc (b : Bool) (i : Nat) : List.replicate i (V.bl b) ++ [V.bl b] = List.replicate (i + 1) (V.bl b) := by
  rw [List.replicate_succ']
theorem rep_map (b : Bool) (i : Nat) : List.replicate i (V.bl b) = (List.replicate i b).map V.bl := by
  rw [List.map_replicate]
theorem rep_all (i : Nat) : (List.replicate i true).all id = true := by
  rw [List.all_eq_true]
  intro x hx
  rw [List.eq_of_mem_replicate hx]
  rfl
def rLenQ (K : PySem.W.Frag) : List V → Hp → VK → Prop := fun xs H Q => ∃ p ys, xs = [.ref p] ∧ (SqL K H p ys ∨ SqT K H p ys) ∧ Q (.int (ys.length : Int)) H
def wayV : List V := [.str "first", .str "last", .str "day", .str "before"]
theorem way_in {z : Str} (h : IsWay z) : inV (.str z) wayV = true := by
  have h1 : ∀ z ∈ (["first", "last", "day", "before"] : List Str), inV (.str z) wayV = true := by decide +kernel
  exact h1 z h
section
variable {P : Program} {w : World} {K : PySem.W.Frag} {mg : Str → Option Value} {base : Heap} {f : Addr} {fd : FuncData}
/-! ### read_dimension -/
def spReadD (K : PySem.W.Frag) : Sp := fun vs H Q _ => ∃ d : Dm, vs = [.str (dimT d)] ∧ WOk d ∧ Sht d ∧ ∀ x H', DimAt K H' x d → Same H H' → Q x H'
abbrev N_read_dimension : List Str := ["part", "words", "word", "attributes", "attribute"]
theorem sc_read_dimension : FnScope N_read_dimension ["part"] (defScope s_read_dimension) := ⟨rfl, rfl, rfl, by decide +kernel, rfl, by decide +kernel, by decide +kernel⟩
/-! slots: 0 part 1 words 2 word 3 attributes 4 attribute; cells:  -/
theorem ok_readD {a_WAYS : Addr} (F : FnP K "read_dimension" "read_dimension" s_read_dimension f fd) (g_WAYS : mg "WAYS" = some (.ref a_WAYS)) (hW : ∀ H, SqT K H a_WAYS wayV) (z_len : mg "len" = none) (z_tuple : mg "tuple" = none) (z_all : mg "all" = none) : FnOk P w K mg base CX0 1 f fd ["part"] (spReadD K) := by
  refine F.ok sc_read_dimension (fun vs H Q E h => ?_) (fun cdv A outer s H vs Q E hr h => ?_)
  · obtain ⟨d, rfl, _⟩ := h
    rfl
  · obtain ⟨d, rfl, hw, hs, k⟩ := h
    have nd := sc_read_dimension.nd
    refine ⟨_, PSs.nox (pss_cons (ps_set (i := 1) nd rfl (Or.inl rfl) (pe_split (pv 0) pe_str))
      (pss_cons (ps_if (PW.pt (pw_or (pt_cmpR op_lt (pe_callB call_len_seq (by rfl) z_len boot_len (pa_cons (pv 1) pa_nil)) pe_int (nomark _)) (pw_or1 (pt_cmpR op_ne (pe_ix ix_list (pv 1) pe_int (fun _ _ => rfl)) pe_str (nomark _)))))
        (pss_one (ps_ret pe_non))
        pss_nil)
      (pss_cons (ps_setLc (i := 3) (own := [("word", 2)]) (g := gName 2) (tt := tYes) (te := tCB (rTupOf K) (tCons (tM1 rSplit (tVar 2) (tC (.str ":"))) tNil)) rfl nd rfl rfl (sw_true rfl rfl rfl (by decide +kernel)) (pi_list (pe_slice sl_list (pv 1) (po_some pe_int) po_none)) (blkOk_by (own := [("word", 2)]) (N := N_read_dimension) (sc := defScope s_read_dimension) (by decide +kernel))
        (fun _ _ _ _ _ => pg_name (i := 2) nd rfl (Or.inl rfl)) (fun _ _ _ _ _ => pts_nil) (fun _ _ _ _ _ => pe_callTy call_tuple_of (by rfl) z_tuple (by decide +kernel) (pa_cons (pe_split (pv 2) pe_str) pa_nil)))
      (pss_cons (ps_if (pt_not (pt_val (pe_callB (cr_all rfl) (by rfl) z_all (by decide +kernel) (pa_cons (pe_lc (own := [("attribute", 4)]) (g := gName 4) (tt := tYes) (te := tAndV (tOp rEq (tCB (rLenQ K) (tCons (tVar 4) tNil)) (tC (.int 2))) (tOp (rIn K false) (tOp (rIxT K) (tVar 4) (tC (.int 1))) (tC (.ref a_WAYS)))) rfl nd (pi_list (pv 3)) (blkOk_by (own := [("attribute", 4)]) (N := N_read_dimension) (sc := defScope s_read_dimension) (by decide +kernel))
        (fun _ _ _ _ _ => pg_name (i := 4) nd rfl (Or.inl rfl)) (fun _ _ _ _ _ => pts_nil) (fun _ _ _ _ _ => pe_and (pe_cmpR op_eq (pe_callB call_len_seq (by rfl) z_len boot_len (pa_cons (pv 4) pa_nil)) pe_int (nomark _)) (pe_one (pe_cmpR op_in_seq (pe_ix ix_tup (pv 4) pe_int (fun _ _ => rfl)) (pe_glob (v := .ref a_WAYS) rfl g_WAYS rfl) (by rfl))))) pa_nil))))
        (pss_one (ps_ret pe_non))
        pss_nil)
      (pss_one (ps_ret (pe_tup (pa_cons (pe_ix ix_list (pv 1) pe_int (fun _ _ => rfl)) (pa_cons (pe_callTy call_tuple_of (by rfl) z_tuple (by decide +kernel) (pa_cons (pv 3) pa_nil)) pa_nil))))))))), ?_⟩
    have dl := dimT_len hs
    have hal := hs.al
    refine ⟨_, rfl, ⟨_, rfl⟩, _, _, rfl, rfl, by decide +kernel, le_line (by omega), fun l hl => ?_⟩
    rw [split_dim hw]
    have s0 : Same H (upd H l (.lst ((dimW d).map V.str))) := same_new hl
    have e0 : upd H l (.lst ((dimW d).map V.str)) l = some (.lst ((dimW d).map V.str)) := upd_same
    generalize upd H l (.lst ((dimW d).map V.str)) = H0 at s0 e0 ⊢
    refine set_st (σ' := [some (.str (dimT d)), some (.ref l), none, none, none]) rfl ?_
    have ew : (dimW d).map V.str = .str "dim" :: .str d.1 :: d.2.map fun a => V.str (attT a) := by
      unfold dimW
      rw [List.map_append, List.map_map]
      rfl
    rw [ew] at e0
    have q0 : SqL K H0 l (.str "dim" :: .str d.1 :: d.2.map fun a => V.str (attT a)) := SqL.of e0
    refine ⟨_, rfl, _, _, rfl, .inl q0, _, _, rfl, rfl, _, rfl, ?_⟩
    refine iteNS (decide_eq_false (by show ¬ (((d.2.map fun a => V.str (attT a)).length + 2 : Nat) : Int) < 2; omega)) ?_
    refine ⟨_, rfl, l, _, _, _, rfl, rfl, q0, atI_nat (j := 0) rfl, rfl, _, rfl, ?_⟩
    refine iteF ?_
    refine ⟨_, rfl, _, rfl, l, _, rfl, q0, fun p1 n1 => ?_⟩
    rw [cutR2 _ (by show 2 ≤ (d.2.map fun a => V.str (attT a)).length + 2; omega)]
    have s1 : Same H0 (upd H0 p1 (.lst (d.2.map fun a => V.str (attT a)))) := same_new n1
    have e1 : upd H0 p1 (.lst (d.2.map fun a => V.str (attT a))) p1 = some (.lst (d.2.map fun a => V.str (attT a))) := upd_same
    have e2 : upd H0 p1 (.lst (d.2.map fun a => V.str (attT a))) = upd H0 p1 (.lst ((.str "dim" :: .str d.1 :: d.2.map fun a => V.str (attT a)).drop 2)) := rfl
    rw [← e2]
    generalize upd H0 p1 (.lst (d.2.map fun a => V.str (attT a))) = H1 at s1 e1 ⊢
    have s01 := s0.trans s1
    refine ⟨p1, rfl, ⟨_, SqL.of e1⟩, fun D hD => ?_⟩
    refine lc_build (walk_list (K := K) (a := p1) (xs := d.2.map fun a => V.str (attT a))) hD (fun i zs R => Same H1 R ∧ Paired (AttAt K R) zs (d.2.take i)) ⟨Same.refl _, .nil⟩ (fun _ _ _ _ p => SqL.of ((p.1.trans cd_sub) _ _ e1)) ?_ ?_
    · rintro i zs y H2 H2' hi e ly ⟨sm, pz⟩ ⟨rfl, hy⟩
      rw [List.length_map] at hi
      rw [List.getElem?_map, List.getElem?_eq_getElem hi] at hy
      cases hy
      have ha := hw.2 d.2[i] (List.getElem_mem hi)
      have hl8 := hs.a8 d.2[i] (List.getElem_mem hi)
      have hat := attT_len hl8.1 hl8.2
      refine ⟨rfl, yes ?_⟩
      refine ⟨_, rfl, ⟨_, rfl⟩, _, _, rfl, rfl, by decide +kernel, le_line (by omega), fun p2 n2 => ?_⟩
      rw [split_att ha.1 ha.2.nm.1]
      refine ⟨p2, _, rfl, .inl ⟨SqL.of upd_same, fun t nt => ?_⟩⟩
      have s3 := (same_new (o := .lst ([d.2[i].1, d.2[i].2].map V.str)) n2).trans (same_new (o := .tup ([d.2[i].1, d.2[i].2].map V.str)) nt)
      have e3 := s3 _ _ e
      refine LcNx.add e3 ly (by omega) ⟨sm.trans (cd_same s3), ?_⟩
      rw [List.take_succ_eq_append_getElem hi]
      exact PySem.Paired.snoc (PySem.Paired.mono (fun _ _ => AttAt.same (cd_same s3)) pz) ⟨t, rfl, SqT.of (cd_of upd_same (ne_of_none (same_new n2 _ _ e) nt).symm)⟩
    · rintro zs H2 e ly ⟨sm, pz⟩
      rw [List.length_map, List.take_length] at pz
      have pz2 : Paired (AttAt K H2) zs d.2 := PySem.Paired.mono (fun _ _ => AttAt.same cd_sub) pz
      have hzl := pz2.length
      have s12 : Same H1 H2 := sm.trans cd_sub
      have s02 := s1.trans s12
      refine set_st (σ' := [some (.str (dimT d)), some (.ref l), none, some (.ref D), none]) rfl ?_
      refine ⟨_, rfl, D, rfl, ⟨_, SqL.of e⟩, fun D2 hD2 => ?_⟩
      refine lc_build (walk_list (K := K) (a := D) (xs := zs)) hD2 (fun i us R => Same H2 R ∧ us = List.replicate i (V.bl true)) ⟨Same.refl _, rfl⟩ (fun _ _ _ _ p => SqL.of ((p.1.trans cd_sub) _ _ e)) ?_ ?_
      · rintro i us y H3 H3' hi e3 ly3 ⟨sm3, rfl⟩ ⟨rfl, hy⟩
        obtain ⟨a, hA, r, rfl, h5⟩ := paired_at pz2 hy
        have h6 := Same.seqT (sm3.trans cd_sub) h5
        refine ⟨rfl, yes ?_⟩
        refine ⟨_, rfl, _, _, rfl, .inr h6, rfl, _, rfl, iteT ?_⟩
        refine ⟨_, rfl, r, _, _, _, rfl, rfl, h6, atI_nat (j := 1) rfl, a_WAYS, wayV, rfl, .inr (hW _), rfl, by decide +kernel, ?_⟩
        have hin := way_in (hw.2 a (List.mem_of_getElem? hA)).2
        rw [show (if false = true then !inV (V.str a.2) wayV else inV (V.str a.2) wayV) = true from hin]
        exact LcNx.add e3 ly3 (by omega) ⟨sm3, rep_snoc true i⟩
      · rintro us H3 e3 ly3 ⟨sm3, rfl⟩
        have s23 : Same H2 H3 := sm3.trans cd_sub
        rw [rep_map] at e3
        refine ⟨D2, _, rfl, SqL.of e3, _, rfl, ?_⟩
        rw [rep_all]
        refine iteF ?_
        have s03 := s02.trans s23
        refine ⟨_, rfl, l, _, _, _, rfl, rfl, s03.seq q0, atI_nat (j := 1) rfl, _, rfl, D, zs, rfl, .inl ⟨SqL.of (s23 _ _ e), fun q hq => ?_⟩⟩
        refine ⟨by show 2 ≤ sizeLine; decide, fun t ht => ?_⟩
        have s4 := (same_new (o := .tup zs) hq).trans (same_new (o := .tup [.str d.1, .ref q]) ht)
        exact k _ _ ⟨t, q, rfl, SqT.of upd_same, zs, SqT.of (same_new ht _ _ upd_same), PySem.Paired.mono (fun _ _ => AttAt.same (s23.trans s4)) pz2⟩ ((s0.trans s03).trans s4)
end
end Kd

namespace Kd
open PySem PySem.Spec PyProof.Rows L2
section
variable {P : Program} {w : World} {K : PySem.W.Frag} {mg : Str → Option Value} {base : Heap} {f : Addr} {fd : FuncData}
/-! ### Plan.__eq__ of plans of the same lists -/
def spEq (K : PySem.W.Frag) (C : Addr) (r : Bool) : Sp := fun vs H Q _ => ∃ (x y : Addr) (ds : List Dm) (ms : List Str), vs = [.ref x, .ref y] ∧ PlanAt K C H x ds ms ∧ PlanAt K C H y ds ms ∧ Good ds ms ∧ Q (.bl r) H
theorem sc_eq : FnScope ["self", "other"] ["self", "other"] (defScope s_Plan_eq) := ⟨rfl, rfl, rfl, by decide +kernel, rfl, by decide +kernel, by decide +kernel⟩
theorem sc_ne : FnScope ["self", "other"] ["self", "other"] (defScope s_Plan_ne) := ⟨rfl, rfl, rfl, by decide +kernel, rfl, by decide +kernel, by decide +kernel⟩
theorem ok_eq {C : Addr} (F : FnP K "__eq__" "Plan.__eq__" s_Plan_eq f fd) (T : PlTxt K C) (gC : mg "Plan" = some (.ref C)) (hI : ∀ (H : Hp) (x dx : Addr) (fs : List (Str × V)), H x = some (.ins C dx fs) → TyOf K H (.ref x) (.ref C)) (kC : PySem.W.kitOne K (.ref C) (.ref C) = some true) (z_isinstance : mg "isinstance" = none) : FnOk P w K mg base CX0 1 f fd ["self", "other"] (spEq K C true) := by
  refine F.ok sc_eq (fun vs H Q E h => ?_) (fun cdv A outer s H vs Q E hr h => ?_)
  · obtain ⟨x, y, ds, ms, rfl, _⟩ := h
    rfl
  · obtain ⟨x, y, ds, ms, rfl, hx, hy, hg, k⟩ := h
    have nd := sc_eq.nd
    obtain ⟨dx, xa, xb, xs, x1, x2, x3, x4⟩ := id hx.ex
    obtain ⟨dy, ya, yb, ys, y1, y2, y3, y4⟩ := id hy.ex
    refine ⟨_, PSs.nox (pss_one (ps_ret (pe_and (pe_callB call_isi (by rfl) z_isinstance (by decide +kernel) (pa_cons (pv 1) (pa_cons (pe_glob (v := .ref C) rfl gC rfl) pa_nil))) (pe_and (pe_cmpR (op_eqD hr.units) (pe_fld (pv 0) rfl) (pe_fld (pv 1) rfl) (nomark _)) (pe_one (pe_cmpR (op_eqD hr.units) (pe_fld (pv 0) rfl) (pe_fld (pv 1) rfl) (nomark _))))))), ?_⟩
    refine ⟨_, rfl, _, _, _, _, _, rfl, ClsV.own C, .base (hI _ _ _ _ y1), kC, _, rfl, iteT ?_⟩
    refine ⟨_, rfl, x, C, dx, _, _, rfl, x1, T.cl, T.nD, pl_dim xa xb, _, rfl, y, C, dy, _, _, rfl, y1, T.cl, T.nD, pl_dim ya yb, ?_⟩
    refine ⟨dimsD ds, dimsD ds, DimsAt.dp ⟨xs, SqL.of x2, x3⟩, DimsAt.dp ⟨ys, SqL.of y2, y3⟩, shaped_dims hg, shaped_dims hg, _, rfl, ?_⟩
    rw [eqv_self (shaped_dims hg)]
    refine iteT ?_
    have hsm := shaped_strs ms (fun z hz => (hg.mn z hz).low)
    refine ⟨_, rfl, x, C, dx, _, _, rfl, x1, T.cl, T.nM, pl_mea xa xb, _, rfl, y, C, dy, _, _, rfl, y1, T.cl, T.nM, pl_mea ya yb, ?_⟩
    refine ⟨.list (ms.map PyData.str), .list (ms.map PyData.str), strs_dp (SqL.of x4), strs_dp (SqL.of y4), hsm, hsm, ?_⟩
    rw [eqv_self hsm]
    exact k
/-! ### Plan.__ne__ -/
theorem ok_ne {C fE : Addr} {fdE : FuncData} (F : FnP K "__ne__" "Plan.__ne__" s_Plan_ne f fd) (GE : FnOk P w K mg base CX0 1 fE fdE ["self", "other"] (spEq K C true)) (hE : PySem.W.findIn K (.ref C) "__eq__" = some (some (.ref fE))) (kE : PySem.W.isFn K (.ref fE) = true) (bE : Binds K fdE ["self", "other"] []) : FnOk P w K mg base CX0 2 f fd ["self", "other"] (spEq K C false) := by
  refine F.ok sc_ne (fun vs H Q E h => ?_) (fun cdv A outer s H vs Q E hr h => ?_)
  · obtain ⟨x, y, ds, ms, rfl, _⟩ := h
    rfl
  · obtain ⟨x, y, ds, ms, rfl, hx, hy, hg, k⟩ := h
    have nd := sc_ne.nd
    obtain ⟨dx, xa, xb, xs, x1, x2, x3, x4⟩ := id hx.ex
    obtain ⟨dy, ya, yb, ys, y1, y2, y3, y4⟩ := id hy.ex
    refine ⟨_, PSs.nox (pss_one (ps_ret (pe_not (pe_cmpR (KdEx.op_eqOwn GE hE kE bE pass0 (hr.mono (by decide))) (pv 0) (pv 1) (nomark _))))), ?_⟩
    refine ⟨_, rfl, _, rfl, x, y, dx, dy, _, _, rfl, rfl, x1, y1, x, y, ds, ms, rfl, hx, hy, hg, _, rfl, ?_⟩
    first
      | exact ⟨_, rfl, k⟩
      | exact k
end
end Kd

namespace Kd
open PySem PySem.Spec PyProof.Rows L2
theorem starts_pre (x y : Str) (hy : TL.tl y ≠ []) : Txt.startswith x y = TL.pre (TL.tl y) (TL.tl x) := by
  have h := TL.at_iff (x := x) hy 0
  rw [List.drop_zero] at h
  cases e : TL.pre (TL.tl y) (TL.tl x) with
  | true =>
    have h1 := h.mpr e
    unfold Txt.startswith
    rw [Bool.and_eq_true]
    exact ⟨decide_eq_true h1.1, h1.2⟩
  | false =>
    unfold Txt.startswith
    cases e2 : (decide (0 + y.length ≤ x.length) && Builtin.Str.subAt x y 0) with
    | false => rfl
    | true =>
      rw [Bool.and_eq_true] at e2
      have h2 := h.mp ⟨of_decide_eq_true e2.1, e2.2⟩
      rw [e] at h2
      cases h2
theorem tl_sumb : TL.tl ("sum " : Str) = [115, 117, 109, 32] := by decide +kernel
theorem dim_starts (d : Dm) : Txt.startswith (dimT d) "sum " = false := by
  rw [starts_pre _ _ (by rw [tl_sumb]; simp), tl_sumb]
  unfold dimT dimW
  rw [tl_joinL]
  have ed : TL.tl ("dim" : Str) = [100, 105, 109] := by decide +kernel
  show TL.pre _ (TL.tl ("dim" : Str) ++ _) = false
  rw [ed]
  exact TL.pre_of_head _ _ (by decide)
theorem sum_starts (z : Str) (zs : List Str) : Txt.startswith (Txt.join " " (sumW (z :: zs))) "sum " = true := by
  rw [starts_pre _ _ (by rw [tl_sumb]; simp), tl_sumb]
  unfold sumW
  rw [tl_joinL]
  have ed : TL.tl ("sum" : Str) = [115, 117, 109] := by decide +kernel
  show TL.pre _ (TL.tl ("sum" : Str) ++ (TL.tl (" " : Str) ++ _)) = true
  rw [ed, tl_blank]
  exact TL.pre_self [115, 117, 109, 32] _
end Kd

namespace Kd
open PySem PySem.Spec PyProof.Rows L2
theorem u65 {A : Around} {k : Nat} (hr : Room k A) : A.units + 65 < cLine := by
  have := hr.un
  omega
theorem atI_end {α : Type} {xs : List α} {a : α} (h : xs.getLast? = some a) : atI xs (-1) = some a := by
  obtain ⟨r, rfl⟩ := List.getLast?_eq_some_iff.mp h
  exact atI_last r a
theorem cutLast (xs : List V) : cutV xs none (some (-1)) = xs.take (xs.length - 1) := by
  unfold cutV
  rw [HT.sIx_none]
  have e : HT.sIx xs.length xs.length (some (-1)) = xs.length - 1 := by
    unfold HT.sIx
    simp
    omega
  rw [e]
  simp
theorem cutR1 (a : V) (xs : List V) : cutV (a :: xs) (some 1) none = xs := by
  unfold cutV
  rw [HT.sIx_none]
  have e : HT.sIx (a :: xs).length 0 (some ((1 : Nat) : Int)) = min 1 (a :: xs).length := HT.sIx_nat _ _ _
  have e2 : HT.sIx (a :: xs).length 0 (some 1) = min 1 (a :: xs).length := e
  rw [e2, Nat.min_eq_left (by show 1 ≤ xs.length + 1; omega)]
  simp
section
variable {P : Program} {w : World} {K : PySem.W.Frag} {mg : Str → Option Value} {base : Heap} {f : Addr} {fd : FuncData}
abbrev InitD (K : PySem.W.Frag) (e f : Addr) (fd : FuncData) : Prop := FunD K "__init__" "Plan.__init__" (defArgs s_Plan_init) (defBody s_Plan_init) (defScope s_Plan_init) [.ref e] [] f fd
theorem init_b3 {e : Addr} (F : InitD K e f fd) : ∃ ds, Vals [] ds ∧ Binds K fd ["self", "dimensions", "measures"] ds :=
  F.binds1 (ps := ["self", "dimensions", "measures"]) 3 1 (by simp) rfl fun T kV doc pm an cdv ct us its h1 h2 => match us, its, h1, h2 with
    | [_, _, _], [_], _, _ => ⟨_, rfl, rfl⟩
/-- the class Plan, and how it is called -/
structure PlanC (P : Program) (w : World) (K : PySem.W.Frag) (mg : Str → Option Value) (base : Heap) (C e fI : Addr) (fdI : FuncData) : Prop where
  T : PlTxt K C
  M : Mk K C fI
  GI : FnOk P w K mg base CX0 5 fI fdI ["self", "dimensions", "measures"] (spInit K C)
  gC : mg "Plan" = some (.ref C)
  I : InitD K e fI fdI
theorem seqT_cdl {D r : Addr} {H : Hp} {A xs : List V} (h1 : H D = some (.lst A)) (h : SqT K H r xs) : SqT K (cd D H) r xs := by
  rcases h with (q | ⟨o, q⟩) | q
  · exact .inl (.inl (cd_of q (ne_of q h1 (fun z => nomatch z))))
  · exact .inl (.inr ⟨o, cd_of q (ne_of q h1 (fun z => nomatch z))⟩)
  · exact .inr q
theorem dim_cdl {D : Addr} {H : Hp} {A : List V} {y : V} {d : Str × List (Str × Str)} (e1 : H D = some (.lst A)) : DimAt K H y d → DimAt K (cd D H) y d :=
  fun ⟨p, q, h1, h2, zs, h3, h4⟩ => ⟨p, q, h1, seqT_cdl e1 h2, zs, seqT_cdl e1 h3, PySem.Paired.mono (fun _ _ ⟨r, q1, q2⟩ => ⟨r, q1, seqT_cdl e1 q2⟩) h4⟩
/-- a Plan is made of good lists -/
theorem made {C hp bp : Addr} {H5 : Hp} {ds : List (Str × List (Str × Str))} {ms : List Str} {R : Addr → Hp → Prop} {E : XK} (hd : DimsAt K H5 hp ds) (hm : Txs K H5 bp ms) (sz : Szd ds ms) (ff : ffV ds ms = .non)
    (k : ∀ x H7, Same H5 H7 → PlanAt K C H7 x ds ms → R x H7) : ∀ x dx, H5 x = none → H5 dx = none → dx ≠ x → spInit K C [.ref x, .ref hp, .ref bp] (upd (upd H5 dx (.own x)) x (.ins C dx [])) (fun v H2 => v = .non ∧ R x H2) E := by
  intro x dx nx ndx nex
  have sx : Same H5 (upd (upd H5 dx (.own x)) x (.ins C dx [])) := fun b o q => by rw [upd_ne (ne_of_none q nx), upd_ne (ne_of_none q ndx)]; exact q
  refine ⟨x, dx, hp, bp, ds, ms, rfl, upd_same, DimsAt.same sx hd, Same.txs sx hm, sz, ff, fun H7 pa pb px npa npb e1 e2 e3 e4 s7 => ⟨rfl, ?_⟩⟩
  have s57 : Same H5 H7 := fun b o e => cd_sub _ _ (s7 b o (cd_of (sx b o e) (ne_of_none e nx)))
  exact k x H7 s57 ⟨dx, pa, pb, px, e1, e2, e3, e4⟩
/-! ### read_plan -/
def spReadP (K : PySem.W.Frag) (C : Addr) : Sp := fun vs H Q _ => ∃ (ds : List Dm) (ms : List Str), vs = [.str (planT ds ms)] ∧ Good ds ms ∧ ∀ x H', PlanAt K C H' x ds ms → Same H H' → Q (.ref x) H'
abbrev N_read_plan : List Str := ["text", "parts", "measures", "part", "dimensions", "plan"]
theorem sc_read_plan : FnScope N_read_plan ["text"] (defScope s_read_plan) := ⟨rfl, rfl, rfl, by decide +kernel, rfl, by decide +kernel, by decide +kernel⟩
/-! slots: 0 text 1 parts 2 measures 3 part 4 dimensions 5 plan; cells:  -/
def tRead2 (K : PySem.W.Frag) (C : Addr) : TS := tSeq (tAsg (tLc (iList K (tVar 1)) (gName 3) tYes (tCall (spReadD K) [] E0 (tCons (tVar 3) tNil)) [3]) (gName 4))
  (tSeq (tIfS (tTest (tOp (rInD K) (tC .non) (tVar 4))) tNever tNext) (tSeq (tAsg (tMake C (spInit K C) [] E0 (tCons (tVar 4) (tCons (tVar 2) tNil))) (gName 5)) (tRet (tVar 5))))
theorem none_in (ds : List Dm) : ((ds.map dimD).any fun z => PyData.eqv z .none) = false := by
  rw [List.any_eq_false]
  intro z hz
  obtain ⟨d, _, rfl⟩ := List.mem_map.mp hz
  unfold dimD
  simp [PyData.eqv]
theorem read2_ok {C pl mo : Addr} {t : Str} {ds : List Dm} {ms : List Str} {H : Hp} {D : Ends} (hp : H pl = some (.lst (ds.map fun d => V.str (dimT d)))) (hm : H mo = some (.lst (ms.map V.str))) (hg : Good ds ms)
    (k : ∀ x H', PlanAt K C H' x ds ms → Same H H' → D.rt (.ref x) H') : tRead2 K C D [some (.str t), some (.ref pl), some (.ref mo), none, none, none] H := by
  have d4 := hg.d4
  refine ⟨_, rfl, pl, rfl, ⟨_, SqL.of hp⟩, fun D1 hD => ?_⟩
  refine lc_build (walk_list (K := K) (a := pl) (xs := ds.map fun d => V.str (dimT d))) hD (fun i zs R => Same H R ∧ Paired (DimAt K R) zs (ds.take i)) ⟨Same.refl _, .nil⟩ (fun _ _ _ _ p => SqL.of ((p.1.trans cd_sub) _ _ hp)) ?_ ?_
  · rintro i zs y H2 H2' hi e ly ⟨sm, pz⟩ ⟨rfl, hy⟩
    rw [List.length_map] at hi
    rw [List.getElem?_map, List.getElem?_eq_getElem hi] at hy
    cases hy
    have hmem := List.getElem_mem hi
    refine ⟨rfl, yes ?_⟩
    refine ⟨_, rfl, ds[i], rfl, hg.wok _ hmem, hg.sht _ hmem, fun x H3 hx s3 => ?_⟩
    have e3 := s3 _ _ e
    refine LcNx.add e3 ly (by omega) ⟨sm.trans (cd_same s3), ?_⟩
    rw [List.take_succ_eq_append_getElem hi]
    exact PySem.Paired.snoc (PySem.Paired.mono (fun _ _ => DimAt.same (cd_same s3)) pz) (dim_cdl e3 hx)
  · rintro zs H2 e ly ⟨sm, pz⟩
    rw [List.length_map, List.take_length] at pz
    have s2 : Same H H2 := sm.trans cd_sub
    have pz2 : Paired (DimAt K H2) zs ds := PySem.Paired.mono (fun _ _ => DimAt.same cd_sub) pz
    refine set_st (σ' := [some (.str t), some (.ref pl), some (.ref mo), none, some (.ref D1), none]) rfl ?_
    refine ⟨_, rfl, .none, ds.map dimD, .non, DimsAt.dp ⟨zs, SqL.of e, pz2⟩, by decide +kernel, shaped_dims hg, _, rfl, ?_⟩
    rw [none_in]
    refine iteF ?_
    refine ⟨_, rfl, _, rfl, made (R := fun x H7 => tRet (tVar 5) D [some (.str t), some (.ref pl), some (.ref mo), none, some (.ref D1), some (.ref x)] H7) ⟨zs, SqL.of e, pz2⟩ (.inl (SqL.of (s2 _ _ hm))) hg.szd hg.ff fun x H7 s7 hx => ?_⟩
    exact ⟨_, rfl, k x H7 hx (s2.trans s7)⟩
theorem ok_readP {C e fI fR : Addr} {fdI fdR : FuncData} (F : FnP K "read_plan" "read_plan" s_read_plan f fd) (PC : PlanC P w K mg base C e fI fdI) (c_read_dimension : Fun P w K mg base "read_dimension" 1 ["part"] (spReadD K) fR fdR) : FnOk P w K mg base CX0 7 f fd ["text"] (spReadP K C) := by
  obtain ⟨i3, v3, b3⟩ := init_b3 PC.I
  refine F.ok sc_read_plan (fun vs H Q E h => ?_) (fun cdv A outer s H vs Q E hr h => ?_)
  · obtain ⟨ds, ms, rfl, _⟩ := h
    rfl
  · obtain ⟨ds, ms, rfl, hg, k⟩ := h
    have nd := sc_read_plan.nd
    refine ⟨_, PSs.nox (pss_cons (ps_set (i := 1) nd rfl (Or.inl rfl) (pe_split (pv 0) pe_str))
      (pss_cons (ps_set (i := 2) nd rfl (Or.inl rfl) (pe_lst pa_nil))
      (pss_cons (ps_if (pt_val (pe_m1 PySem.F.slot_str_startswith PySem.F.type_str_startswith mt_startswith (pe_ix ix_list (pv 1) (pe_un un_neg pe_int) (fun _ _ => rfl)) pe_str))
        (pss_cons (ps_set (i := 2) nd rfl (Or.inl rfl) (pe_slice sl_list (pe_split (pe_ix ix_list (pv 1) (pe_un un_neg pe_int) (fun _ _ => rfl)) pe_str) (po_some pe_int) po_none))
        (pss_one (ps_set (i := 1) nd rfl (Or.inl rfl) (pe_slice sl_list (pv 1) po_none (po_some (pe_un un_neg pe_int))))))
        pss_nil)
      (pss_cons (ps_setLc (i := 4) (own := [("part", 3)]) (g := gName 3) (tt := tYes) (te := tCall (spReadD K) [] E0 (tCons (tVar 3) tNil)) rfl nd rfl rfl (sw_true rfl rfl rfl (by decide +kernel)) (pi_list (pv 1)) (blkOk_by (own := [("part", 3)]) (N := N_read_plan) (sc := defScope s_read_plan) (by decide +kernel))
        (fun _ _ _ _ _ => pg_name (i := 3) nd rfl (Or.inl rfl)) (fun _ _ _ _ _ => pts_nil) (fun _ _ _ _ _ => pe_call c_read_dimension.G (hr.mono (by decide)) rfl c_read_dimension.g c_read_dimension.k c_read_dimension.b .nil pass0 (pa_cons (pv 3) pa_nil)))
      (pss_cons (ps_if (pt_cmpR (op_inD (u65 hr)) pe_non (pv 4) (by rfl))
        (pss_one ps_never)
        pss_nil)
      (pss_cons (ps_try_thru0 (pss_one (ps_set (i := 5) nd rfl (Or.inl rfl) (pe_make PC.M PC.GI (hr.mono (by decide)) rfl PC.gC b3 v3 pass0 (pa_cons (pv 4) (pa_cons (pv 2) pa_nil))))))
      (pss_one (ps_ret (pv 5))))))))), ?_⟩
    have tl := planT_len hg
    have dne : ds ≠ [] := fun z => by
      have := hg.d1
      rw [z] at this
      exact absurd this (by decide)
    have mlow : ∀ z ∈ ms, Low z := fun z hz => (hg.mn z hz).low
    refine ⟨_, rfl, ⟨_, rfl⟩, _, _, rfl, rfl, by decide +kernel, le_line (by omega), fun l hl => ?_⟩
    rw [split_plan dne (hg.wok) mlow]
    have s0 : Same H (upd H l (.lst ((planW ds ms).map V.str))) := same_new hl
    have e0 : upd H l (.lst ((planW ds ms).map V.str)) l = some (.lst ((planW ds ms).map V.str)) := upd_same
    generalize upd H l (.lst ((planW ds ms).map V.str)) = H0 at s0 e0 ⊢
    refine set_st (σ' := [some (.str (planT ds ms)), some (.ref l), none, none, none, none]) rfl ?_
    refine ⟨by show 0 ≤ sizeLine; decide, fun m nm => ?_⟩
    refine set_st (σ' := [some (.str (planT ds ms)), some (.ref l), some (.ref m), none, none, none]) rfl ?_
    have s1 : Same H0 (upd H0 m (.lst [])) := same_new nm
    have e1 : upd H0 m (.lst []) m = some (.lst []) := upd_same
    generalize upd H0 m (.lst []) = H1 at s1 e1 ⊢
    have s01 := s0.trans s1
    have e01 := s1 _ _ e0
    cases ms with
    | nil =>
      have ew : (planW ds []).map V.str = ds.map fun d => V.str (dimT d) := by
        unfold planW
        rw [List.map_append, List.map_map]
        show _ ++ [] = _
        rw [List.append_nil]
        rfl
      rw [ew] at e01
      obtain ⟨dl, hdl⟩ : ∃ dl, ds.getLast? = some dl := by
        cases q : ds.getLast? with
        | none => exact absurd (List.getLast?_eq_none_iff.mp q) dne
        | some dl => exact ⟨dl, rfl⟩
      refine ⟨_, rfl, _, rfl, l, _, _, _, rfl, rfl, SqL.of e01, atI_end (by rw [List.getLast?_map, hdl]; rfl), ⟨_, rfl⟩, _, _, rfl, rfl, _, rfl, ?_⟩
      rw [dim_starts]
      refine iteF ?_
      exact read2_ok (ms := []) e01 e1 hg fun x H' hx sx => k x H' hx (s01.trans sx)
    | cons z zs =>
      have ew : (planW ds (z :: zs)).map V.str = (ds.map fun d => V.str (dimT d)) ++ [V.str (Txt.join " " (sumW (z :: zs)))] := by
        unfold planW
        rw [List.map_append, List.map_map]
        rfl
      rw [ew] at e01
      have al : atI ((ds.map fun d => V.str (dimT d)) ++ [V.str (Txt.join " " (sumW (z :: zs)))]) (-1) = some (V.str (Txt.join " " (sumW (z :: zs)))) := atI_end (List.getLast?_concat)
      refine ⟨_, rfl, _, rfl, l, _, _, _, rfl, rfl, SqL.of e01, al, ⟨_, rfl⟩, _, _, rfl, rfl, _, rfl, ?_⟩
      rw [sum_starts]
      refine iteT ?_
      have sl := (sumW_fit hg.m4 fun z hz => (hg.mn z hz).le8)
      have sjl := join_len (y := (" " : Str)) sl.1
      rw [len_blank] at sjl
      have sl2 := sl.2
      refine ⟨_, rfl, _, rfl, l, _, _, _, rfl, rfl, SqL.of e01, al, ⟨_, rfl⟩, _, _, rfl, rfl, by decide +kernel, le_line (by omega), fun p hp => ?_⟩
      rw [split_sum mlow]
      have s2 : Same H1 (upd H1 p (.lst ((sumW (z :: zs)).map V.str))) := same_new hp
      have e2 : upd H1 p (.lst ((sumW (z :: zs)).map V.str)) p = some (.lst ((sumW (z :: zs)).map V.str)) := upd_same
      generalize upd H1 p (.lst ((sumW (z :: zs)).map V.str)) = H2 at s2 e2 ⊢
      refine ⟨_, rfl, p, _, rfl, SqL.of e2, fun m2 nm2 => ?_⟩
      have ec : cutV ((sumW (z :: zs)).map V.str) (some 1) none = (z :: zs).map V.str := cutR1 _ _
      rw [ec]
      have s3 : Same H2 (upd H2 m2 (.lst ((z :: zs).map V.str))) := same_new nm2
      have e3 : upd H2 m2 (.lst ((z :: zs).map V.str)) m2 = some (.lst ((z :: zs).map V.str)) := upd_same
      generalize upd H2 m2 (.lst ((z :: zs).map V.str)) = H3 at s3 e3 ⊢
      refine set_st (σ' := [some (.str (planT ds (z :: zs))), some (.ref l), some (.ref m2), none, none, none]) rfl ?_
      have s13 := s2.trans s3
      refine ⟨_, rfl, _, rfl, _, rfl, l, _, rfl, SqL.of (s13 _ _ e01), fun l2 nl2 => ?_⟩
      have ec2 : cutV ((ds.map fun d => V.str (dimT d)) ++ [V.str (Txt.join " " (sumW (z :: zs)))]) none (some (-1)) = ds.map fun d => V.str (dimT d) := by
        rw [cutLast]
        simp
      have ec3 : cutV ((ds.map fun d => V.str (dimT d)) ++ [V.str (Txt.join " " (sumW (z :: zs)))]) none (some (-(1 : Int))) = ds.map fun d => V.str (dimT d) := ec2
      rw [ec3]
      have s4 : Same H3 (upd H3 l2 (.lst (ds.map fun d => V.str (dimT d)))) := same_new nl2
      have e4 : upd H3 l2 (.lst (ds.map fun d => V.str (dimT d))) l2 = some (.lst (ds.map fun d => V.str (dimT d))) := upd_same
      generalize upd H3 l2 (.lst (ds.map fun d => V.str (dimT d))) = H4 at s4 e4 ⊢
      refine set_st (σ' := [some (.str (planT ds (z :: zs))), some (.ref l2), some (.ref m2), none, none, none]) rfl ?_
      exact read2_ok e4 (s4 _ _ e3) hg fun x H' hx sx => k x H' hx (((s01.trans s13).trans s4).trans sx)
end
end Kd

namespace Kd
open PySem PySem.Spec PyProof.Rows L2
/-! ### f(k = v, ..) -/
section
variable {X : Cx} {CX : CXT} {k : Nat} {f : Addr} {fd : FuncData} {ps ks : List Str} {sp : Sp} {E : XK} {x : Str} {p pos : Pos} {kws : List Keyword} {tk : TA} {g : List Value → List Value → List Value} {gV : List V → List V → List V}
theorem pe_callK0 (F : FnOk X.prog X.w X.K X.mg X.base CX k f fd ps sp) (hr : Room k X.A) (hg : Gl X x) (hm : X.mg x = some (.ref f)) (hk : PySem.W.keepIn X.K (.ref f) = true) (hb : KBinds X.K fd ps ks g gV) (hx : Passes CX X E) (hkw : PK X kws tk)
    (hall : (backToKw pos (keywordEach kws X.env)).all (·.1.isSome) = true := by rfl) (hks : (backToKw pos (keywordEach kws X.env)).filterMap (·.1) = ks := by rfl) (hdb : (x == ("__debug__" : Str)) = false := by decide)
    (hpl : ((backTo pos (starEach [] X.env)).any (·.1) || (backToKw pos (keywordEach kws X.env)).any (·.1.isNone)) = false := by rfl) :
    PE X (.Call (.Name x p) [] kws pos) (tCallK sp gV E tNil tk) := by
  refine ⟨fun pins s σ H Q I h => ?_⟩
  refine wpAny_Call_Name_kw (ld_glob I hg hm ?_ hdb)
  refine PySem.W.callWith_KW0 (h₀ := X.base) I.ok.mod.kin hk hall ?_ hpl
  refine thn (hkw.run pos pins s σ H _ I h) fun ws s2 ⟨zs, H2, I2, rz, q2⟩ => ⟨I2.kIn, ?_⟩
  rw [hks]
  exact run_fnk (us := []) (vs := []) F hr hb hx I2 .nil rz q2
end
section
variable {P : Program} {w : World} {K : PySem.W.Frag} {mg : Str → Option Value} {base : Heap} {f : Addr} {fd : FuncData}
def kw1 {α : Type} (us ws : List α) : List α := match us, ws with
  | [], [k] => [k]
  | _, _ => []
theorem kw1_rel {vs : List V} {us : List Value} {zs : List V} {ws : List Value} (r1 : Vals vs us) (r2 : Vals zs ws) : Vals (kw1 vs zs) (kw1 us ws) := by
  cases r1 with
  | cons _ _ => exact .nil
  | nil =>
    cases r2 with
    | nil => exact .nil
    | cons a t =>
      cases t with
      | nil => exact .cons a .nil
      | cons _ _ => exact .nil
theorem kw_show (F : FnP K "show_plan" "show_plan" s_show_plan f fd) : KBinds K fd ["plan"] ["plan"] kw1 kw1 := by
  obtain ⟨oc, od, dV, kV, doc, pm, an, cdv, ct, osl, rfl, lk, hcd, hD, hK⟩ := F.ex
  rcases hD with ⟨_, rfl⟩ | ⟨e, _⟩
  · refine ⟨fun s us ws X l1 => BindsTo.of_looks fun M => ?_, kw1_rel⟩
    match us, ws, l1 with
    | [], [k], _ => exact PySem.W.Looks.of_pure rfl
  · exact absurd rfl e
theorem kw_read (F : FnP K "read_plan" "read_plan" s_read_plan f fd) : KBinds K fd ["text"] ["text"] kw1 kw1 := by
  obtain ⟨oc, od, dV, kV, doc, pm, an, cdv, ct, osl, rfl, lk, hcd, hD, hK⟩ := F.ex
  rcases hD with ⟨_, rfl⟩ | ⟨e, _⟩
  · refine ⟨fun s us ws X l1 => BindsTo.of_looks fun M => ?_, kw1_rel⟩
    match us, ws, l1 with
    | [], [k], _ => exact PySem.W.Looks.of_pure rfl
  · exact absurd rfl e
/-! ### the law -/
structure Calls (P : Program) (w : World) (K : PySem.W.Frag) (mg : Str → Option Value) (base : Heap) (C e fI : Addr) (fdI : FuncData) (fT fL fS fA fP fR fD fM fE fN : Addr) (fdT fdL fdS fdA fdP fdR fdD fdM fdE fdN : FuncData) : Prop where
  PC : PlanC P w K mg base C e fI fdI
  c_tray : Fun P w K mg base "_law_tray" 1 ["script"] (spTray K) fT fdT
  c_lists : Fun P w K mg base "_law_lists" 4 ["tray", "most", "wide"] (spLists K) fL fdL
  c_plan_shown : Fun P w K mg base "_law_plan_shown" 1 ["some", "sums"] (spShown K) fS fdS
  c_alike : Fun P w K mg base "_law_alike" 6 ["found", "due"] (spAlike K 5) fA fdA
  c_show_plan : Fun P w K mg base "show_plan" 2 ["plan"] (spShowP K C) fP fdP
  c_read_plan : Fun P w K mg base "read_plan" 7 ["text"] (spReadP K C) fR fdR
  kwP : KBinds K fdP ["plan"] ["plan"] kw1 kw1
  kwR : KBinds K fdR ["text"] ["text"] kw1 kw1
  GD : FnOk P w K mg base CX0 1 fD fdD ["self"] (spDims K C)
  bD : Binds K fdD ["self"] []
  mD : Meth K C "dimensions" fD
  GM : FnOk P w K mg base CX0 1 fM fdM ["self"] (spMeas K C)
  bM : Binds K fdM ["self"] []
  mM : Meth K C "measures" fM
  GE : FnOk P w K mg base CX0 1 fE fdE ["self", "other"] (spEq K C true)
  hE : PySem.W.findIn K (.ref C) "__eq__" = some (some (.ref fE))
  kE : PySem.W.isFn K (.ref fE) = true
  bE : Binds K fdE ["self", "other"] []
  GN : FnOk P w K mg base CX0 2 fN fdN ["self", "other"] (spEq K C false)
  hN : PySem.W.findIn K (.ref C) "__ne__" = some (some (.ref fN))
  kN : PySem.W.isFn K (.ref fN) = true
  bN : Binds K fdN ["self", "other"] []
  z_len : mg "len" = none
  z_list : mg "list" = none
  z_range : mg "range" = none
def spLaw (K : PySem.W.Frag) : Sp := fun vs H Q _ => ∃ (l : Addr) (ns : List Int), vs = [.ref l] ∧ SqL K H l (ns.map V.int) ∧ ns.length ≤ 63 ∧ ∀ H', Q (.bl true) H'
abbrev N_law : List Str := ["script", "tray", "k", "some", "sums", "made", "due", "found"]
theorem sc_law : FnScope N_law ["script"] (defScope s_law) := ⟨rfl, rfl, rfl, by decide +kernel, rfl, by decide +kernel, by decide +kernel⟩
/-! slots: 0 script 1 tray 2 k 3 some 4 sums 5 made 6 due 7 found; cells:  -/
theorem cutV_len (xs : List V) (lo hi : Option Int) : (cutV xs lo hi).length ≤ xs.length := by
  unfold cutV
  rw [List.length_take, List.length_drop]
  omega
theorem ok_law {C e fI : Addr} {fdI : FuncData} {fT fL fS fA fP fR fD fM fE fN : Addr} {fdT fdL fdS fdA fdP fdR fdD fdM fdE fdN : FuncData} (F : FnP K "law" "law" s_law f fd) (Z : Calls P w K mg base C e fI fdI fT fL fS fA fP fR fD fM fE fN fdT fdL fdS fdA fdP fdR fdD fdM fdE fdN) : FnOk P w K mg base CX0 8 f fd ["script"] (spLaw K) := by
  obtain ⟨i3, v3, b3⟩ := init_b3 Z.PC.I
  have T := Z.PC.T
  have GD := Z.GD
  have bD := Z.bD
  have mD := Z.mD
  have GM := Z.GM
  have bM := Z.bM
  have mM := Z.mM
  have kw_show_plan := Z.kwP
  have kw_read_plan := Z.kwR
  refine F.ok sc_law (fun vs H Q E h => ?_) (fun cdv A outer s H vs Q E hr h => ?_)
  · obtain ⟨l, ns, rfl, _⟩ := h
    rfl
  · obtain ⟨l, ns, rfl, hS, hn, k⟩ := h
    have nd := sc_law.nd
    refine ⟨_, PSs.nox (pss_cons (ps_set (i := 1) nd rfl (Or.inl rfl) (pe_call Z.c_tray.G (hr.mono (by decide)) rfl Z.c_tray.g Z.c_tray.k Z.c_tray.b .nil pass0 (pa_cons (pv 0) pa_nil)))
      (pss_cons (ps_for PassesOwn.never rfl (pi_range1 rfl Z.z_range (pa_cons (pe_op op_add pe_int (pe_callB call_len_seq (by rfl) Z.z_len boot_len (pa_cons (pe_slice sl_list (pv 0) po_none (po_some pe_int)) pa_nil))) pa_nil)) (pg_name (i := 2) nd rfl (Or.inl rfl))
        (pss_cons (ps_asg (pe_call Z.c_lists.G (hr.mono (by decide)) rfl Z.c_lists.g Z.c_lists.k Z.c_lists.b .nil pass0 (pa_cons (pv 1) (pa_cons pe_int (pa_cons pe_int pa_nil)))) (pg_unl rfl (pgs_cons (pg_name (i := 3) nd rfl (Or.inl rfl)) (pgs_cons (pg_name (i := 4) nd rfl (Or.inl rfl)) pgs_nil))))
        (pss_cons (ps_set (i := 5) nd rfl (Or.inl rfl) (pe_make Z.PC.M Z.PC.GI (hr.mono (by decide)) rfl Z.PC.gC b3 v3 pass0 (pa_cons (pe_callTy call_list_of (by rfl) Z.z_list (by decide +kernel) (pa_cons (pv 3) pa_nil)) (pa_cons (pe_callTy call_list_of (by rfl) Z.z_list (by decide +kernel) (pa_cons (pv 4) pa_nil)) pa_nil))))
        (pss_cons (ps_set (i := 6) nd rfl (Or.inl rfl) (pe_call Z.c_plan_shown.G (hr.mono (by decide)) rfl Z.c_plan_shown.g Z.c_plan_shown.k Z.c_plan_shown.b .nil pass0 (pa_cons (pv 3) (pa_cons (pv 4) pa_nil))))
        (pss_cons (ps_if (PW.pt (pw_or (pt_not (pt_val (pe_call Z.c_alike.G (hr.mono (by decide)) rfl Z.c_alike.g Z.c_alike.k Z.c_alike.b .nil pass0 (pa_cons (pe_call Z.c_show_plan.G (hr.mono (by decide)) rfl Z.c_show_plan.g Z.c_show_plan.k Z.c_show_plan.b .nil pass0 (pa_cons (pv 5) pa_nil)) (pa_cons (pv 6) pa_nil))))) (pw_or1 (pt_not (pt_val (pe_call Z.c_alike.G (hr.mono (by decide)) rfl Z.c_alike.g Z.c_alike.k Z.c_alike.b .nil pass0 (pa_cons (pe_callK0 Z.c_show_plan.G (hr.mono (by decide)) rfl Z.c_show_plan.g Z.c_show_plan.k kw_show_plan pass0 (pk_cons (pv 5) pk_nil)) (pa_cons (pv 6) pa_nil))))))))
          (pss_one (ps_ret pe_bl))
          pss_nil)
        (pss_cons (ps_set (i := 7) nd rfl (Or.inl rfl) (pe_call Z.c_read_plan.G (hr.mono (by decide)) rfl Z.c_read_plan.g Z.c_read_plan.k Z.c_read_plan.b .nil pass0 (pa_cons (pv 6) pa_nil)))
        (pss_cons (ps_if (PW.pt (pw_or (pt_not (pt_val (pe_call Z.c_alike.G (hr.mono (by decide)) rfl Z.c_alike.g Z.c_alike.k Z.c_alike.b .nil pass0 (pa_cons (pe_meth0 (pv 7) T.cl mD GD (hr.mono (by decide)) bD .nil pass0) (pa_cons (pv 3) pa_nil))))) (pw_or1 (pt_not (pt_val (pe_call Z.c_alike.G (hr.mono (by decide)) rfl Z.c_alike.g Z.c_alike.k Z.c_alike.b .nil pass0 (pa_cons (pe_meth0 (pv 7) T.cl mM GM (hr.mono (by decide)) bM .nil pass0) (pa_cons (pv 4) pa_nil))))))))
          (pss_one (ps_ret pe_bl))
          pss_nil)
        (pss_one (ps_if (PW.pt (pw_or (pt_not (pt_val (pe_call Z.c_alike.G (hr.mono (by decide)) rfl Z.c_alike.g Z.c_alike.k Z.c_alike.b .nil pass0 (pa_cons (pe_cmpR (KdEx.op_eqOwn Z.GE Z.hE Z.kE Z.bE pass0 (hr.mono (by decide))) (pv 7) (pv 5) (nomark _)) (pa_cons pe_bl pa_nil))))) (pw_or1 (pt_not (pt_val (pe_call Z.c_alike.G (hr.mono (by decide)) rfl Z.c_alike.g Z.c_alike.k Z.c_alike.b .nil pass0 (pa_cons (pe_cmpR (KdEx.op_neOwn Z.GN Z.hN Z.kN Z.bN pass0 (hr.mono (by decide))) (pe_callK0 Z.c_read_plan.G (hr.mono (by decide)) rfl Z.c_read_plan.g Z.c_read_plan.k kw_read_plan pass0 (pk_cons (pv 6) pk_nil)) (pv 5) (nomark _)) (pa_cons pe_bl pa_nil))))))))
          (pss_one (ps_ret pe_bl))
          pss_nil)))))))))
      (pss_one (ps_ret pe_bl)))), ?_⟩
    refine ⟨_, rfl, l, ns, rfl, hS, hn, fun a g H1 na ng T1 s1 => ?_⟩
    refine set_st (σ' := [some (.ref l), some (.ref a), none, none, none, none, none, none]) rfl ?_
    refine ⟨_, rfl, _, rfl, l, _, rfl, s1.seq hS, fun p np => ?_⟩
    have cl := cutV_len (ns.map V.int) none (some 10)
    rw [List.length_map] at cl
    refine ⟨p, _, rfl, .inl (SqL.of upd_same), _, _, rfl, rfl, _, rfl, by omega, by omega, ?_⟩
    refine for_range (lo := 0) (fun i σ H2 => ∃ (x2 x3 x4 x5 x6 x7 : Option V), σ = [some (.ref l), some (.ref a), x2, x3, x4, x5, x6, x7] ∧ Tray H2 a g (430 * i)) ⟨_, _, _, _, _, _, rfl, T1.new np⟩ ?_ ?_
    · rintro i σ H2 hi ⟨x2, x3, x4, x5, x6, x7, rfl, T2⟩
      have hi2 : i < 64 := by omega
      refine ⟨_, rfl, a, g, 430 * i, 4, 1, rfl, T2, by omega, by decide, by decide, by decide, fun r lo mo ds ms H3 hr3 L3 T3 s3 => ?_⟩
      obtain ⟨⟨xs, q1, q2⟩, hm3, ok⟩ := L3
      refine ⟨r, _, rfl, SqL.of (ct_sub _ _ hr3), rfl, _, _, rfl, _, _, rfl, rfl, ?_⟩
      refine st_eq (σ' := [some (.ref l), some (.ref a), some (.int (0 + (i : Int))), some (.ref lo), some (.ref mo), x5, x6, x7]) rfl ?_
      have p3 : Paired (DimAt K H3) xs ds := PySem.Paired.mono (fun _ _ => DimAt.same ct_sub) q2
      have m3 : H3 mo = some (.lst (ms.map V.str)) := ct_sub _ _ hm3
      have q3 : SqL K H3 lo xs := ct_sub.seq q1
      refine ⟨_, rfl, lo, xs, rfl, .inl q3, fun hp nh => ?_⟩
      have s4 : Same H3 (upd H3 hp (.lst xs)) := same_new nh
      have e4 : upd H3 hp (.lst xs) hp = some (.lst xs) := upd_same
      generalize upd H3 hp (.lst xs) = H4 at s4 e4 ⊢
      refine ⟨_, rfl, mo, _, rfl, .inl (SqL.of (s4 _ _ m3)), fun bp nb => ?_⟩
      have s5 : Same H4 (upd H4 bp (.lst (ms.map V.str))) := same_new nb
      have e5 : upd H4 bp (.lst (ms.map V.str)) bp = some (.lst (ms.map V.str)) := upd_same
      generalize upd H4 bp (.lst (ms.map V.str)) = H5 at s5 e5 ⊢
      have s35 := s4.trans s5
      refine made (R := fun x H7 => _) ⟨xs, SqL.of (s5 _ _ e4), PySem.Paired.mono (fun _ _ => DimAt.same s35) p3⟩ (.inl (SqL.of e5)) ok.szd ok.ff fun x H7 s7 hx => ?_
      refine set_st (σ' := [some (.ref l), some (.ref a), some (.int (0 + (i : Int))), some (.ref lo), some (.ref mo), some (.ref x), x6, x7]) rfl ?_
      have s37 := s35.trans s7
      have d7 : DimsAt K H7 lo ds := ⟨xs, s37.seq q3, PySem.Paired.mono (fun _ _ => DimAt.same s37) p3⟩
      have m7 := s37 _ _ m3
      refine ⟨_, rfl, _, rfl, lo, mo, ds, ms, rfl, d7, m7, ok, fun H8 s8 => ?_⟩
      refine set_st (σ' := [some (.ref l), some (.ref a), some (.int (0 + (i : Int))), some (.ref lo), some (.ref mo), some (.ref x), some (.str (planT ds ms)), x7]) rfl ?_
      refine ⟨_, rfl, x, ds, ms, rfl, hx.same s8, ok, fun H9 s9 => ⟨_, rfl, _, _, _, rfl, .str _, .str _, trivial, fun H10 s10 => ⟨_, rfl, ?_⟩⟩⟩
      refine iteF ?_
      have s810 := s8.trans (s9.trans s10)
      refine ⟨_, rfl, x, ds, ms, rfl, hx.same s810, ok, fun H11 s11 => ⟨_, rfl, _, _, _, rfl, .str _, .str _, trivial, fun H12 s12 => ⟨_, rfl, ?_⟩⟩⟩
      refine iteF ?_
      have s712 := s810.trans (s11.trans s12)
      refine ⟨_, rfl, ds, ms, rfl, ok, fun y H13 hy s13 => ?_⟩
      refine set_st (σ' := [some (.ref l), some (.ref a), some (.int (0 + (i : Int))), some (.ref lo), some (.ref mo), some (.ref x), some (.str (planT ds ms)), some (.ref y)]) rfl ?_
      have s713 := s712.trans s13
      obtain ⟨dy, ya, yb, ys, y1, y2, y3, y4⟩ := id hy.ex
      refine ⟨_, rfl, y, dy, _, rfl, y1, pl_no0 (by decide +kernel) (by decide +kernel), y, ds, ms, rfl, hy, fun d1 xs1 n1 p1 => ?_⟩
      have s14 : Same H13 (upd H13 d1 (.lst xs1)) := same_new n1
      refine ⟨_, rfl, _, _, dimsD ds, rfl, DimsAt.dp ⟨xs1, SqL.of upd_same, PySem.Paired.mono (fun _ _ => DimAt.same s14) p1⟩, (DimsAt.same (s713.trans s14) d7).dp, dims_okd ok, fun H15 s15 => ⟨_, rfl, ?_⟩⟩
      refine iteF ?_
      have sy15 := s14.trans s15
      refine ⟨_, rfl, y, dy, _, rfl, sy15 _ _ y1, pl_no0 (by decide +kernel) (by decide +kernel), y, ds, ms, rfl, hy.same sy15, fun d2 n2 => ?_⟩
      have s16 : Same H15 (upd H15 d2 (.lst (ms.map V.str))) := same_new n2
      refine ⟨_, rfl, _, _, .list (ms.map PyData.str), rfl, strs_dp (SqL.of upd_same), strs_dp (SqL.of ((s713.trans (sy15.trans s16)) _ _ m7)), strs_okd ok.m4, fun H17 s17 => ⟨_, rfl, ?_⟩⟩
      refine iteF ?_
      have sy17 := sy15.trans (s16.trans s17)
      have x17 := hx.same (s713.trans sy17)
      have y17 := hy.same sy17
      obtain ⟨dx, xa, xb, xs2, x1, x2', x3', x4'⟩ := id x17.ex
      refine ⟨_, rfl, _, rfl, y, x, dy, dx, _, _, rfl, rfl, sy17 _ _ y1, x1, y, x, ds, ms, rfl, y17, x17, ok, _, rfl, ?_⟩
      refine ⟨_, _, .bool true, rfl, .bl true, .bl true, trivial, fun H18 s18 => ⟨_, rfl, ?_⟩⟩
      refine iteF ?_
      refine ⟨_, rfl, ds, ms, rfl, ok, fun z H19 hz s19 => ?_⟩
      have x19 := x17.same (s18.trans s19)
      obtain ⟨dz, za, zb, zs, z1, z2, z3, z4⟩ := id hz.ex
      obtain ⟨dx9, xa9, xb9, xs9, x91, _⟩ := id x19.ex
      refine ⟨_, rfl, z, x, dz, dx9, _, _, rfl, rfl, z1, x91, z, x, ds, ms, rfl, hz, x19, ok, _, rfl, ?_⟩
      refine ⟨_, _, .bool false, rfl, .bl false, .bl false, trivial, fun H20 s20 => ⟨_, rfl, ?_⟩⟩
      refine iteF ?_
      refine ⟨_, _, _, _, _, _, rfl, (T3.same (s37.trans (s713.trans (sy17.trans ((s18.trans s19).trans s20))))).mono (by omega)⟩
    · rintro σ H2 ⟨x2, x3, x4, x5, x6, x7, rfl, T2⟩
      exact k H2
end
end Kd

namespace Kd
open PySem PySem.Spec PyProof.Rows L2 LamX
def d_show_plan : He.DefD := ⟨("show_plan", none), "show_plan", "show_plan", defArgs s_show_plan, defBody s_show_plan, defScope s_show_plan, [], []⟩
def d_show_dimension : He.DefD := ⟨("show_dimension", none), "show_dimension", "show_dimension", defArgs s_show_dimension, defBody s_show_dimension, defScope s_show_dimension, [], []⟩
def d_is_name : He.DefD := ⟨("is_name", none), "is_name", "is_name", defArgs s_is_name, defBody s_is_name, defScope s_is_name, [], []⟩
def d_is_made_of : He.DefD := ⟨("is_made_of", none), "is_made_of", "is_made_of", defArgs s_is_made_of, defBody s_is_made_of, defScope s_is_made_of, [], []⟩
def d_Plan_init : He.DefD := ⟨("Plan", some "__init__"), "__init__", "Plan.__init__", defArgs s_Plan_init, defBody s_Plan_init, defScope s_Plan_init, [.adr (He.dflAt ("Plan", some "__init__") 0)], []⟩
def d_Plan_dimensions : He.DefD := ⟨("Plan", some "dimensions"), "dimensions", "Plan.dimensions", defArgs s_Plan_dimensions, defBody s_Plan_dimensions, defScope s_Plan_dimensions, [], []⟩
def d_Plan_measures : He.DefD := ⟨("Plan", some "measures"), "measures", "Plan.measures", defArgs s_Plan_measures, defBody s_Plan_measures, defScope s_Plan_measures, [], []⟩
def d_Plan_eq : He.DefD := ⟨("Plan", some "__eq__"), "__eq__", "Plan.__eq__", defArgs s_Plan_eq, defBody s_Plan_eq, defScope s_Plan_eq, [], []⟩
def d_Plan_ne : He.DefD := ⟨("Plan", some "__ne__"), "__ne__", "Plan.__ne__", defArgs s_Plan_ne, defBody s_Plan_ne, defScope s_Plan_ne, [], []⟩
def d_first_fault : He.DefD := ⟨("first_fault", none), "first_fault", "first_fault", defArgs s_first_fault, defBody s_first_fault, defScope s_first_fault, [], []⟩
def d_are_faulty : He.DefD := ⟨("are_faulty", none), "are_faulty", "are_faulty", defArgs s_are_faulty, defBody s_are_faulty, defScope s_are_faulty, [], []⟩
def d_read_plan : He.DefD := ⟨("read_plan", none), "read_plan", "read_plan", defArgs s_read_plan, defBody s_read_plan, defScope s_read_plan, [], []⟩
def d_read_dimension : He.DefD := ⟨("read_dimension", none), "read_dimension", "read_dimension", defArgs s_read_dimension, defBody s_read_dimension, defScope s_read_dimension, [], []⟩
def d_l_tray : He.DefD := ⟨("_law_tray", none), "_law_tray", "_law_tray", defArgs s_l_tray, defBody s_l_tray, defScope s_l_tray, [], []⟩
def d_l_draw : He.DefD := ⟨("_law_draw", none), "_law_draw", "_law_draw", defArgs s_l_draw, defBody s_l_draw, defScope s_l_draw, [], []⟩
def d_l_alike : He.DefD := ⟨("_law_alike", none), "_law_alike", "_law_alike", defArgs s_l_alike, defBody s_l_alike, defScope s_l_alike, [], []⟩
def d_l_name : He.DefD := ⟨("_law_name", none), "_law_name", "_law_name", defArgs s_l_name, defBody s_l_name, defScope s_l_name, [], []⟩
def d_l_names : He.DefD := ⟨("_law_names", none), "_law_names", "_law_names", defArgs s_l_names, defBody s_l_names, defScope s_l_names, [], []⟩
def d_l_lists : He.DefD := ⟨("_law_lists", none), "_law_lists", "_law_lists", defArgs s_l_lists, defBody s_l_lists, defScope s_l_lists, [], []⟩
def d_l_value_shown : He.DefD := ⟨("_law_value_shown", none), "_law_value_shown", "_law_value_shown", defArgs s_l_value_shown, defBody s_l_value_shown, defScope s_l_value_shown, [], []⟩
def d_l_plan_shown : He.DefD := ⟨("_law_plan_shown", none), "_law_plan_shown", "_law_plan_shown", defArgs s_l_plan_shown, defBody s_l_plan_shown, defScope s_l_plan_shown, [], []⟩
def d_l_row_shown : He.DefD := ⟨("_law_row_shown", none), "_law_row_shown", "_law_row_shown", defArgs s_l_row_shown, defBody s_l_row_shown, defScope s_l_row_shown, [], []⟩
def d_l_rows_shown : He.DefD := ⟨("_law_rows_shown", none), "_law_rows_shown", "_law_rows_shown", defArgs s_l_rows_shown, defBody s_l_rows_shown, defScope s_l_rows_shown, [], []⟩
def d_law : He.DefD := ⟨("law", none), "law", "law", defArgs s_law, defBody s_law, defScope s_law, [], []⟩
def fn : List He.DefD := [d_show_plan, d_show_dimension, d_is_name, d_is_made_of, d_Plan_init, d_Plan_dimensions, d_Plan_measures, d_Plan_eq, d_Plan_ne, d_first_fault, d_are_faulty, d_read_plan, d_read_dimension, d_l_tray, d_l_draw, d_l_alike, d_l_name, d_l_names, d_l_lists, d_l_value_shown, d_l_plan_shown, d_l_row_shown, d_l_rows_shown, d_law]
def fa : List He.Fa := [(.glo "DayError" : He.Fa), (.glo "NoPlan" : He.Fa), (.glo "NoText" : He.Fa), (.glo "Plan" : He.Fa), (.glo "show_plan" : He.Fa), (.glo "show_dimension" : He.Fa), (.glo "is_name" : He.Fa), (.glo "is_made_of" : He.Fa), (.glo "first_fault" : He.Fa), (.glo "are_faulty" : He.Fa), (.glo "read_plan" : He.Fa), (.glo "read_dimension" : He.Fa), (.glo "_law_tray" : He.Fa), (.glo "_law_draw" : He.Fa), (.glo "_law_alike" : He.Fa), (.glo "_law_name" : He.Fa), (.glo "_law_names" : He.Fa), (.glo "_law_lists" : He.Fa), (.glo "_law_value_shown" : He.Fa), (.glo "_law_plan_shown" : He.Fa), (.glo "_law_row_shown" : He.Fa), (.glo "_law_rows_shown" : He.Fa), (.glo "law" : He.Fa), (.str "SMALL_LETTERS" "abcdefghijklmnopqrstuvwxyz" : He.Fa), (.int "LONGEST_NAME" 8 : He.Fa), (.int "MOST_DIMENSIONS" 4 : He.Fa), (.int "MOST_ATTRIBUTES" 5 : He.Fa), (.int "MOST_MEASURES" 4 : He.Fa), (.glo "WAYS" : He.Fa), (.free "ValueError" : He.Fa), (.free "all" : He.Fa), (.free "bool" : He.Fa), (.free "int" : He.Fa), (.free "isinstance" : He.Fa), (.free "len" : He.Fa), (.free "list" : He.Fa), (.free "max" : He.Fa), (.free "range" : He.Fa), (.free "repr" : He.Fa), (.free "set" : He.Fa), (.free "str" : He.Fa), (.free "tuple" : He.Fa), (.cls "Plan" : He.Fa), (.mkr "Plan" : He.Fa), (.noat "Plan" "dimension_list" : He.Fa), (.noat "Plan" "measure_list" : He.Fa), (.meth "Plan" "dimensions" : He.Fa), (.meth "Plan" "measures" : He.Fa), (.meth "Plan" "__eq__" : He.Fa), (.meth "Plan" "__ne__" : He.Fa)]
def loose : List PySem.Str := [("show_plan" : PySem.Str), ("show_dimension" : PySem.Str), ("DayError" : PySem.Str), ("NoPlan" : PySem.Str), ("NoText" : PySem.Str), ("SMALL_LETTERS" : PySem.Str), ("LONGEST_NAME" : PySem.Str), ("is_name" : PySem.Str), ("is_made_of" : PySem.Str), ("MOST_DIMENSIONS" : PySem.Str), ("MOST_ATTRIBUTES" : PySem.Str), ("MOST_MEASURES" : PySem.Str), ("Plan" : PySem.Str), ("first_fault" : PySem.Str), ("are_faulty" : PySem.Str), ("WAYS" : PySem.Str), ("read_plan" : PySem.Str), ("read_dimension" : PySem.Str), ("_law_tray" : PySem.Str), ("_law_draw" : PySem.Str), ("_law_alike" : PySem.Str), ("_law_name" : PySem.Str), ("_law_names" : PySem.Str), ("_law_lists" : PySem.Str), ("_law_value_shown" : PySem.Str), ("_law_plan_shown" : PySem.Str), ("_law_row_shown" : PySem.Str), ("_law_rows_shown" : PySem.Str)]
/-! ### the head: the facts, and that a def's default is the empty tuple -/
def exB0 (K : PySem.W.Frag) : Bool := match K.lookup (He.dflAt ("Plan", some "__init__") 0 K) with
  | some ⟨.type c, _, .seq its _, _⟩ => decide (c = "tuple") && decide (its.toList = [])
  | _ => false
theorem exB0_ok {K : PySem.W.Frag} (h : exB0 K = true) (H : Hp) : SqT K H (He.dflAt ("Plan", some "__init__") 0 K) [] := by
  unfold exB0 at h
  cases q : K.lookup (He.dflAt ("Plan", some "__init__") 0 K) with
  | none => rw [q] at h; cases h
  | some o =>
    obtain ⟨oc, od, dt, sl⟩ := o
    rw [q] at h
    cases oc with
    | type c =>
      cases dt with
      | seq its n =>
        obtain ⟨h1, h2⟩ := He.ba (show (decide (c = "tuple") && decide (its.toList = [])) = true from h)
        have h3 : its.toList = [] := of_decide_eq_true h2
        refine .inr ⟨_, its, n, q, congrArg Value.type (of_decide_eq_true h1), rfl, ?_, by rw [h3]; exact .nil⟩
        have h4 : its.size = 0 := by rw [← Array.length_toList, h3]; rfl
        rw [h4]
        exact Nat.zero_le _
      | _ => cases h
    | _ => cases dt <;> cases h
def exX (K : PySem.W.Frag) : Bool := tupB K (He.ga K "WAYS") ["first", "last", "day", "before"] && clsB K (He.ga K "Plan")
def exB (K : PySem.W.Frag) : Bool := exB0 K && exX K
theorem exB_ok {K : PySem.W.Frag} (h : exB K = true) (H : Hp) : SqT K H (He.dflAt ("Plan", some "__init__") 0 K) [] := exB0_ok (He.ba h).1 H
def hkE : PySem.W.Hook where
  α := He.AlD × Bool
  obs := fun s => (He.obsDG 6 fa fn s.heap.get?, exB (He.frG s.heap.get? (He.asD s.heap.get? 6)))
  val := fun _ => (He.valD fn, true)
  says := fun _ h => ∃ K : PySem.W.Frag, K.In h ∧ He.SaysD fa fn K ∧ exB K = true
  of := fun _ s e => ⟨He.frG s.heap.get? (He.asD s.heap.get? 6), He.frG_in, congrArg (fun z : He.AlD × Bool => z.1) e, congrArg (fun z : He.AlD × Bool => z.2) e⟩
  keeps := fun _ _ _ ⟨K, hK, c⟩ k => ⟨K, PySem.W.Frag.In.keeps hK k, c⟩
abbrev R : PySem.W.OpenRow := PySem.W.OpenLaw.row PySem.Challenge.rw_kindsofday_k40_plans_written_and_read
def ob (s : PySem.W.SharedT) : He.AlD × Bool := (He.obsDG 6 fa fn (HandSHeadRun.getT s), exB (He.frG (HandSHeadRun.getT s) (He.asD (HandSHeadRun.getT s) 6)))
theorem ob_eq (s : PySem.W.SharedT) : ob s = hkE.obs s.abs := by
  have e : HandSHeadRun.getT s = s.abs.heap.get? := funext (HandSHeadRun.getT_eq s)
  unfold ob
  rw [e]
  rfl
theorem run (w : World) : HandSHeadRun.RunEq R (PySem.W.view R.prog [34]) hkE ob 3000 loose w := by
  intro os
  kernel_rfl
theorem code_at {K : PySem.W.Frag} {x qual : Str} {ps : Arguments} {bd : List Stmt} {sc : Scope} {dv : List V} {kw : List (Str × V)} {p : Str × Option Str} {fd : FuncData} (F : FunD K x qual ps bd sc dv kw (He.fAd K p) fd) : fd.code = .ref (He.cT K p).1 := by
  obtain ⟨oc, od, dV, kV, doc, pm, an, cdv, ct, osl, rfl, lk, hcd, _, _⟩ := F.ex
  obtain ⟨c, e⟩ := He.codeIn_ref hcd
  subst e
  have q := He.codeOf_eq (c := c) lk rfl
  show Value.ref c = Value.ref (He.codeOf K p)
  rw [q]
theorem facts {P : Program} {w : World} {K : PySem.W.Frag} {h : Heap} {mg : Str → Option Value} {f : Addr} (X : K.In h) (G : h.Ns mainGlobals mg) (hfa : mg ("law" : Str) = some (.ref f)) (c : He.SaysD fa fn K) (ce : exB K = true) :
    ∃ fd : FuncData, (∀ (s : Shared) (v : Value), BindsTo s fd ⟨[v], []⟩ [("script", v)]) ∧ ∀ base : Heap, K.In base → base.Ns mainGlobals mg → FnOk P w K mg base CX0 8 f fd ["script"] (spLaw K) := by
  obtain ⟨fd_show_plan, F_show_plan⟩ := c.def_ 0 (d := d_show_plan) rfl
  obtain ⟨fd_show_dimension, F_show_dimension⟩ := c.def_ 1 (d := d_show_dimension) rfl
  obtain ⟨fd_is_name, F_is_name⟩ := c.def_ 2 (d := d_is_name) rfl
  obtain ⟨fd_is_made_of, F_is_made_of⟩ := c.def_ 3 (d := d_is_made_of) rfl
  obtain ⟨fd_Plan_init, F_Plan_init⟩ := c.def_ 4 (d := d_Plan_init) rfl
  obtain ⟨fd_Plan_dimensions, F_Plan_dimensions⟩ := c.def_ 5 (d := d_Plan_dimensions) rfl
  obtain ⟨fd_Plan_measures, F_Plan_measures⟩ := c.def_ 6 (d := d_Plan_measures) rfl
  obtain ⟨fd_Plan_eq, F_Plan_eq⟩ := c.def_ 7 (d := d_Plan_eq) rfl
  obtain ⟨fd_Plan_ne, F_Plan_ne⟩ := c.def_ 8 (d := d_Plan_ne) rfl
  obtain ⟨fd_first_fault, F_first_fault⟩ := c.def_ 9 (d := d_first_fault) rfl
  obtain ⟨fd_are_faulty, F_are_faulty⟩ := c.def_ 10 (d := d_are_faulty) rfl
  obtain ⟨fd_read_plan, F_read_plan⟩ := c.def_ 11 (d := d_read_plan) rfl
  obtain ⟨fd_read_dimension, F_read_dimension⟩ := c.def_ 12 (d := d_read_dimension) rfl
  obtain ⟨fd_l_tray, F_l_tray⟩ := c.def_ 13 (d := d_l_tray) rfl
  obtain ⟨fd_l_draw, F_l_draw⟩ := c.def_ 14 (d := d_l_draw) rfl
  obtain ⟨fd_l_alike, F_l_alike⟩ := c.def_ 15 (d := d_l_alike) rfl
  obtain ⟨fd_l_name, F_l_name⟩ := c.def_ 16 (d := d_l_name) rfl
  obtain ⟨fd_l_names, F_l_names⟩ := c.def_ 17 (d := d_l_names) rfl
  obtain ⟨fd_l_lists, F_l_lists⟩ := c.def_ 18 (d := d_l_lists) rfl
  obtain ⟨fd_l_value_shown, F_l_value_shown⟩ := c.def_ 19 (d := d_l_value_shown) rfl
  obtain ⟨fd_l_plan_shown, F_l_plan_shown⟩ := c.def_ 20 (d := d_l_plan_shown) rfl
  obtain ⟨fd_l_row_shown, F_l_row_shown⟩ := c.def_ 21 (d := d_l_row_shown) rfl
  obtain ⟨fd_l_rows_shown, F_l_rows_shown⟩ := c.def_ 22 (d := d_l_rows_shown) rfl
  obtain ⟨fd_law, F_law⟩ := c.def_ 23 (d := d_law) rfl
  have e := hfa.symm.trans (He.glo_ok X G (c.fact 22 (f := .glo "law") rfl))
  cases e
  have b := FunD.bindsA (ps := ["script"]) F_law fun _ _ _ _ _ _ us hl => match us, hl with | [_], _ => rfl
  have b_show_plan : Binds K fd_show_plan ["plan"] [] := FunD.bindsN F_show_plan fun _ _ _ _ _ _ us hl => match us, hl with | [_], _ => rfl
  have b_show_dimension : Binds K fd_show_dimension ["name", "attributes"] [] := FunD.bindsN F_show_dimension fun _ _ _ _ _ _ us hl => match us, hl with | [_, _], _ => rfl
  have b_is_name : Binds K fd_is_name ["text"] [] := FunD.bindsN F_is_name fun _ _ _ _ _ _ us hl => match us, hl with | [_], _ => rfl
  have b_is_made_of : Binds K fd_is_made_of ["text", "signs"] [] := FunD.bindsN F_is_made_of fun _ _ _ _ _ _ us hl => match us, hl with | [_, _], _ => rfl
  have b_Plan_dimensions : Binds K fd_Plan_dimensions ["self"] [] := FunD.bindsN F_Plan_dimensions fun _ _ _ _ _ _ us hl => match us, hl with | [_], _ => rfl
  have b_Plan_measures : Binds K fd_Plan_measures ["self"] [] := FunD.bindsN F_Plan_measures fun _ _ _ _ _ _ us hl => match us, hl with | [_], _ => rfl
  have b_Plan_eq : Binds K fd_Plan_eq ["self", "other"] [] := FunD.bindsN F_Plan_eq fun _ _ _ _ _ _ us hl => match us, hl with | [_, _], _ => rfl
  have b_Plan_ne : Binds K fd_Plan_ne ["self", "other"] [] := FunD.bindsN F_Plan_ne fun _ _ _ _ _ _ us hl => match us, hl with | [_, _], _ => rfl
  have b_first_fault : Binds K fd_first_fault ["dimensions", "measures"] [] := FunD.bindsN F_first_fault fun _ _ _ _ _ _ us hl => match us, hl with | [_, _], _ => rfl
  have b_are_faulty : Binds K fd_are_faulty ["names", "most"] [] := FunD.bindsN F_are_faulty fun _ _ _ _ _ _ us hl => match us, hl with | [_, _], _ => rfl
  have b_read_plan : Binds K fd_read_plan ["text"] [] := FunD.bindsN F_read_plan fun _ _ _ _ _ _ us hl => match us, hl with | [_], _ => rfl
  have b_read_dimension : Binds K fd_read_dimension ["part"] [] := FunD.bindsN F_read_dimension fun _ _ _ _ _ _ us hl => match us, hl with | [_], _ => rfl
  have b_l_tray : Binds K fd_l_tray ["script"] [] := FunD.bindsN F_l_tray fun _ _ _ _ _ _ us hl => match us, hl with | [_], _ => rfl
  have b_l_draw : Binds K fd_l_draw ["tray", "many"] [] := FunD.bindsN F_l_draw fun _ _ _ _ _ _ us hl => match us, hl with | [_, _], _ => rfl
  have b_l_alike : Binds K fd_l_alike ["found", "due"] [] := FunD.bindsN F_l_alike fun _ _ _ _ _ _ us hl => match us, hl with | [_, _], _ => rfl
  have b_l_name : Binds K fd_l_name ["tray", "used"] [] := FunD.bindsN F_l_name fun _ _ _ _ _ _ us hl => match us, hl with | [_, _], _ => rfl
  have b_l_names : Binds K fd_l_names ["tray", "many"] [] := FunD.bindsN F_l_names fun _ _ _ _ _ _ us hl => match us, hl with | [_, _], _ => rfl
  have b_l_lists : Binds K fd_l_lists ["tray", "most", "wide"] [] := FunD.bindsN F_l_lists fun _ _ _ _ _ _ us hl => match us, hl with | [_, _, _], _ => rfl
  have b_l_value_shown : Binds K fd_l_value_shown ["value"] [] := FunD.bindsN F_l_value_shown fun _ _ _ _ _ _ us hl => match us, hl with | [_], _ => rfl
  have b_l_plan_shown : Binds K fd_l_plan_shown ["some", "sums"] [] := FunD.bindsN F_l_plan_shown fun _ _ _ _ _ _ us hl => match us, hl with | [_, _], _ => rfl
  have b_l_row_shown : Binds K fd_l_row_shown ["line"] [] := FunD.bindsN F_l_row_shown fun _ _ _ _ _ _ us hl => match us, hl with | [_], _ => rfl
  have b_l_rows_shown : Binds K fd_l_rows_shown ["lines"] [] := FunD.bindsN F_l_rows_shown fun _ _ _ _ _ _ us hl => match us, hl with | [_], _ => rfl
  have g_DayError := He.glo_ok X G (c.fact 0 (f := .glo "DayError") rfl)
  have g_NoPlan := He.glo_ok X G (c.fact 1 (f := .glo "NoPlan") rfl)
  have g_NoText := He.glo_ok X G (c.fact 2 (f := .glo "NoText") rfl)
  have g_Plan := He.glo_ok X G (c.fact 3 (f := .glo "Plan") rfl)
  have g_show_plan := He.glo_ok X G (c.fact 4 (f := .glo "show_plan") rfl)
  have g_show_dimension := He.glo_ok X G (c.fact 5 (f := .glo "show_dimension") rfl)
  have g_is_name := He.glo_ok X G (c.fact 6 (f := .glo "is_name") rfl)
  have g_is_made_of := He.glo_ok X G (c.fact 7 (f := .glo "is_made_of") rfl)
  have g_first_fault := He.glo_ok X G (c.fact 8 (f := .glo "first_fault") rfl)
  have g_are_faulty := He.glo_ok X G (c.fact 9 (f := .glo "are_faulty") rfl)
  have g_read_plan := He.glo_ok X G (c.fact 10 (f := .glo "read_plan") rfl)
  have g_read_dimension := He.glo_ok X G (c.fact 11 (f := .glo "read_dimension") rfl)
  have g_l_tray := He.glo_ok X G (c.fact 12 (f := .glo "_law_tray") rfl)
  have g_l_draw := He.glo_ok X G (c.fact 13 (f := .glo "_law_draw") rfl)
  have g_l_alike := He.glo_ok X G (c.fact 14 (f := .glo "_law_alike") rfl)
  have g_l_name := He.glo_ok X G (c.fact 15 (f := .glo "_law_name") rfl)
  have g_l_names := He.glo_ok X G (c.fact 16 (f := .glo "_law_names") rfl)
  have g_l_lists := He.glo_ok X G (c.fact 17 (f := .glo "_law_lists") rfl)
  have g_l_value_shown := He.glo_ok X G (c.fact 18 (f := .glo "_law_value_shown") rfl)
  have g_l_plan_shown := He.glo_ok X G (c.fact 19 (f := .glo "_law_plan_shown") rfl)
  have g_l_row_shown := He.glo_ok X G (c.fact 20 (f := .glo "_law_row_shown") rfl)
  have g_l_rows_shown := He.glo_ok X G (c.fact 21 (f := .glo "_law_rows_shown") rfl)
  obtain ⟨t_SMALL_LETTERS, g_SMALL_LETTERS⟩ := He.str_ok X G (c.fact 23 (f := .str "SMALL_LETTERS" "abcdefghijklmnopqrstuvwxyz") rfl)
  obtain ⟨t_LONGEST_NAME, g_LONGEST_NAME⟩ := He.int_ok X G (c.fact 24 (f := .int "LONGEST_NAME" 8) rfl)
  obtain ⟨t_MOST_DIMENSIONS, g_MOST_DIMENSIONS⟩ := He.int_ok X G (c.fact 25 (f := .int "MOST_DIMENSIONS" 4) rfl)
  obtain ⟨t_MOST_ATTRIBUTES, g_MOST_ATTRIBUTES⟩ := He.int_ok X G (c.fact 26 (f := .int "MOST_ATTRIBUTES" 5) rfl)
  obtain ⟨t_MOST_MEASURES, g_MOST_MEASURES⟩ := He.int_ok X G (c.fact 27 (f := .int "MOST_MEASURES" 4) rfl)
  have g_WAYS := He.glo_ok X G (c.fact 28 (f := .glo "WAYS") rfl)
  have z_ValueError := He.free_ok X G (c.fact 29 (f := .free "ValueError") rfl)
  have z_all := He.free_ok X G (c.fact 30 (f := .free "all") rfl)
  have z_bool := He.free_ok X G (c.fact 31 (f := .free "bool") rfl)
  have z_int := He.free_ok X G (c.fact 32 (f := .free "int") rfl)
  have z_isinstance := He.free_ok X G (c.fact 33 (f := .free "isinstance") rfl)
  have z_len := He.free_ok X G (c.fact 34 (f := .free "len") rfl)
  have z_list := He.free_ok X G (c.fact 35 (f := .free "list") rfl)
  have z_max := He.free_ok X G (c.fact 36 (f := .free "max") rfl)
  have z_range := He.free_ok X G (c.fact 37 (f := .free "range") rfl)
  have z_repr := He.free_ok X G (c.fact 38 (f := .free "repr") rfl)
  have z_set := He.free_ok X G (c.fact 39 (f := .free "set") rfl)
  have z_str := He.free_ok X G (c.fact 40 (f := .free "str") rfl)
  have z_tuple := He.free_ok X G (c.fact 41 (f := .free "tuple") rfl)
  have cls_Plan := He.cls_ok (c.fact 42 (f := .cls "Plan") rfl)
  have mk_Plan := He.mkr_ok (c.fact 43 (f := .mkr "Plan") rfl)
  have no_Plan_dimension_list := He.noat_ok (c.fact 44 (f := .noat "Plan" "dimension_list") rfl)
  have no_Plan_measure_list := He.noat_ok (c.fact 45 (f := .noat "Plan" "measure_list") rfl)
  have me_Plan_dimensions := He.meth_ok (c.fact 46 (f := .meth "Plan" "dimensions") rfl)
  have me_Plan_measures := He.meth_ok (c.fact 47 (f := .meth "Plan" "measures") rfl)
  have me_Plan_eq := He.meth_ok (c.fact 48 (f := .meth "Plan" "__eq__") rfl)
  have me_Plan_ne := He.meth_ok (c.fact 49 (f := .meth "Plan" "__ne__") rfl)
  refine ⟨fd_law, fun s v => b s [v] rfl, fun base _ _ => ?_⟩
  have T : PlTxt K (He.ga K "Plan") := ⟨cls_Plan, no_Plan_dimension_list, no_Plan_measure_list⟩
  have G_md := ok_made (P := P) (w := w) (base := base) F_is_made_of z_all
  have G_is := ok_is_name (P := P) (w := w) (base := base) F_is_name G_md F_is_made_of.kp b_is_made_of g_is_made_of z_len g_SMALL_LETTERS g_LONGEST_NAME
  have G_af := ok_are_faulty (P := P) (w := w) (base := base) F_are_faulty G_is F_is_name.kp b_is_name g_is_name z_len z_set z_all
  have G_ff := ok_first (P := P) (w := w) (base := base) F_first_fault G_af F_are_faulty.kp b_are_faulty g_are_faulty g_MOST_DIMENSIONS g_MOST_ATTRIBUTES g_MOST_MEASURES
  have G_in := ok_init (P := P) (w := w) (base := base) F_Plan_init T G_ff F_first_fault.kp b_first_fault g_first_fault z_tuple z_list
  have G_dm := ok_dims (P := P) (w := w) (mg := mg) (base := base) F_Plan_dimensions T z_list
  have G3 := ok_meas (P := P) (w := w) (mg := mg) (base := base) F_Plan_measures T z_list
  have G8 := ok_tray (P := P) (w := w) (base := base) F_l_tray z_max
  have G9 := ok_draw (P := P) (w := w) (mg := mg) (base := base) F_l_draw
  have G10 := ok_alike (P := P) (w := w) (base := base) F_l_alike F_l_alike.kp b_l_alike g_l_alike z_isinstance z_bool z_int z_str z_list z_tuple z_len z_range 5
  have G11 := ok_name (P := P) (w := w) (base := base) F_l_name G9 F_l_draw.kp b_l_draw g_l_draw z_range z_len
  have G12 := ok_names (P := P) (w := w) (base := base) F_l_names G11 F_l_name.kp b_l_name g_l_name z_range
  have G13 := ok_lists (P := P) (w := w) (base := base) F_l_lists G9 F_l_draw.kp b_l_draw g_l_draw G12 F_l_names.kp b_l_names g_l_names z_range z_len z_tuple
  have hx := He.ba ce
  obtain ⟨hW, hP⟩ := He.ba hx.2
  obtain ⟨hI, kC⟩ := clsB_ok hP cls_Plan
  have c_show_dimension : Fun P w K mg base "show_dimension" 1 _ _ _ _ := ⟨ok_showD (P := P) (w := w) (mg := mg) (base := base) F_show_dimension, F_show_dimension.kp, b_show_dimension, g_show_dimension⟩
  have c_read_dimension : Fun P w K mg base "read_dimension" 1 _ _ _ _ := ⟨ok_readD (P := P) (w := w) (mg := mg) (base := base) F_read_dimension g_WAYS (fun H => tupB_ok hW H) z_len z_tuple z_all, F_read_dimension.kp, b_read_dimension, g_read_dimension⟩
  have PC : PlanC P w K mg base (He.ga K "Plan") _ _ fd_Plan_init := ⟨T, mk_Plan, G_in, g_Plan, F_Plan_init⟩
  have GE := ok_eq (P := P) (w := w) (base := base) F_Plan_eq T g_Plan hI kC z_isinstance
  have GN := ok_ne (P := P) (w := w) (mg := mg) (base := base) F_Plan_ne GE me_Plan_eq.at_ me_Plan_eq.fn b_Plan_eq
  have c_show : Fun P w K mg base "show_plan" 2 _ _ _ _ := ⟨ok_showP (P := P) (w := w) (base := base) F_show_plan T c_show_dimension G_dm b_Plan_dimensions me_Plan_dimensions G3 b_Plan_measures me_Plan_measures, F_show_plan.kp, b_show_plan, g_show_plan⟩
  have c_read : Fun P w K mg base "read_plan" 7 _ _ _ _ := ⟨ok_readP (P := P) (w := w) (base := base) F_read_plan PC c_read_dimension, F_read_plan.kp, b_read_plan, g_read_plan⟩
  exact ok_law F_law ⟨PC, ⟨G8, F_l_tray.kp, b_l_tray, g_l_tray⟩, ⟨G13, F_l_lists.kp, b_l_lists, g_l_lists⟩, ⟨ok_shown F_l_plan_shown, F_l_plan_shown.kp, b_l_plan_shown, g_l_plan_shown⟩, ⟨G10, F_l_alike.kp, b_l_alike, g_l_alike⟩, c_show, c_read, kw_show F_show_plan, kw_read F_read_plan,
    G_dm, b_Plan_dimensions, me_Plan_dimensions, G3, b_Plan_measures, me_Plan_measures, GE, me_Plan_eq.at_, me_Plan_eq.fn, b_Plan_eq, GN, me_Plan_ne.at_, me_Plan_ne.fn, b_Plan_ne, z_len, z_list, z_range⟩
end Kd
open PySem PySem.W PySem.Calls PyProof.Rows
theorem PySem.Challenge.cw_kindsofday_k40_plans_written_and_read_holds : PySem.Challenge.rw_kindsofday_k40_plans_written_and_read.Holds := by
  w_on; o_law
  refine HandSHeadRun.head_any (r := OpenLaw.row PySem.Challenge.rw_kindsofday_k40_plans_written_and_read) (q := view (OpenLaw.row PySem.Challenge.rw_kindsofday_k40_plans_written_and_read).prog [34]) (H := Kd.hkE) (ob := Kd.ob) (M := 3000) (loose := Kd.loose) (d := HandSHeadRun.topDef (OpenLaw.row PySem.Challenge.rw_kindsofday_k40_plans_written_and_read).prog 34) (kwd := []) Kd.ob_eq
    (by kernel_rfl) (fun s => by kernel_rfl) Kd.run (by kernel_rfl) (by kernel_rfl) (by kernel_rfl) (by rfl) (by first | assumption | decide +kernel) (by decide +kernel) ⟨rfl, rfl, rfl, rfl, rfl, by decide +kernel⟩ ?hw ?hc
  case hw => w_witness2
  case hc =>
    refine L2.walk_ofE (l := PySem.Challenge.rw_kindsofday_k40_plans_written_and_read) (n := 63) (k := 8) (x := "script") (CX := L2.CX0) rfl (by decide) (by kernel_rfl) ⟨rfl, by decide, by decide⟩ ?F (fun _ _ _ _ z => z)
    intro w mg fa h Y G hmg0
    obtain ⟨K, KX, c, ce⟩ := Y
    have hmg : mg ("law" : PySem.Str) = some (.ref fa) := by
      have e : (HandSHeadRun.topDef (OpenLaw.row PySem.Challenge.rw_kindsofday_k40_plans_written_and_read).prog 34).name = ("law" : PySem.Str) := by kernel_rfl
      rw [← e]
      exact hmg0
    obtain ⟨fd, hb, hF⟩ := Kd.facts (P := (PySem.Challenge.rw_kindsofday_k40_plans_written_and_read).prog) (w := w) KX G hmg c ce
    exact ⟨K, fd, Kd.spLaw K, KX, hb, fun H a ns hl _ hS => ⟨a, ns, rfl, hS, hl, fun _ => rfl⟩, hF⟩
