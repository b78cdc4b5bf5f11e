import PyProof.Rows.All
import Wide.All
import OpenK.AllK
import Wide.FinOn
import HandS.ForMost
import HandS.Strs
import HandS.Zip
import HandS.IsInst
import HandS.Walk
import HandS.Text
import HandS.FStr
import HandS.Defaults
import HandS.MakeKw
import HandS.Wide
import HandS.WideBits
import HandS.More
import HandS.HeadHook2
import HandS.MakeKwOnly
import HandS.NoneIn
import HandS.FStrTup
import HandS.ExcInit
import HandS.RaiseMore
import HandS.OwnEq
import HandS.ForExc
import HandS.ExcField
import HandS.HeadHook1
import KE.KExcIs
import PyProof.ReprNest
import HandS.Style
import HandS.TupAny
import HandS.SetFor
import HandS.Exc
import HandS.ExcOwn
import KE.DataCmp
import HandS.CallSlots
import HandS.Head0
import KE.KStateDown
import HandS.Head1
import HandS.Head2
import HandS.HeadEnd
import HandS.HeadHook3
import HandS.HeadHook4
import HandS.HeadWalk
import PySem.Challenge.RW_kindsofday_k04_rows_of_a_plan
set_option Elab.async false
set_option linter.all false
set_option maxRecDepth 100000
set_option maxHeartbeats 0
/-! len(set(xs)) where xs is a list or a tuple of texts of any number -/
namespace KdS
open PySem PySem.Spec PyProof.Rows
/-- how many unlike ones the first i have -/
def dcn (xs : List Str) : Nat → Nat
  | 0 => 0
  | i + 1 => if (xs.take i).any (· == xs.getD i Str.empty) = true then dcn xs i else dcn xs i + 1
theorem dcn_le (xs : List Str) : ∀ i, dcn xs i ≤ i
  | 0 => Nat.le_refl _
  | i + 1 => by
    have h := dcn_le xs i
    unfold dcn
    split <;> omega
theorem take_any (xs : List Str) {i : Nat} (h : i < xs.length) (k : Str) : (xs.take (i + 1)).any (· == k) = ((xs.take i).any (· == k) || decide (k = xs.getD i Str.empty)) := by
  have e : xs.getD i Str.empty = xs[i] := by simp [h]
  rw [List.take_succ_eq_append_getElem h, List.any_append, e]
  have e2 : ([xs[i]].any fun x => x == k) = decide (k = xs[i]) := by
    by_cases q : k = xs[i]
    · simp [q]
    · have q2 : ¬ xs[i] = k := fun z => q z.symm
      simp [q, q2]
  rw [e2]
theorem dcn_nodup {xs : List Str} (hn : xs.Nodup) : ∀ i, i ≤ xs.length → dcn xs i = i
  | 0, _ => rfl
  | i + 1, h => by
    have ih := dcn_nodup hn i (by omega)
    unfold dcn
    rw [if_neg, ih]
    intro hc
    obtain ⟨y, hy, e⟩ := List.any_eq_true.mp hc
    have hi : i < xs.length := h
    have eg : xs.getD i Str.empty = xs[i] := by simp [hi]
    rw [eg] at e
    have e1 : y = xs[i] := by simpa using e
    obtain ⟨j, hj, ej⟩ := List.getElem_of_mem hy
    rw [List.length_take] at hj
    rw [List.getElem_take] at ej
    have e3 : xs[j]'(by omega) = xs[i] := ej.trans e1
    have := (List.getElem_inj hn).mp e3
    omega
/-- unlike ones are fewer where one stands twice -/
theorem dcn_dup {xs : List Str} {j i : Nat} (hji : j < i) (hi : i < xs.length) (e : xs[j]'(by omega) = xs[i]) : ∀ n, i < n → dcn xs n < n
  | 0, h => by omega
  | n + 1, h => by
    by_cases q : n = i
    · subst q
      have h1 := dcn_le xs n
      unfold dcn
      rw [if_pos]
      · omega
      · refine List.any_eq_true.mpr ⟨xs[j]'(by omega), ?_, by simp [hi, e]⟩
        exact List.mem_iff_getElem.mpr ⟨j, by rw [List.length_take]; omega, by rw [List.getElem_take]⟩
    · have h1 := dcn_dup hji hi e n (by omega)
      unfold dcn
      split <;> omega
section
variable {prog : Program} {w : World} {A : Around} {R : Result → Shared → Prop} {I : Addr} {fp wr : List Addr} {G : Array GenState → Array GenState → Prop} {n : Nat} {P : Nat → Value → Prop} {St : Nat → Shared → Prop}
/-- what the set at S holds behind i items -/
abbrev Held (prog : Program) (w : World) (S : Addr) (xs : List Str) (i : Nat) (h : Heap) : Prop := h.SetOf (PySem.strKind prog w) S (fun k => (xs.take i).any (· == k)) (dcn xs i)
theorem Held.kept {S : Addr} {xs : List Str} {i : Nat} {h h' : Heap} (q : Held prog w S xs i h) (k : ∀ o, h.get? S = some o → h'.get? S = some o) : Held prog w S xs i h' := by
  obtain ⟨o, es, ep, t, ho, rest⟩ := q
  exact ⟨o, es, ep, t, k o ho, rest⟩
theorem grow (W : WalksS prog w A.in1 I fp wr G n P St) (S : Addr) (nS : S ∉ fp) (xs : List Str) (hx : xs.length = n) (hb : n + 1 < scanBound) (hv : ∀ i v, P i v → ∃ t, v = .str (xs.getD i Str.empty) t) :
    ∀ (k i : Nat) (s : Shared), n - i = k → i ≤ n → St i s → Held prog w S xs i s.heap → (∀ s', Moved (S :: wr) G s s' → Held prog w S xs n s'.heap → R (.ok (.ret .none)) s') →
      codeAny (model prog w) A (.builtin "set.update.loop" ⟨[.ref S, .ref I], []⟩) R s := by
  have nW : S ∉ wr := fun z => nS (W.sub _ z)
  have up : ∀ b ∈ wr, b ∈ S :: wr := fun b z => List.mem_cons_of_mem _ z
  intro k
  induction k with
  | zero =>
    intro i s hk hi st hS out
    obtain rfl : i = n := by omega
    refine codeAny_builtin PyProof.Rows.F.entry_set_update_loop (by
      rw [Around.under_plainId PyProof.Rows.F.plain_set_update_loop _]
      show wpAny _ A.in1 (pyNext (.ref I) >>= _) _ _ s
      exact wpAny_bind (W.done s _ _ st fun s1 mv => wpAny_pure (out s1 (mv.mono up) (hS.kept fun o q => mv.heap S _ nW q))))
  | succ k ih =>
    intro i s hk hi st hS out
    have hlt : i < n := by omega
    refine codeAny_builtin PyProof.Rows.F.entry_set_update_loop (by
      rw [Around.under_plainId PyProof.Rows.F.plain_set_update_loop _]
      show wpAny _ A.in1 (pyNext (.ref I) >>= _) _ _ s
      refine wpAny_bind (W.item i s _ _ hlt st fun v s1 hP st1 mv => ?_)
      obtain ⟨t, rfl⟩ := hv i v hP
      have hS1 : Held prog w S xs i s1.heap := hS.kept fun o q => mv.heap S _ nW q
      show wpAny _ A.in1 (holding [Value.str (xs.getD i Str.empty) t] (setAdd S (.str (xs.getD i Str.empty) t)) >>= _) _ _ s1
      refine wpAny_bind (wpAny_holding ?_)
      unfold setAdd
      refine wpAny_holding (wpAny_bind ((PySem.strKind prog w).pyHash (k := xs.getD i Str.empty) (strKind_is _ _ _ _) ?_))
      refine wpAny_setAddHashed_of (knd := PySem.strKind prog w) (s := { s1 with toks := s1.toks + 1 }) (strKind_is _ _ _ _) rfl hS1 (by have := dcn_le xs i; omega) fun h2 sb hS2 => ?_
      have hS3 : Held prog w S xs (i + 1) h2 := SetOf_congr hS2 (fun k => (take_any xs (by omega) k).symm) rfl
      refine wpAny_pure ⟨plainId_quiet PyProof.Rows.F.plain_set_update_loop _, ih (i + 1) _ (by omega) hlt (W.frame _ s1 _ _ st1 (Nat.le_succ _) fun b z o q => ?_) hS3 fun s4 mv4 hS4 => ?_⟩
      · rw [sb.2 b (fun z2 : b = S => nS (z2 ▸ z))]
        exact q
      · refine out s4 (Moved.trans W.gtrans ((mv.mono up).then_heap (Nat.le_succ _) fun b o z q => ?_) mv4) hS4
        rw [sb.2 b (fun z2 : b = S => z (by rw [z2]; exact List.mem_cons_self))]
        exact q)
end
section
variable {prog : Program} {w : World} {A : Around} {E : Value → Shared → Prop} {s : Shared}
abbrev setObj (led : Bool) : Obj := { cls := .type "set", dict := none, data := .set #[] 0 (.fresh 0 0 led) }
set_option maxHeartbeats 3200000 in
/-- set(v), by what __init__ does with the new empty set -/
theorem set_by {v : Value} {Q : Value → Shared → Prop} {P : Shared → Prop} (hi : ∀ led : Bool, wpAny (model prog w) A.in1.in1 (Builtin.«set.__init__» ⟨[.ref s.heap.objs.size, v], []⟩) (fun r s2 => r = .done (.ret .none) ∧ P s2) E { s with heap := s.heap.push (setObj led) })
    (h : ∀ s2, P s2 → Q (.ref s.heap.objs.size) s2) : wpAny (model prog w) A (call (.type "set") [v]) Q E s := by
  obtain ⟨c, tl, hmro⟩ := PySem.F.called_set.mro
  have f1 := PySem.F.called_set.made
  have f2 := PySem.F.called_set.sub
  have f3 := PySem.F.called_set.notType
  have f4 := PySem.F.called_set.canCreate
  have f5 := PySem.F.typeCall_set_1 v
  refine wpAny_call (codeAny_of_tree (show wpAny _ _ (callAny (.type "set") _) _ _ _ from wpAny_pure ⟨Code.quiet_builtin _ (by decide +kernel), codeAny_builtin PySem.F.entry_type_call (by
    rw [Around.under_plain (weight_type_call_type "set" [v] []) rfl]
    repeat (any_goals (first | assumption | wp_step))
    refine codeAny_mono (code_set_new_1 v (E := E) (Q₁ := fun ob s1 => ∃ led : Bool, ob = .ref s.heap.objs.size ∧ s1 = { s with heap := s.heap.push (setObj led) }) fun led => ⟨led, rfl, rfl⟩) fun r s1 hr => ?_
    cases r with
    | error e => exact hr
    | ok fl =>
      cases fl with
      | ret ob =>
        obtain ⟨led, rfl, rfl⟩ := hr
        have g0 : (s.heap.push (setObj led)).get? s.heap.objs.size = some (setObj led) := Heap.get?_push_size _ rfl
        have gT : Shared.TypeIs { s with heap := s.heap.push (setObj led) } (.ref s.heap.objs.size) "set" := ⟨_, g0, rfl⟩
        have f6 := PySem.F.called_set.init.lookup
        have f7 := PySem.F.called_set.init.bind (.ref s.heap.objs.size)
        repeat (any_goals (first | assumption | wp_step))
        refine codeAny_mono (codeAny_call_builtin (R := wants (fun r s2 => r = .none ∧ P s2) E) PySem.F.called_set.init.plain PySem.F.entry_set_init (check_set_init_1 gT (wpAny_mono (hi led) (fun r s2 q => ?_) fun _ _ q => q))) fun r2 s2 q2 => ?_
        · obtain ⟨rfl, q⟩ := q
          exact ⟨rfl, q⟩
        · cases r2 with
          | error e => exact q2
          | ok fl2 =>
            cases fl2 with
            | ret r3 =>
              obtain ⟨rfl, q⟩ := q2
              repeat (any_goals (first | assumption | wp_step))
              exact h _ q
            | _ => exact q2.elim
      | _ => exact hr.elim)⟩))
/-- the list's way and the tuple's way of __init__: what is held behind it -/
def After (prog : Program) (w : World) (s : Shared) (xs : List Str) (s2 : Shared) : Prop := ∃ h2 tk, s2 = { s with heap := h2, toks := tk } ∧ Held prog w s.heap.objs.size xs xs.length h2 ∧ ∀ b o, b < s.heap.objs.size → s.heap.get? b = some o → h2.get? b = some o
theorem fresh_held {led : Bool} {it : Obj} {xs : List Str} : Held prog w s.heap.objs.size xs 0 ((s.heap.push (setObj led)).push it) :=
  SetOf_congr ((PyProof.Rows.setObjOf_fresh (knd := PySem.strKind prog w) led).setOf (Heap.get?_push_of_some _ (Heap.get?_push_size _ rfl)) (by unfold scanBound; omega)) (fun _ => rfl) rfl
theorem after_moved {G : Array GenState → Array GenState → Prop} {led : Bool} {it : Obj} {xs : List Str} {s2 : Shared} (hG : ∀ a b, G a b → b = a)
    (mv : Moved (s.heap.objs.size :: [(s.heap.push (setObj led)).objs.size]) G { s with heap := (s.heap.push (setObj led)).push it } s2) (q : Held prog w s.heap.objs.size xs xs.length s2.heap) : After prog w s xs s2 := by
  obtain ⟨h2, g2, d2, t2, o2⟩ := s2
  obtain rfl : g2 = s.gens := hG _ _ mv.gens
  obtain rfl : d2 = s.drawn := mv.drawn
  obtain rfl : o2 = s.os := mv.os
  refine ⟨h2, t2, rfl, q, fun b o hb e => mv.heap b o (fun z => ?_) (Heap.get?_push_of_some _ (Heap.get?_push_of_some _ e))⟩
  rw [Heap.size_push] at z
  rcases List.mem_cons.mp z with z | z
  · exact absurd z (Nat.ne_of_lt hb)
  · exact absurd (List.mem_singleton.mp z) (Nat.ne_of_lt (Nat.lt_succ_of_lt hb))
theorem strAt {items : Array Value} {xs : List Str} (hi : StrsAre items.toList xs) (i : Nat) (v : Value) (hv : items[i]? = some v) : ∃ t, v = .str (xs.getD i Str.empty) t := SS.strs_at hi i v (by rw [Array.getElem?_toList]; exact hv)
set_option maxHeartbeats 3200000 in
theorem init_list {l : Addr} {items : Array Value} {xs : List Str} {led : Bool} (hh : A.in1.in1.in1.handled = none) (hl : s.heap.IsList l items) (hi : StrsAre items.toList xs) (hb : xs.length + 1 < scanBound) :
    wpAny (model prog w) A.in1.in1 (Builtin.«set.__init__» ⟨[.ref s.heap.objs.size, .ref l], []⟩) (fun r s2 => r = .done (.ret .none) ∧ After prog w s xs s2) E { s with heap := s.heap.push (setObj led) } := by
  have hsz : xs.length = items.size := by rw [← StrsAre.len_eq hi, Array.length_toList]
  obtain ⟨⟨oc, od, dt, sl⟩, ho, hc, m, hd⟩ := hl
  simp only at hc hd
  subst hc hd
  have ho1 := Heap.get?_push_of_some (setObj led) ho
  have hl1 : (s.heap.push (setObj led)).IsList l items := ⟨_, ho1, rfl, m, rfl⟩
  have f1 := PySem.F.sub_list_set
  have f2 := PySem.F.sub_list_frozenset
  have f3 : (Value.type "list" == Value.type "dict") = false := by decide
  unfold Builtin.«set.__init__» noKeywords Builtin.Frozenset.updateFrom
  generalize hPI : pyIter = PI
  wp_walk
  subst hPI
  refine wpAny_pyIter_list hl1 (wpAny_bind (wpAny_runValue ?_))
  have hS : l < s.heap.objs.size := Heap.lt_size ho
  have n1 : l ≠ (s.heap.push (setObj led)).objs.size := by rw [Heap.size_push]; exact Nat.ne_of_lt (Nat.lt_succ_of_lt hS)
  have n2 : s.heap.objs.size ∉ [(s.heap.push (setObj led)).objs.size, l] := by
    rw [Heap.size_push]
    intro z
    rcases List.mem_cons.mp z with z | z
    · exact absurd z (Nat.ne_of_lt (Nat.lt_succ_self _))
    · exact absurd (List.mem_singleton.mp z) (Nat.ne_of_gt hS)
  refine grow ((Walks.list hh _ l n1 items).toS) s.heap.objs.size n2 xs hsz (by omega) (strAt hi) (items.size - 0) 0 _ (by omega) (Nat.zero_le _) ⟨⟨_, Heap.get?_push_size _ rfl, rfl, rfl⟩, hl1.push _⟩ fresh_held fun s2 mv q => ?_
  rw [← hsz] at q
  exact wpAny_pure (wpAny_pure ⟨rfl, after_moved (fun _ _ z => z) mv q⟩)
set_option maxHeartbeats 3200000 in
theorem init_tup {l : Addr} {items : Array Value} {xs : List Str} {led : Bool} (hh : A.in1.in1.in1.handled = none) (hl : s.heap.IsTuple l items) (hi : StrsAre items.toList xs) (hb : xs.length + 1 < scanBound) :
    wpAny (model prog w) A.in1.in1 (Builtin.«set.__init__» ⟨[.ref s.heap.objs.size, .ref l], []⟩) (fun r s2 => r = .done (.ret .none) ∧ After prog w s xs s2) E { s with heap := s.heap.push (setObj led) } := by
  have hsz : xs.length = items.size := by rw [← StrsAre.len_eq hi, Array.length_toList]
  obtain ⟨⟨oc, od, dt, sl⟩, ho, hc, m, hd⟩ := hl
  simp only at hc hd
  subst hc hd
  have ho1 := Heap.get?_push_of_some (setObj led) ho
  have hl1 : (s.heap.push (setObj led)).IsTuple l items := ⟨_, ho1, rfl, m, rfl⟩
  have f1 := PySem.F.sub_tuple_set
  have f2 := PySem.F.sub_tuple_frozenset
  have f3 : (Value.type "tuple" == Value.type "dict") = false := by decide
  unfold Builtin.«set.__init__» noKeywords Builtin.Frozenset.updateFrom
  generalize hPI : pyIter = PI
  wp_walk
  subst hPI
  refine wpAny_pyIter_tuple hl1 (wpAny_bind (wpAny_runValue ?_))
  have hS : l < s.heap.objs.size := Heap.lt_size ho
  have n1 : l ≠ (s.heap.push (setObj led)).objs.size := by rw [Heap.size_push]; exact Nat.ne_of_lt (Nat.lt_succ_of_lt hS)
  have n2 : s.heap.objs.size ∉ [(s.heap.push (setObj led)).objs.size, l] := by
    rw [Heap.size_push]
    intro z
    rcases List.mem_cons.mp z with z | z
    · exact absurd z (Nat.ne_of_lt (Nat.lt_succ_self _))
    · exact absurd (List.mem_singleton.mp z) (Nat.ne_of_gt hS)
  refine grow ((Walks.tuple hh _ l n1 items).toS) s.heap.objs.size n2 xs hsz (by omega) (strAt hi) (items.size - 0) 0 _ (by omega) (Nat.zero_le _) ⟨⟨_, Heap.get?_push_size _ rfl, rfl, rfl⟩, hl1.push _⟩ fresh_held fun s2 mv q => ?_
  rw [← hsz] at q
  exact wpAny_pure (wpAny_pure ⟨rfl, after_moved (fun _ _ z => z) mv q⟩)
end
end KdS
namespace Kd
open PySem PySem.Spec PyProof.Rows L2
theorem strs_vals : ∀ {xs : List Str} {us : List Value}, Vals (xs.map V.str) us → StrsAre us xs
  | [], _, .nil => .nil
  | x :: xs, _, .cons r t => by
    obtain ⟨k, rfl⟩ := r
    exact .cons x k (strs_vals t)
/-- a list or a tuple of texts -/
def Txs (K : PySem.W.Frag) (H : Hp) (l : Addr) (xs : List Str) : Prop := SqL K H l (xs.map V.str) ∨ SqT K H l (xs.map V.str)
def tLenSetS (K : PySem.W.Frag) (ta : TE) : TE := fun σ H Q => ta σ H fun x H1 => ∃ (l : Addr) (xs : List Str), x = .ref l ∧ Txs K H1 l xs ∧ xs.length ≤ 4000 ∧ Q (.int (KdS.dcn xs xs.length : Nat)) H1
theorem pe_lenSetS {X : Cx} {a : Expr} {ta : TE} {p p2 q pos : Pos} (hg : Gl X "len") (hm : X.mg "len" = none) (hg2 : Gl X "set") (hm2 : X.mg "set" = none) (ha : PE X a ta) (hc : X.calm = true := by rfl)
    (na : starEach [a] X.env = (false, eval a X.env) :: starEach [] X.env := by rfl) : PE X (.Call (.Name "len" p) [.Call (.Name "set" p2) [a] [] q] [] pos) (tLenSetS X.K ta) := by
  refine ⟨fun pins s σ H Q I h => Call_ (ld_blt I hg hm boot_len (PyProof.Rows.callWith_builtin1 (PyProof.Rows.args_cons ?_ rfl) rfl rfl))⟩
  refine Call_ (ld_blt I hg2 hm2 boot_set (PyProof.Rows.callWith_type1 (PyProof.Rows.args_cons (thn (ha.run pins s σ H _ I h) fun v s1 ⟨x, H1, I1, r1, q1⟩ => PyProof.Rows.args_nil ?_) na) na rfl))
  obtain ⟨l, xs, rfl, hq, hl, q1⟩ := q1
  cases r1
  have hh := I1.ok.hd hc
  have hb : xs.length + 1 < scanBound := by unfold scanBound; omega
  refine KdS.set_by (P := KdS.After X.prog X.w s1 xs) (fun led => ?_) fun s2 af => ?_
  · rcases hq with hq | hq
    · obtain ⟨its, r, pl, hz⟩ := I1.list hq
      exact KdS.init_list (by simp [hh]) pl.isList (by simpa using strs_vals r) hb
    · obtain ⟨its, r, pl, hz⟩ := I1.tuple hq
      exact KdS.init_tup (by simp [hh]) pl (by simpa using strs_vals r) hb
  · obtain ⟨h2, tk, rfl, hS, hk⟩ := af
    obtain ⟨o, es, ep, t, ho, hex, hd, _, _, _, hf, hn⟩ := hS
    have I2 : Inv X pins σ H1 { s1 with heap := h2, toks := tk } := I1.kept fun b o e => hk b o (Heap.lt_size e) e
    have hle := KdS.dcn_le xs xs.length
    exact PyProof.Rows.args_nil (call_len_set ho hex hd hf (by rw [hn] <;> omega) ⟨.int (KdS.dcn xs xs.length : Nat), H1, I2.tok _, ⟨_, by rw [hn]⟩, q1⟩)
end Kd

namespace Kd
open PySem PySem.Spec PyProof.Rows L2
/-! ### heaps -/
section
variable {K : PySem.W.Frag} {H H' : Hp} {a g b p l : Addr} {o : HO}
theorem same_new (h : H p = Option.none) : Same H (upd H p o) := fun b u e => by rw [upd_ne (ne_of_none e h)]; exact e
theorem Same.to_new {H1 : Hp} (s : Same H H1) (h : H1 p = Option.none) : Same H (upd H1 p o) := s.trans (same_new h)
theorem Same.seqT {xs : List V} (e : Same H H') (h : SqT K H a xs) : SqT K H' a xs := by
  rcases h with (h | ⟨o, h⟩) | h
  · exact .inl (.inl (e _ _ h))
  · exact .inl (.inr ⟨o, e _ _ h⟩)
  · exact .inr h
theorem Same.txs {xs : List Str} (e : Same H H') (h : Txs K H l xs) : Txs K H' l xs := h.elim (fun q => .inl (e.seq q)) fun q => .inr (Same.seqT e q)
/-- the two objects of a tray cut out -/
def ct (a g : Addr) (H : Hp) : Hp := fun b => if b = a ∨ b = g then Option.none else H b
theorem ct_sub : Same (ct a g H) H := fun b o e => by
  unfold ct at e
  split at e
  · cases e
  · exact e
theorem ct_ne (e : ct a g H b = some o) : b ≠ a ∧ b ≠ g := by
  unfold ct at e
  split at e
  · cases e
  · rename_i h
    exact ⟨fun z => h (.inl z), fun z => h (.inr z)⟩
theorem ct_of (e : H b = some o) (ha : b ≠ a) (hg : b ≠ g) : ct a g H b = some o := by
  unfold ct
  rw [if_neg (fun z => z.elim ha hg)]
  exact e
theorem ct_upd (ha : p ≠ a) (hg : p ≠ g) : ct a g (upd H p o) = upd (ct a g H) p o := by
  funext b
  unfold ct upd
  by_cases e : b = p
  · subst e
    rw [if_neg (fun z => z.elim ha hg), if_pos rfl, if_pos rfl]
  · rw [if_neg e, if_neg e]
theorem ct_upda : ct a g (upd H a o) = ct a g H := by
  funext b
  unfold ct upd
  by_cases e : b = a
  · rw [if_pos (.inl e), if_pos (.inl e)]
  · rw [if_neg e]
theorem ct_updg : ct a g (upd H g o) = ct a g H := by
  funext b
  unfold ct upd
  by_cases e : b = g
  · rw [if_pos (.inr e), if_pos (.inr e)]
  · rw [if_neg e]
theorem ct_same (s : Same H H') : Same (ct a g H) (ct a g H') := fun b o e => ct_of (s b o (ct_sub b o e)) (ct_ne e).1 (ct_ne e).2
theorem ct_none (h : H p = Option.none) : ct a g H p = Option.none := by
  unfold ct
  split
  · rfl
  · exact h
end
/-! ### data -/
section
variable {K : PySem.W.Frag} {H H' : Hp}
mutual
theorem Dp.same (e : Same H H') : ∀ (d : PyData) (v : V), Dp K H v d → Dp K H' v d
  | .none, _, h => by cases h; exact .non
  | .bool b, _, h => by cases h; exact .bl b
  | .int i, _, h => by cases h; exact .int i
  | .str x, _, h => by cases h; exact .str x
  | .list ds, _, h => by
    cases h with
    | lst q r => exact .lst (e.seq q) (DpAll.same e ds _ r)
  | .tuple ds, _, h => by
    cases h with
    | tup q r => exact .tup (Same.seqT e q) (DpAll.same e ds _ r)
  | .dict _, _, h => by cases h
theorem DpAll.same (e : Same H H') : ∀ (ds : List PyData) (vs : List V), DpAll K H vs ds → DpAll K H' vs ds
  | [], _, h => by cases h; exact .nil
  | d :: ds, _, h => by
    cases h with
    | cons q r => exact .cons (Dp.same e d _ q) (DpAll.same e ds _ r)
end
theorem DpAll.len : ∀ {vs : List V} {ds : List PyData}, DpAll K H vs ds → vs.length = ds.length
  | _, _, .nil => rfl
  | _, _, .cons _ r => congrArg Nat.succ (DpAll.len r)
theorem DpAll.at_ : ∀ {vs : List V} {ds : List PyData} {i : Nat} {v : V}, DpAll K H vs ds → vs[i]? = some v → ∃ d, ds[i]? = some d ∧ Dp K H v d
  | _, _, i, v, .nil, e => by simp at e
  | _, _, 0, v, .cons q _, e => ⟨_, rfl, by have e2 : _ = v := Option.some.inj e; rw [← e2]; exact q⟩
  | _, _, i + 1, v, .cons _ r, e => DpAll.at_ (i := i) r e
theorem DpAll.strs : ∀ (xs : List Str), DpAll K H (xs.map V.str) (xs.map PyData.str)
  | [] => .nil
  | x :: xs => .cons (.str x) (DpAll.strs xs)
theorem tyL {a : Addr} {xs : List V} (h : SqL K H a xs) : TyX K H (.ref a) (.type "list") := by
  rcases h with (h | ⟨o, h⟩) | ⟨o, its, n, h1, h2, _⟩
  · exact .base (.lst h)
  · exact .base (.frz h)
  · exact .kList h1 h2
theorem tyT {a : Addr} {xs : List V} (h : SqT K H a xs) : TyX K H (.ref a) (.type "tuple") := by
  rcases h with (h | ⟨o, h⟩) | ⟨o, its, n, h1, h2, _⟩
  · exact .base (.tup h)
  · exact .fTuple h
  · exact .kTuple h1 h2
end
/-! ### texts of small letters -/
def Low (z : Str) : Prop := ∀ c ∈ z.cps.toList, 97 ≤ c ∧ c ≤ 122
structure IsNm (z : Str) : Prop where
  low : Low z
  pos : 1 ≤ z.length
  le8 : z.length ≤ 8
theorem Low.append {x y : Str} (h1 : Low x) (h2 : Low y) : Low (x ++ y) := fun c hc => by
  have e : (x ++ y).cps.toList = x.cps.toList ++ y.cps.toList := TL.tl_append x y
  rw [e] at hc
  exact (List.mem_append.mp hc).elim (h1 c) (h2 c)
theorem len_append (x y : Str) : (x ++ y).length = x.length + y.length := by
  show (x.cps ++ y.cps).size = x.cps.size + y.cps.size
  exact Array.size_append
theorem Low.cut {z : Str} (h : Low z) (lo hi : Option Int) : Low (cutS z lo hi) := fun c hc => by
  unfold cutS at hc
  exact h c (List.mem_of_mem_drop (List.mem_of_mem_take hc))
theorem Low.one {c : Nat} (h : 97 ≤ c ∧ c ≤ 122) : Low ⟨#[c]⟩ := fun d hd => by
  have e : d = c := by simpa using hd
  rw [e]
  exact h
theorem Low.empty : Low Str.empty := fun c hc => by
  have : c ∈ ([] : List Nat) := hc
  cases this
/-- the written letters -/
abbrev abc : Str := "abcdefghijklmnopqrstuvwxyz"
theorem abc_list : abc.cps.toList = List.range' 97 26 := by decide +kernel
theorem abc_len : abc.length = 26 := by decide +kernel
theorem mem_abc {c : Nat} : c ∈ abc.cps.toList ↔ 97 ≤ c ∧ c ≤ 122 := by
  rw [abc_list, List.mem_range'_1]
  omega
theorem abc_at {i : Nat} (h : i < 26) : abc.cps.toList[i]? = some (97 + i) := by
  rw [abc_list, List.getElem?_range' h]
  congr 1
  omega
theorem Low.abc : Low abc := fun c hc => mem_abc.mp hc
theorem IsNm.one {c : Nat} (h : 97 ≤ c ∧ c ≤ 122) : IsNm ⟨#[c]⟩ := ⟨.one h, by show 1 ≤ 1; decide, by show 1 ≤ 8; decide⟩
theorem join_list_eq (y : Str) (h : y.cps.toList = []) (parts : List Str) : (Txt.join y parts).cps.toList = (parts.map fun z => z.cps.toList).flatten := by
  rw [TL.join_eq]
  have e := TL.tl_join y parts
  have e2 : ∀ l : List (List Nat), TL.joinL [] l = l.flatten := fun l => by
    induction l with
    | nil => rfl
    | cons p r ih =>
      cases r with
      | nil => simp [TL.joinL]
      | cons q r2 =>
        show p ++ ([] ++ TL.joinL [] (q :: r2)) = _
        rw [ih]
        simp
  have e3 : TL.tl y = [] := h
  rw [e3, e2] at e
  exact e
/-! ### a comprehension, by what it has made and the heap without it -/
/-- the heap without the object at D -/
def cd (D : Addr) (H : Hp) : Hp := ct D D H
theorem cd_sub {D : Addr} {H : Hp} : Same (cd D H) H := ct_sub
theorem cd_upd {D : Addr} {H : Hp} {o : HO} : cd D (upd H D o) = cd D H := ct_upda
theorem cd_free {D : Addr} {H : Hp} (h : H D = Option.none) : cd D H = H := by
  funext b
  unfold cd ct
  by_cases e : b = D
  · subst e
    rw [if_pos (.inl rfl), h]
  · rw [if_neg (fun z => z.elim e e)]
theorem cd_at {D : Addr} {H : Hp} : cd D H D = Option.none := by
  unfold cd ct
  rw [if_pos (.inl rfl)]
theorem cd_of {D b : Addr} {H : Hp} {o : HO} (e : H b = some o) (n : b ≠ D) : cd D H b = some o := ct_of e n n
theorem cd_same {D : Addr} {H H' : Hp} (s : Same H H') : Same (cd D H) (cd D H') := ct_same s
/-- what was there ahead of D is in the rest -/
theorem Same.cd {H0 H : Hp} {D : Addr} (s : Same H0 H) (h : H0 D = Option.none) : Same H0 (cd D H) := fun b o e => cd_of (s b o e) (ne_of_none e h)
theorem Same.upd {H0 H : Hp} {D : Addr} {o : HO} (s : Same H0 H) (h : H0 D = Option.none) : Same H0 (upd H D o) := fun b u e => by rw [upd_ne (ne_of_none e h)]; exact s b u e
/-- between two turns: the list at D is ys, no longer than the turns, and Pv of the heap without it -/
def LcNx (D : Addr) (Pv : Nat → List V → Hp → Prop) (i : Nat) (H : Hp) : Prop := ∃ ys, H D = some (.lst ys) ∧ ys.length ≤ i ∧ Pv i ys (cd D H)
theorem LcNx.add {D : Addr} {Pv : Nat → List V → Hp → Prop} {i : Nat} {ys : List V} {y : V} {H : Hp} (e : H D = some (.lst ys)) (l : ys.length ≤ i) (hi : i < 4000) (p : Pv (i + 1) (ys ++ [y]) (cd D H)) :
    ∃ acc, H D = some (.lst acc) ∧ acc.length < sizeLine ∧ LcNx D Pv (i + 1) (upd H D (.lst (acc ++ [y]))) :=
  ⟨ys, e, Nat.lt_of_le_of_lt (by omega : ys.length ≤ 4000) (by decide), ys ++ [y], upd_same, by rw [List.length_append]; show ys.length + 1 ≤ i + 1; omega, by rw [cd_upd]; exact p⟩
theorem LcNx.skip {D : Addr} {Pv : Nat → List V → Hp → Prop} {i : Nat} {ys : List V} {H : Hp} (e : H D = some (.lst ys)) (l : ys.length ≤ i) (p : Pv (i + 1) ys (cd D H)) : LcNx D Pv (i + 1) H := ⟨ys, e, by omega, p⟩
theorem lc_build {J : It} {n : Nat} {G : Hp → Prop} {Y : Nat → Hp → V → Hp → Prop} (w : Walk J n G Y) {g : TG} {tt : TT} {te : TE} {vs : List Nat} {σ : L2.St} {H1 : Hp} {D : Addr} {Qd : Hp → Prop} (hD : H1 D = Option.none)
    (Pv : Nat → List V → Hp → Prop) (h0 : Pv 0 [] H1) (hG : ∀ i ys H, i ≤ n → Pv i ys (cd D H) → G H)
    (hs : ∀ i ys x H H', i < n → H D = some (.lst ys) → ys.length ≤ i → Pv i ys (cd D H) → Y i H x H' → g x (wipe σ vs) H' fun σ2 H2 => wipe σ2 vs = wipe σ vs ∧ tt σ2 H2 fun b H3 =>
      if b = true then te σ2 H3 fun y H4 => ∃ acc, H4 D = some (.lst acc) ∧ acc.length < sizeLine ∧ LcNx D Pv (i + 1) (L2.upd H4 D (.lst (acc ++ [y]))) else LcNx D Pv (i + 1) H3) (hd : ∀ ys H, H D = some (.lst ys) → ys.length ≤ n → Pv n ys (cd D H) → Qd H) :
    ∃ W : Nat → Nat → Hp → Prop, (∃ m, W 0 m (L2.upd H1 D (.lst []))) ∧ ∀ i m H, W i m H →
      (J.stop i H ∧ Qd H) ∨ (J.go i H ∧ ∃ Nx : Hp → Prop, (∀ H', Nx H' → ∃ m', m' < m ∧ W (i + 1) m' H') ∧ ∀ x H', J.yld i H x H' → g x (wipe σ vs) H' fun σ2 H2 => wipe σ2 vs = wipe σ vs ∧ tt σ2 H2 fun b H3 =>
        if b = true then te σ2 H3 fun y H4 => ∃ acc, H4 D = some (.lst acc) ∧ acc.length < sizeLine ∧ Nx (L2.upd H4 D (.lst (acc ++ [y]))) else Nx H3) :=
  lc_it w (LcNx D Pv) ⟨[], upd_same, Nat.le_refl _, by rw [cd_upd, cd_free hD]; exact h0⟩ (fun i H hi ⟨ys, _, _, p⟩ => hG i ys H hi p) (fun i x H H' hi ⟨ys, e, l, p⟩ hY => hs i ys x H H' hi e l p hY) (fun H ⟨ys, e, l, p⟩ => hd ys H e l p)
theorem yes {σ : L2.St} {H : Hp} {A B : Hp → Prop} (h : A H) : tYes σ H fun b H3 => if b = true then A H3 else B H3 := by
  show if true = true then A H else B H
  rw [if_pos rfl]
  exact h
theorem le_line {n : Nat} (h : n ≤ 4000) : n ≤ sizeLine := Nat.le_trans h (by decide)
theorem cd_is0 {D : Addr} {H H0 : Hp} (e : cd D H = H0) : Same H0 H := by rw [← e]; exact cd_sub
theorem seqT_list0 {K : PySem.W.Frag} {H : Hp} {l r : Addr} {L xs : List V} (hl : H l = some (.lst L)) (h : SqT K H r xs) : SqT K (cd l H) r xs := by
  rcases h with (q | ⟨o, q⟩) | q
  · exact .inl (.inl (cd_of q (ne_of q hl (fun z => nomatch z))))
  · exact .inl (.inr ⟨o, cd_of q (ne_of q hl (fun z => nomatch z))⟩)
  · exact .inr q
end Kd

namespace Kd
open PySem PySem.Spec PyProof.Rows L2
/-- f'..', its reading under a name -/
def tFs (ts : List TE) : TE := fun σ H Q => tJs ts Str.empty σ H fun out H1 => Q (.str out) H1
def rSplit : V → List V → Hp → VK → Prop := fun x xs H Q => ∃ a b, x = .str a ∧ xs = [.str b] ∧ (b.length == 0) = false ∧ a.length + 2 ≤ sizeLine ∧ rNewStrs (Txt.split a b) H Q
/-! ### the writing of a plan, as a mirror -/
abbrev Dm := Str × List (Str × Str)
def attT (a : Str × Str) : Str := a.1 ++ (":" : Str) ++ a.2
def dimW (d : Dm) : List Str := [("dim" : Str), d.1] ++ d.2.map attT
def dimT (d : Dm) : Str := Txt.join " " (dimW d)
def sumW (ms : List Str) : List Str := [("sum" : Str)] ++ ms
def sumT (ms : List Str) : List Str := if ms.isEmpty = true then [] else [Txt.join " " (sumW ms)]
def planW (ds : List Dm) (ms : List Str) : List Str := ds.map dimT ++ sumT ms
def planT (ds : List Dm) (ms : List Str) : Str := Txt.join "; " (planW ds ms)
/-- a way of the four -/
def IsWay (z : Str) : Prop := z ∈ (["first", "last", "day", "before"] : List Str)
theorem IsWay.nm {z : Str} (h : IsWay z) : Low z ∧ z.length ≤ 8 := by
  have h1 : ∀ z ∈ (["first", "last", "day", "before"] : List Str), (z.cps.toList.all fun c => decide (97 ≤ c ∧ c ≤ 122)) = true ∧ z.length ≤ 8 := by decide +kernel
  obtain ⟨a, b⟩ := h1 z h
  exact ⟨fun c hc => of_decide_eq_true (List.all_eq_true.mp a c hc), b⟩
theorem tl_joinL (y : Str) (ps : List Str) : TL.tl (Txt.join y ps) = TL.joinL (TL.tl y) (ps.map TL.tl) := by rw [TL.join_eq, TL.tl_join]
theorem mem_joinL {S : List Nat} {c : Nat} : ∀ {ps : List (List Nat)}, c ∈ TL.joinL S ps → c ∈ S ∨ ∃ p ∈ ps, c ∈ p
  | [], h => by cases h
  | [p], h => .inr ⟨p, List.mem_singleton.mpr rfl, h⟩
  | p :: q :: r, h => by
    have h : c ∈ p ++ (S ++ TL.joinL S (q :: r)) := h
    rcases List.mem_append.mp h with h | h
    · exact .inr ⟨p, List.mem_cons_self .., h⟩
    · rcases List.mem_append.mp h with h | h
      · exact .inl h
      · rcases mem_joinL h with h | ⟨z, hz, h⟩
        · exact .inl h
        · exact .inr ⟨z, List.mem_cons_of_mem _ hz, h⟩
theorem free_join {y : Str} {c : Nat} {ps : List Str} (hy : c ∉ TL.tl y) (h : ∀ p ∈ ps, c ∉ TL.tl p) : c ∉ TL.tl (Txt.join y ps) := fun hc => by
  rw [tl_joinL] at hc
  rcases mem_joinL hc with hc | ⟨p, hp, hc⟩
  · exact hy hc
  · obtain ⟨z, hz, rfl⟩ := List.mem_map.mp hp
    exact h z hz hc
theorem Low.free {z : Str} (h : Low z) {c : Nat} (hc : c < 97) : c ∉ TL.tl z := fun e => by
  have := (h c e).1
  omega
/-- dimensions whose names are names and whose ways are ways -/
def WOk (d : Dm) : Prop := Low d.1 ∧ ∀ a ∈ d.2, Low a.1 ∧ IsWay a.2
theorem tl_colon : TL.tl (":" : Str) = [58] := by decide +kernel
theorem tl_blank : TL.tl (" " : Str) = [32] := by decide +kernel
theorem tl_semi : TL.tl ("; " : Str) = [59, 32] := by decide +kernel
theorem attT_free {a : Str × Str} (h1 : Low a.1) (h2 : Low a.2) {c : Nat} (hc : c < 97) (n : c ≠ 58) : c ∉ TL.tl (attT a) := fun e => by
  unfold attT at e
  rw [TL.tl_append, TL.tl_append, tl_colon] at e
  rcases List.mem_append.mp e with e | e
  · rcases List.mem_append.mp e with e | e
    · exact h1.free hc e
    · exact n (List.mem_singleton.mp e)
  · exact h2.free hc e
theorem dimW_free {d : Dm} (h : WOk d) {c : Nat} (hc : c < 97) (n : c ≠ 58) : ∀ p ∈ dimW d, c ∉ TL.tl p := fun p hp => by
  have hd : Low ("dim" : Str) := fun c hc => by
    have : ∀ c ∈ ("dim" : Str).cps.toList, 97 ≤ c ∧ c ≤ 122 := by decide +kernel
    exact this c hc
  unfold dimW at hp
  rcases List.mem_append.mp hp with hp | hp
  · rcases List.mem_cons.mp hp with rfl | hp
    · exact hd.free hc
    · rw [List.mem_singleton.mp hp]
      exact h.1.free hc
  · obtain ⟨a, ha, rfl⟩ := List.mem_map.mp hp
    exact attT_free (h.2 a ha).1 (h.2 a ha).2.nm.1 hc n
theorem split_dim {d : Dm} (h : WOk d) : Txt.split (dimT d) " " = dimW d := TL.split_join tl_blank (by decide +kernel) (by unfold dimW; simp) (dimW_free h (by decide) (by decide))
theorem split_att {a : Str × Str} (h1 : Low a.1) (h2 : Low a.2) : Txt.split (attT a) ":" = [a.1, a.2] := by
  have e : attT a = Txt.join ":" [a.1, a.2] := by rw [TL.join_eq]; rfl
  rw [e]
  refine TL.split_join tl_colon (by decide +kernel) (by simp) fun p hp => ?_
  rcases List.mem_cons.mp hp with rfl | hp
  · exact h1.free (by decide)
  · rw [List.mem_singleton.mp hp]
    exact h2.free (by decide)
theorem low_sum : Low ("sum" : Str) := fun c hc => by
  have : ∀ c ∈ ("sum" : Str).cps.toList, 97 ≤ c ∧ c ≤ 122 := by decide +kernel
  exact this c hc
theorem split_sum {ms : List Str} (h : ∀ z ∈ ms, Low z) : Txt.split (Txt.join " " (sumW ms)) " " = sumW ms := by
  refine TL.split_join tl_blank (by decide +kernel) (by unfold sumW; simp) fun p hp => ?_
  unfold sumW at hp
  rcases List.mem_append.mp hp with hp | hp
  · rw [List.mem_singleton.mp hp]
    exact low_sum.free (by decide)
  · exact (h p hp).free (by decide)
theorem dimT_free {d : Dm} (h : WOk d) : 59 ∉ TL.tl (dimT d) := free_join (by rw [tl_blank]; decide) (dimW_free h (by decide) (by decide))
theorem sum_free {ms : List Str} (h : ∀ z ∈ ms, Low z) : 59 ∉ TL.tl (Txt.join " " (sumW ms)) := free_join (by rw [tl_blank]; decide) fun p hp => by
  unfold sumW at hp
  rcases List.mem_append.mp hp with hp | hp
  · rw [List.mem_singleton.mp hp]
    exact low_sum.free (by decide)
  · exact (h p hp).free (by decide)
theorem split_plan {ds : List Dm} {ms : List Str} (hn : ds ≠ []) (h : ∀ d ∈ ds, WOk d) (hm : ∀ z ∈ ms, Low z) : Txt.split (planT ds ms) "; " = planW ds ms := by
  refine TL.split_join tl_semi (by decide +kernel) (by unfold planW; simp [hn]) fun p hp => ?_
  unfold planW at hp
  rcases List.mem_append.mp hp with hp | hp
  · obtain ⟨d, hd, rfl⟩ := List.mem_map.mp hp
    exact dimT_free (h d hd)
  · unfold sumT at hp
    split at hp
    · cases hp
    · rw [List.mem_singleton.mp hp]
      exact sum_free hm
/-! ### lengths -/
theorem joinL_len {S : List Nat} : ∀ ps : List (List Nat), (TL.joinL S ps).length ≤ (ps.map (·.length)).sum + ps.length * S.length
  | [] => Nat.zero_le _
  | [p] => by show p.length ≤ p.length + 0 + 1 * S.length; omega
  | p :: q :: r => by
    have := joinL_len (S := S) (q :: r)
    show (p ++ (S ++ TL.joinL S (q :: r))).length ≤ p.length + ((q :: r).map (·.length)).sum + ((q :: r).length + 1) * S.length
    rw [List.length_append, List.length_append, Nat.add_mul]
    omega
theorem sum_le {b : Nat} : ∀ {xs : List Str}, (∀ x ∈ xs, x.length ≤ b) → (xs.map (·.length)).sum ≤ xs.length * b
  | [], _ => Nat.zero_le _
  | x :: xs, h => by
    have h1 := h x (List.mem_cons_self ..)
    have h2 := sum_le fun z hz => h z (List.mem_cons_of_mem _ hz)
    show x.length + (xs.map (·.length)).sum ≤ (xs.length + 1) * b
    rw [Nat.add_mul]
    omega
theorem join_len {y : Str} {xs : List Str} {b : Nat} (h : ∀ x ∈ xs, x.length ≤ b) : (Txt.join y xs).length ≤ xs.length * (b + y.length) := by
  rw [TL.len_tl, tl_joinL]
  refine Nat.le_trans (joinL_len _) ?_
  have e : ((xs.map TL.tl).map (·.length)).sum = (xs.map (·.length)).sum := by
    rw [List.map_map]
    refine congrArg List.sum (List.map_congr_left fun z _ => (TL.len_tl z).symm)
  have := sum_le h
  rw [e, List.length_map, ← TL.len_tl, Nat.mul_add]
  omega
theorem attT_len {a : Str × Str} (h1 : a.1.length ≤ 8) (h2 : a.2.length ≤ 8) : (attT a).length ≤ 17 := by
  unfold attT
  rw [len_append, len_append]
  have : (":" : Str).length = 1 := by decide +kernel
  omega
end Kd

namespace Kd
open PySem PySem.Spec PyProof.Rows L2
def top (i : Nat) : Stmt := PySem.Challenge.pw_kindsofday_k04_rows_of_a_plan.main.body.getD i (.Pass ⟨0, 0, 0, 0⟩)
abbrev s_DayError_init : Stmt := inClass (top 1) 0
abbrev s_NoPlan_init : Stmt := inClass (top 2) 0
abbrev s_NoRow_init : Stmt := inClass (top 3) 0
abbrev s_NoFact_init : Stmt := inClass (top 4) 0
abbrev s_NoThing_init : Stmt := inClass (top 5) 0
abbrev s_Twice_init : Stmt := inClass (top 6) 0
abbrev s_NoGroup_init : Stmt := inClass (top 7) 0
abbrev s_NoMeasure_init : Stmt := inClass (top 8) 0
abbrev s_NoWatch_init : Stmt := inClass (top 9) 0
abbrev s_NoTime_init : Stmt := inClass (top 10) 0
abbrev s_NoText_init : Stmt := inClass (top 11) 0
abbrev s_NoDeskRow_init : Stmt := inClass (top 12) 0
abbrev s_is_name : Stmt := top 16
abbrev s_is_made_of : Stmt := top 17
abbrev s_Plan_init : Stmt := inClass (top 22) 0
abbrev s_Plan_dimensions : Stmt := inClass (top 22) 1
abbrev s_Plan_measures : Stmt := inClass (top 22) 2
abbrev s_Plan_eq : Stmt := inClass (top 22) 3
abbrev s_Plan_ne : Stmt := inClass (top 22) 4
abbrev s_first_fault : Stmt := top 23
abbrev s_are_faulty : Stmt := top 24
abbrev s_attributes_of : Stmt := top 25
abbrev s_look : Stmt := top 26
abbrev s_has_form : Stmt := top 27
abbrev s_kind_fits : Stmt := top 28
abbrev s_fact_fits : Stmt := top 29
abbrev s_l_tray : Stmt := top 31
abbrev s_l_draw : Stmt := top 32
abbrev s_l_great : Stmt := top 33
abbrev s_l_name : Stmt := top 34
abbrev s_l_names : Stmt := top 35
abbrev s_l_lists : Stmt := top 36
abbrev s_l_text : Stmt := top 37
abbrev s_l_whole : Stmt := top 38
abbrev s_l_value : Stmt := top 39
abbrev s_l_row : Stmt := top 40
abbrev s_l_many_otherwise : Stmt := top 41
abbrev s_l_row_spoilt : Stmt := top 42
abbrev s_l_good : Stmt := top 43
abbrev s_l_refused : Stmt := top 44
abbrev s_l_errors_right : Stmt := top 45
abbrev s_law : Stmt := top 46
abbrev FnP (K : PySem.W.Frag) (x qual : Str) (st : Stmt) (f : Addr) (fd : FuncData) : Prop := FunD K x qual (defArgs st) (defBody st) (defScope st) [] [] f fd
section
variable {P : Program} {w : World} {K : PySem.W.Frag} {mg : Str → Option Value} {base : Heap} {f : Addr} {fd : FuncData}
/-! ### is_name -/
def nmB (z : Str) : Bool := decide (1 ≤ z.length) && (decide (z.length ≤ 8) && z.cps.toList.all fun c => decide (97 ≤ c ∧ c ≤ 122))
def spIsName : Sp := fun vs H Q _ => ∃ z : Str, vs = [.str z] ∧ z.length ≤ 4000 ∧ ∀ H', Same H H' → Q (.bl (nmB z)) H'
/-! ### is_made_of -/
def madeB (z s : Str) : Bool := z.cps.toList.all fun c => decide (c ∈ s.cps.toList)
theorem made_abc (z : Str) : madeB z abc = z.cps.toList.all fun c => decide (97 ≤ c ∧ c ≤ 122) := by
  unfold madeB
  congr 1
  funext c
  simp only [mem_abc]
def spMade : Sp := fun vs H Q _ => ∃ z s : Str, vs = [.str z, .str s] ∧ z.length ≤ 4000 ∧ ∀ H', Same H H' → Q (.bl (madeB z s)) H'
theorem sc_made : FnScope ["text", "signs", "sign"] ["text", "signs"] (defScope s_is_made_of) := ⟨rfl, rfl, rfl, by decide +kernel, rfl, by decide +kernel, by decide +kernel⟩
theorem ok_made (F : FnP K "is_made_of" "is_made_of" s_is_made_of f fd) (ga : mg "all" = none) : FnOk P w K mg base CX0 1 f fd ["text", "signs"] spMade := by
  refine F.ok sc_made (fun vs H Q E h => ?_) (fun cdv A outer s H vs Q E hr h => ?_)
  · obtain ⟨z, s, rfl, _⟩ := h
    rfl
  · obtain ⟨z, s2, rfl, hz, k⟩ := h
    refine ⟨_, PSs.nox (pss_one (ps_ret (pe_callB (cr_all rfl) (by rfl) ga (by decide +kernel) (pa_cons (pe_lc (own := [("sign", 2)]) (g := gName 2) (tt := tYes) rfl sc_made.nd (pi_str (pv 0)) (blkOk_by (own := [("sign", 2)]) (N := ["text", "signs", "sign"]) (sc := defScope s_is_made_of) (by decide +kernel))
        (fun _ _ _ _ _ => pg_name (i := 2) sc_made.nd rfl (Or.inl rfl)) (fun _ _ _ _ _ => pts_nil) (fun _ _ _ _ _ => pe_cmpR op_in_sign (pv 2) (pv 1) (by rfl))) pa_nil)))), ?_⟩
    have ez : z.length = z.cps.toList.length := by rw [Array.length_toList]; rfl
    refine ⟨_, rfl, z, rfl, fun D hD => lc_build walk_str hD (fun i ys R => Same H R ∧ ys = (z.cps.toList.take i).map fun c => V.bl (decide (c ∈ s2.cps.toList))) ⟨Same.refl H, rfl⟩ (fun _ _ _ _ _ => trivial) ?_ ?_⟩
    · rintro i ys x H2 H2' hi e l ⟨sm, rfl⟩ ⟨rfl, c, hc, rfl⟩
      refine ⟨rfl, yes ?_⟩
      refine ⟨_, rfl, _, rfl, c, s2, rfl, rfl, LcNx.add e l (by have : z.length = z.cps.size := rfl; omega) ⟨sm, ?_⟩⟩
      have hc2 : z.cps.toList[i]? = some c := by rw [Array.getElem?_toList]; exact hc
      obtain ⟨h1, h2⟩ := List.getElem?_eq_some_iff.mp hc2
      rw [List.take_succ_eq_append_getElem h1, List.map_append, h2]
      rfl
    · rintro ys H2 e l ⟨sm, rfl⟩
      refine ⟨D, (z.cps.toList.take z.cps.size).map fun c => decide (c ∈ s2.cps.toList), rfl, SqL.of (by rw [List.map_map]; exact e), ?_⟩
      have e1 : madeB z s2 = (((z.cps.toList.take z.cps.size).map fun c => decide (c ∈ s2.cps.toList)).all id) := by
        have et : z.cps.toList.take z.cps.size = z.cps.toList := List.take_of_length_le (by rw [Array.length_toList]; exact Nat.le_refl _)
        unfold madeB
        rw [et, List.all_map]
        rfl
      rw [← e1]
      exact k H2 (sm.trans cd_sub)
theorem sc_is_name : FnScope ["text"] ["text"] (defScope s_is_name) := ⟨rfl, rfl, rfl, by decide +kernel, rfl, by decide +kernel, by decide +kernel⟩
theorem ok_is_name {fM : Addr} {fdM : FuncData} (F : FnP K "is_name" "is_name" s_is_name f fd) (GM : FnOk P w K mg base CX0 1 fM fdM ["text", "signs"] spMade) (kM : PySem.W.keepIn K (.ref fM) = true) (bM : Binds K fdM ["text", "signs"] []) (gM : mg "is_made_of" = some (.ref fM)) (gl : mg "len" = none) {t1 t2 : Nat} (gS : mg "SMALL_LETTERS" = some (.str abc t1)) (gL : mg "LONGEST_NAME" = some (.int 8 t2)) : FnOk P w K mg base CX0 2 f fd ["text"] spIsName := by
  refine F.ok sc_is_name (fun vs H Q E h => ?_) (fun cdv A outer s H vs Q E hr h => ?_)
  · obtain ⟨z, rfl, _⟩ := h
    rfl
  · obtain ⟨z, rfl, hz, k⟩ := h
    refine ⟨_, PSs.nox (pss_one (ps_ret (pe_and (pe_chain op_le op_le pe_int (pe_callB call_len_str (by rfl) gl boot_len (pa_cons (pv 0) pa_nil)) (pe_glob (v := .int 8) rfl gL ⟨_, rfl⟩))
      (pe_one (pe_call GM hr rfl gM kM bM .nil pass0 (pa_cons (pv 0) (pa_cons (pe_glob (v := .str abc) rfl gS ⟨_, rfl⟩) pa_nil))))))), ?_⟩
    refine ⟨_, rfl, z, rfl, le_line hz, _, _, rfl, rfl, _, rfl, ?_⟩
    refine ite2 (fun c1 => ?_) (fun c1 => ?_)
    · have c1 : (1 : Int) ≤ (z.length : Int) := of_decide_eq_true c1
      refine ⟨_, _, rfl, rfl, _, rfl, ?_⟩
      refine ite2 (fun c2 => ?_) (fun c2 => ?_)
      · have c2 : (z.length : Int) ≤ 8 := of_decide_eq_true c2
        refine ⟨_, rfl, z, abc, rfl, hz, fun H2 s2 => ?_⟩
        have e1 : nmB z = madeB z abc := by
          unfold nmB
          rw [made_abc, decide_eq_true (by omega : 1 ≤ z.length), decide_eq_true (by omega : z.length ≤ 8)]
          simp only [Bool.true_and]
        rw [← e1]
        exact k H2 s2
      · have c2 : ¬ (z.length : Int) ≤ 8 := fun q => c2 (decide_eq_true q)
        have e1 : nmB z = false := by
          unfold nmB
          rw [decide_eq_false (by omega : ¬ z.length ≤ 8), Bool.false_and, Bool.and_false]
        rw [e1] at k
        exact k H (Same.refl H)
    · have c1 : ¬ (1 : Int) ≤ (z.length : Int) := fun q => c1 (decide_eq_true q)
      have e1 : nmB z = false := by
        unfold nmB
        rw [decide_eq_false (by omega : ¬ 1 ≤ z.length), Bool.false_and]
      rw [e1] at k
      exact ⟨_, rfl, iteF (k H (Same.refl H))⟩
/-! ### are_faulty -/
def fltB (xs : List Str) (m : Int) : Bool := decide (m < (xs.length : Int)) || (decide (((KdS.dcn xs xs.length : Nat) : Int) < (xs.length : Int)) || !(xs.all nmB))
def spFaulty (K : PySem.W.Frag) : Sp := fun vs H Q _ => ∃ (l : Addr) (xs : List Str) (m : Int), vs = [.ref l, .int m] ∧ Txs K H l xs ∧ xs.length ≤ 4000 ∧ (∀ z ∈ xs, z.length ≤ 4000) ∧ ∀ H', Same H H' → Q (.bl (fltB xs m)) H'
theorem sc_are_faulty : FnScope ["names", "most", "name"] ["names", "most"] (defScope s_are_faulty) := ⟨rfl, rfl, rfl, by decide +kernel, rfl, by decide +kernel, by decide +kernel⟩
theorem flt_end {xs : List Str} {m : Int} (h1 : ¬ m < (xs.length : Int)) (h2 : ¬ ((KdS.dcn xs xs.length : Nat) : Int) < (xs.length : Int)) : fltB xs m = !((xs.take xs.length).map nmB).all id := by
  unfold fltB
  rw [decide_eq_false h1, decide_eq_false h2, List.take_length, List.all_map, Bool.false_or, Bool.false_or]
  rfl
theorem strs_at {xs : List Str} {i : Nat} {x : V} (h : (xs.map V.str)[i]? = some x) : ∃ z, x = .str z ∧ xs[i]? = some z := by
  rw [List.getElem?_map] at h
  cases e : xs[i]? with
  | none => rw [e] at h; cases h
  | some z => rw [e] at h; exact ⟨z, (Option.some.inj h).symm, rfl⟩
theorem take_nm {xs : List Str} {i : Nat} {z : Str} (h : xs[i]? = some z) : ((xs.take i).map fun z => V.bl (nmB z)) ++ [V.bl (nmB z)] = (xs.take (i + 1)).map fun z => V.bl (nmB z) := by
  obtain ⟨h1, h2⟩ := List.getElem?_eq_some_iff.mp h
  rw [List.take_succ_eq_append_getElem h1, List.map_append, h2]
  rfl
theorem ok_are_faulty {fI : Addr} {fdI : FuncData} (F : FnP K "are_faulty" "are_faulty" s_are_faulty f fd) (GI : FnOk P w K mg base CX0 2 fI fdI ["text"] spIsName) (kI : PySem.W.keepIn K (.ref fI) = true) (bI : Binds K fdI ["text"] []) (gI : mg "is_name" = some (.ref fI))
    (gl : mg "len" = none) (gs : mg "set" = none) (ga : mg "all" = none) : FnOk P w K mg base CX0 3 f fd ["names", "most"] (spFaulty K) := by
  refine F.ok sc_are_faulty (fun vs H Q E h => ?_) (fun cdv A outer s H vs Q E hr h => ?_)
  · obtain ⟨l, xs, m, rfl, _⟩ := h
    rfl
  · obtain ⟨l, xs, m, rfl, hx, hn, hz, k⟩ := h
    rcases hx with hx | hx
    · refine ⟨_, PSs.nox (pss_cons (ps_if (PW.pt (pw_or (pt_cmpR op_gt (pe_callB call_len_seq (by rfl) gl boot_len (pa_cons (pv 0) pa_nil)) (pv 1) (nomark _)) (pw_or1 (pt_cmpR op_lt (pe_lenSetS rfl gl rfl gs (pv 0)) (pe_callB call_len_seq (by rfl) gl boot_len (pa_cons (pv 0) pa_nil)) (nomark _))))) (pss_one (ps_ret pe_bl)) pss_nil)
        (pss_one (ps_ret (pe_not (pe_callB (cr_all rfl) (by rfl) ga (by decide +kernel) (pa_cons (pe_lc (own := [("name", 2)]) (g := gName 2) (tt := tYes) rfl sc_are_faulty.nd (pi_list (pv 0)) (blkOk_by (own := [("name", 2)]) (N := ["names", "most", "name"]) (sc := defScope s_are_faulty) (by decide +kernel))
          (fun _ _ _ _ _ => pg_name (i := 2) sc_are_faulty.nd rfl (Or.inl rfl)) (fun _ _ _ _ _ => pts_nil) (fun _ _ _ _ _ => pe_call GI hr rfl gI kI bI .nil pass0 (pa_cons (pv 2) pa_nil))) pa_nil)))))), ?_⟩
      refine ⟨_, rfl, l, _, rfl, .inl hx, _, rfl, _, _, rfl, rfl, _, rfl, ?_⟩
      refine ite2 (fun c1 => ?_) (fun c1 => ?_)
      · have c1 : m < ((xs.map V.str).length : Int) := of_decide_eq_true c1
        rw [List.length_map] at c1
        have e1 : fltB xs m = true := by unfold fltB; rw [decide_eq_true c1, Bool.true_or]
        rw [e1] at k
        exact iteT (k H (Same.refl H))
      · have c1 : ¬ m < ((xs.map V.str).length : Int) := fun q => c1 (decide_eq_true q)
        rw [List.length_map] at c1
        refine ⟨_, rfl, l, xs, rfl, .inl hx, hn, _, rfl, l, _, rfl, .inl hx, _, _, rfl, rfl, _, rfl, ?_⟩
        refine ite2 (fun c2 => ?_) (fun c2 => ?_)
        · have c2 : ((KdS.dcn xs xs.length : Nat) : Int) < ((xs.map V.str).length : Int) := of_decide_eq_true c2
          rw [List.length_map] at c2
          have e1 : fltB xs m = true := by unfold fltB; rw [decide_eq_true c2, Bool.true_or, Bool.or_true]
          rw [e1] at k
          exact k H (Same.refl H)
        · have c2 : ¬ ((KdS.dcn xs xs.length : Nat) : Int) < ((xs.map V.str).length : Int) := fun q => c2 (decide_eq_true q)
          rw [List.length_map] at c2
          refine ⟨_, rfl, l, rfl, ⟨_, hx⟩, fun D hD => lc_build (walk_list (K := K) (a := l)) hD (fun i ys R => Same H R ∧ ys = (xs.take i).map fun z => V.bl (nmB z)) ⟨Same.refl H, rfl⟩ (fun _ _ _ _ p => Same.seq (p.1.trans cd_sub) hx) ?_ ?_⟩
          · rintro i ys x H2 H2' hi e ly ⟨sm, rfl⟩ ⟨rfl, hy⟩
            obtain ⟨z, rfl, hy2⟩ := strs_at hy
            refine ⟨rfl, yes ?_⟩
            refine ⟨_, rfl, z, rfl, hz z (List.mem_of_getElem? hy2), fun H3 s3 => LcNx.add (s3 _ _ e) ly (by rw [List.length_map] at hi; omega) ⟨sm.trans (cd_same s3), ?_⟩⟩
            exact take_nm hy2
          · rintro ys H2 e ly ⟨sm, rfl⟩
            rw [List.length_map] at e
            refine ⟨D, (xs.take xs.length).map nmB, rfl, SqL.of (by rw [List.map_map]; exact e), _, rfl, ?_⟩
            have e2 := flt_end c1 c2
            rw [e2] at k
            exact k H2 (sm.trans cd_sub)
    · refine ⟨_, PSs.nox (pss_cons (ps_if (PW.pt (pw_or (pt_cmpR op_gt (pe_callB call_len_seq (by rfl) gl boot_len (pa_cons (pv 0) pa_nil)) (pv 1) (nomark _)) (pw_or1 (pt_cmpR op_lt (pe_lenSetS rfl gl rfl gs (pv 0)) (pe_callB call_len_seq (by rfl) gl boot_len (pa_cons (pv 0) pa_nil)) (nomark _))))) (pss_one (ps_ret pe_bl)) pss_nil)
        (pss_one (ps_ret (pe_not (pe_callB (cr_all rfl) (by rfl) ga (by decide +kernel) (pa_cons (pe_lc (own := [("name", 2)]) (g := gName 2) (tt := tYes) rfl sc_are_faulty.nd (pi_tup (pv 0)) (blkOk_by (own := [("name", 2)]) (N := ["names", "most", "name"]) (sc := defScope s_are_faulty) (by decide +kernel))
          (fun _ _ _ _ _ => pg_name (i := 2) sc_are_faulty.nd rfl (Or.inl rfl)) (fun _ _ _ _ _ => pts_nil) (fun _ _ _ _ _ => pe_call GI hr rfl gI kI bI .nil pass0 (pa_cons (pv 2) pa_nil))) pa_nil)))))), ?_⟩
      refine ⟨_, rfl, l, _, rfl, .inr hx, _, rfl, _, _, rfl, rfl, _, rfl, ?_⟩
      refine ite2 (fun c1 => ?_) (fun c1 => ?_)
      · have c1 : m < ((xs.map V.str).length : Int) := of_decide_eq_true c1
        rw [List.length_map] at c1
        have e1 : fltB xs m = true := by unfold fltB; rw [decide_eq_true c1, Bool.true_or]
        rw [e1] at k
        exact iteT (k H (Same.refl H))
      · have c1 : ¬ m < ((xs.map V.str).length : Int) := fun q => c1 (decide_eq_true q)
        rw [List.length_map] at c1
        refine ⟨_, rfl, l, xs, rfl, .inr hx, hn, _, rfl, l, _, rfl, .inr hx, _, _, rfl, rfl, _, rfl, ?_⟩
        refine ite2 (fun c2 => ?_) (fun c2 => ?_)
        · have c2 : ((KdS.dcn xs xs.length : Nat) : Int) < ((xs.map V.str).length : Int) := of_decide_eq_true c2
          rw [List.length_map] at c2
          have e1 : fltB xs m = true := by unfold fltB; rw [decide_eq_true c2, Bool.true_or, Bool.or_true]
          rw [e1] at k
          exact k H (Same.refl H)
        · have c2 : ¬ ((KdS.dcn xs xs.length : Nat) : Int) < ((xs.map V.str).length : Int) := fun q => c2 (decide_eq_true q)
          rw [List.length_map] at c2
          refine ⟨_, rfl, l, rfl, ⟨_, hx⟩, fun D hD => lc_build (walk_tup (K := K) (a := l)) hD (fun i ys R => Same H R ∧ ys = (xs.take i).map fun z => V.bl (nmB z)) ⟨Same.refl H, rfl⟩ (fun _ _ _ _ p => Same.seqT (p.1.trans cd_sub) hx) ?_ ?_⟩
          · rintro i ys x H2 H2' hi e ly ⟨sm, rfl⟩ ⟨rfl, hy⟩
            obtain ⟨z, rfl, hy2⟩ := strs_at hy
            refine ⟨rfl, yes ?_⟩
            refine ⟨_, rfl, z, rfl, hz z (List.mem_of_getElem? hy2), fun H3 s3 => LcNx.add (s3 _ _ e) ly (by rw [List.length_map] at hi; omega) ⟨sm.trans (cd_same s3), ?_⟩⟩
            exact take_nm hy2
          · rintro ys H2 e ly ⟨sm, rfl⟩
            rw [List.length_map] at e
            refine ⟨D, (xs.take xs.length).map nmB, rfl, SqL.of (by rw [List.map_map]; exact e), _, rfl, ?_⟩
            have e2 := flt_end c1 c2
            rw [e2] at k
            exact k H2 (sm.trans cd_sub)
/-! ### a plan's lists in the heap -/
def AttAt (K : PySem.W.Frag) (H : Hp) (y : V) (a : Str × Str) : Prop := ∃ r, y = .ref r ∧ SqT K H r [.str a.1, .str a.2]
def AttsAt (K : PySem.W.Frag) (H : Hp) (q : Addr) (as : List (Str × Str)) : Prop := ∃ ys, SqT K H q ys ∧ Paired (AttAt K H) ys as
def DimAt (K : PySem.W.Frag) (H : Hp) (x : V) (d : Str × List (Str × Str)) : Prop := ∃ p q, x = .ref p ∧ SqT K H p [.str d.1, .ref q] ∧ AttsAt K H q d.2
def DimsAt (K : PySem.W.Frag) (H : Hp) (l : Addr) (ds : List (Str × List (Str × Str))) : Prop := ∃ xs, SqL K H l xs ∧ Paired (DimAt K H) xs ds
theorem AttAt.same {H H' : Hp} {y : V} {a : Str × Str} (e : Same H H') : AttAt K H y a → AttAt K H' y a := fun ⟨r, h1, h2⟩ => ⟨r, h1, Same.seqT e h2⟩
theorem AttsAt.same {H H' : Hp} {q : Addr} {as : List (Str × Str)} (e : Same H H') : AttsAt K H q as → AttsAt K H' q as := fun ⟨ys, h1, h2⟩ => ⟨ys, Same.seqT e h1, PySem.Paired.mono (fun _ _ => AttAt.same e) h2⟩
theorem DimAt.same {H H' : Hp} {x : V} {d : Str × List (Str × Str)} (e : Same H H') : DimAt K H x d → DimAt K H' x d := fun ⟨p, q, h1, h2, h3⟩ => ⟨p, q, h1, Same.seqT e h2, h3.same e⟩
theorem DimsAt.same {H H' : Hp} {l : Addr} {ds : List (Str × List (Str × Str))} (e : Same H H') : DimsAt K H l ds → DimsAt K H' l ds := fun ⟨xs, h1, h2⟩ => ⟨xs, e.seq h1, PySem.Paired.mono (fun _ _ => DimAt.same e) h2⟩
theorem paired_at {α β : Type} {R : α → β → Prop} : ∀ {l : List α} {m : List β} {i : Nat} {a : α}, Paired R l m → l[i]? = some a → ∃ b, m[i]? = some b ∧ R a b
  | _, _, i, a, .nil, e => by simp at e
  | _, _, 0, a, .cons h _, e => ⟨_, rfl, by have e2 : _ = a := Option.some.inj e; rw [← e2]; exact h⟩
  | _, _, i + 1, a, .cons _ r, e => paired_at (i := i) r e
theorem take_snoc {α β : Type} {g : α → β} {l : List α} {i : Nat} {a : α} (h : l[i]? = some a) : (l.take i).map g ++ [g a] = (l.take (i + 1)).map g := by
  obtain ⟨h1, h2⟩ := List.getElem?_eq_some_iff.mp h
  rw [List.take_succ_eq_append_getElem h1, List.map_append, h2]
  rfl
structure Szd (ds : List (Str × List (Str × Str))) (ms : List Str) : Prop where
  dl : ds.length ≤ 4000
  dn : ∀ d ∈ ds, d.1.length ≤ 4000 ∧ d.2.length ≤ 4000 ∧ ∀ a ∈ d.2, a.1.length ≤ 4000
  ml : ms.length ≤ 4000
  mn : ∀ m ∈ ms, m.length ≤ 4000
/-! ### first_fault -/
def ffV (ds : List (Str × List (Str × Str))) (ms : List Str) : V := if (ds.isEmpty || fltB (ds.map (·.1)) 4) = true then .str "dimensions" else if ds.any (fun d => fltB (d.2.map (·.1)) 5) = true then .str "attributes" else if fltB ms 4 = true then .str "measures" else .non
def spFirst (K : PySem.W.Frag) : Sp := fun vs H Q _ => ∃ (l m : Addr) (ds : List (Str × List (Str × Str))) (ms : List Str), vs = [.ref l, .ref m] ∧ DimsAt K H l ds ∧ Txs K H m ms ∧ Szd ds ms ∧ ∀ H', Same H H' → Q (ffV ds ms) H'
theorem sc_first : FnScope ["dimensions", "measures", "name", "attributes", "names", "attribute", "way"] ["dimensions", "measures"] (defScope s_first_fault) := ⟨rfl, rfl, rfl, by decide +kernel, rfl, by decide +kernel, by decide +kernel⟩
theorem ok_first {fF : Addr} {fdF : FuncData} (F : FnP K "first_fault" "first_fault" s_first_fault f fd) (GF : FnOk P w K mg base CX0 3 fF fdF ["names", "most"] (spFaulty K)) (kF : PySem.W.keepIn K (.ref fF) = true) (bF : Binds K fdF ["names", "most"] []) (gF : mg "are_faulty" = some (.ref fF))
    {t1 t2 t3 : Nat} (g1 : mg "MOST_DIMENSIONS" = some (.int 4 t1)) (g2 : mg "MOST_ATTRIBUTES" = some (.int 5 t2)) (g3 : mg "MOST_MEASURES" = some (.int 4 t3)) : FnOk P w K mg base CX0 4 f fd ["dimensions", "measures"] (spFirst K) := by
  refine F.ok sc_first (fun vs H Q E h => ?_) (fun cdv A outer s H vs Q E hr h => ?_)
  · obtain ⟨l, m, ds, ms, rfl, _⟩ := h
    rfl
  · obtain ⟨l, m, ds, ms, rfl, ⟨xs, hl, hp⟩, hm, sz, k⟩ := h
    have nd := sc_first.nd
    refine ⟨_, PSs.nox (pss_cons (ps_setLc (i := 4) (own := [("name", 2), ("attributes", 3)]) (g := gTup K 2 (gCons (gName 2) (gCons (gName 3) gNil))) (tt := tYes) rfl nd rfl rfl (sw_true rfl rfl rfl (by decide +kernel)) (pi_list (pv 0)) (blkOk_by (own := [("name", 2), ("attributes", 3)]) (N := ["dimensions", "measures", "name", "attributes", "names", "attribute", "way"]) (sc := defScope s_first_fault) (by decide +kernel))
        (fun _ _ _ _ _ => pg_tup rfl (pgs_cons (pg_name (i := 2) nd rfl (Or.inl rfl)) (pgs_cons (pg_name (i := 3) nd rfl (Or.inl rfl)) pgs_nil))) (fun _ _ _ _ _ => pts_nil) (fun _ _ _ _ _ => pv 2))
      (pss_cons (ps_if (PW.pt (pw_or (pt_not (pt_truth (pv 4) (by intro _; rfl))) (pw_or1 (pt_val (pe_call GF hr rfl gF kF bF .nil pass0 (pa_cons (pv 4) (pa_cons (pe_glob (v := .int 4) rfl g1 ⟨_, rfl⟩) pa_nil))))))) (pss_one (ps_ret pe_str)) pss_nil)
      (pss_cons (ps_for PassesOwn.never rfl (pi_list (pv 0)) (pg_tup rfl (pgs_cons (pg_name (i := 2) nd rfl (Or.inl rfl)) (pgs_cons (pg_name (i := 3) nd rfl (Or.inl rfl)) pgs_nil)))
        (pss_one (ps_if (pt_val (pe_call GF hr rfl gF kF bF .nil pass0 (pa_cons (pe_lc (own := [("attribute", 5), ("way", 6)]) (g := gTup K 2 (gCons (gName 5) (gCons (gName 6) gNil))) (tt := tYes) rfl nd (pi_tup (pv 3)) (blkOk_by (own := [("attribute", 5), ("way", 6)]) (N := ["dimensions", "measures", "name", "attributes", "names", "attribute", "way"]) (sc := defScope s_first_fault) (by decide +kernel))
          (fun _ _ _ _ _ => pg_tup rfl (pgs_cons (pg_name (i := 5) nd rfl (Or.inl rfl)) (pgs_cons (pg_name (i := 6) nd rfl (Or.inl rfl)) pgs_nil))) (fun _ _ _ _ _ => pts_nil) (fun _ _ _ _ _ => pv 5)) (pa_cons (pe_glob (v := .int 5) rfl g2 ⟨_, rfl⟩) pa_nil)))) (pss_one (ps_ret pe_str)) pss_nil)))
      (pss_cons (ps_if (pt_val (pe_call GF hr rfl gF kF bF .nil pass0 (pa_cons (pv 1) (pa_cons (pe_glob (v := .int 4) rfl g3 ⟨_, rfl⟩) pa_nil)))) (pss_one (ps_ret pe_str)) pss_nil)
      (pss_one (ps_ret pe_non)))))), ?_⟩
    refine ⟨_, rfl, l, rfl, ⟨_, hl⟩, fun D hD => lc_build (walk_list (K := K) (a := l)) hD (fun i ys R => Same H R ∧ ys = (ds.take i).map fun d => V.str d.1) ⟨Same.refl H, rfl⟩ (fun _ _ _ _ p => Same.seq (p.1.trans cd_sub) hl) ?_ ?_⟩
    · rintro i ys x H2 H2' hi e ly ⟨sm, rfl⟩ ⟨rfl, hy⟩
      obtain ⟨d, hd, p, q, rfl, h1, h2⟩ := paired_at hp hy
      have sz1 := sz.dl
      have hlen := hp.length
      refine ⟨p, _, rfl, Same.seqT (sm.trans cd_sub) h1, rfl, _, _, rfl, _, _, rfl, rfl, rfl, yes ?_⟩
      refine ⟨_, rfl, LcNx.add e ly (by omega) ⟨sm, take_snoc hd⟩⟩
    · rintro ys H2 e ly ⟨sm, rfl⟩
      have hlen := hp.length
      have eN : (ds.take xs.length).map (fun d => V.str d.1) = (ds.map (·.1)).map V.str := by
        rw [hlen, List.take_length, List.map_map]
        rfl
      rw [eN] at e
      have s2 : Same H H2 := sm.trans cd_sub
      have l1 := sz.dl
      have hnm : ∀ z ∈ ds.map (·.1), z.length ≤ 4000 := fun z hz => by
        obtain ⟨d, hd, rfl⟩ := List.mem_map.mp hz
        exact (sz.dn d hd).1
      refine ⟨_, rfl, _, .inl ⟨_, SqL.of e, rfl⟩, ?_⟩
      by_cases e0 : ds = []
      · subst e0
        exact iteT (iteT (k H2 s2))
      · have ne : (!((ds.map (·.1)).map V.str).isEmpty) = true := by
          cases ds with
          | nil => exact absurd rfl e0
          | cons d r => rfl
        rw [ne]
        refine iteF ⟨_, rfl, D, ds.map (·.1), 4, rfl, .inl (SqL.of e), by rw [List.length_map]; exact l1, hnm, fun H3 s3 => ⟨_, rfl, ?_⟩⟩
        have ie : ds.isEmpty = false := by
          cases ds with
          | nil => exact absurd rfl e0
          | cons d r => rfl
        have s03 : Same H H3 := s2.trans s3
        by_cases c1 : fltB (ds.map (·.1)) 4 = true
        · rw [c1]
          have ev : ffV ds ms = .str "dimensions" := by unfold ffV; rw [ie, c1]; rfl
          rw [ev] at k
          exact iteT (k H3 s03)
        · have c1 : fltB (ds.map (·.1)) 4 = false := by simpa using c1
          rw [c1]
          refine iteF ?_
          refine ⟨_, rfl, l, rfl, ⟨_, s03.seq hl⟩, for_list (K := K) (a := l) (xs := xs) (fun i σ H4 => ∃ u v, σ = [some (.ref l), some (.ref m), u, v, some (.ref D), none, none] ∧ Same H H4 ∧ (ds.take i).any (fun d => fltB (d.2.map (·.1)) 5) = false) ⟨_, _, rfl, s03, rfl⟩ (fun i σ H4 _ ⟨_, _, _, s4, _⟩ => s4.seq hl) ?_ ?_⟩
          · rintro i x σ H4 hi ⟨u, v, rfl, s4, na⟩
            obtain ⟨d, hd, p, q, rfl, h1, ys, h2, h3⟩ := paired_at hp hi
            have hdm := List.mem_of_getElem? hd
            obtain ⟨_, la, lz⟩ := sz.dn d hdm
            have hyl := h3.length
            refine ⟨p, _, rfl, Same.seqT s4 h1, rfl, _, _, rfl, _, _, rfl, rfl, ?_⟩
            refine ⟨_, rfl, q, rfl, ⟨_, Same.seqT s4 h2⟩, fun B hB => lc_build (walk_tup (K := K) (a := q)) hB (fun i ys R => Same H4 R ∧ ys = (d.2.take i).map fun d => V.str d.1) ⟨Same.refl H4, rfl⟩ (fun _ _ _ _ p => Same.seqT (s4.trans (p.1.trans cd_sub)) h2) ?_ ?_⟩
            · rintro j zs x H5 H5' hj e5 lz5 ⟨s5, rfl⟩ ⟨rfl, hy⟩
              obtain ⟨a, ha, r, rfl, h4⟩ := paired_at h3 hy
              refine ⟨r, _, rfl, Same.seqT (s4.trans (s5.trans cd_sub)) h4, rfl, _, _, rfl, _, _, rfl, rfl, rfl, yes ?_⟩
              refine ⟨_, rfl, LcNx.add e5 lz5 (by omega) ⟨s5, take_snoc ha⟩⟩
            · rintro zs H5 e5 lz5 ⟨s5, rfl⟩
              have eA : (d.2.take ys.length).map (fun d => V.str d.1) = (d.2.map (·.1)).map V.str := by
                rw [hyl, List.take_length, List.map_map]
                rfl
              rw [eA] at e5
              refine ⟨B, d.2.map (·.1), 5, rfl, .inl (SqL.of e5), by rw [List.length_map]; exact la, fun z hz => ?_, fun H6 s6 => ⟨_, rfl, ?_⟩⟩
              · obtain ⟨a, ha, rfl⟩ := List.mem_map.mp hz
                exact lz a ha
              · have s06 : Same H H6 := (s4.trans (s5.trans cd_sub)).trans s6
                by_cases c2 : fltB (d.2.map (·.1)) 5 = true
                · rw [c2]
                  have ea : ds.any (fun d => fltB (d.2.map (·.1)) 5) = true := List.any_eq_true.mpr ⟨d, hdm, c2⟩
                  have ev : ffV ds ms = .str "attributes" := by unfold ffV; rw [ie, c1, ea]; rfl
                  rw [ev] at k
                  exact iteT (k H6 s06)
                · have c2 : fltB (d.2.map (·.1)) 5 = false := by simpa using c2
                  rw [c2]
                  refine iteF ⟨_, _, rfl, s06, ?_⟩
                  obtain ⟨g1, g2⟩ := List.getElem?_eq_some_iff.mp hd
                  rw [List.take_succ_eq_append_getElem g1, List.any_append, na, g2]
                  simp [c2]
          · rintro σ H4 ⟨u, v, rfl, s4, na⟩
            rw [hlen, List.take_length] at na
            refine ⟨_, rfl, m, ms, 4, rfl, Same.txs s4 hm, sz.ml, sz.mn, fun H5 s5 => ⟨_, rfl, ?_⟩⟩
            have s05 : Same H H5 := s4.trans s5
            by_cases c3 : fltB ms 4 = true
            · rw [c3]
              have ev : ffV ds ms = .str "measures" := by unfold ffV; rw [ie, c1, na, c3]; rfl
              rw [ev] at k
              exact iteT (k H5 s05)
            · have c3 : fltB ms 4 = false := by simpa using c3
              rw [c3]
              have ev : ffV ds ms = .non := by unfold ffV; rw [ie, c1, na, c3]; rfl
              rw [ev] at k
              exact iteF (k H5 s05)
end
end Kd

namespace Kd
open PySem PySem.Spec PyProof.Rows L2
section
variable {P : Program} {w : World} {K : PySem.W.Frag} {mg : Str → Option Value} {base : Heap} {f : Addr} {fd : FuncData}
/-! ### the plan as an object -/
def plF (a b : Addr) : List (Str × V) := [("dimension_list", .ref a), ("measure_list", .ref b)]
theorem pl_ne : ¬ (("dimension_list" : Str) = "measure_list") := by decide +kernel
theorem pl_put (a b : Addr) : putF "measure_list" (.ref b) (putF "dimension_list" (.ref a) []) = plF a b := by
  show (if ("dimension_list" : Str) = "measure_list" then [(("dimension_list" : Str), V.ref b)] else (("dimension_list" : Str), V.ref a) :: putF "measure_list" (.ref b) []) = plF a b
  rw [if_neg pl_ne]
  rfl
theorem pl_dim (a b : Addr) : (plF a b).lookup ("dimension_list" : Str) = some (.ref a) := by
  unfold plF
  rw [List.lookup_cons]
  rw [show (("dimension_list" : Str) == "dimension_list") = true by decide +kernel]
theorem pl_mea (a b : Addr) : (plF a b).lookup ("measure_list" : Str) = some (.ref b) := by
  unfold plF
  rw [List.lookup_cons, show (("measure_list" : Str) == "dimension_list") = false by decide +kernel, List.lookup_cons, show (("measure_list" : Str) == "measure_list") = true by decide +kernel]
theorem pl_no0 {a b : Addr} {m : Str} (h1 : (m == ("dimension_list" : Str)) = false) (h2 : (m == ("measure_list" : Str)) = false) : (plF a b).lookup m = none := by
  unfold plF
  rw [List.lookup_cons, h1, List.lookup_cons, h2]
  rfl
/-- a Plan of ds and ms stands at x -/
structure PlanAt (K : PySem.W.Frag) (C : Addr) (H : Hp) (x : Addr) (ds : List (Str × List (Str × Str))) (ms : List Str) : Prop where
  ex : ∃ dx a b xs, H x = some (.ins C dx (plF a b)) ∧ H a = some (.lst xs) ∧ Paired (DimAt K H) xs ds ∧ H b = some (.lst (ms.map V.str))
theorem PlanAt.same {C x : Addr} {H H' : Hp} {ds : List (Str × List (Str × Str))} {ms : List Str} (e : Same H H') (h : PlanAt K C H x ds ms) : PlanAt K C H' x ds ms := by
  obtain ⟨dx, a, b, xs, h1, h2, h3, h4⟩ := h.ex
  exact ⟨dx, a, b, xs, e _ _ h1, e _ _ h2, PySem.Paired.mono (fun _ _ => DimAt.same e) h3, e _ _ h4⟩
/-! data do not lean on an instance -/
theorem seqL_cd {x C dx a : Addr} {H : Hp} {fs : List (Str × V)} {xs : List V} (hx : H x = some (.ins C dx fs)) (h : SqL K H a xs) : SqL K (cd x H) a xs := by
  rcases h with (q | ⟨o, q⟩) | q
  · exact .inl (.inl (cd_of q (ne_of q hx (fun z => nomatch z))))
  · exact .inl (.inr ⟨o, cd_of q (ne_of q hx (fun z => nomatch z))⟩)
  · exact .inr q
theorem seqT_cd {x C dx a : Addr} {H : Hp} {fs : List (Str × V)} {xs : List V} (hx : H x = some (.ins C dx fs)) (h : SqT K H a xs) : SqT K (cd x H) a xs := by
  rcases h with (q | ⟨o, q⟩) | q
  · exact .inl (.inl (cd_of q (ne_of q hx (fun z => nomatch z))))
  · exact .inl (.inr ⟨o, cd_of q (ne_of q hx (fun z => nomatch z))⟩)
  · exact .inr q
theorem txs_cd {x C dx a : Addr} {H : Hp} {fs : List (Str × V)} {xs : List Str} (hx : H x = some (.ins C dx fs)) (h : Txs K H a xs) : Txs K (cd x H) a xs := h.elim (fun q => .inl (seqL_cd hx q)) fun q => .inr (seqT_cd hx q)
theorem dim_cd {x C dx : Addr} {H : Hp} {fs : List (Str × V)} {y : V} {d : Str × List (Str × Str)} (hx : H x = some (.ins C dx fs)) : DimAt K H y d → DimAt K (cd x H) y d :=
  fun ⟨p, q, h1, h2, zs, h3, h4⟩ => ⟨p, q, h1, seqT_cd hx h2, zs, seqT_cd hx h3, PySem.Paired.mono (fun _ _ ⟨r, e1, e2⟩ => ⟨r, e1, seqT_cd hx e2⟩) h4⟩
structure PlTxt (K : PySem.W.Frag) (C : Addr) : Prop where
  cl : Cls K C
  nD : NoAttr K C "dimension_list"
  nM : NoAttr K C "measure_list"
def rTupOf (K : PySem.W.Frag) : List V → Hp → VK → Prop := fun xs H Q => ∃ p ys, xs = [.ref p] ∧ ((SqL K H p ys ∧ ∀ l, H l = none → Q (.ref l) (upd H l (.tup ys))) ∨ (SqT K H p ys ∧ Q (.ref p) H))
def spInit (K : PySem.W.Frag) (C : Addr) : Sp := fun vs H Q _ => ∃ (x dx l m : Addr) (ds : List (Str × List (Str × Str))) (ms : List Str), vs = [.ref x, .ref l, .ref m] ∧ H x = some (.ins C dx []) ∧ DimsAt K H l ds ∧ Txs K H m ms ∧ Szd ds ms ∧ ffV ds ms = .non ∧
  ∀ (H' : Hp) (a b : Addr) (xs : List V), H a = none → H b = none → H' x = some (.ins C dx (plF a b)) → H' a = some (.lst xs) → Paired (DimAt K H') xs ds → H' b = some (.lst (ms.map V.str)) → Same (cd x H) (cd x H') → Q .non H'
theorem sc_init : FnScope ["self", "dimensions", "measures", "fault", "name", "attributes"] ["self", "dimensions", "measures"] (defScope s_Plan_init) := ⟨rfl, rfl, rfl, by decide +kernel, rfl, by decide +kernel, by decide +kernel⟩
theorem ok_init {fF C : Addr} {fdF : FuncData} {dvs : List V} (F : FunD K "__init__" "Plan.__init__" (defArgs s_Plan_init) (defBody s_Plan_init) (defScope s_Plan_init) dvs [] f fd) (T : PlTxt K C) (GF : FnOk P w K mg base CX0 4 fF fdF ["dimensions", "measures"] (spFirst K)) (kF : PySem.W.keepIn K (.ref fF) = true) (bF : Binds K fdF ["dimensions", "measures"] []) (gF : mg "first_fault" = some (.ref fF))
    (gt : mg "tuple" = none) (gl : mg "list" = none) : FnOk P w K mg base CX0 5 f fd ["self", "dimensions", "measures"] (spInit K C) := by
  refine F.ok sc_init (fun vs H Q E h => ?_) (fun cdv A outer s H vs Q E hr h => ?_)
  · obtain ⟨x, dx, l, m, ds, ms, rfl, _⟩ := h
    rfl
  · obtain ⟨x, dx, l, m, ds, ms, rfl, hx, hl, hm, sz, ev, k⟩ := h
    have nd := sc_init.nd
    refine ⟨_, PSs.nox (pss_cons (ps_set (i := 3) nd rfl (Or.inl rfl) (pe_call GF hr rfl gF kF bF .nil pass0 (pa_cons (pv 1) (pa_cons (pv 2) pa_nil))))
      (pss_cons (ps_if (pt_cmp (pc_notN (pv 3))) (pss_one ps_never) pss_nil)
      (pss_cons (ps_fld (pv 0) (pe_lc (own := [("name", 4), ("attributes", 5)]) (g := gTup K 2 (gCons (gName 4) (gCons (gName 5) gNil))) (tt := tYes) (te := tTup (tCons (tVar 4) (tCons (tCB (rTupOf K) (tCons (tVar 5) tNil)) tNil))) rfl nd (pi_list (pv 1)) (blkOk_by (own := [("name", 4), ("attributes", 5)]) (N := ["self", "dimensions", "measures", "fault", "name", "attributes"]) (sc := defScope s_Plan_init) (by decide +kernel))
        (fun _ _ _ _ _ => pg_tup rfl (pgs_cons (pg_name (i := 4) nd rfl (Or.inl rfl)) (pgs_cons (pg_name (i := 5) nd rfl (Or.inl rfl)) pgs_nil))) (fun _ _ _ _ _ => pts_nil) (fun _ _ _ _ _ => pe_tup (pa_cons (pv 4) (pa_cons (pe_callTy call_tuple_of (by rfl) gt (by decide +kernel) (pa_cons (pv 5) pa_nil)) pa_nil)))) rfl)
      (pss_one (ps_fld (pv 0) (pe_callTy call_list_of (by rfl) gl (by decide +kernel) (pa_cons (pv 2) pa_nil)) rfl))))), ?_⟩
    refine ⟨_, rfl, _, rfl, l, m, ds, ms, rfl, hl, hm, sz, fun H1 s1 => ?_⟩
    rw [ev]
    refine ⟨_, rfl, _, rfl, ?_⟩
    refine iteF ?_
    obtain ⟨xs, hl1, hp⟩ := DimsAt.same s1 hl
    have hlen := hp.length
    have l1 := sz.dl
    refine ⟨_, rfl, l, rfl, ⟨_, hl1⟩, fun D hD => lc_build (walk_list (K := K) (a := l)) hD (fun i ys R => Same H1 R ∧ Paired (DimAt K R) ys (ds.take i)) ⟨Same.refl H1, .nil⟩ (fun _ _ _ _ p => Same.seq (p.1.trans cd_sub) hl1) ?_ ?_⟩
    · rintro i ys y H2 H2' hi e ly ⟨sm, py⟩ ⟨rfl, hy⟩
      obtain ⟨d, hd, p, q, rfl, h1, h2⟩ := paired_at hp hy
      refine ⟨p, _, rfl, Same.seqT (sm.trans cd_sub) h1, rfl, _, _, rfl, _, _, rfl, rfl, rfl, yes ?_⟩
      obtain ⟨zs, h3, h4⟩ := id h2
      refine ⟨_, rfl, _, rfl, q, zs, rfl, .inr ⟨Same.seqT (sm.trans cd_sub) h3, by show 2 ≤ sizeLine; decide, fun t ht => ?_⟩⟩
      have nDt : D ≠ t := ne_of_none e ht
      have s3 : Same (cd D H2') (cd D (upd H2' t (.tup [.str d.1, .ref q]))) := cd_same (same_new ht)
      refine LcNx.add (by rw [upd_ne nDt]; exact e) ly (by omega) ⟨sm.trans s3, ?_⟩
      obtain ⟨g1, g2⟩ := List.getElem?_eq_some_iff.mp hd
      rw [List.take_succ_eq_append_getElem g1, g2]
      exact PySem.Paired.snoc (PySem.Paired.mono (fun _ _ => DimAt.same s3) py) ⟨t, q, rfl, SqT.of (cd_of upd_same nDt.symm), AttsAt.same (sm.trans s3) h2⟩
    · rintro ys H2 e ly ⟨sm, py⟩
      rw [hlen, List.take_length] at py
      have s2 : Same H1 H2 := sm.trans cd_sub
      have hx2 : H2 x = some (.ins C dx []) := s2 _ _ (s1 _ _ hx)
      have nDx : D ≠ x := (ne_of_none (s1 _ _ hx) hD).symm
      refine ⟨_, rfl, x, C, dx, _, rfl, hx2, T.cl, T.nD, (by show 0 < 1000; decide), ?_⟩
      have s3 : Same (cd x H2) (upd H2 x (.ins C dx (putF "dimension_list" (.ref D) []))) := fun c o q => by rw [upd_ne (ct_ne q).1]; exact cd_sub _ _ q
      have hm3 : Txs K (upd H2 x (.ins C dx (putF "dimension_list" (.ref D) []))) m ms := Same.txs s3 (txs_cd hx2 (Same.txs (s1.trans s2) hm))
      refine ⟨_, rfl, m, ms.map V.str, rfl, hm3, fun b hb => ?_⟩
      have nxb : x ≠ b := ne_of_none upd_same hb
      have hDb : D ≠ b := fun z => by
        rw [← z, upd_ne nDx] at hb
        rw [e] at hb
        cases hb
      refine ⟨_, rfl, x, C, dx, _, rfl, (by rw [upd_ne nxb]; exact upd_same), T.cl, T.nM, (by show 1 < 1000; decide), ?_⟩
      have e1 : putF "measure_list" (V.ref b) (putF "dimension_list" (V.ref D) []) = plF D b := pl_put D b
      have s4 : Same (cd x H2) (upd (upd (upd H2 x (.ins C dx (putF "dimension_list" (.ref D) []))) b (.lst (ms.map V.str))) x (.ins C dx (putF "measure_list" (V.ref b) (putF "dimension_list" (V.ref D) [])))) := fun c o q => by
        have nc := (ct_ne q).1
        have qc := cd_sub _ _ q
        have ncb : c ≠ b := ne_of_none (show upd H2 x (.ins C dx (putF "dimension_list" (.ref D) [])) c = some o by rw [upd_ne nc]; exact qc) hb
        rw [upd_ne nc, upd_ne ncb, upd_ne nc]
        exact qc
      have py2 : Paired (DimAt K (cd x H2)) ys ds := PySem.Paired.mono (fun y d q => dim_cd hx2 (DimAt.same cd_sub q)) py
      refine k _ D b ys (s1.free hD) ?_ (Eq.trans upd_same (congrArg (fun z => some (HO.ins C dx z)) e1)) (s4 _ _ (cd_of e nDx)) (PySem.Paired.mono (fun _ _ => DimAt.same s4) py2) ?_ ?_
      · have hb2 : H2 b = none := by
          rw [upd_ne nxb.symm] at hb
          exact hb
        exact (s1.trans s2).free hb2
      · rw [upd_ne nxb.symm, upd_same]
      · have s5 : Same (cd x H) (cd x H2) := cd_same (s1.trans s2)
        have s6 := cd_same (D := x) s4
        exact s5.trans (fun c o q => s6 c o (cd_of q (ct_ne q).1))
end
end Kd
namespace Kd
open PySem PySem.Spec PyProof.Rows L2
section
variable {P : Program} {w : World} {K : PySem.W.Frag} {mg : Str → Option Value} {base : Heap} {f : Addr} {fd : FuncData}
def spDims (K : PySem.W.Frag) (C : Addr) : Sp := fun vs H Q _ => ∃ (x : Addr) (ds : List (Str × List (Str × Str))) (ms : List Str), vs = [.ref x] ∧ PlanAt K C H x ds ms ∧ ∀ l xs, H l = none → Paired (DimAt K H) xs ds → Q (.ref l) (upd H l (.lst xs))
def spMeas (K : PySem.W.Frag) (C : Addr) : Sp := fun vs H Q _ => ∃ (x : Addr) (ds : List (Str × List (Str × Str))) (ms : List Str), vs = [.ref x] ∧ PlanAt K C H x ds ms ∧ ∀ l, H l = none → Q (.ref l) (upd H l (.lst (ms.map V.str)))
theorem sc_dims : FnScope ["self"] ["self"] (defScope s_Plan_dimensions) := ⟨rfl, rfl, rfl, by decide +kernel, rfl, by decide +kernel, by decide +kernel⟩
theorem ok_dims {C : Addr} (F : FnP K "dimensions" "Plan.dimensions" s_Plan_dimensions f fd) (T : PlTxt K C) (gl : mg "list" = none) : FnOk P w K mg base CX0 1 f fd ["self"] (spDims K C) := by
  refine F.ok sc_dims (fun vs H Q E h => ?_) (fun cdv A outer s H vs Q E hr h => ?_)
  · obtain ⟨x, ds, ms, rfl, _⟩ := h
    rfl
  · obtain ⟨x, ds, ms, rfl, ⟨dx, a, b, xs, h1, h2, h3, h4⟩, k⟩ := h
    refine ⟨_, PSs.nox (pss_one (ps_ret (pe_callTy call_list_of (by rfl) gl (by decide +kernel) (pa_cons (pe_fld (pv 0) rfl) pa_nil)))), ?_⟩
    exact ⟨_, rfl, x, C, dx, _, _, rfl, h1, T.cl, T.nD, pl_dim a b, a, xs, rfl, .inl (SqL.of h2), fun l hl => k l xs hl h3⟩
theorem sc_meas : FnScope ["self"] ["self"] (defScope s_Plan_measures) := ⟨rfl, rfl, rfl, by decide +kernel, rfl, by decide +kernel, by decide +kernel⟩
theorem ok_meas {C : Addr} (F : FnP K "measures" "Plan.measures" s_Plan_measures f fd) (T : PlTxt K C) (gl : mg "list" = none) : FnOk P w K mg base CX0 1 f fd ["self"] (spMeas K C) := by
  refine F.ok sc_meas (fun vs H Q E h => ?_) (fun cdv A outer s H vs Q E hr h => ?_)
  · obtain ⟨x, ds, ms, rfl, _⟩ := h
    rfl
  · obtain ⟨x, ds, ms, rfl, ⟨dx, a, b, xs, h1, h2, h3, h4⟩, k⟩ := h
    refine ⟨_, PSs.nox (pss_one (ps_ret (pe_callTy call_list_of (by rfl) gl (by decide +kernel) (pa_cons (pe_fld (pv 0) rfl) pa_nil)))), ?_⟩
    exact ⟨_, rfl, x, C, dx, _, _, rfl, h1, T.cl, T.nM, pl_mea a b, b, _, rfl, .inl (SqL.of h4), fun l hl => k l hl⟩
end
end Kd

namespace Kd
open PySem PySem.Spec PyProof.Rows L2
/-- a tray of at most n draws stands at a, its list of great ones at g -/
structure Tray (H : Hp) (a g : Addr) (n : Nat) : Prop where
  ex : ∃ (c f m : Int) (gs : List Int), H a = some (.lst [.ref g, .int c, .int f, .int m]) ∧ H g = some (.lst (gs.map V.int)) ∧ (0 ≤ f ∧ f < 2305843009213693951) ∧ 0 ≤ m ∧ m ≤ n
section
variable {P : Program} {w : World} {K : PySem.W.Frag} {mg : Str → Option Value} {base : Heap} {f : Addr} {fd : FuncData}
def spTray (K : PySem.W.Frag) : Sp := fun vs H Q _ => ∃ (l : Addr) (ns : List Int), vs = [.ref l] ∧ SqL K H l (ns.map V.int) ∧ ns.length ≤ 63 ∧ ∀ a g H', H a = none → H g = none → Tray H' a g 0 → Same H H' → Q (.ref a) H'
theorem sc_tray : FnScope ["script", "fold", "great", "cell", "much"] ["script"] (defScope s_l_tray) := ⟨rfl, rfl, rfl, by decide +kernel, rfl, by decide +kernel, by decide +kernel⟩
theorem ints_at {xs : List Int} {i : Nat} {x : V} (h : (xs.map V.int)[i]? = some x) : ∃ z, x = .int z ∧ xs[i]? = some z := by
  rw [List.getElem?_map] at h
  cases e : xs[i]? with
  | none => rw [e] at h; cases h
  | some z => rw [e] at h; exact ⟨z, (Option.some.inj h).symm, rfl⟩
theorem ok_tray (F : FnP K "_law_tray" "_law_tray" s_l_tray f fd) (gm : mg "max" = none) : FnOk P w K mg base CX0 1 f fd ["script"] (spTray K) := by
  refine F.ok sc_tray (fun vs H Q E h => ?_) (fun cdv A outer s H vs Q E hr h => ?_)
  · obtain ⟨l, ns, rfl, _⟩ := h
    rfl
  · obtain ⟨l, ns, rfl, hS, hn, k⟩ := h
    have nd := sc_tray.nd
    refine ⟨_, PSs.nox (pss_cons (ps_set (i := 1) nd rfl (Or.inl rfl) pe_int)
      (pss_cons (ps_set (i := 2) nd rfl (Or.inl rfl) (pe_lst pa_nil))
      (pss_cons (ps_for PassesOwn.never rfl (pi_list (pv 0)) (pg_name (i := 3) nd rfl (Or.inl rfl))
        (pss_cons (ps_set (i := 1) nd rfl (Or.inl rfl) (pe_op op_mod (pe_op op_add (pe_op op_mul (pv 1) pe_int) (pv 3)) (pe_op op_sub (pe_op op_pow pe_int pe_int) pe_int)))
        (pss_cons (ps_set (i := 4) nd rfl (Or.inl rfl) (pe_callB (call_max2 rfl) (by rfl) gm (by decide +kernel) (pa_cons (pv 3) (pa_cons (pe_op op_sub pe_int (pv 3)) pa_nil))))
        (pss_one (ps_if (pt_cmpR op_ge (pv 4) (pe_op op_pow pe_int pe_int) (nomark _)) (pss_one (ps_expr (pe_bm PySem.F.plainAttrs_list PySem.F.slot_list_append PySem.F.type_list_append mt_append (pv 2) (pa_cons (pe_op op_sub (pv 4) (pe_op op_pow pe_int pe_int)) pa_nil)))) pss_nil)))))
      (pss_one (ps_ret (pe_lst (pa_cons (pv 2) (pa_cons pe_int (pa_cons (pv 1) (pa_cons pe_int pa_nil)))))))))), ?_⟩
    refine ⟨by show 0 ≤ sizeLine; decide, fun g hg => ?_⟩
    refine ⟨_, rfl, l, rfl, ⟨_, (same_new hg).seq hS⟩, for_list (K := K) (a := l) (xs := ns.map V.int) (fun i σ H2 => ∃ (fo : Int) (gs : List Int) (u v : Option V), σ = [some (.ref l), some (.int fo), some (.ref g), u, v] ∧ Same H H2 ∧ H2 g = some (.lst (gs.map V.int)) ∧ gs.length ≤ i ∧ 0 ≤ fo ∧ fo < 2305843009213693951)
      ⟨_, [], _, _, rfl, same_new hg, upd_same, Nat.le_refl _, by decide, by decide⟩ (fun i σ H2 _ ⟨_, _, _, _, _, s2, _⟩ => s2.seq hS) ?_ ?_⟩
    · rintro i x σ H2 hi ⟨fo, gs, u, v, rfl, s2, h2, l2, f0, f1⟩
      have hil : i < (ns.map V.int).length := (List.getElem?_eq_some_iff.mp hi).1
      rw [List.length_map] at hil
      obtain ⟨z, rfl, hz⟩ := ints_at hi
      refine ⟨_, rfl, _, _, rfl, rfl, .inl ⟨by omega, by omega⟩, _, rfl, _, _, rfl, rfl, _, _, rfl, rfl, ⟨by decide, by decide, by decide⟩, _, _, rfl, rfl, _, _, rfl, rfl, ?_, ?_⟩
      · show (0 : Int) < 2 ^ 61 - 1
        decide
      · have fb : 0 ≤ (fo * 1000003 + z) % (2 ^ Int.toNat 61 - 1) ∧ (fo * 1000003 + z) % (2 ^ Int.toNat 61 - 1) < 2305843009213693951 :=
          ⟨Int.emod_nonneg _ (by decide), Int.lt_of_lt_of_le (Int.emod_lt_of_pos _ (by decide)) (by decide)⟩
        refine ⟨_, rfl, _, rfl, _, _, rfl, rfl, _, _, rfl, ?_⟩
        refine ⟨_, rfl, _, _, rfl, rfl, ⟨by decide, by decide, by decide⟩, _, _, rfl, rfl, _, rfl, ?_⟩
        refine ite2 (fun _ => ?_) (fun _ => ?_)
        · refine ⟨_, rfl, .inl ⟨rfl, _, SqL.of h2⟩, _, rfl, _, _, rfl, rfl, ⟨by decide, by decide, by decide⟩, _, _, rfl, rfl, g, _, _, rfl, rfl, h2, small1000 (by rw [List.length_map]; omega), ?_⟩
          exact ⟨_, gs ++ [_], _, _, rfl, Same.upd s2 hg, by rw [upd_same, List.map_append]; rfl, by rw [List.length_append]; show gs.length + 1 ≤ i + 1; omega, fb.1, fb.2⟩
        · exact ⟨_, gs, _, _, rfl, s2, h2, by omega, fb.1, fb.2⟩
    · rintro σ H2 ⟨fo, gs, u, v, rfl, s2, h2, l2, f0, f1⟩
      refine ⟨_, rfl, _, rfl, by show 4 ≤ sizeLine; decide, fun a ha => ?_⟩
      refine k a g _ (s2.free ha) hg ⟨0, fo, 0, gs, upd_same, by rw [upd_ne (ne_of_none h2 ha)]; exact h2, ⟨f0, f1⟩, by decide, by decide⟩ (Same.to_new s2 ha)
def spDraw : Sp := fun vs H Q _ => ∃ (a g : Addr) (n : Nat) (many : Int), vs = [.ref a, .int many] ∧ Tray H a g n ∧ n ≤ 1000000 ∧ 0 < many ∧ many < 2 ^ 60 ∧ ∀ (r : Int) H', 0 ≤ r → r < many → Tray H' a g (n + 1) → Same (ct a g H) (ct a g H') → Q (.int r) H'
theorem sc_draw : FnScope ["tray", "many", "found", "mixed"] ["tray", "many"] (defScope s_l_draw) := ⟨rfl, rfl, rfl, by decide +kernel, rfl, by decide +kernel, by decide +kernel⟩
theorem DpAll.ints {K : PySem.W.Frag} {H : Hp} : ∀ (xs : List Int), DpAll K H (xs.map V.int) (xs.map PyData.int)
  | [] => .nil
  | x :: xs => .cons (.int x) (DpAll.ints xs)
theorem lay_ints : ∀ xs : List Int, PyData.canLayAll0 (xs.map PyData.int) = true ∧ PyData.depthAll (xs.map PyData.int) = 0
  | [] => ⟨rfl, rfl⟩
  | x :: xs => by
    obtain ⟨h1, h2⟩ := lay_ints xs
    constructor
    · simp only [List.map_cons, PyData.canLayAll0, PyData.canLay0, h1, Bool.and_self]
    · simp only [List.map_cons, PyData.depthAll, PyData.depth, h2, Nat.max_self]
theorem shaped_ints (xs : List Int) : SeqAt.shaped (.list (xs.map PyData.int)) = true := by
  obtain ⟨h1, h2⟩ := lay_ints xs
  simp [SeqAt.shaped, PyData.canLay0, PyData.depth, h1, h2]
theorem mix_lt {x : Int} : (x % (2 ^ Int.toNat 61 - 1)).natAbs < 2 ^ 64 := by
  have h0 : 0 ≤ x % (2 ^ Int.toNat 61 - 1) := Int.emod_nonneg _ (by decide)
  have h1 : x % (2 ^ Int.toNat 61 - 1) < 2 ^ Int.toNat 61 - 1 := Int.emod_lt_of_pos _ (by decide)
  have h2 : (2 : Int) ^ Int.toNat 61 - 1 = 2305843009213693951 := by decide
  rw [h2] at *
  omega
def lenAt (g : Addr) (H : Hp) : Nat := match H g with
  | some (.lst xs) => xs.length
  | _ => 0
theorem lenAt_of {g : Addr} {H : Hp} {xs : List V} (h : H g = some (.lst xs)) : lenAt g H = xs.length := by unfold lenAt; rw [h]
theorem tray_ne {H : Hp} {a g : Addr} {c f m : Int} {gs : List Int} (h1 : H a = some (.lst [.ref g, .int c, .int f, .int m])) (h2 : H g = some (.lst (gs.map V.int))) : a ≠ g := ne_of h1 h2 (fun z => by
  have e : [V.ref g, V.int c, V.int f, V.int m] = gs.map V.int := by injection z
  cases gs with
  | nil => cases e
  | cons x r => cases e)
theorem ok_draw (F : FnP K "_law_draw" "_law_draw" s_l_draw f fd) : FnOk P w K mg base CX0 1 f fd ["tray", "many"] spDraw := by
  refine F.ok sc_draw (fun vs H Q E h => ?_) (fun cdv A outer s H vs Q E hr h => ?_)
  · obtain ⟨a, g, n, many, rfl, _⟩ := h
    rfl
  · obtain ⟨a, g, n, many, rfl, hT, hn, m0, m1, k⟩ := h
    have nd := sc_draw.nd
    refine ⟨_, PSs.nox (pss_cons (ps_while PassesOwn.never (PW.pt (pw_and (pt_cmpR op_lt (pe_ix ix_list (pv 0) pe_int (fun _ _ => rfl)) pe_int (nomark _)) (pw_and1 (pt_cmpR (op_neD hr.units) (pe_ix ix_list (pv 0) pe_int (fun _ _ => rfl)) (pe_lst pa_nil) (nomark _)))))
        (pss_one (ps_asg (pe_bm PySem.F.plainAttrs_list PySem.F.slot_list_pop PySem.F.type_list_pop mt_popAt (pe_ix ix_list (pv 0) pe_int (fun _ _ => rfl)) (pa_cons pe_int pa_nil)) (pg_sub (pv 0) pe_int set_list))))
      (pss_cons (ps_if (pt_cmpR op_ge (pe_ix ix_list (pv 0) pe_int (fun _ _ => rfl)) pe_int (nomark _))
        (pss_cons (ps_set (i := 2) nd rfl (Or.inl rfl) (pe_op op_mod (pe_ix ix_list (pv 0) pe_int (fun _ _ => rfl)) (pv 1)))
        (pss_cons (ps_asg (pe_op op_fdivW (pe_ix ix_list (pv 0) pe_int (fun _ _ => rfl)) (pv 1)) (pg_sub (pv 0) pe_int set_list))
        (pss_one (ps_ret (pv 2))))) pss_nil)
      (pss_cons (ps_asg (pe_op op_add (pe_ix ix_list (pv 0) pe_int (fun _ _ => rfl)) pe_int) (pg_sub (pv 0) pe_int set_list))
      (pss_cons (ps_set (i := 3) nd rfl (Or.inl rfl) (pe_op op_mod (pe_op op_add (pe_op op_mul (pe_op op_add (pe_ix ix_list (pv 0) pe_int (fun _ _ => rfl)) pe_int) (pe_op op_pow (pe_op op_add (pe_ix ix_list (pv 0) pe_int (fun _ _ => rfl)) pe_int) pe_int)) (pe_op op_mul pe_int (pe_ix ix_list (pv 0) pe_int (fun _ _ => rfl)))) (pe_op op_sub (pe_op op_pow pe_int pe_int) pe_int)))
      (pss_one (ps_ret (pe_op op_mod (pe_op op_fdiv (pe_op op_mod (pe_op op_pow (pv 3) pe_int) (pe_op op_add (pe_op op_pow pe_int pe_int) pe_int)) pe_int) (pv 1)))))))), ?_⟩
    refine while_by (fun σ H2 => σ = [some (.ref a), some (.int many), none, none] ∧ Tray H2 a g n ∧ Same (ct a g H) (ct a g H2)) (fun _ H2 => lenAt g H2) ⟨rfl, hT, Same.refl _⟩ ?_ ?_
    · rintro σ H2 ⟨rfl, ⟨c, fo, m, gs, h1, h2, hf, hm⟩, s2⟩
      have nag := tray_ne h1 h2
      have eT : ∀ H3, H3 a = some (.lst [.ref g, .int c, .int fo, .int m]) → H3 g = some (.lst (gs.map V.int)) → Same (ct a g H) (ct a g H3) → Tray H3 a g n := fun H3 q1 q2 _ => ⟨c, fo, m, gs, q1, q2, hf, hm⟩
      refine ⟨_, rfl, a, _, _, _, rfl, rfl, SqL.of h1, atI_nat (j := 1) rfl, _, _, rfl, rfl, _, rfl, ?_⟩
      refine ite2 (fun c1 => ?_) (fun c1 => ?_)
      · refine ⟨_, rfl, a, _, _, _, rfl, rfl, SqL.of h1, atI_nat (j := 0) rfl, by show 0 ≤ sizeLine; decide, fun p hp => ?_⟩
        have npa : a ≠ p := ne_of_none h1 hp
        have npg : g ≠ p := ne_of_none h2 hp
        have h1p : upd H2 p (.lst []) a = some (.lst [.ref g, .int c, .int fo, .int m]) := by rw [upd_ne npa]; exact h1
        have h2p : upd H2 p (.lst []) g = some (.lst (gs.map V.int)) := by rw [upd_ne npg]; exact h2
        have s3 : Same (ct a g H) (ct a g (upd H2 p (.lst []))) := s2.trans (ct_same (same_new hp))
        refine ⟨.list (gs.map PyData.int), .list [], .lst (SqL.of h2p) (DpAll.ints gs), .lst (SqL.of upd_same) .nil, shaped_ints gs, by decide, _, rfl, ?_⟩
        cases gs with
        | nil =>
          refine iteF ?_
          refine ⟨_, rfl, a, _, _, _, rfl, rfl, SqL.of h1p, atI_nat (j := 1) rfl, _, _, rfl, rfl, _, rfl, ?_⟩
          refine ite2 (fun c2 => ?_) (fun c2 => ?_)
          · refine ⟨_, rfl, a, _, _, _, rfl, rfl, SqL.of h1p, atI_nat (j := 1) rfl, _, rfl, _, _, rfl, rfl, m0, ?_⟩
            refine ⟨_, rfl, a, _, _, _, rfl, rfl, SqL.of h1p, atI_nat (j := 1) rfl, _, rfl, _, _, rfl, rfl, wide_div (b := 60) m0 (by omega) (by decide) (by decide), _, rfl, a, _, _, 1, rfl, rfl, h1p, rfl, ?_⟩
            exact ⟨_, rfl, k _ _ (Int.emod_nonneg _ (by omega)) (Int.emod_lt_of_pos _ m0) ⟨_, fo, m, _, upd_same, by rw [upd_ne nag.symm]; exact h2p, hf, hm.1, by omega⟩ (by rw [ct_upda]; exact s3)⟩
          · refine ⟨_, rfl, a, _, _, _, rfl, rfl, SqL.of h1p, atI_nat (j := 3) rfl, _, _, rfl, rfl, _, rfl, a, _, _, 3, rfl, rfl, h1p, rfl, ?_⟩
            have q0 := hf.1
            have q1 := hf.2
            have q2 := hm.1
            have q3 := hm.2
            refine ⟨_, rfl, a, _, _, _, rfl, rfl, SqL.of upd_same, atI_nat (j := 2) rfl, _, _, rfl, rfl, _, rfl, a, _, _, _, rfl, rfl, SqL.of upd_same, atI_nat (j := 3) rfl, _, _, rfl, rfl, _, _, rfl, rfl, ⟨by decide, by decide, by omega⟩, _, _, rfl, rfl, .inl ⟨by omega, by omega⟩,
              _, rfl, a, _, _, _, rfl, rfl, SqL.of upd_same, atI_nat (j := 3) rfl, _, _, rfl, rfl, .inl ⟨by decide, by decide⟩, _, _, rfl, rfl, _, _, rfl, rfl, ⟨by decide, by decide, by decide⟩, _, _, rfl, rfl, _, _, rfl, rfl, (by show (0 : Int) < 2 ^ 61 - 1; decide), ?_⟩
            refine ⟨_, rfl, _, _, rfl, rfl, ⟨by decide, by decide, mix_lt⟩, _, _, rfl, rfl, ⟨by decide, by decide, by decide⟩, _, _, rfl, rfl, _, _, rfl, rfl, (by show (0 : Int) < 10 ^ 18 + 9; decide), _, _, rfl, rfl, ⟨by decide, by decide⟩, _, rfl, _, _, rfl, rfl, m0, ?_⟩
            exact k _ _ (Int.emod_nonneg _ (by omega)) (Int.emod_lt_of_pos _ m0) ⟨c, fo, m + 1, _, upd_same, by rw [upd_ne nag.symm]; exact h2p, hf, by omega, by omega⟩ (by rw [ct_upda]; exact s3)
        | cons z zs =>
          refine iteT ?_
          refine ⟨_, rfl, a, _, _, _, rfl, rfl, SqL.of h1p, atI_nat (j := 0) rfl, .inl ⟨rfl, _, SqL.of h2p⟩, g, _, 0, 0, _, rfl, rfl, h2p, by decide, by decide, by simp [seqIndex?], rfl, ?_⟩
          refine ⟨_, rfl, a, _, _, 1, rfl, rfl, (by rw [upd_ne nag]; exact h1p), rfl, ?_⟩
          refine ⟨⟨rfl, ⟨z, fo, m, zs, upd_same, by rw [upd_ne nag.symm, upd_same]; rfl, hf, hm⟩, by rw [ct_upda, ct_updg]; exact s3⟩, ?_⟩
          show lenAt g _ < lenAt g H2
          rw [lenAt_of h2, lenAt_of (g := g) (xs := zs.map V.int) (by rw [upd_ne nag.symm, upd_same]; rfl), List.length_map, List.length_map]
          exact Nat.lt_succ_self _
      · have h1p := h1
        have h2p := h2
        have s3 := s2
        refine iteF ?_
        refine ⟨_, rfl, a, _, _, _, rfl, rfl, SqL.of h1p, atI_nat (j := 1) rfl, _, _, rfl, rfl, _, rfl, ?_⟩
        refine ite2 (fun c2 => ?_) (fun c2 => ?_)
        · refine ⟨_, rfl, a, _, _, _, rfl, rfl, SqL.of h1p, atI_nat (j := 1) rfl, _, rfl, _, _, rfl, rfl, m0, ?_⟩
          refine ⟨_, rfl, a, _, _, _, rfl, rfl, SqL.of h1p, atI_nat (j := 1) rfl, _, rfl, _, _, rfl, rfl, wide_div (b := 60) m0 (by omega) (by decide) (by decide), _, rfl, a, _, _, 1, rfl, rfl, h1p, rfl, ?_⟩
          exact ⟨_, rfl, k _ _ (Int.emod_nonneg _ (by omega)) (Int.emod_lt_of_pos _ m0) ⟨_, fo, m, _, upd_same, by rw [upd_ne nag.symm]; exact h2p, hf, hm.1, by omega⟩ (by rw [ct_upda]; exact s3)⟩
        · have a1 : ¬ c < 2 := fun q => c1 (decide_eq_true q)
          have a2 : ¬ (2 : Int) ≤ c := fun q => c2 (decide_eq_true q)
          exfalso
          omega
    · rintro σ H2 Q1 Q2 hQ ⟨v, e0, p, xs, i, x, e1, e2, hs, ha, i2, j2, e3, e4, b, e5, q⟩
      refine ⟨v, e0, p, xs, i, x, e1, e2, hs, ha, i2, j2, e3, e4, b, e5, ?_⟩
      cases b with
      | false => exact iteF (hQ _ _ (by simpa using q))
      | true =>
        have q := (if_pos rfl : (if true = true then _ else _) = _).mp q
        obtain ⟨v, e0, p, xs, i, x, e1, e2, hs, ha, hl, hp⟩ := q
        refine iteT ⟨v, e0, p, xs, i, x, e1, e2, hs, ha, hl, fun p np => ?_⟩
        obtain ⟨d, e, d1, d2, d3, d4, b, e6, q⟩ := hp p np
        exact ⟨d, e, d1, d2, d3, d4, b, e6, hQ _ _ q⟩
end
end Kd

namespace Kd
open PySem PySem.Spec PyProof.Rows L2
/-! ### text * number -/
theorem op_rep_str {X : Cx} : OpR X (binaryOp .Mult) (fun x y H Q => ∃ z n, x = .str z ∧ y = .int n ∧ MulOk z n ∧ Q (.str (Txt.mul z n)) H) := by
  intro pins s σ H x y v u Q I rx ry h
  obtain ⟨z, n, rfl, rfl, hz, q⟩ := h
  obtain ⟨t, rfl⟩ := rx
  obtain ⟨t2, rfl⟩ := ry
  exact SB.mul hz fun t3 k => ⟨.str (Txt.mul z n), H, I.tok _, ⟨_, rfl⟩, q⟩
/-! ### trays -/
section
variable {H H' H1 H2 H3 : Hp} {a g p D b : Addr} {n m : Nat} {o : HO}
theorem Tray.same (s : Same H H') (t : Tray H a g n) : Tray H' a g n := by
  obtain ⟨c, f, k, gs, h1, h2, h3⟩ := t.ex
  exact ⟨c, f, k, gs, s _ _ h1, s _ _ h2, h3⟩
theorem Tray.new (t : Tray H a g n) (h : H p = Option.none) : Tray (upd H p o) a g n := t.same (same_new h)
theorem Tray.mono (t : Tray H a g n) (h : n ≤ m) : Tray H a g m := by
  obtain ⟨c, f, k, gs, h1, h2, h3, h4, h5⟩ := t.ex
  exact ⟨c, f, k, gs, h1, h2, h3, h4, by omega⟩
theorem Tray.na (t : Tray H a g n) (h : H p = Option.none) : p ≠ a ∧ p ≠ g := by
  obtain ⟨c, f, k, gs, h1, h2, _⟩ := t.ex
  exact ⟨(ne_of_none h1 h).symm, (ne_of_none h2 h).symm⟩
theorem Tray.cd (t : Tray H a g n) (ha : D ≠ a) (hg : D ≠ g) : Tray (cd D H) a g n := by
  obtain ⟨c, f, k, gs, h1, h2, h3⟩ := t.ex
  exact ⟨c, f, k, gs, cd_of h1 ha.symm, cd_of h2 hg.symm, h3⟩
theorem ctnew (h : H p = Option.none) : Same (ct a g H) (ct a g (upd H p o)) := ct_same (same_new h)
theorem ctcd (hD : H1 D = Option.none) (s1 : Same (ct a g H1) (ct a g (cd D H2))) (s2 : Same (ct a g H2) (ct a g H3)) : Same (ct a g H1) (ct a g (cd D H3)) := fun b o e => by
  obtain ⟨na, ng⟩ := ct_ne e
  have nD : b ≠ D := ne_of_none (ct_sub _ _ e) hD
  have e2 := ct_sub _ _ (s1 b o e)
  exact ct_of (cd_of (ct_sub _ _ (s2 b o (ct_of (cd_sub _ _ e2) na ng))) nD) na ng
/-- an object that is no part of the tray stays over a draw -/
theorem ctkeep (s : Same (ct a g H) (ct a g H')) (e : H b = some o) (ha : b ≠ a) (hg : b ≠ g) : H' b = some o := ct_sub _ _ (s b o (ct_of e ha hg))
end
/-! ### names -/
theorem nm_iff {z : Str} : nmB z = true ↔ IsNm z := by
  unfold nmB
  rw [Bool.and_eq_true, Bool.and_eq_true, decide_eq_true_iff, decide_eq_true_iff, List.all_eq_true]
  constructor
  · rintro ⟨h1, h2, h3⟩
    exact ⟨fun c hc => of_decide_eq_true (h3 c hc), h1, h2⟩
  · rintro ⟨h1, h2, h3⟩
    exact ⟨h2, h3, fun c hc => decide_eq_true (h1 c hc)⟩
/-- a name, or the empty text -/
structure Nm0 (z : Str) : Prop where
  low : Low z
  le8 : z.length ≤ 8
theorem IsNm.nm0 {z : Str} (h : IsNm z) : Nm0 z := ⟨h.low, h.le8⟩
theorem Nm0.nm {z : Str} (h : Nm0 z) (ne : z ≠ Str.empty) : IsNm z := ⟨h.low, by
  rcases Nat.eq_zero_or_pos z.length with e | e
  · refine absurd (Str.ext' (Array.eq_empty_of_size_eq_zero e)) ne
  · exact e, h.le8⟩
theorem cut8 (z : Str) : (cutS z none (some 8)).length ≤ 8 := by
  show (((z.cps.toList.drop (HT.sIx z.length 0 none)).take (HT.sIx z.length z.length (some 8) - HT.sIx z.length 0 none)).toArray).size ≤ 8
  rw [List.size_toArray, List.length_take, HT.sIx_none]
  have e : HT.sIx z.length z.length (some ((8 : Nat) : Int)) = min 8 z.length := HT.sIx_nat _ _ _
  have e2 : HT.sIx z.length z.length (some 8) = min 8 z.length := e
  rw [e2]
  omega
theorem flat_len : ∀ (parts : List Str), (∀ z ∈ parts, z.length = 1) → ((parts.map fun z => z.cps.toList).flatten).length = parts.length
  | [], _ => rfl
  | z :: r, h => by
    have ih := flat_len r fun y hy => h y (List.mem_cons_of_mem _ hy)
    have h1 := h z (List.mem_cons_self ..)
    have h2 : z.cps.toList.length = 1 := by rw [Array.length_toList]; exact h1
    rw [List.map_cons, List.flatten_cons, List.length_append, ih, h2, List.length_cons]
    omega
theorem joined {y : Str} (hy : y.cps.toList = []) (parts : List Str) (h1 : ∀ z ∈ parts, z.length = 1) (h2 : ∀ z ∈ parts, Low z) : Low (Txt.join y parts) ∧ (Txt.join y parts).length = parts.length := by
  have e := join_list_eq y hy parts
  constructor
  · intro c hc
    rw [e] at hc
    obtain ⟨l, hl, hcl⟩ := List.mem_flatten.mp hc
    obtain ⟨z, hz, rfl⟩ := List.mem_map.mp hl
    exact h2 z hz c hcl
  · have e2 : (Txt.join y parts).length = (Txt.join y parts).cps.toList.length := by rw [Array.length_toList]; rfl
    rw [e2, e]
    exact flat_len parts h1
theorem sum_ones : ∀ (parts : List Str), (∀ z ∈ parts, z.length = 1) → (parts.map (·.length)).sum = parts.length
  | [], _ => rfl
  | z :: r, h => by
    have ih := sum_ones r fun y hy => h y (List.mem_cons_of_mem _ hy)
    rw [List.map_cons, List.sum_cons, ih, h z (List.mem_cons_self ..), List.length_cons]
    omega
/-- one sign so many times -/
theorem mul_one (c : Nat) (n : Nat) (hn : 2 ≤ n) : Txt.mul ⟨#[c]⟩ (n : Int) = ⟨(List.replicate n c).toArray⟩ := by
  unfold Txt.mul
  have e : ((n : Int) == 1 || (⟨#[c]⟩ : Str).length == 0) = false := by
    have h1 : ((n : Int) == 1) = false := by simp; omega
    have h2 : ((⟨#[c]⟩ : Str).length == 0) = false := rfl
    rw [h1, h2]
    rfl
  rw [if_neg (by omega), e, if_neg Bool.false_ne_true, Int.toNat_natCast]
  have h : ∀ (k : Nat) (acc : List Nat), (List.replicate k #[c]).foldl (· ++ ·) acc.toArray = (acc ++ List.replicate k c).toArray := fun k => by
    induction k with
    | zero => intro acc; simp
    | succ k ih =>
      intro acc
      rw [List.replicate_succ, List.foldl_cons]
      have e2 : acc.toArray ++ #[c] = (acc ++ [c]).toArray := by simp
      rw [e2, ih, List.replicate_succ, List.append_assoc]
      rfl
  have h2 := h n []
  congr 1
theorem mul_nm0 {c : Nat} (hc : 97 ≤ c ∧ c ≤ 122) {n : Nat} (h1 : 2 ≤ n) (h2 : n ≤ 8) : Nm0 (Txt.mul ⟨#[c]⟩ (n : Int)) := by
  rw [mul_one c n h1]
  refine ⟨fun d hd => ?_, ?_⟩
  · have e : d = c := List.eq_of_mem_replicate hd
    rw [e]
    exact hc
  · show (List.replicate n c).toArray.size ≤ 8
    rw [List.size_toArray, List.length_replicate]
    exact h2
theorem mulOk_one (c : Nat) {n : Nat} (h : n ≤ 8) : MulOk ⟨#[c]⟩ (n : Int) := by
  refine ⟨?_, fun h1 _ => ?_, fun _ _ => ?_⟩
  · rw [Bool.or_eq_false_iff]
    exact ⟨decide_eq_false (by omega), decide_eq_false (by omega)⟩
  · show ¬ ((1 : Int) > (2 ^ 63 - 1) / (n : Int))
    have : (1 : Int) ≤ (2 ^ 63 - 1) / (n : Int) := by
      rw [Int.le_ediv_iff_mul_le (by omega)]
      omega
    omega
  · show Builtin.Str.tooLong (1 * (n : Int).toNat) = false
    rw [Int.toNat_natCast, Nat.one_mul]
    have : ∀ k, k ≤ 8 → Builtin.Str.tooLong k = false := by decide
    exact this n h
end Kd

namespace Kd
open PySem PySem.Spec PyProof.Rows L2
section
variable {P : Program} {w : World} {K : PySem.W.Frag} {mg : Str → Option Value} {base : Heap} {f : Addr} {fd : FuncData}
def spName (K : PySem.W.Frag) : Sp := fun vs H Q _ => ∃ (a g u : Addr) (n : Nat) (us : List Str), vs = [.ref a, .ref u] ∧ Tray H a g n ∧ n ≤ 900000 ∧ SqL K (ct a g H) u (us.map V.str) ∧ us.length ≤ 20 ∧ (∀ z ∈ us, IsNm z) ∧
  ∀ z H', IsNm z → z ∉ us → Tray H' a g (n + 13) → Same (ct a g H) (ct a g H') → Q (.str z) H'
abbrev nmN : List Str := ["tray", "used", "letters", "lot", "letter", "k", "name", "words", "old", "at", "one", "some"]
theorem sc_name : FnScope nmN ["tray", "used"] (defScope s_l_name) := ⟨rfl, rfl, rfl, by decide +kernel, rfl, by decide +kernel, by decide +kernel⟩
abbrev rMulS : R2 := fun x y H Q => ∃ z n, x = .str z ∧ y = .int n ∧ MulOk z n ∧ Q (.str (Txt.mul z n)) H
abbrev tDraw (i : Int) : TE := tCall spDraw [] E0 (tCons (tVar 0) (tCons (tC (.int i)) tNil))
/-! #### the last two statements -/
def tTail (K : PySem.W.Frag) : TS := tSeq (tAsg (tOp rCat (tOp rCat (tOp rCat (tLst (tCons (tVar 6) tNil)) (tLc (iStr (tVar 2)) (gName 10) tYes (tVar 10) [10])) (tLc (iStr (tVar 2)) (gName 10) tYes (tOp rMulS (tVar 10) (tC (.int 3))) [10])) (tLc (iStr (tVar 2)) (gName 10) tYes (tOp rMulS (tVar 10) (tC (.int 5))) [10])) (gName 11))
  (tRet (tOp (rIxL K) (tLc (iList K (tVar 11)) (gName 10) (tAnd (tTest (tOp rNe (tVar 10) (tC (.str Str.empty)))) (tTest (tOp (rIn K true) (tVar 10) (tVar 1)))) (tVar 10) [10]) (tC (.int 0))))
theorem cd_is {D : Addr} {H H0 : Hp} (e : cd D H = H0) : Same H0 H := by rw [← e]; exact cd_sub
def tens (F : Nat → Str) (i : Nat) : List V := ((abc.cps.toList.take i).map F).map V.str
theorem tens_add {F : Nat → Str} {i c : Nat} (h : abc.cps[i]? = some c) : tens F i ++ [.str (F c)] = tens F (i + 1) := by
  have h2 : abc.cps.toList[i]? = some c := by rw [Array.getElem?_toList]; exact h
  obtain ⟨h3, h4⟩ := List.getElem?_eq_some_iff.mp h2
  unfold tens
  rw [List.take_succ_eq_append_getElem h3, List.map_append, List.map_append, h4]
  rfl
theorem tens_all (F : Nat → Str) : tens F abc.cps.size = ((List.range' 97 26).map F).map V.str := by
  unfold tens
  rw [List.take_of_length_le (by rw [Array.length_toList]; exact Nat.le_refl _), abc_list]
/-- a comprehension over the letters that makes nothing but texts -/
theorem lc_abc {te : TE} {σ : L2.St} {H1 : Hp} {D : Addr} {Qd : Hp → Prop} (F : Nat → Str) (hD : H1 D = none) (h10 : wipe ((wipe σ [10]).set 10 none) [10] = wipe σ [10])
    (hw : ∀ v, wipe ((wipe σ [10]).set 10 v) [10] = wipe σ [10]) (hte : ∀ (c : Nat) (H2 : Hp) (Q : VK), 97 ≤ c ∧ c ≤ 122 → Q (.str (F c)) H2 → te ((wipe σ [10]).set 10 (some (.str ⟨#[c]⟩))) H2 Q)
    (hd : ∀ H2, H2 D = some (.lst (((List.range' 97 26).map F).map V.str)) → cd D H2 = H1 → Qd H2) :
    ∃ W : Nat → Nat → Hp → Prop, (∃ m, W 0 m (upd H1 D (.lst []))) ∧ ∀ i m H, W i m H →
      ((Its abc).stop i H ∧ Qd H) ∨ ((Its abc).go i H ∧ ∃ Nx : Hp → Prop, (∀ H', Nx H' → ∃ m', m' < m ∧ W (i + 1) m' H') ∧ ∀ x H', (Its abc).yld i H x H' → gName 10 x (wipe σ [10]) H' fun σ2 H2 => wipe σ2 [10] = wipe σ [10] ∧ tYes σ2 H2 fun b H3 =>
        if b = true then te σ2 H3 fun y H4 => ∃ acc, H4 D = some (.lst acc) ∧ acc.length < sizeLine ∧ Nx (upd H4 D (.lst (acc ++ [y]))) else Nx H3) := by
  refine lc_build walk_str hD (fun i ys R => R = H1 ∧ ys = tens F i) ⟨rfl, rfl⟩ (fun _ _ _ _ _ => trivial) ?_ ?_
  · rintro i ys x H2 H2' hi e l ⟨e1, rfl⟩ ⟨rfl, c, hc, rfl⟩
    have hc2 : c ∈ abc.cps.toList := by
      have h2 : abc.cps.toList[i]? = some c := by rw [Array.getElem?_toList]; exact hc
      exact List.mem_of_getElem? h2
    refine ⟨hw _, yes (hte c _ _ (mem_abc.mp hc2) (LcNx.add e l ?_ ⟨e1, tens_add hc⟩))⟩
    have h3 : abc.cps.size = 26 := abc_len
    omega
  · rintro ys H2 e l ⟨e1, rfl⟩
    rw [tens_all] at e
    exact hd H2 e e1
theorem inV_strs (z : Str) : ∀ us : List Str, inV (.str z) (us.map V.str) = decide (z ∈ us)
  | [] => by simp [inV]
  | y :: us => by
    have ih := inV_strs z us
    unfold inV at ih ⊢
    rw [List.map_cons, List.any_cons, ih]
    have e : eqV (.str y) (.str z) = decide (z = y) := by
      show (y == z) = decide (z = y)
      by_cases q : z = y
      · simp [q]
      · have q2 : ¬ y = z := fun h => q h.symm
        simp [q, q2]
    rw [e]
    simp [List.mem_cons]
theorem flat_strs : ∀ us : List Str, (us.map V.str).all flatV = true
  | [] => rfl
  | _ :: us => by
    rw [List.map_cons, List.all_cons, flat_strs us]
    rfl
def keepB (us : List Str) (z : Str) : Bool := !decide (z = Str.empty) && !decide (z ∈ us)
theorem free_letter {us : List Str} (h : us.length ≤ 20) : ∃ c, 97 ≤ c ∧ c ≤ 122 ∧ (⟨#[c]⟩ : Str) ∉ us := by
  apply Classical.byContradiction
  intro hn
  have h1 : ∀ z ∈ (List.range' 97 26).map (fun c => (⟨#[c]⟩ : Str)), z ∈ us := fun z hz => by
    obtain ⟨c, hc, rfl⟩ := List.mem_map.mp hz
    rw [List.mem_range'_1] at hc
    apply Classical.byContradiction
    intro hq
    exact hn ⟨c, by omega, by omega, hq⟩
  have h2 : ((List.range' 97 26).map (fun c => (⟨#[c]⟩ : Str))).Nodup := by decide +kernel
  have h3 := List.Nodup.length_le_of_subset h2 h1
  rw [List.length_map, List.length_range'] at h3
  omega
theorem tail_ok {a g u : Addr} {n m : Nat} {us : List Str} {z : Str} {x3 x4 x5 x7 x8 x9 x10 x11 : Option V} {H Hx : Hp} {Q : VK} {nx : L2.St → Hp → Prop} (hT : Tray Hx a g m) (hm : m ≤ n + 13) (hu : SqL K (ct a g H) u (us.map V.str)) (hs : Same (ct a g H) (ct a g Hx)) (hul : us.length ≤ 20) (hz : Nm0 z)
    (k : ∀ z H', IsNm z → z ∉ us → Tray H' a g (n + 13) → Same (ct a g H) (ct a g H') → Q (.str z) H') :
    tTail K { nx := nx, rt := Q } [some (.ref a), some (.ref u), some (.str abc), x3, x4, x5, some (.str z), x7, x8, x9, x10, x11] Hx := by
  refine ⟨_, rfl, by show 1 ≤ sizeLine; decide, fun p1 n1 => ?_⟩
  refine ⟨_, rfl, abc, rfl, fun D1 d1 => lc_abc (fun c => ⟨#[c]⟩) d1 rfl (fun _ => rfl) (fun c H2 Q2 _ q => ⟨_, rfl, q⟩) fun H2 e2 c2 => ?_⟩
  have s2 := cd_is c2
  have h2 : H2 p1 = some (.lst [.str z]) := s2 _ _ upd_same
  refine ⟨p1, D1, _, _, rfl, rfl, h2, e2, le_line (by simp), fun p3 n3 => ?_⟩
  refine ⟨_, rfl, abc, rfl, fun D4 d4 => lc_abc (fun c => Txt.mul ⟨#[c]⟩ 3) d4 rfl (fun _ => rfl) (fun c H2 Q2 _ q => ⟨_, rfl, _, _, rfl, rfl, mulOk_one c (n := 3) (by decide), q⟩) fun H4 e4 c4 => ?_⟩
  have s4 := cd_is c4
  refine ⟨p3, D4, _, _, rfl, rfl, s4 _ _ upd_same, e4, le_line (by simp), fun p5 n5 => ?_⟩
  refine ⟨_, rfl, abc, rfl, fun D6 d6 => lc_abc (fun c => Txt.mul ⟨#[c]⟩ 5) d6 rfl (fun _ => rfl) (fun c H2 Q2 _ q => ⟨_, rfl, _, _, rfl, rfl, mulOk_one c (n := 5) (by decide), q⟩) fun H6 e6 c6 => ?_⟩
  have s6 := cd_is c6
  refine ⟨p5, D6, _, _, rfl, rfl, s6 _ _ upd_same, e6, le_line (by simp), fun p7 n7 => ?_⟩
  have sx : Same Hx (upd H6 p7 (.lst ([.str z] ++ ((List.range' 97 26).map fun c => (⟨#[c]⟩ : Str)).map V.str ++ ((List.range' 97 26).map fun c => Txt.mul ⟨#[c]⟩ 3).map V.str ++ ((List.range' 97 26).map fun c => Txt.mul ⟨#[c]⟩ 5).map V.str))) :=
    (((((same_new n1).trans s2).trans (same_new n3)).trans s4).trans (same_new n5)).trans (s6.trans (same_new n7))
  have eS : ([V.str z] ++ ((List.range' 97 26).map fun c => (⟨#[c]⟩ : Str)).map V.str ++ ((List.range' 97 26).map fun c => Txt.mul ⟨#[c]⟩ 3).map V.str ++ ((List.range' 97 26).map fun c => Txt.mul ⟨#[c]⟩ 5).map V.str) =
      (z :: ((List.range' 97 26).map (fun c => (⟨#[c]⟩ : Str)) ++ (List.range' 97 26).map (fun c => Txt.mul ⟨#[c]⟩ 3) ++ (List.range' 97 26).map (fun c => Txt.mul ⟨#[c]⟩ 5))).map V.str := by
    simp only [List.map_cons, List.map_append, List.singleton_append, List.cons_append, List.nil_append]
  rw [eS] at sx ⊢
  generalize hSd : z :: ((List.range' 97 26).map (fun c => (⟨#[c]⟩ : Str)) ++ (List.range' 97 26).map (fun c => Txt.mul ⟨#[c]⟩ 3) ++ (List.range' 97 26).map (fun c => Txt.mul ⟨#[c]⟩ 5)) = S at sx ⊢
  have hSl : S.length ≤ 4000 := by rw [← hSd]; simp
  have hS0 : ∀ y ∈ S, Nm0 y := fun y hy => by
    rw [← hSd] at hy
    rcases List.mem_cons.mp hy with rfl | hy
    · exact hz
    · rcases List.mem_append.mp hy with hy | hy
      · rcases List.mem_append.mp hy with hy | hy
        · obtain ⟨c, hc, rfl⟩ := List.mem_map.mp hy
          rw [List.mem_range'_1] at hc
          exact (IsNm.one (by omega)).nm0
        · obtain ⟨c, hc, rfl⟩ := List.mem_map.mp hy
          rw [List.mem_range'_1] at hc
          exact mul_nm0 (n := 3) (by omega) (by decide) (by decide)
      · obtain ⟨c, hc, rfl⟩ := List.mem_map.mp hy
        rw [List.mem_range'_1] at hc
        exact mul_nm0 (n := 5) (by omega) (by decide) (by decide)
  have hS1 : ∀ c, 97 ≤ c ∧ c ≤ 122 → (⟨#[c]⟩ : Str) ∈ S := fun c hc => by
    rw [← hSd]
    refine List.mem_cons_of_mem _ (List.mem_append_left _ (List.mem_append_left _ (List.mem_map.mpr ⟨c, ?_, rfl⟩)))
    rw [List.mem_range'_1]
    omega
  refine ⟨_, rfl, p7, rfl, ⟨_, SqL.of upd_same⟩, fun D hD => lc_build (walk_list (K := K) (a := p7) (xs := S.map V.str)) hD (fun i ys R => R = upd H6 p7 (.lst (S.map V.str)) ∧ ys = ((S.take i).filter (keepB us)).map V.str) ⟨rfl, rfl⟩ (fun i ys H2 _ p => SqL.of (cd_is p.1 _ _ upd_same)) ?_ ?_⟩
  · rintro i ys x H2 H2' hi e l ⟨c, rfl⟩ ⟨rfl, hy⟩
    obtain ⟨y, rfl, hy2⟩ := strs_at hy
    rw [List.length_map] at hi
    have hu2 : SqL K H2' u (us.map V.str) := (((hs.trans (ct_same sx)).trans ct_sub).trans (cd_is c)).seq hu
    refine ⟨rfl, _, rfl, rfl, _, rfl, ?_⟩
    obtain ⟨g1, g2⟩ := List.getElem?_eq_some_iff.mp hy2
    have et : (S.take (i + 1)).filter (keepB us) = (S.take i).filter (keepB us) ++ [y].filter (keepB us) := by
      rw [List.take_succ_eq_append_getElem g1, List.filter_append, g2]
    by_cases c1 : y = Str.empty
    · have e1 : keepB us y = false := by unfold keepB; rw [decide_eq_true c1]; rfl
      rw [c1]
      refine iteNS rfl ?_
      refine iteF (LcNx.skip e l ⟨c, ?_⟩)
      rw [et, List.filter_cons_of_neg (by rw [e1]; decide), List.filter_nil, List.append_nil]
    · have e0 : (!decide (V.str y = V.str Str.empty)) = true := by
        rw [decide_eq_false (fun q => c1 (by injection q))]
        rfl
      rw [e0]
      refine iteT ⟨_, rfl, _, rfl, u, _, rfl, .inl hu2, rfl, flat_strs us, _, rfl, ?_⟩
      rw [inV_strs]
      by_cases c2 : y ∈ us
      · have e1 : keepB us y = false := by unfold keepB; rw [decide_eq_true c2, Bool.not_true, Bool.and_false]
        rw [decide_eq_true c2]
        refine iteF (LcNx.skip e l ⟨c, ?_⟩)
        rw [et, List.filter_cons_of_neg (by rw [e1]; decide), List.filter_nil, List.append_nil]
      · have e1 : keepB us y = true := by unfold keepB; rw [decide_eq_false c2, decide_eq_false c1]; rfl
        rw [decide_eq_false c2]
        refine iteT ⟨_, rfl, LcNx.add e l (by omega) ⟨c, ?_⟩⟩
        rw [et, List.filter_cons_of_pos e1, List.filter_nil, List.map_append]
        rfl
  · rintro ys H2 e l ⟨c, rfl⟩
    rw [List.length_map, List.take_length] at e
    obtain ⟨c1, c2, c3, c4⟩ := free_letter hul
    have hmem : (⟨#[c1]⟩ : Str) ∈ S.filter (keepB us) := List.mem_filter.mpr ⟨hS1 c1 ⟨c2, c3⟩, by
      unfold keepB
      rw [decide_eq_false c4, decide_eq_false (fun q => by
        have q2 : (#[c1] : Array Nat) = #[] := congrArg Str.cps q
        exact absurd (congrArg Array.size q2) (show ¬ (1 : Nat) = 0 by decide))]
      rfl⟩
    cases hf : S.filter (keepB us) with
    | nil => rw [hf] at hmem; cases hmem
    | cons y r =>
      rw [hf] at e
      have hy : y ∈ S.filter (keepB us) := by rw [hf]; exact List.mem_cons_self ..
      obtain ⟨hy1, hy2⟩ := List.mem_filter.mp hy
      unfold keepB at hy2
      rw [Bool.and_eq_true, Bool.not_eq_true', Bool.not_eq_true', decide_eq_false_iff_not, decide_eq_false_iff_not] at hy2
      have s9 : Same Hx H2 := sx.trans (cd_is c)
      refine ⟨D, _, _, _, rfl, rfl, SqL.of e, atI_nat (j := 0) rfl, ?_⟩
      exact k y H2 ((hS0 y hy1).nm hy2.1) hy2.2 ((hT.same s9).mono hm) (hs.trans (ct_same s9))
theorem words_at {j : Nat} (h : j < 12) : ∃ z, (([V.str "dim", V.str "sum", V.str "kind", V.str "fact", V.str "forget", V.str "first", V.str "last", V.str "day", V.str "before", V.str "none", V.str "known", V.str "ok"] : List V)[j]? = some (.str z)) ∧ IsNm z := by
  have h1 : ∀ z ∈ (["dim", "sum", "kind", "fact", "forget", "first", "last", "day", "before", "none", "known", "ok"] : List Str), nmB z = true := by decide +kernel
  have h2 : (["dim", "sum", "kind", "fact", "forget", "first", "last", "day", "before", "none", "known", "ok"] : List Str)[j]? = some ((["dim", "sum", "kind", "fact", "forget", "first", "last", "day", "before", "none", "known", "ok"] : List Str)[j]'h) := List.getElem?_eq_getElem h
  refine ⟨_, ?_, nm_iff.mp (h1 _ (List.getElem_mem h))⟩
  have h3 := congrArg (Option.map V.str) h2
  rw [← List.getElem?_map] at h3
  exact h3
theorem Low.ok {z : Str} (h : Low z) : PyData.strOk z = true := by
  unfold PyData.strOk
  rw [Array.all_eq_true']
  intro c hc
  have := h c (Array.mem_toList_iff.mpr hc)
  exact decide_eq_true (by omega)
theorem lay_strs : ∀ xs : List Str, (∀ z ∈ xs, Low z) → PyData.canLayAll0 (xs.map PyData.str) = true ∧ PyData.depthAll (xs.map PyData.str) = 0
  | [], _ => ⟨rfl, rfl⟩
  | x :: xs, h => by
    obtain ⟨h1, h2⟩ := lay_strs xs fun z hz => h z (List.mem_cons_of_mem _ hz)
    have h3 := (h x (List.mem_cons_self ..)).ok
    constructor
    · simp only [List.map_cons, PyData.canLayAll0, PyData.canLay0, h1, h3, Bool.and_self]
    · simp only [List.map_cons, PyData.depthAll, PyData.depth, h2, Nat.max_self]
theorem shaped_strs (xs : List Str) (h : ∀ z ∈ xs, Low z) : SeqAt.shaped (.list (xs.map PyData.str)) = true := by
  obtain ⟨h1, h2⟩ := lay_strs xs h
  simp [SeqAt.shaped, PyData.canLay0, PyData.depth, h1, h2]
theorem ok_name {fD : Addr} {fdD : FuncData} (F : FnP K "_law_name" "_law_name" s_l_name f fd) (GD : FnOk P w K mg base CX0 1 fD fdD ["tray", "many"] spDraw) (kD : PySem.W.keepIn K (.ref fD) = true) (bD : Binds K fdD ["tray", "many"] []) (gD : mg "_law_draw" = some (.ref fD)) (gr : mg "range" = none) (ge : mg "len" = none) :
    FnOk P w K mg base CX0 2 f fd ["tray", "used"] (spName K) := by
  refine F.ok sc_name (fun vs H Q E h => ?_) (fun cdv A outer s H vs Q E hr h => ?_)
  · obtain ⟨a, g, u, n, us, rfl, _⟩ := h
    rfl
  · obtain ⟨a, g, u, n, us, rfl, hT, hn, hu, hul, hus, k⟩ := h
    have nd := sc_name.nd
    refine ⟨_, PSs.nox (pss_cons (ps_set (i := 2) nd rfl (Or.inr rfl) pe_str)
      (pss_cons (ps_set (i := 3) nd rfl (Or.inl rfl) (pe_call GD hr rfl gD kD bD .nil pass0 (pa_cons (pv 0) (pa_cons pe_int pa_nil))))
      (pss_cons (ps_set (i := 4) nd rfl (Or.inl rfl) (pe_ix ix_str (pv 2) (pe_call GD hr rfl gD kD bD .nil pass0 (pa_cons (pv 0) (pa_cons pe_int pa_nil))) (fun _ _ => rfl)))
      (pss_cons (ps_set (i := 6) nd rfl (Or.inl rfl) (pe_join pe_str (pe_lc (own := [("k", 5)]) (g := gName 5) (tt := tYes) (te := tOp rIxS (tVar 2) (tDraw 26)) rfl nd (pi_range1 rfl gr (pa_cons (pe_op op_add pe_int (pe_call GD hr rfl gD kD bD .nil pass0 (pa_cons (pv 0) (pa_cons pe_int pa_nil)))) pa_nil)) (blkOk_by (own := [("k", 5)]) (N := nmN) (sc := defScope s_l_name) (by decide +kernel))
        (fun _ _ _ _ _ => pg_name (i := 5) nd rfl (Or.inl rfl)) (fun _ _ _ _ _ => pts_nil) (fun _ _ _ _ _ => pe_ix ix_str (pv 2) (pe_call GD hr rfl gD kD bD .nil pass0 (pa_cons (pv 0) (pa_cons pe_int pa_nil))) (fun _ _ => rfl)))))
      (pss_cons (ps_if (pt_cmpR op_eq (pv 3) pe_int (nomark _))
        (pss_cons (ps_set (i := 7) nd rfl (Or.inl rfl) (pe_lst (pa_cons pe_str (pa_cons pe_str (pa_cons pe_str (pa_cons pe_str (pa_cons pe_str (pa_cons pe_str (pa_cons pe_str (pa_cons pe_str (pa_cons pe_str (pa_cons pe_str (pa_cons pe_str (pa_cons pe_str pa_nil))))))))))))))
        (pss_one (ps_set (i := 6) nd rfl (Or.inl rfl) (pe_ix ix_list (pv 7) (pe_call GD hr rfl gD kD bD .nil pass0 (pa_cons (pv 0) (pa_cons pe_int pa_nil))) (fun _ _ => rfl)))))
        (pss_one (ps_if (PW.pt (pw_and (pt_cmpR op_gt (pv 3) pe_int (nomark _)) (pw_and1 (pt_cmpR (op_neD hr.units) (pv 1) (pe_lst pa_nil) (nomark _)))))
          (pss_cons (ps_set (i := 8) nd rfl (Or.inl rfl) (pe_ix ix_list (pv 1) (pe_call GD hr rfl gD kD bD .nil pass0 (pa_cons (pv 0) (pa_cons (pe_callB call_len_seq (by rfl) ge boot_len (pa_cons (pv 1) pa_nil)) pa_nil))) (fun _ _ => rfl)))
          (pss_cons (ps_set (i := 9) nd rfl (Or.inl rfl) (pe_call GD hr rfl gD kD bD .nil pass0 (pa_cons (pv 0) (pa_cons (pe_op op_add (pe_callB call_len_str (by rfl) ge boot_len (pa_cons (pv 8) pa_nil)) pe_int) pa_nil))))
          (pss_one (ps_set (i := 6) nd rfl (Or.inl rfl) (pe_slice sl_str (pe_op op_add_str (pe_op op_add_str (pe_slice sl_str (pv 8) po_none (po_some (pv 9))) (pe_ix ix_list (pe_lst (pa_cons (pv 4) (pa_cons (pv 4) (pa_cons pe_str pa_nil)))) (pe_op op_sub (pv 3) pe_int) (fun _ _ => rfl)))
            (pe_slice sl_str (pv 8) (po_some (pe_op op_add (pv 9) (pe_ix ix_list (pe_lst (pa_cons pe_int (pa_cons pe_int (pa_cons pe_int pa_nil)))) (pe_op op_sub (pv 3) pe_int) (fun _ _ => rfl)))) po_none)) po_none (po_some pe_int)))))) pss_nil)))
      (pss_cons (ps_set (i := 11) nd rfl (Or.inl rfl) (pe_op op_cat (pe_op op_cat (pe_op op_cat (pe_lst (pa_cons (pv 6) pa_nil))
          (pe_lc (own := [("one", 10)]) (g := gName 10) (tt := tYes) rfl nd (pi_str (pv 2)) (blkOk_by (own := [("one", 10)]) (N := nmN) (sc := defScope s_l_name) (by decide +kernel)) (fun _ _ _ _ _ => pg_name (i := 10) nd rfl (Or.inl rfl)) (fun _ _ _ _ _ => pts_nil) (fun _ _ _ _ _ => pv 10)))
          (pe_lc (own := [("one", 10)]) (g := gName 10) (tt := tYes) (te := tOp rMulS (tVar 10) (tC (.int 3))) rfl nd (pi_str (pv 2)) (blkOk_by (own := [("one", 10)]) (N := nmN) (sc := defScope s_l_name) (by decide +kernel)) (fun _ _ _ _ _ => pg_name (i := 10) nd rfl (Or.inl rfl)) (fun _ _ _ _ _ => pts_nil) (fun _ _ _ _ _ => pe_op op_rep_str (pv 10) pe_int)))
          (pe_lc (own := [("one", 10)]) (g := gName 10) (tt := tYes) (te := tOp rMulS (tVar 10) (tC (.int 5))) rfl nd (pi_str (pv 2)) (blkOk_by (own := [("one", 10)]) (N := nmN) (sc := defScope s_l_name) (by decide +kernel)) (fun _ _ _ _ _ => pg_name (i := 10) nd rfl (Or.inl rfl)) (fun _ _ _ _ _ => pts_nil) (fun _ _ _ _ _ => pe_op op_rep_str (pv 10) pe_int))))
      (pss_one (ps_ret (pe_ix ix_list (pe_lc (own := [("one", 10)]) (g := gName 10) (tt := tAnd (tTest (tOp rNe (tVar 10) (tC (.str Str.empty)))) (tTest (tOp (rIn K true) (tVar 10) (tVar 1)))) rfl nd (pi_list (pv 11)) (blkOk_by (own := [("one", 10)]) (N := nmN) (sc := defScope s_l_name) (by decide +kernel)) (fun _ _ _ _ _ => pg_name (i := 10) nd rfl (Or.inl rfl))
          (fun _ _ _ _ _ => pts_one (PW.pt (pw_and (pt_cmpR op_ne (pv 10) pe_str (nomark _)) (pw_and1 (pt_cmpR op_notIn_seq (pv 10) (pv 1) (by rfl)))))) (fun _ _ _ _ _ => pv 10)) pe_int (fun _ _ => rfl)))))))))), ?_⟩
    refine ⟨_, rfl, a, g, n, 5, rfl, hT, by omega, by decide, by decide, fun lot H1 l0 l1 T1 s1 => ?_⟩
    refine ⟨_, rfl, _, rfl, a, g, n + 1, 26, rfl, T1, by omega, by decide, by decide, fun cl H2 c0 c1 T2 s2 => ?_⟩
    obtain ⟨jl, rfl⟩ : ∃ j : Nat, cl = (j : Int) := ⟨cl.toNat, by omega⟩
    refine ⟨abc, _, _, rfl, rfl, le_line (by rw [abc_len]; decide), atI_nat (abc_at (by omega)), ?_⟩
    refine ⟨⟨_, rfl⟩, _, rfl, a, g, n + 1 + 1, 8, rfl, T2, by omega, by decide, by decide, fun r H3 r0 r1 T3 s3 => ?_⟩
    obtain ⟨jr, rfl⟩ : ∃ j : Nat, r = (j : Int) := ⟨r.toNat, by omega⟩
    refine ⟨_, _, rfl, rfl, _, rfl, by omega, by omega, fun D hD => ?_⟩
    have eN : ((1 : Int) + (jr : Int)).toNat = 1 + jr := by omega
    rw [eN]
    obtain ⟨nDa, nDg⟩ := T3.na hD
    refine lc_build (walk_range (lo := 0)) hD (fun i ys R => ∃ parts : List Str, ys = parts.map V.str ∧ parts.length = i ∧ (∀ z ∈ parts, z.length = 1 ∧ Low z) ∧ Tray R a g (n + 3 + i) ∧ Same (ct a g H3) (ct a g R)) ⟨[], rfl, rfl, fun _ h => (nomatch h), T3.mono (by omega), Same.refl _⟩ (fun _ _ _ _ _ => trivial) ?_ ?_
    · rintro i ys x Ha Hb hi e l ⟨parts, rfl, lp, pz, Tp, sp⟩ ⟨rfl, rfl⟩
      refine ⟨rfl, yes ?_⟩
      refine ⟨_, rfl, _, rfl, a, g, n + 3 + i, 26, rfl, Tp.same cd_sub, by omega, by decide, by decide, fun ch Hc h0 h1 Tc sc => ?_⟩
      obtain ⟨jc, rfl⟩ : ∃ j : Nat, ch = (j : Int) := ⟨ch.toNat, by omega⟩
      refine ⟨abc, _, _, rfl, rfl, le_line (by rw [abc_len]; decide), atI_nat (abc_at (by omega)), LcNx.add (ctkeep sc e nDa nDg) l (by omega) ⟨parts ++ [⟨#[97 + jc]⟩], by rw [List.map_append]; rfl, by rw [List.length_append]; show parts.length + 1 = i + 1; omega, fun z hz => ?_, (Tc.cd nDa nDg).mono (by omega), ctcd hD sp sc⟩⟩
      rcases List.mem_append.mp hz with hz | hz
      · exact pz z hz
      · rw [List.mem_singleton.mp hz]
        exact ⟨rfl, Low.one (by omega)⟩
    · rintro ys H4 e l ⟨parts, rfl, lp, pz, Tp, sp⟩
      obtain ⟨jlow, jlen⟩ := joined (y := Str.ofString "") (by decide +kernel) parts (fun z hz => (pz z hz).1) fun z hz => (pz z hz).2
      refine ⟨_, D, parts, rfl, rfl, .inl (SqL.of e), ?_, ?_⟩
      · rw [sum_ones parts fun z hz => (pz z hz).1]
        have e0 : (Str.ofString "").length = 0 := by decide +kernel
        rw [e0]
        omega
      have T4 : Tray H4 a g (n + 11) := (Tp.same cd_sub).mono (by omega)
      have s4 : Same (ct a g H) (ct a g H4) := ((s1.trans s2).trans s3).trans (sp.trans (ct_same cd_sub))
      have hu4 : SqL K H4 u (us.map V.str) := (s4.trans ct_sub).seq hu
      have hu4' : ∀ {p o}, H4 p = none → SqL K (upd H4 p o) u (us.map V.str) := fun h => (same_new h).seq hu4
      have hz4 : Nm0 (Txt.join (Str.ofString "") parts) := ⟨jlow, by omega⟩
      refine ⟨_, rfl, rfl, _, rfl, ?_⟩
      refine ite2 (fun c4 => ?_) (fun c4 => ?_)
      · refine ⟨by show 12 ≤ sizeLine; decide, fun pw nw => ?_⟩
        obtain ⟨nwa, nwg⟩ := T4.na nw
        refine ⟨_, rfl, _, rfl, a, g, n + 11, 12, rfl, T4.new nw, by omega, by decide, by decide, fun q H5 q0 q1 T5 s5 => ?_⟩
        obtain ⟨jq, rfl⟩ : ∃ j : Nat, q = (j : Int) := ⟨q.toNat, by omega⟩
        obtain ⟨wz, w1, w2⟩ := words_at (j := jq) (by omega)
        refine ⟨pw, _, _, _, rfl, rfl, SqL.of (ctkeep s5 upd_same nwa nwg), atI_nat w1, ?_⟩
        exact tail_ok (T5) (by omega) hu ((s4.trans (ctnew nw)).trans s5) hul w2.nm0 k
      · refine ⟨_, rfl, _, _, rfl, rfl, _, rfl, ?_⟩
        have c4 : ¬ lot = 4 := fun q => c4 (decide_eq_true (congrArg V.int q))
        refine ite2 (fun c5 => ?_) (fun c5 => ?_)
        · have c5 : 0 < lot := of_decide_eq_true c5
          refine ⟨_, rfl, by show 0 ≤ sizeLine; decide, fun pe ne => ?_⟩
          refine ⟨.list (us.map PyData.str), .list [], .lst ((hu4' ne)) (DpAll.strs us), .lst (SqL.of upd_same) .nil, shaped_strs us (fun z hz => (hus z hz).low), by decide, _, rfl, ?_⟩
          cases us with
          | nil =>
            refine iteF ?_
            exact tail_ok (T4.new ne) (by omega) hu (s4.trans (ctnew ne)) hul hz4 k
          | cons y0 yr =>
            refine iteT ?_
            have l1 : ((y0 :: yr).map V.str).length = (y0 :: yr).length := List.length_map ..
            refine ⟨_, rfl, _, rfl, _, rfl, u, _, rfl, .inl (hu4' ne), a, g, n + 11, _, rfl, T4.new ne, by omega, by rw [l1]; show (0 : Int) < ((yr.length + 1 : Nat) : Int); omega, by rw [l1]; omega, fun q H5 q0 q1 T5 s5 => ?_⟩
            obtain ⟨jq, rfl⟩ : ∃ j : Nat, q = (j : Int) := ⟨q.toNat, by omega⟩
            have hjq : jq < (y0 :: yr).length := by rw [l1] at q1; omega
            have s45 : Same (ct a g H) (ct a g H5) := (s4.trans (ctnew ne)).trans s5
            have hold := hus _ (List.getElem_mem hjq)
            generalize ho : (y0 :: yr)[jq] = old at hold
            have go : ((y0 :: yr).map V.str)[jq]? = some (.str old) := by rw [List.getElem?_map, List.getElem?_eq_getElem hjq, ho]; rfl
            refine ⟨u, _, _, _, rfl, rfl, (s45.trans ct_sub).seq hu, atI_nat go, ?_⟩
            have lo8 := hold.le8
            refine ⟨_, rfl, _, rfl, old, rfl, le_line (by omega), _, _, rfl, rfl, a, g, n + 11 + 1, _, rfl, T5, by omega, by omega, by omega, fun at_ H6 a0 a1 T6 s6 => ?_⟩
            have l31 : lot = 1 ∨ lot = 2 ∨ lot = 3 := by omega
            have sz0 : ∀ lo hi, (cutS old lo hi).length ≤ 8 := fun lo hi => Nat.le_trans (cutS_length old lo hi) lo8
            have fin : ∀ (t : Str) (lo : Int), Low t → Nm0 (cutS (cutS old none (some at_) ++ t ++ cutS old (some lo) none) none (some 8)) := fun t lo ht => ⟨(((hold.low.cut _ _).append ht).append (hold.low.cut _ _)).cut _ _, cut8 _⟩
            have ll : Low (⟨#[97 + jl]⟩ : Str) := Low.one (by omega)
            have le0 : Low (Str.ofString "") := fun c hc => by
              have e0 : (Str.ofString "").cps.toList = [] := by decide +kernel
              rw [e0] at hc
              cases hc
            have lz0 : (Str.ofString "").length = 0 := by decide +kernel
            have sz1 := sz0 none (some at_)
            rcases l31 with rfl | rfl | rfl
            all_goals
              refine ⟨_, rfl, _, rfl, _, rfl, old, rfl, le_line (by omega), _, rfl, _, rfl, by show 3 ≤ sizeLine; decide, fun p8 n8 => ?_⟩
              refine ⟨_, rfl, _, _, rfl, rfl, p8, _, _, _, rfl, rfl, SqL.of upd_same, rfl, _, _, rfl, rfl, le_line (by first | (show (cutS old none (some at_)).length + 1 ≤ 4000; omega) | (rw [lz0]; omega)), ?_⟩
              refine ⟨_, rfl, _, rfl, by show 3 ≤ sizeLine; decide, fun p9 n9 => ?_⟩
              refine ⟨_, rfl, _, _, rfl, rfl, p9, _, _, _, rfl, rfl, SqL.of upd_same, rfl, _, _, rfl, rfl, _, rfl, old, rfl, le_line (by omega), _, _, rfl, rfl, ?_, ?_⟩
              · refine le_line ?_
                have := sz0 (some (at_ + 0)) none
                have := sz0 (some (at_ + 1)) none
                rw [len_append]
                first | (show (cutS old none (some at_)).length + 1 + _ ≤ 4000; omega) | (rw [lz0]; omega)
              · refine ⟨_, rfl, _, rfl, ?_, ?_⟩
                · refine le_line ?_
                  have := sz0 (some (at_ + 0)) none
                  have := sz0 (some (at_ + 1)) none
                  rw [len_append, len_append]
                  first | (show (cutS old none (some at_)).length + 1 + _ ≤ 4000; omega) | (rw [lz0]; omega)
                · exact tail_ok ((T6.new n8).new n9) (by omega) hu (((s45.trans s6).trans (ctnew n8)).trans (ctnew n9)) hul (fin _ _ (by first | exact ll | exact le0)) k
        · exact tail_ok T4 (by omega) hu s4 hul hz4 k
end
end Kd

namespace Kd
open PySem PySem.Spec PyProof.Rows L2
section
variable {P : Program} {w : World} {K : PySem.W.Frag} {mg : Str → Option Value} {base : Heap} {f : Addr} {fd : FuncData}
/-- a change at an object that was not there ahead -/
theorem ctupd {a g l : Addr} {H0 H : Hp} {o : HO} (s : Same (ct a g H0) (ct a g H)) (hl : H0 l = none) (ha : l ≠ a) (hg : l ≠ g) : Same (ct a g H0) (ct a g (upd H l o)) := by
  rw [ct_upd ha hg]
  exact Same.upd s (ct_none hl)
theorem Tray.updo {a g l : Addr} {H : Hp} {o : HO} {n : Nat} (t : Tray H a g n) (ha : l ≠ a) (hg : l ≠ g) : Tray (upd H l o) a g n := by
  obtain ⟨c, f, k, gs, h1, h2, h3⟩ := t.ex
  exact ⟨c, f, k, gs, by rw [upd_ne ha.symm]; exact h1, by rw [upd_ne hg.symm]; exact h2, h3⟩
def spNames (K : PySem.W.Frag) : Sp := fun vs H Q _ => ∃ (a g : Addr) (n : Nat) (many : Nat), vs = [.ref a, .int (many : Int)] ∧ Tray H a g n ∧ n ≤ 800000 ∧ many ≤ 10 ∧
  ∀ (l : Addr) (xs : List Str) (H' : Hp), H l = none → H' l = some (.lst (xs.map V.str)) → xs.length = many → (∀ z ∈ xs, IsNm z) → xs.Nodup → Tray H' a g (n + 13 * many) → Same (ct a g H) (ct a g H') → Q (.ref l) H'
theorem sc_names : FnScope ["tray", "many", "found", "k"] ["tray", "many"] (defScope s_l_names) := ⟨rfl, rfl, rfl, by decide +kernel, rfl, by decide +kernel, by decide +kernel⟩
theorem ok_names {fN : Addr} {fdN : FuncData} (F : FnP K "_law_names" "_law_names" s_l_names f fd) (GN : FnOk P w K mg base CX0 2 fN fdN ["tray", "used"] (spName K)) (kN : PySem.W.keepIn K (.ref fN) = true) (bN : Binds K fdN ["tray", "used"] []) (gN : mg "_law_name" = some (.ref fN)) (gr : mg "range" = none) :
    FnOk P w K mg base CX0 3 f fd ["tray", "many"] (spNames K) := by
  refine F.ok sc_names (fun vs H Q E h => ?_) (fun cdv A outer s H vs Q E hr h => ?_)
  · obtain ⟨a, g, n, many, rfl, _⟩ := h
    rfl
  · obtain ⟨a, g, n, many, rfl, hT, hn, hm, k⟩ := h
    have nd := sc_names.nd
    refine ⟨_, PSs.nox (pss_cons (ps_set (i := 2) nd rfl (Or.inl rfl) (pe_lst pa_nil))
      (pss_cons (ps_for PassesOwn.never rfl (pi_range1 rfl gr (pa_cons (pv 1) pa_nil)) (pg_name (i := 3) nd rfl (Or.inl rfl))
        (pss_one (ps_expr (pe_bm PySem.F.plainAttrs_list PySem.F.slot_list_append PySem.F.type_list_append mt_append (pv 2) (pa_cons (pe_call GN hr rfl gN kN bN .nil pass0 (pa_cons (pv 0) (pa_cons (pv 2) pa_nil))) pa_nil)))))
      (pss_one (ps_ret (pv 2))))), ?_⟩
    refine ⟨by show 0 ≤ sizeLine; decide, fun l hl => ?_⟩
    obtain ⟨nla, nlg⟩ := hT.na hl
    refine ⟨_, rfl, _, rfl, by omega, by omega, ?_⟩
    rw [Int.toNat_natCast]
    refine for_range (lo := 0) (n := many) (fun i σ H2 => ∃ (xs : List Str) (u : Option V), σ = [some (.ref a), some (.int many), some (.ref l), u] ∧ H2 l = some (.lst (xs.map V.str)) ∧ xs.length = i ∧ (∀ z ∈ xs, IsNm z) ∧ xs.Nodup ∧ Tray H2 a g (n + 13 * i) ∧ Same (ct a g H) (ct a g H2))
      ⟨[], _, rfl, upd_same, rfl, fun _ h => (nomatch h), List.nodup_nil, hT.new hl, ctnew hl⟩ ?_ ?_
    · rintro i σ H2 hi ⟨xs, u, rfl, h2, lx, hx, hd, T2, s2⟩
      refine ⟨_, rfl, .inl ⟨rfl, _, SqL.of h2⟩, _, rfl, _, rfl, a, g, l, n + 13 * i, xs, rfl, T2, by omega, SqL.of (ct_of h2 nla nlg), by omega, hx, fun z H3 hz hz2 T3 s3 => ?_⟩
      have h3 := ctkeep s3 h2 nla nlg
      refine ⟨l, _, _, rfl, rfl, h3, small1000 (by rw [List.length_map]; omega), ?_⟩
      refine ⟨xs ++ [z], _, rfl, by rw [upd_same, List.map_append]; rfl, by rw [List.length_append]; show xs.length + 1 = i + 1; omega, fun y hy => ?_, ?_, (T3.updo nla nlg).mono (by omega), ctupd (s2.trans s3) hl nla nlg⟩
      · rcases List.mem_append.mp hy with hy | hy
        · exact hx y hy
        · rw [List.mem_singleton.mp hy]
          exact hz
      · refine List.nodup_append.mpr ⟨hd, List.nodup_cons.mpr ⟨List.not_mem_nil, List.nodup_nil⟩, fun y hy q hq e => hz2 ?_⟩
        rw [List.mem_singleton.mp hq] at e
        rw [← e]
        exact hy
    · rintro σ H2 ⟨xs, u, rfl, h2, lx, hx, hd, T2, s2⟩
      exact ⟨_, rfl, k l xs H2 hl h2 lx hx hd T2 s2⟩
/-! ### what is drawn is a plan -/
structure Good (ds : List (Str × List (Str × Str))) (ms : List Str) : Prop where
  d1 : 1 ≤ ds.length
  d4 : ds.length ≤ 4
  dn : ∀ d ∈ ds, IsNm d.1
  du : (ds.map (·.1)).Nodup
  al : ∀ d ∈ ds, d.2.length ≤ 5
  an : ∀ d ∈ ds, ∀ a ∈ d.2, IsNm a.1 ∧ IsWay a.2
  au : ∀ d ∈ ds, (d.2.map (·.1)).Nodup
  m4 : ms.length ≤ 4
  mn : ∀ m ∈ ms, IsNm m
  mu : ms.Nodup
theorem flt_false {xs : List Str} {m : Int} (h1 : (xs.length : Int) ≤ m) (h2 : ∀ z ∈ xs, IsNm z) (h3 : xs.Nodup) : fltB xs m = false := by
  unfold fltB
  rw [KdS.dcn_nodup h3 xs.length (Nat.le_refl _), decide_eq_false (by omega), decide_eq_false (by omega), List.all_eq_true.mpr (fun z hz => nm_iff.mpr (h2 z hz))]
  rfl
theorem Good.ff {ds : List (Str × List (Str × Str))} {ms : List Str} (h : Good ds ms) : ffV ds ms = .non := by
  have e1 : ds.isEmpty = false := by
    cases ds with
    | nil => exact absurd h.d1 (by decide)
    | cons _ _ => rfl
  have e2 : fltB (ds.map (·.1)) 4 = false := flt_false (by rw [List.length_map]; have := h.d4; omega) (fun z hz => by
    obtain ⟨d, hd, rfl⟩ := List.mem_map.mp hz
    exact h.dn d hd) h.du
  have e3 : ds.any (fun d => fltB (d.2.map (·.1)) 5) = false := by
    rw [List.any_eq_false]
    intro d hd
    rw [flt_false (by rw [List.length_map]; have := h.al d hd; omega) (fun z hz => by
      obtain ⟨a, ha, rfl⟩ := List.mem_map.mp hz
      exact (h.an d hd a ha).1) (h.au d hd)]
    decide
  have e4 : fltB ms 4 = false := flt_false (by have := h.m4; omega) h.mn h.mu
  unfold ffV
  rw [e1, e2, e3, e4]
  rfl
theorem Good.szd {ds : List (Str × List (Str × Str))} {ms : List Str} (h : Good ds ms) : Szd ds ms where
  dl := by have := h.d4; omega
  dn := fun d hd => ⟨by have := (h.dn d hd).le8; omega, by have := h.al d hd; omega, fun a ha => by have := (h.an d hd a ha).1.le8; omega⟩
  ml := by have := h.m4; omega
  mn := fun m hm => by have := (h.mn m hm).le8; omega
end
end Kd

namespace Kd
open PySem PySem.Spec PyProof.Rows L2
section
variable {P : Program} {w : World} {K : PySem.W.Frag} {mg : Str → Option Value} {base : Heap} {f : Addr} {fd : FuncData}
/-- a tracked list of dimensions -/
def DimsTr (K : PySem.W.Frag) (H : Hp) (l : Addr) (ds : List (Str × List (Str × Str))) : Prop := ∃ xs, H l = some (.lst xs) ∧ Paired (DimAt K H) xs ds
/-- what lists hands back: l a list of ds, m one of ms, no part of the tray -/
structure Lsts (K : PySem.W.Frag) (H : Hp) (a g l m : Addr) (ds : List (Str × List (Str × Str))) (ms : List Str) : Prop where
  dl : DimsTr K (ct a g H) l ds
  ml : ct a g H m = some (.lst (ms.map V.str))
  ok : Good ds ms
/-! tuples do not lean on lists -/
theorem seqT_list {H : Hp} {l r : Addr} {L xs : List V} (hl : H l = some (.lst L)) (h : SqT K H r xs) : SqT K (cd l H) r xs := by
  rcases h with (q | ⟨o, q⟩) | q
  · exact .inl (.inl (cd_of q (ne_of q hl (fun z => nomatch z))))
  · exact .inl (.inr ⟨o, cd_of q (ne_of q hl (fun z => nomatch z))⟩)
  · exact .inr q
theorem seqT_ct {H : Hp} {a g r : Addr} {n : Nat} {xs : List V} (t : Tray H a g n) (h : SqT K H r xs) : SqT K (ct a g H) r xs := by
  obtain ⟨c, f, k, gs, h1, h2, _⟩ := t.ex
  rcases h with (q | ⟨o, q⟩) | q
  · exact .inl (.inl (ct_of q (ne_of q h1 (fun z => nomatch z)) (ne_of q h2 (fun z => nomatch z))))
  · exact .inl (.inr ⟨o, ct_of q (ne_of q h1 (fun z => nomatch z)) (ne_of q h2 (fun z => nomatch z))⟩)
  · exact .inr q
theorem att_list {H : Hp} {l : Addr} {L : List V} {y : V} {d : Str × Str} (hl : H l = some (.lst L)) : AttAt K H y d → AttAt K (cd l H) y d := fun ⟨r, e1, e2⟩ => ⟨r, e1, seqT_list hl e2⟩
theorem dim_list {H : Hp} {l : Addr} {L : List V} {y : V} {d : Str × List (Str × Str)} (hl : H l = some (.lst L)) : DimAt K H y d → DimAt K (cd l H) y d :=
  fun ⟨p, q, h1, h2, zs, h3, h4⟩ => ⟨p, q, h1, seqT_list hl h2, zs, seqT_list hl h3, PySem.Paired.mono (fun _ _ => att_list hl) h4⟩
theorem att_ct {H : Hp} {a g : Addr} {n : Nat} {y : V} {d : Str × Str} (t : Tray H a g n) : AttAt K H y d → AttAt K (ct a g H) y d := fun ⟨r, e1, e2⟩ => ⟨r, e1, seqT_ct t e2⟩
theorem dim_ct {H : Hp} {a g : Addr} {n : Nat} {y : V} {d : Str × List (Str × Str)} (t : Tray H a g n) : DimAt K H y d → DimAt K (ct a g H) y d :=
  fun ⟨p, q, h1, h2, zs, h3, h4⟩ => ⟨p, q, h1, seqT_ct t h2, zs, seqT_ct t h3, PySem.Paired.mono (fun _ _ => att_ct t) h4⟩
/-- over a draw -/
theorem dim_draw {H H' : Hp} {a g : Addr} {n : Nat} {y : V} {d : Str × List (Str × Str)} (t : Tray H a g n) (s : Same (ct a g H) (ct a g H')) (h : DimAt K H y d) : DimAt K H' y d := (dim_ct t h).same (s.trans ct_sub)
/-- over a store to a list -/
theorem dim_store {H : Hp} {l : Addr} {L : List V} {o : HO} {y : V} {d : Str × List (Str × Str)} (hl : H l = some (.lst L)) (h : DimAt K H y d) : DimAt K (upd H l o) y d :=
  (dim_list hl h).same fun b u e => by rw [upd_ne (ct_ne e).1]; exact cd_sub _ _ e
theorem ctcd2 {a g l : Addr} {H H' : Hp} (s : Same (ct a g H) (ct a g H')) : Same (ct a g (cd l H)) (ct a g (cd l H')) := fun b o e => by
  obtain ⟨na, ng⟩ := ct_ne e
  have e2 := ct_sub _ _ e
  exact ct_of (cd_of (ct_sub _ _ (s b o (ct_of (cd_sub _ _ e2) na ng))) (ct_ne e2).1) na ng
def AttOk (ds : List (Str × List (Str × Str))) : Prop := ∀ d ∈ ds, d.2.length ≤ 5 ∧ (∀ a ∈ d.2, IsNm a.1 ∧ IsWay a.2) ∧ (d.2.map (·.1)).Nodup
theorem ways_at {j : Nat} (h : j < 5) : ∃ z, (([V.str "first", V.str "last", V.str "day", V.str "day", V.str "before"] : List V)[j]? = some (.str z)) ∧ IsWay z := by
  have h1 : ∀ z ∈ (["first", "last", "day", "day", "before"] : List Str), z ∈ (["first", "last", "day", "before"] : List Str) := by decide +kernel
  have h2 : (["first", "last", "day", "day", "before"] : List Str)[j]? = some ((["first", "last", "day", "day", "before"] : List Str)[j]'h) := List.getElem?_eq_getElem h
  refine ⟨_, ?_, h1 _ (List.getElem_mem h)⟩
  have h3 := congrArg (Option.map V.str) h2
  rw [← List.getElem?_map] at h3
  exact h3
theorem two_at {wide : Nat} (hw : wide ≤ 1) (x y : Nat) : ∃ v : Nat, atI [V.int (x : Int), V.int (y : Int)] (wide : Int) = some (.int (v : Int)) ∧ (v = x ∨ v = y) := by
  have : wide = 0 ∨ wide = 1 := by omega
  rcases this with rfl | rfl
  · exact ⟨x, atI_nat (j := 0) rfl, .inl rfl⟩
  · exact ⟨y, atI_nat (j := 1) rfl, .inr rfl⟩
def spLists (K : PySem.W.Frag) : Sp := fun vs H Q _ => ∃ (a g : Addr) (n most : Nat) (wide : Nat), vs = [.ref a, .int (most : Int), .int (wide : Int)] ∧ Tray H a g n ∧ n ≤ 700000 ∧ 1 ≤ most ∧ most ≤ 4 ∧ wide ≤ 1 ∧
  ∀ (r l m : Addr) (ds : List (Str × List (Str × Str))) (ms : List Str) (H' : Hp), ct a g H' r = some (.lst [.ref l, .ref m]) → Lsts K H' a g l m ds ms → Tray H' a g (n + 420) → Same (ct a g H) (ct a g H') → Q (.ref r) H'
abbrev liN : List Str := ["tray", "most", "wide", "found", "name", "some", "one", "ways", "k"]
theorem sc_lists : FnScope liN ["tray", "most", "wide"] (defScope s_l_lists) := ⟨rfl, rfl, rfl, by decide +kernel, rfl, by decide +kernel, by decide +kernel⟩
theorem ok_lists {fD fN : Addr} {fdD fdN : FuncData} (F : FnP K "_law_lists" "_law_lists" s_l_lists f fd) (GD : FnOk P w K mg base CX0 1 fD fdD ["tray", "many"] spDraw) (kD : PySem.W.keepIn K (.ref fD) = true) (bD : Binds K fdD ["tray", "many"] []) (gD : mg "_law_draw" = some (.ref fD))
    (GN : FnOk P w K mg base CX0 3 fN fdN ["tray", "many"] (spNames K)) (kN : PySem.W.keepIn K (.ref fN) = true) (bN : Binds K fdN ["tray", "many"] []) (gN : mg "_law_names" = some (.ref fN)) (gr : mg "range" = none) (ge : mg "len" = none) (gt : mg "tuple" = none) :
    FnOk P w K mg base CX0 4 f fd ["tray", "most", "wide"] (spLists K) := by
  refine F.ok sc_lists (fun vs H Q E h => ?_) (fun cdv A outer s H vs Q E hr h => ?_)
  · obtain ⟨a, g, n, most, wide, rfl, _⟩ := h
    rfl
  · obtain ⟨a, g, n, most, wide, rfl, hT, hn, m1, m4, hw, k⟩ := h
    have nd := sc_lists.nd
    have hr1 : Room 1 _ := hr.mono (by decide)
    refine ⟨_, PSs.nox (pss_cons (ps_set (i := 3) nd rfl (Or.inl rfl) (pe_lst pa_nil))
      (pss_cons (ps_for PassesOwn.never rfl (pi_list (pe_call GN hr rfl gN kN bN .nil pass0 (pa_cons (pv 0) (pa_cons (pe_op op_add pe_int (pe_call GD hr1 rfl gD kD bD .nil pass0 (pa_cons (pv 0) (pa_cons (pv 1) pa_nil)))) pa_nil)))) (pg_name (i := 4) nd rfl (Or.inl rfl))
        (pss_cons (ps_set (i := 5) nd rfl (Or.inr rfl) (pe_call GN hr rfl gN kN bN .nil pass0 (pa_cons (pv 0) (pa_cons (pe_call GD hr1 rfl gD kD bD .nil pass0 (pa_cons (pv 0) (pa_cons (pe_ix ix_list (pe_lst (pa_cons pe_int (pa_cons pe_int pa_nil))) (pv 2) (fun _ _ => rfl)) pa_nil))) pa_nil))))
        (pss_cons (ps_set (i := 7) nd rfl (Or.inr rfl) (pe_lc (own := [("one", 6)]) (g := gName 6) (tt := tYes) (te := tOp (rIxL K) (tLst (tCons (tC (.str "first")) (tCons (tC (.str "last")) (tCons (tC (.str "day")) (tCons (tC (.str "day")) (tCons (tC (.str "before")) tNil)))))) (tDraw 5)) rfl nd (pi_list (pv 5)) (blkOk_by (own := [("one", 6)]) (N := liN) (sc := defScope s_l_lists) (by decide +kernel))
          (fun _ _ _ _ _ => pg_name (i := 6) nd rfl (Or.inl rfl)) (fun _ _ _ _ _ => pts_nil) (fun _ _ _ _ _ => pe_ix ix_list (pe_lst (pa_cons pe_str (pa_cons pe_str (pa_cons pe_str (pa_cons pe_str (pa_cons pe_str pa_nil)))))) (pe_call GD hr1 rfl gD kD bD .nil pass0 (pa_cons (pv 0) (pa_cons pe_int pa_nil))) (fun _ _ => rfl))))
        (pss_one (ps_expr (pe_bm PySem.F.plainAttrs_list PySem.F.slot_list_append PySem.F.type_list_append mt_append (pv 3) (pa_cons (pe_tup (pa_cons (pv 4) (pa_cons (pe_callTy call_tuple_of (by rfl) gt (by decide +kernel) (pa_cons
            (pe_lc (own := [("k", 8)]) (g := gName 8) (tt := tYes) (te := tTup (tCons (tOp (rIxL K) (tVar 5) (tVar 8)) (tCons (tOp (rIxL K) (tVar 7) (tVar 8)) tNil))) rfl nd (pi_range1 rfl gr (pa_cons (pe_callB call_len_seq (by rfl) ge boot_len (pa_cons (pv 5) pa_nil)) pa_nil)) (blkOk_by (own := [("k", 8)]) (N := liN) (sc := defScope s_l_lists) (by decide +kernel))
              (fun _ _ _ _ _ => pg_name (i := 8) nd rfl (Or.inl rfl)) (fun _ _ _ _ _ => pts_nil) (fun _ _ _ _ _ => pe_tup (pa_cons (pe_ix ix_list (pv 5) (pv 8) (fun _ _ => rfl)) (pa_cons (pe_ix ix_list (pv 7) (pv 8) (fun _ _ => rfl)) pa_nil)))) pa_nil)) pa_nil))) pa_nil)))))))
      (pss_one (ps_ret (pe_lst (pa_cons (pv 3) (pa_cons (pe_call GN hr rfl gN kN bN .nil pass0 (pa_cons (pv 0) (pa_cons (pe_call GD hr1 rfl gD kD bD .nil pass0 (pa_cons (pv 0) (pa_cons (pe_ix ix_list (pe_lst (pa_cons pe_int (pa_cons pe_int pa_nil))) (pv 2) (fun _ _ => rfl)) pa_nil))) pa_nil))) pa_nil))))))), ?_⟩
    obtain ⟨w1, hw1, hw1b⟩ := two_at hw 4 6
    obtain ⟨w2, hw2, hw2b⟩ := two_at hw 4 5
    refine ⟨by show 0 ≤ sizeLine; decide, fun lf hf => ?_⟩
    obtain ⟨nfa, nfg⟩ := hT.na hf
    have T1 : Tray (upd H lf (.lst [])) a g n := hT.new hf
    refine ⟨_, rfl, _, rfl, _, rfl, a, g, n, most, rfl, T1, by omega, by omega, by omega, fun r H2 r0 r1 T2 s2 => ?_⟩
    obtain ⟨jr, rfl⟩ : ∃ j : Nat, r = (j : Int) := ⟨r.toNat, by omega⟩
    have f2 : H2 lf = some (.lst []) := ctkeep s2 upd_same nfa nfg
    refine ⟨_, _, rfl, rfl, a, g, n + 1, 1 + jr, by show [V.ref a, V.int (1 + (jr : Int))] = [V.ref a, V.int ((1 + jr : Nat) : Int)]; rw [Int.natCast_add]; rfl, T2, by omega, by omega, fun nl ns H3 hnl h3 l3 hz3 hd3 T3 s3 => ?_⟩
    obtain ⟨nna, nng⟩ := T2.na hnl
    have nnf : nl ≠ lf := (ne_of_none f2 hnl).symm
    have f3 : H3 lf = some (.lst []) := ctkeep s3 f2 nfa nfg
    have hB : ct a g (cd lf H3) nl = some (.lst (ns.map V.str)) := ct_of (cd_of h3 nnf) nna nng
    have s0B : Same (ct a g H) (ct a g (cd lf H3)) := fun b o e => by
      obtain ⟨na, ng⟩ := ct_ne e
      have nl : b ≠ lf := ne_of_none (ct_sub _ _ e) hf
      have e3 := s3 b o (s2 b o (ctnew hf b o e))
      exact ct_of (cd_of (ct_sub _ _ e3) nl) na ng
    refine ⟨nl, rfl, ⟨_, SqL.of h3⟩, for_list (K := K) (a := nl) (xs := ns.map V.str) (fun i σ H4 => ∃ (ds : List (Str × List (Str × Str))) (xs : List V) (x4 x5 x6 x7 x8 : Option V), σ = [some (.ref a), some (.int most), some (.int wide), some (.ref lf), x4, x5, x6, x7, x8] ∧ H4 lf = some (.lst xs) ∧ Paired (DimAt K H4) xs ds ∧ ds.map (·.1) = ns.take i ∧ AttOk ds ∧ Tray H4 a g (n + 60 + 75 * i) ∧ Same (ct a g (cd lf H3)) (ct a g (cd lf H4)) ∧ xs.length = i)
      ⟨[], [], _, _, _, _, _, rfl, f3, .nil, rfl, fun _ h => (nomatch h), T3.mono (by omega), Same.refl _, rfl⟩ (fun i σ H4 _ ⟨_, _, _, _, _, _, _, _, _, _, _, _, _, s4, _⟩ => SqL.of (cd_sub _ _ (ct_sub _ _ (s4 _ _ hB)))) ?_ ?_⟩
    · rintro i x σ H4 hi ⟨ds, xs, x4, x5, x6, x7, x8, rfl, f4, p4, e4, a4, T4, s4, l4⟩
      have hil : i < (ns.map V.str).length := (List.getElem?_eq_some_iff.mp hi).1
      rw [List.length_map] at hil
      obtain ⟨z, rfl, hz⟩ := strs_at hi
      have hzn := hz3 z (List.mem_of_getElem? hz)
      refine ⟨_, rfl, _, rfl, by show 2 ≤ sizeLine; decide, fun p5 n5 => ?_⟩
      refine ⟨_, rfl, p5, _, _, _, rfl, rfl, SqL.of upd_same, hw1, a, g, n + 60 + 75 * i, w1, rfl, T4.new n5, by omega, by omega, by omega, fun c H5 c0 c1 T5 s5 => ?_⟩
      obtain ⟨jc, rfl⟩ : ∃ j : Nat, c = (j : Int) := ⟨c.toNat, by omega⟩
      refine ⟨a, g, n + 60 + 75 * i + 1, jc, rfl, T5, by omega, by omega, fun sl ss H6 hsl h6 l6 hz6 hd6 T6 s6 => ?_⟩
      obtain ⟨nsa, nsg⟩ := T5.na hsl
      have s46 : Same (ct a g H4) (ct a g H6) := ((ctnew n5).trans s5).trans s6
      have f6 : H6 lf = some (.lst xs) := ctkeep s46 f4 nfa nfg
      refine ⟨_, rfl, sl, rfl, ⟨_, SqL.of h6⟩, fun D hD => lc_build (walk_list (K := K) (a := sl) (xs := ss.map V.str)) hD (fun j ys R => ∃ ws : List Str, ys = ws.map V.str ∧ ws.length = j ∧ (∀ z ∈ ws, IsWay z) ∧ Tray R a g (n + 60 + 75 * i + 1 + 13 * jc + j) ∧ Same (ct a g H6) (ct a g R))
        ⟨[], rfl, rfl, fun _ h => (nomatch h), T6, Same.refl _⟩ (fun j ys H7 _ ⟨_, _, _, _, _, s7⟩ => SqL.of (cd_sub _ _ (ct_sub _ _ (s7 _ _ (ct_of h6 nsa nsg))))) ?_ ?_⟩
      · rintro j ys y H7 H7' hj e7 l7 ⟨ws, rfl, lw, hw7, T7, s7⟩ ⟨rfl, hy⟩
        obtain ⟨nDa, nDg⟩ := T6.na hD
        rw [List.length_map] at hj
        refine ⟨rfl, yes ?_⟩
        refine ⟨by show 5 ≤ sizeLine; decide, fun p8 n8 => ?_⟩
        obtain ⟨npa, npg⟩ := (T7.same cd_sub).na n8
        refine ⟨_, rfl, a, g, n + 60 + 75 * i + 1 + 13 * jc + j, 5, rfl, (T7.same cd_sub).new n8, by omega, by decide, by decide, fun q H8 q0 q1 T8 s8 => ?_⟩
        obtain ⟨jq, rfl⟩ : ∃ j : Nat, q = (j : Int) := ⟨q.toNat, by omega⟩
        obtain ⟨wz, v1, v2⟩ := ways_at (j := jq) (by omega)
        have s78 := (ctnew (a := a) (g := g) n8).trans s8
        refine ⟨p8, _, _, _, rfl, rfl, SqL.of (ctkeep s8 upd_same npa npg), atI_nat v1, LcNx.add (ctkeep s78 e7 nDa nDg) l7 (by omega) ⟨ws ++ [wz], by rw [List.map_append]; rfl, by rw [List.length_append]; show ws.length + 1 = j + 1; omega, fun y hy => ?_, (T8.cd nDa nDg).mono (by omega), ctcd hD s7 s78⟩⟩
        rcases List.mem_append.mp hy with hy | hy
        · exact hw7 y hy
        · rw [List.mem_singleton.mp hy]
          exact v2
      · rintro ys H7 e7 l7 ⟨ws, rfl, lw, hw7, T7, s7⟩
        obtain ⟨nDa, nDg⟩ := T6.na hD
        rw [List.length_map] at lw
        have s67 : Same (ct a g H6) (ct a g H7) := s7.trans (ct_same cd_sub)
        have h7 : H7 sl = some (.lst (ss.map V.str)) := ctkeep s67 h6 nsa nsg
        have f7 : H7 lf = some (.lst xs) := ctkeep s67 f6 nfa nfg
        have T7' : Tray H7 a g (n + 60 + 75 * (i + 1)) := (T7.same cd_sub).mono (by rw [List.length_map]; omega)
        refine ⟨_, rfl, .inl ⟨rfl, _, SqL.of f7⟩, _, rfl, _, rfl, sl, _, rfl, .inl (SqL.of h7), _, rfl, by rw [List.length_map]; omega, by rw [List.length_map]; omega, fun D2 hD2 => ?_⟩
        rw [List.length_map, Int.toNat_natCast]
        refine lc_build (walk_range (lo := 0)) hD2 (fun j ys R => Same H7 R ∧ Paired (AttAt K R) ys ((ss.zip ws).take j)) ⟨Same.refl _, .nil⟩ (fun _ _ _ _ _ => trivial) ?_ ?_
        · rintro j ys y H8 H8' hj e8 l8 ⟨s8, p8⟩ ⟨rfl, rfl⟩
          have e0 : (0 : Int) + (j : Int) = (j : Int) := Int.zero_add _
          have hjw : j < ws.length := by omega
          have g1 : (ss.map V.str)[j]? = some (.str ss[j]) := by rw [List.getElem?_map, List.getElem?_eq_getElem hj]; rfl
          have g2 : (ws.map V.str)[j]? = some (.str ws[j]) := by rw [List.getElem?_map, List.getElem?_eq_getElem hjw]; rfl
          have s8' := s8.trans cd_sub
          refine ⟨rfl, yes ?_⟩
          refine ⟨_, rfl, _, rfl, sl, _, _, _, rfl, rfl, SqL.of (s8' _ _ h7), (by rw [e0]; exact atI_nat g1), _, rfl, _, rfl, D, _, _, _, rfl, rfl, SqL.of (s8' _ _ e7), (by rw [e0]; exact atI_nat g2), by show 2 ≤ sizeLine; decide, fun t nt => ?_⟩
          have nDt : D2 ≠ t := ne_of_none e8 nt
          have s9 : Same (cd D2 H8') (cd D2 (upd H8' t (.tup [.str ss[j], .str ws[j]]))) := cd_same (same_new nt)
          refine LcNx.add (by rw [upd_ne nDt]; exact e8) l8 (by omega) ⟨s8.trans s9, ?_⟩
          have hjz : j < (ss.zip ws).length := by rw [List.length_zip]; omega
          rw [List.take_succ_eq_append_getElem hjz, List.getElem_zip]
          exact PySem.Paired.snoc (PySem.Paired.mono (fun _ _ => AttAt.same s9) p8) ⟨t, rfl, SqT.of (cd_of upd_same nDt.symm)⟩
        · rintro ys H8 e8 l8 ⟨s8, p8⟩
          rw [List.take_of_length_le (by rw [List.length_zip]; omega)] at p8
          have s8' := s8.trans cd_sub
          refine ⟨D2, ys, rfl, .inl ⟨SqL.of e8, fun q hq => ?_⟩⟩
          refine ⟨by show 2 ≤ sizeLine; decide, fun t ht => ?_⟩
          have s9 : Same H8 (upd (upd H8 q (.tup ys)) t (.tup [.str z, .ref q])) := (same_new hq).trans (same_new ht)
          have f9 := s9 _ _ (s8' _ _ f7)
          refine ⟨lf, _, _, rfl, rfl, f9, small1000 (by omega), ?_⟩
          have s79 := s8'.trans s9
          have dnew : DimAt K (upd (upd H8 q (.tup ys)) t (.tup [.str z, .ref q])) (.ref t) (z, ss.zip ws) := ⟨t, q, rfl, SqT.of upd_same, ys, SqT.of (same_new ht _ _ upd_same), PySem.Paired.mono (fun _ _ h => (AttAt.same cd_sub h).same s9) p8⟩
          refine ⟨ds ++ [(z, ss.zip ws)], xs ++ [.ref t], _, _, _, _, _, rfl, upd_same, ?_, ?_, ?_, (T7'.same s79).updo nfa nfg, ?_, by rw [List.length_append]; show xs.length + 1 = i + 1; omega⟩
          · refine PySem.Paired.snoc (PySem.Paired.mono (fun y d h => dim_store f9 ((dim_draw T4 (s46.trans s67) h).same s79)) p4) (dim_store f9 dnew)
          · obtain ⟨g1, g2⟩ := List.getElem?_eq_some_iff.mp hz
            rw [List.map_append, e4, List.take_succ_eq_append_getElem g1, g2]
            rfl
          · intro d hd
            rcases List.mem_append.mp hd with hd | hd
            · exact a4 d hd
            · rw [List.mem_singleton.mp hd]
              refine ⟨by show (ss.zip ws).length ≤ 5; rw [List.length_zip]; omega, fun y hy => ?_, ?_⟩
              · exact ⟨hz6 y.1 (List.of_mem_zip hy).1, hw7 y.2 (List.of_mem_zip hy).2⟩
              · show ((ss.zip ws).map (·.1)).Nodup
                rw [show (ss.zip ws).map (·.1) = ss from List.map_fst_zip (by omega)]
                exact hd6
          · have e1 : ∀ o, ct a g (cd lf (upd (upd (upd H8 q (.tup ys)) t (.tup [.str z, .ref q])) lf o)) = ct a g (cd lf (upd (upd H8 q (.tup ys)) t (.tup [.str z, .ref q]))) := fun o => by rw [cd_upd]
            rw [e1]
            exact (s4.trans (ctcd2 (s46.trans s67))).trans (ct_same (cd_same s79))
    · rintro σ H4 ⟨ds, xs, x4, x5, x6, x7, x8, rfl, f4, p4, e4, a4, T4, s4, l4⟩
      rw [List.length_map] at e4 T4 l4
      rw [List.take_length] at e4
      refine ⟨_, rfl, _, rfl, _, rfl, by show 2 ≤ sizeLine; decide, fun p5 n5 => ?_⟩
      refine ⟨_, rfl, p5, _, _, _, rfl, rfl, SqL.of upd_same, hw2, a, g, n + 60 + 75 * ns.length, w2, rfl, T4.new n5, by omega, by omega, by omega, fun c H5 c0 c1 T5 s5 => ?_⟩
      obtain ⟨jc, rfl⟩ : ∃ j : Nat, c = (j : Int) := ⟨c.toNat, by omega⟩
      refine ⟨a, g, n + 60 + 75 * ns.length + 1, jc, rfl, T5, by omega, by omega, fun ml ms H6 hml h6 l6 hz6 hd6 T6 s6 => ?_⟩
      obtain ⟨nma, nmg⟩ := T5.na hml
      refine ⟨by show 2 ≤ sizeLine; decide, fun r nr => ?_⟩
      obtain ⟨nra, nrg⟩ := T6.na nr
      have s46 : Same (ct a g H4) (ct a g H6) := ((ctnew n5).trans s5).trans s6
      have f6 : H6 lf = some (.lst xs) := ctkeep s46 f4 nfa nfg
      have T7 := T6.new (o := .lst [.ref lf, .ref ml]) nr
      have hlen : ds.length = ns.length := by
        have := p4.length
        omega
      refine k r lf ml ds ms _ (ct_of upd_same nra nrg) ⟨⟨xs, (ct_of (same_new nr _ _ f6) nfa nfg), PySem.Paired.mono (fun y d h => dim_ct T7 ((dim_draw T4 s46 h).same (same_new nr))) p4⟩, ct_of (same_new nr _ _ h6) nma nmg, ?_⟩ (T7.mono (by omega)) ?_
      · exact ⟨by omega, by omega, fun d hd => hz3 d.1 (by rw [← e4]; exact List.mem_map_of_mem hd), by rw [e4]; exact hd3, fun d hd => (a4 d hd).1, fun d hd => (a4 d hd).2.1, fun d hd => (a4 d hd).2.2, by omega, hz6, hd6⟩
      · have e1 : Same (ct a g H) (ct a g H4) := (s0B.trans s4).trans (ct_same cd_sub)
        exact (e1.trans s46).trans (ctnew nr)
end
end Kd

namespace Kd
open PySem PySem.Spec PyProof.Rows L2
/-! ### the lists as data -/
def attD (a : Str × Str) : PyData := .tuple [.str a.1, .str a.2]
def dimD (d : Str × List (Str × Str)) : PyData := .tuple [.str d.1, .tuple (d.2.map attD)]
def dimsD (ds : List (Str × List (Str × Str))) : PyData := .list (ds.map dimD)
section
variable {K : PySem.W.Frag} {H : Hp}
theorem atts_dp : ∀ {ys : List V} {as : List (Str × Str)}, Paired (AttAt K H) ys as → DpAll K H ys (as.map attD)
  | _, _, .nil => .nil
  | _, _, .cons ⟨r, e1, e2⟩ t => by
    subst e1
    exact .cons (.tup e2 (.cons (.str _) (.cons (.str _) .nil))) (atts_dp t)
theorem dims_dp : ∀ {xs : List V} {ds : List (Str × List (Str × Str))}, Paired (DimAt K H) xs ds → DpAll K H xs (ds.map dimD)
  | _, _, .nil => .nil
  | _, _, .cons ⟨p, q, e1, e2, zs, e3, e4⟩ t => by
    subst e1
    exact .cons (.tup e2 (.cons (.str _) (.cons (.tup e3 (atts_dp e4)) .nil))) (dims_dp t)
theorem DimsAt.dp {l : Addr} {ds : List (Str × List (Str × Str))} (h : DimsAt K H l ds) : Dp K H (.ref l) (dimsD ds) := by
  obtain ⟨xs, h1, h2⟩ := h
  exact .lst h1 (dims_dp h2)
theorem strs_dp {l : Addr} {xs : List Str} (h : SqL K H l (xs.map V.str)) : Dp K H (.ref l) (.list (xs.map PyData.str)) := .lst h (DpAll.strs xs)
end
theorem lay_atts : ∀ as : List (Str × Str), (∀ a ∈ as, Low a.1 ∧ Low a.2) → PyData.canLayAll0 (as.map attD) = true ∧ PyData.depthAll (as.map attD) ≤ 1
  | [], _ => ⟨rfl, by decide⟩
  | a :: as, h => by
    obtain ⟨h1, h2⟩ := lay_atts as fun z hz => h z (List.mem_cons_of_mem _ hz)
    obtain ⟨h3, h4⟩ := h a (List.mem_cons_self ..)
    constructor
    · simp only [List.map_cons, attD, PyData.canLayAll0, PyData.canLay0, h1, h3.ok, h4.ok, Bool.and_self]
    · simp only [List.map_cons, attD, PyData.depthAll, PyData.depth]
      omega
theorem lay_dims : ∀ ds : List (Str × List (Str × Str)), (∀ d ∈ ds, Low d.1 ∧ ∀ a ∈ d.2, Low a.1 ∧ Low a.2) → PyData.canLayAll0 (ds.map dimD) = true ∧ PyData.depthAll (ds.map dimD) ≤ 3
  | [], _ => ⟨rfl, by decide⟩
  | d :: ds, h => by
    obtain ⟨h1, h2⟩ := lay_dims ds fun z hz => h z (List.mem_cons_of_mem _ hz)
    obtain ⟨h3, h4⟩ := h d (List.mem_cons_self ..)
    obtain ⟨h5, h6⟩ := lay_atts d.2 h4
    constructor
    · simp only [List.map_cons, dimD, PyData.canLayAll0, PyData.canLay0, h1, h3.ok, h5, Bool.and_self]
    · simp only [List.map_cons, dimD, PyData.depthAll, PyData.depth]
      omega
theorem shaped_dims {ds : List (Str × List (Str × Str))} {ms : List Str} (h : Good ds ms) : SeqAt.shaped (dimsD ds) = true := by
  obtain ⟨h1, h2⟩ := lay_dims ds fun d hd => ⟨(h.dn d hd).low, fun a ha => ⟨(h.an d hd a ha).1.low, (h.an d hd a ha).2.nm.1⟩⟩
  unfold SeqAt.shaped
  rw [Bool.and_eq_true]
  refine ⟨by unfold dimsD; rw [PyData.canLay0]; exact h1, decide_eq_true ?_⟩
  unfold dimsD
  rw [PyData.depth]
  omega
theorem eqv_self {d : PyData} (h : SeqAt.shaped d = true) : PyData.eqv d d = true := SeqAt.eqv_refl d (SeqAt.canLay_of_shaped h)
end Kd

namespace KdEx
open PySem PySem.Spec PyProof.Rows L2
section
variable {prog : Program} {w : World} {A : Around} {E : Value → Shared → Prop} {s : Shared}
/-- repr of a tuple, whatever is under way: some text -/
theorem repr_tuple {a : Addr} {o : Obj} {items : Array Value} {n : Nat} {ts : List Str} {Q : Value → Shared → Prop} (hu : A.units + 8 < cLine) (ha : s.heap.get? a = some o) (hc : o.cls = .type "tuple") (hd : o.data = .seq items n) (hT : ReprAll prog w items.toList ts) (hsz : (tupleText ts).length ≤ sizeLine)
    (h : ∀ (m : Str) (u tk : Tok), m.length ≤ (tupleText ts).length + 5 → Q (.str m u) { s with toks := tk }) : wpAny (model prog w) A (call (.builtin "repr") [.ref a]) Q E s :=
  call_repr_slot (by omega) ⟨o, ha, hc⟩ F.slot_tuple_repr (fmt_tuple_repr ha hc hd hT hsz fun m u tk hm => ⟨m, u, rfl, h m u tk hm⟩)
end
section
variable {X : Cx}
/-- a value of which repr is known whatever is under way, and its text -/
def flatT : V → Str
  | .str z => reprText z
  | .non => "None"
  | .int i => toString i
  | _ => ""
def Flat1 : V → Prop
  | .str z => (∀ c ∈ z.cps.toList, c < 16 ^ 8) ∧ z.length ≤ 4000
  | .non => True
  | _ => False
theorem flat_len {v : V} (h : Flat1 v) : (flatT v).length ≤ 50000 := by
  cases v with
  | str z =>
    have := StrLaws.reprText_len z h.1
    show (reprText z).length ≤ 50000
    have h2 := h.2
    omega
  | non => show ("None" : Str).length ≤ 50000; decide +kernel
  | _ => exact h.elim
theorem reprs {prog : Program} {w : World} : ∀ {ys : List V} {its : List Value}, Vals ys its → (∀ y ∈ ys, Flat1 y) → ReprAll prog w its (ys.map flatT)
  | [], _, r, _ => by
    cases r
    exact .nil
  | y :: l, _, r, h => by
    cases r with
    | cons r1 r2 =>
      have ih := reprs (prog := prog) (w := w) r2 fun z hz => h z (List.mem_cons_of_mem _ hz)
      have hy := h y (List.mem_cons_self ..)
      have hl := flat_len hy
      cases y with
      | str z =>
        obtain ⟨t, rfl⟩ := r1
        exact .cons (ReprIs.str z t (Nat.le_trans hl (by decide))) ih
      | non =>
        cases r1
        exact .cons ReprIs.none ih
      | _ => exact hy.elim
theorem piled_le : ∀ (ts : List Str), (∀ t ∈ ts, t.length ≤ 50000) → piled ts ≤ 60000 * ts.length
  | [], _ => Nat.zero_le _
  | t :: ts, h => by
    have ih := piled_le ts fun z hz => h z (List.mem_cons_of_mem _ hz)
    have h1 := h t (List.mem_cons_self ..)
    have e : piled (t :: ts) ≤ t.length + 2 + piled ts := by
      unfold piled
      simp
      try omega
    rw [List.length_cons]
    omega
/-- repr of a text, or of a short tuple of texts and None: some text -/
def rRepr (K : PySem.W.Frag) : List V → Hp → VK → Prop := fun xs H Q => ∃ x, xs = [x] ∧ ((∃ z : Str, x = .str z ∧ Flat1 x) ∨ ∃ (a : Addr) (ys : List V), x = .ref a ∧ SqT K H a ys ∧ ys.length ≤ 8 ∧ ∀ y ∈ ys, Flat1 y) ∧ ∀ m : Str, Q (.str m) H
theorem cr_repr (hu : X.A.units + 64 < cLine) : CallR X (.builtin "repr") (rRepr X.K) := by
  intro pins s σ H xs us Q I r h
  obtain ⟨x, rfl, hx, q⟩ := h
  obtain ⟨u, rfl, rx⟩ := vals1 r
  rcases hx with ⟨z, rfl, hz⟩ | ⟨a, ys, rfl, ht, hl, hy⟩
  · obtain ⟨t, rfl⟩ := rx
    refine PySem.P.repr_of_str ⟨.str _, H, I.tok _, ⟨_, rfl⟩, q _⟩ (Nat.le_trans (flat_len (v := .str z) hz) (by decide))
  · cases rx
    obtain ⟨its, rv, ⟨o, ho, hcl, n, hd⟩, _⟩ := I.tuple ht
    have htx := fmt_text (ys.map flatT)
    have hp := piled_le (ys.map flatT) fun t ht => by
      obtain ⟨y, hym, rfl⟩ := List.mem_map.mp ht
      exact flat_len (hy y hym)
    rw [List.length_map] at hp
    have hsl : sizeLine = sizeLine := rfl
    refine repr_tuple (ts := ys.map flatT) (by omega) ho hcl hd (reprs rv hy) (Nat.le_trans (show _ ≤ 500000 by omega) (by decide)) fun m u tk hm => ⟨.str m, H, I.tok _, ⟨u, rfl⟩, q m⟩
end
section
variable {X : Cx} {CX : CXT} {k : Nat} {f C : Addr} {fd : FuncData} {ps : List Str} {sp : Sp} {dvs : List V} {ds : List Value} {E : XK} {x m : Str} {p1 p2 pos : Pos} {e : Expr} {es : List Expr} {t : TA}
/-- C.m(e, ..), C a class of the program, m a def of it -/
structure ClsFn (K : PySem.W.Frag) (C f : Addr) (m : Str) : Prop where
  sp : PySem.W.specialIn K (.ref C) "__getattribute__" = some (some (.builtin "type.__getattribute__"))
  rd : PySem.W.readsIn K C (.type "type") = true
  fi : PySem.W.findCls K (.ref C) (.type "type") m = some (.val (.ref f))
  kp : PySem.W.keepIn K (.ref f) = true
theorem pe_clsfn {pl : Sem Bool} (hg : Gl X x) (hm : X.mg x = some (.ref C)) (T : ClsFn X.K C f m) (F : FnOk X.prog X.w X.K X.mg X.base CX k f fd ps sp) (hr : Room k X.A) (hb : Binds X.K fd ps ds) (hd : Vals dvs ds) (hx : Passes CX X E) (ha : PA X (e :: es) t)
    (hdb : (x == ("__debug__" : Str)) = false := by decide)
    (hc : eval (.Call (.Attribute (.Name x p1) m p2) (e :: es) [] pos) X.env = (do
      let ov ← eval (.Name x p1) X.env
      standAt p2.atName
      let (f, first) ← holding [ov] (getMethod ov m pl)
      callWith pos f first (backTo pos (starEach (e :: es) X.env)) (backToKw pos (keywordEach [] X.env))) := by rfl)
    (he : starEach (e :: es) X.env = (false, eval e X.env) :: starEach es X.env := by rfl) (hpl : (backTo pos (starEach es X.env)).any (·.1) = false := by rfl) :
    PE X (.Call (.Attribute (.Name x p1) m p2) (e :: es) [] pos) (tCall sp dvs E t) := by
  refine ⟨fun pins s σ H Q I h => ?_⟩
  refine PySem.W.methodCall_KW (ld_glob I hg hm ?_ hdb) hc
  refine PySem.W.method_cls I.kIn T.sp ?_
  refine PySem.W.cls_value I.kIn T.rd T.fi rfl ?_
  show wpAny _ _ (callWith pos (Value.ref f) [] (backTo pos (starEach (e :: es) X.env)) []) _ _ _
  refine PySem.W.callWith_K (h₀ := X.base) I.ok.mod.kin T.kp (thn (ha.run pos pins _ σ H _ (I.tok _) h) fun us s1 ⟨vs, H1, I1, r, q⟩ => ⟨I1.kIn, ?_⟩) he hpl
  exact run_fn F hr hb hd hx I1 r q
end
/-! ### == and != by an own def -/
section
variable {X : Cx} {CX : CXT} {n : Nat} {C f : Addr} {fd : FuncData} {ps : List Str} {sp : Sp} {E : XK} {op : CmpOp}
def rOwn (C : Addr) (sp : Sp) (E : XK) : R2 := fun x y H Q => ∃ a b dx dy fs gs, x = .ref a ∧ y = .ref b ∧ H a = some (.ins C dx fs) ∧ H b = some (.ins C dy gs) ∧ sp [.ref a, .ref b] H (fun v H' => ∃ r, v = .bl r ∧ Q (.bl r) H') E
theorem rich_own (F : FnOk X.prog X.w X.K X.mg X.base CX n f fd ps sp) (hs : PySem.W.findIn X.K (.ref C) (cmpInfo op).2.1 = some (some (.ref f))) (hf : PySem.W.isFn X.K (.ref f) = true) (hb : Binds X.K fd ps []) (hx : Passes CX X E) (hr : Room n X.A)
    {pins : List (Addr × Obj)} {s : Shared} {σ : L2.St} {H : Hp} {x y : V} {v u : Value} {Q : VK} (I : Inv X pins σ H s) (rx : RelV x v) (ry : RelV y u) (h : rOwn C sp E x y H Q) : wpAny (model X.prog X.w) X.A (richCompare op v u) (EP X pins σ Q) X.xe s := by
  obtain ⟨a, b, dx, dy, fs, gs, rfl, rfl, ha, hb', hsp⟩ := h
  cases rx
  cases ry
  obtain ⟨mA, J, _⟩ := ins_get I.hok ha
  obtain ⟨mB, J', _⟩ := ins_get I.hok hb'
  obtain ⟨od, J, _⟩ := J.look
  obtain ⟨od', J', _⟩ := J'.look
  obtain ⟨m, hF⟩ := I.fr
  refine PySem.W.cmp_K (op := op) (tb := .ref C) hr.units0 hF I.ok.mod.kin J J'.type (by simp [PySem.W.notFirst]) hs hf ?_
  have hl := F.len _ _ _ _ hsp
  have r2 : Vals [V.ref a, V.ref b] [Value.ref a, Value.ref b] := .cons rfl (.cons rfl .nil)
  refine wpAny_call (codeAny_mono (F.run X.A X.stack s H ⟨[.ref a, .ref b], []⟩ [.ref a, .ref b] [.ref a, .ref b] _ E hr I.env0 (by
    have := hb s [.ref a, .ref b] I.kIn (by simpa using hl)
    simpa using this) r2 hsp) fun r s' hq => ?_)
  cases r with
  | error e => exact hx pins σ H s e s' I hq
  | ok fl =>
    cases fl with
    | ret w =>
      obtain ⟨z, H', I', rz, r, ez, q⟩ := I.after hq
      subst ez
      cases rz
      exact ⟨.bl r, H', I', rfl, q⟩
    | next => exact False.elim hq
    | brk => exact False.elim hq
    | cont => exact False.elim hq
theorem op_eqOwn (F : FnOk X.prog X.w X.K X.mg X.base CX n f fd ps sp) (hs : PySem.W.findIn X.K (.ref C) "__eq__" = some (some (.ref f))) (hf : PySem.W.isFn X.K (.ref f) = true) (hb : Binds X.K fd ps []) (hx : Passes CX X E) (hr : Room n X.A) : OpR X (compareOp .Eq) (rOwn C sp E) := by
  intro pins s σ H x y v u Q I rx ry h
  exact rich_own (op := .Eq) F hs hf hb hx hr I rx ry h
theorem op_neOwn (F : FnOk X.prog X.w X.K X.mg X.base CX n f fd ps sp) (hs : PySem.W.findIn X.K (.ref C) "__ne__" = some (some (.ref f))) (hf : PySem.W.isFn X.K (.ref f) = true) (hb : Binds X.K fd ps []) (hx : Passes CX X E) (hr : Room n X.A) : OpR X (compareOp .NotEq) (rOwn C sp E) := by
  intro pins s σ H x y v u Q I rx ry h
  exact rich_own (op := .NotEq) F hs hf hb hx hr I rx ry h
end
end KdEx

namespace KdXc
open PySem PySem.Spec PyProof.Rows L2
/-! ### C(e, ..) in a try's body, where C's __init__ may raise -/
section
variable {X : Cx} {CX : CXT} {k : Nat} {f C : Addr} {fd : FuncData} {ps : List Str} {sp : Sp} {dvs : List V} {ds : List Value} {E : L2.St → XK} {x : Str} {p pos : Pos} {e : Expr} {es : List Expr} {t : TA}
def tMakeS (C : Addr) (sp : Sp) (dvs : List V) (E : L2.St → XK) (t : TA) : TE := fun σ H Q => t σ H fun vs H1 => ∀ x dx, H1 x = none → H1 dx = none → dx ≠ x →
  sp (.ref x :: (vs ++ dvs)) (upd (upd H1 dx (.own x)) x (.ins C dx [])) (fun v H2 => v = .non ∧ Q (.ref x) H2) (E σ)
theorem run_makeS {pins : List (Addr × Obj)} {σ : L2.St} {H : Hp} {s : Shared} {Q : VK} {us : List Value} {vs : List V} (M : Mk X.K C f) (G : FnOk X.prog X.w X.K X.mg X.base CX k f fd ps sp) (hr : Room (k + 1) X.A) (hb : Binds X.K fd ps ds) (hd : Vals dvs ds)
    (hx : PassesAt CX X σ (E σ)) (I : Inv X pins σ H s) (r : Vals vs us)
    (h : ∀ x dx, H x = none → H dx = none → dx ≠ x → sp (.ref x :: (vs ++ dvs)) (upd (upd H dx (.own x)) x (.ins C dx [])) (fun v H2 => v = .non ∧ Q (.ref x) H2) (E σ)) :
    wpAny (model X.prog X.w) X.A (call (.ref C) us) (EP X pins σ Q) X.xe s := by
  have want := h (s.heap.objs.size + 1) s.heap.objs.size (I.hok.fresh (Nat.le_succ _)) (I.hok.fresh (Nat.le_refl _)) (Nat.ne_of_lt (Nat.lt_succ_self _))
  have J := Inv.made (C := C) I
  have rr : Vals (V.ref (s.heap.objs.size + 1) :: (vs ++ dvs)) (Value.ref (s.heap.objs.size + 1) :: (us ++ ds)) := .cons rfl (r.append hd)
  have hlen : (Value.ref (s.heap.objs.size + 1) :: us ++ ds).length = ps.length := by
    have z := rr.length
    rw [G.len _ _ _ _ want] at z
    exact z.symm
  have go := G.run _ X.stack _ _ ⟨Value.ref (s.heap.objs.size + 1) :: us, []⟩ (Value.ref (s.heap.objs.size + 1) :: (us ++ ds)) _ _ (E σ) (hr.make C us []) (J.env0.make C us []) (hb _ (Value.ref (s.heap.objs.size + 1) :: us) J.kIn hlen) rr want
  refine wpAny_call (make_map (f := f) I.kIn M.makes M.init (beq_iff_eq.mp M.fn) (codeAny_mono go fun r s' back => ?_))
  cases r with
  | error er => exact hx pins _ _ er s' J back
  | ok fl =>
    cases fl with
    | ret u =>
      obtain ⟨v, H', J3, rv, ev, q3⟩ := J.after back
      subst ev
      exact ⟨rv, ⟨V.ref (s.heap.objs.size + 1), H', J3, rfl, q3⟩⟩
    | next => exact False.elim back
    | brk => exact False.elim back
    | cont => exact False.elim back
theorem pe_makeS (M : Mk X.K C f) (G : FnOk X.prog X.w X.K X.mg X.base CX k f fd ps sp) (hr : Room (k + 1) X.A) (hg : Gl X x) (hm : X.mg x = some (.ref C)) (hb : Binds X.K fd ps ds) (hd : Vals dvs ds) (hx : ∀ σ, PassesAt CX X σ (E σ))
    (ha : PA X (e :: es) t) (hdb : (x == ("__debug__" : Str)) = false := by decide) (he : starEach (e :: es) X.env = (false, eval e X.env) :: starEach es X.env := by rfl) (hpl : (backTo pos (starEach es X.env)).any (·.1) = false := by rfl) :
    PE X (.Call (.Name x p) (e :: es) [] pos) (tMakeS C sp dvs E t) := by
  refine ⟨fun pins s σ H Q I h => wpAny_Call_Name_kw (ld_glob I hg hm ?_ hdb)⟩
  refine PySem.W.callWith_K (h₀ := X.base) I.ok.mod.kin M.kp (thn (ha.run pos pins s σ H _ I h) fun us s1 ⟨vs, H1, I1, r, q⟩ => ⟨I1.kIn, run_makeS M G hr hb hd (hx σ) I1 r q⟩) he hpl
end
/-! ### what the head says of a refusal's class -/
def oexB (K : PySem.W.Frag) (C : Addr) : Bool := match K.lookup C with
  | some ⟨.type c, _, .cls cd, sl⟩ => decide (c = "type") && (match cd.mro, sl.toList with
    | .ref D :: bm, [_, _, _, _, some (.builtin n), _] => decide (D = C) && (decide (n = "ValueError.__new__") && (!cd.hasDel && (cd.hasDict && PySem.HandSPX.refsVE bm)))
    | _, _ => false)
  | _ => false
theorem oexB_ok {K : PySem.W.Frag} {C : Addr} (h : oexB K C = true) : ∃ nm q N bs bm sn sub ab col dd k0 k1 k2 k3 k5, K.lookup C = some (excClassObj nm q C N bs bm true sn sub ab col dd k0 k1 k2 k3 k5 "ValueError.__new__") ∧ PySem.HandSPX.refsVE bm = true := by
  unfold oexB at h
  split at h
  · rename_i c dd cd sl ho
    obtain ⟨hc, h⟩ := He.ba h
    have hc : c = "type" := of_decide_eq_true hc
    split at h
    · rename_i D bm k0 k1 k2 k3 n k5 hm hs
      obtain ⟨h1, h⟩ := He.ba h
      obtain ⟨h2, h⟩ := He.ba h
      obtain ⟨h3, h⟩ := He.ba h
      obtain ⟨h4, h5⟩ := He.ba h
      have e1 : D = C := of_decide_eq_true h1
      have e2 : n = "ValueError.__new__" := of_decide_eq_true h2
      have e3 : cd.hasDel = false := by simpa using h3
      obtain ⟨nm, bs, mro, ns, qn, hd, sn, sub, ab, col, del⟩ := cd
      dsimp only at hm e3 h4
      subst hc e1 e2 e3 h4 hm
      have hsl : sl = #[k0, k1, k2, k3, some (.builtin "ValueError.__new__"), k5] := by
        obtain ⟨l⟩ := sl
        simp only at hs
        rw [hs]
      subst hsl
      exact ⟨nm, qn, ns, bs, bm, sn, sub, ab, col, dd, k0, k1, k2, k3, k5, ho, h5⟩
    · cases h
  · cases h
structure ErrC (K : PySem.W.Frag) (C fI : Addr) : Prop where
  o : OexC K C
  iC : PySem.W.findIn K (.ref C) "__init__" = some (some (.ref fI))
  tI : PySem.W.typeIn K (.ref fI) = some (.type "function")
  nW : PySem.W.findIn K (.ref C) "what" = some none
  nN : PySem.W.findIn K (.ref C) "name" = some none
  x : XfC K C
  em : PySem.W.exmOne K (.ref C) (.ref C) = some true
  ca : PySem.W.findIn K (.ref C) "__class__" = some (some (.builtin "object.__class__"))
  cn : PySem.W.specialIn K (.builtin "object.__class__") "__get__" = some (some (.builtin "getset_descriptor.__get__"))
  ct : PySem.W.takesIn K (.builtin "object.__class__") = some true
  cm : PySem.W.mroIn K C (.type "object") = some true
  cs : (PySem.W.clsIn K C).isSome = true
def errB (K : PySem.W.Frag) (C fI : Addr) : Bool := oexB K C && (He.eqO (PySem.W.findIn K (.ref C) "__setattr__") (some (some (.builtin "object.__setattr__"))) && (decide (PySem.W.subIn K (.ref C) (.type "BaseException") = some true) && (decide (PySem.W.typeIn K (.ref C) = some (.type "type")) &&
  (PySem.W.keepIn K (.ref C) && (He.eqO (PySem.W.findIn K (.ref C) "__init__") (some (some (.ref fI))) && (decide (PySem.W.typeIn K (.ref fI) = some (.type "function")) && (He.eqO (PySem.W.findIn K (.ref C) "what") (some none) && (He.eqO (PySem.W.findIn K (.ref C) "name") (some none) &&
  (xfB K C && (decide (PySem.W.exmOne K (.ref C) (.ref C) = some true) && (He.eqO (PySem.W.findIn K (.ref C) "__class__") (some (some (.builtin "object.__class__"))) && (He.eqO (PySem.W.specialIn K (.builtin "object.__class__") "__get__") (some (some (.builtin "getset_descriptor.__get__"))) &&
  (decide (PySem.W.takesIn K (.builtin "object.__class__") = some true) && (decide (PySem.W.mroIn K C (.type "object") = some true) && (PySem.W.clsIn K C).isSome))))))))))))))
theorem errB_ok {K : PySem.W.Frag} {C fI : Addr} (h : errB K C fI = true) : ErrC K C fI := by
  obtain ⟨h1, h⟩ := He.ba h
  obtain ⟨h2, h⟩ := He.ba h
  obtain ⟨h3, h⟩ := He.ba h
  obtain ⟨h4, h⟩ := He.ba h
  obtain ⟨h5, h⟩ := He.ba h
  obtain ⟨h6, h⟩ := He.ba h
  obtain ⟨h7, h⟩ := He.ba h
  obtain ⟨h8, h⟩ := He.ba h
  obtain ⟨h9, h⟩ := He.ba h
  obtain ⟨h10, h⟩ := He.ba h
  obtain ⟨h11, h⟩ := He.ba h
  obtain ⟨h12, h⟩ := He.ba h
  obtain ⟨h13, h⟩ := He.ba h
  obtain ⟨h14, h⟩ := He.ba h
  obtain ⟨h15, h16⟩ := He.ba h
  exact ⟨⟨oexB_ok h1, He.eqO_ok h2, of_decide_eq_true h3, of_decide_eq_true h4, h5⟩, He.eqO_ok h6, of_decide_eq_true h7, He.eqO_ok h8, He.eqO_ok h9, xfB_ok h10, of_decide_eq_true h11, He.eqO_ok h12, He.eqO_ok h13, of_decide_eq_true h14, of_decide_eq_true h15, h16⟩
/-- DayError.__init__ as an attribute of its class, and ValueError's -/
def valB (o : Option PySem.W.CFound) (v : Value) : Bool := match o with
  | some (.val u) => decide (u = v)
  | _ => false
theorem valB_ok {o : Option PySem.W.CFound} {v : Value} (h : valB o v = true) : o = some (.val v) := by
  unfold valB at h
  split at h
  · rw [of_decide_eq_true h]
  · cases h
def cfnB (K : PySem.W.Frag) (C f : Addr) (m : Str) : Bool := He.eqO (PySem.W.specialIn K (.ref C) "__getattribute__") (some (some (.builtin "type.__getattribute__"))) && (PySem.W.readsIn K C (.type "type") && (valB (PySem.W.findCls K (.ref C) (.type "type") m) (.ref f) && PySem.W.keepIn K (.ref f)))
theorem cfnB_ok {K : PySem.W.Frag} {C f : Addr} {m : Str} (h : cfnB K C f m = true) : KdEx.ClsFn K C f m := by
  obtain ⟨h1, h⟩ := He.ba h
  obtain ⟨h2, h⟩ := He.ba h
  obtain ⟨h3, h4⟩ := He.ba h
  exact ⟨He.eqO_ok h1, h2, valB_ok h3, h4⟩
def veB (K : PySem.W.Frag) : Bool := valB (PySem.W.findCls K (.type "ValueError") (.type "type") "__init__") (.builtin "ValueError.__init__")
/-! ### isinstance of a caught refusal -/
theorem refs_vals : ∀ {cs : List Addr} {us : List Value}, Vals (cs.map V.ref) us → us = cs.map Value.ref
  | [], _, r => by cases r; rfl
  | c :: cs, _, r => by
    cases r with
    | cons r1 r2 =>
      cases r1
      rw [refs_vals r2]
      rfl
def rIsX (K : PySem.W.Frag) (D a : Addr) : List V → Hp → VK → Prop := fun xs H Q => ∃ c, xs = [.ref a, c] ∧ ((∃ (cv : Value) (b : Bool), (∀ u, RelV c u → u = cv) ∧ PySem.W.kitOne K (.ref D) cv = some b ∧ Q (.bl b) H) ∨
  ∃ (tp : Addr) (cs : List Addr) (b : Bool), c = .ref tp ∧ SqT K H tp (cs.map V.ref) ∧ PySem.W.kitAny K (.ref D) (cs.map Value.ref) = some b ∧ Q (.bl b) H)
/-- isinstance(e, ..) of what the suite holds -/
def rIsC (K : PySem.W.Frag) (D a : Addr) (cls : Value) (d : Option Addr) : List V → Hp → VK → Prop := fun xs H Q => cls = .ref D ∧ ∃ (dd : Addr) (fs : List (Str × V)), d = some dd ∧ H dd = some (.xd fs) ∧ rIsX K D a xs H Q
theorem call_isX {X : Cx} {a D fI : Addr} {oe : Obj} {cls : Value} {d : Option Addr} {pn : List (Addr × Obj)} (T : ErrC X.K D fI) (hz : Zc cls d oe) (hf : ∃ vs, oe.data = .fields vs) : CallR (X.suite a ((a, oe) :: pn)) (.builtin "isinstance") (rIsC X.K D a cls d) := by
  intro pins s σ H xs us Q I r h
  obtain ⟨rfl, dd, fs, rfl, hdd, c, rfl, hc⟩ := h
  have hx : ObjOk X.prog X.w H s.heap dd (.xd fs) := I.hok dd _ hdd
  obtain ⟨mA, hns, _⟩ := hx
  obtain ⟨od, ho, _⟩ := lookIn_ns hns
  obtain ⟨hget, _⟩ := I.pin (a, oe) (List.mem_append.mpr (.inl List.mem_cons_self))
  obtain ⟨vs, hv⟩ := hf
  have J : PySem.W.InstAt s.heap a oe D (some od) := ⟨hget, hz.1, by unfold PySem.W.notCls; rw [hv] <;> rfl, by rw [hz.2]; exact ho⟩
  have Z : PySem.W.KitX X.K (.ref a) (.ref D) (fun h => PySem.W.InstAt h a oe D (some od)) := PySem.W.kitx_exc T.cs T.x.ga T.x.gg T.x.exC T.ca T.cn T.ct T.cm
  cases r with
  | cons rx rr =>
    cases rr with
    | cons rt rr =>
      cases rr
      cases rx
      rcases hc with ⟨cv, b, hcv, e, q⟩ | ⟨tp, cs, b, rfl, ht, e, q⟩
      · have ec := hcv _ rt
        subst ec
        exact PySem.W.kia_one Z I.kIn J e (fun z => nomatch z) fun tk => ⟨.bl b, H, I.kept (t' := tk) fun _ _ z => z, rfl, q⟩
      · cases rt
        obtain ⟨its, rv, ⟨o, ho, hcl, n, hd⟩, _⟩ := I.tuple ht
        have ei := refs_vals rv
        subst ei
        obtain ⟨ocl, odd, oda, osl⟩ := o
        dsimp only at hcl hd
        subst hcl hd
        exact PySem.W.kia_tup Z I.kIn J ho e (fun z => nomatch z) fun tk => ⟨.bl b, H, I.kept (t' := tk) fun _ _ z => z, rfl, q⟩
/-! ### a refusal is made -/
/-- C(e), C's own __init__ keeping the promise of a refusal: its dict is new and holds fs -/
def spErr (K : PySem.W.Frag) (C : Addr) (fs : V → List (Str × V)) (Ok : V → Hp → Prop) : Sp := fun vs H Q _ => ∃ (a : Addr) (v : V), vs = [.ref a, v] ∧ H a = some (exo a C none) ∧ Ok v H ∧
  ∀ (d : Addr) (H' : Hp), H d = none → d ≠ a → H' a = some (exo a C (some d)) → H' d = some (exd d (fs v)) → (∀ b, b ≠ a → b ≠ d → H' b = H b) → Q .non H'
theorem err_ok {K : PySem.W.Frag} {C : Addr} {fs : V → List (Str × V)} {Ok : V → Hp → Prop} {H1 : Hp} {v : V} {Q : XK} (ok : ∀ a, H1 a = none → Ok v (upd H1 a (exo a C none))) (k : ∀ d, H1 d = none → Q (.ref C) (some d) (upd H1 d (.xd (fs v)))) :
    [v].length ≤ 1000 ∧ ∀ a, H1 a = none → spErr K C fs Ok (.ref a :: ([v] ++ [])) (upd H1 a (exo a C none))
      (fun u H2 => u = .non ∧ ∃ (d : Addr) (gs : List (Str × V)), H2 a = some (exo a C (some d)) ∧ H2 d = some (exd d gs) ∧ H1 d = none ∧ Q (.ref C) (some d) (upd (del H2 a) d (.xd gs))) (fun _ _ _ => False) := by
  refine ⟨by show 1 ≤ 1000; decide, fun a ha => ⟨a, v, rfl, upd_same, ok a ha, fun d H' hd nd e1 e2 rest => ⟨rfl, d, fs v, e1, e2, ?_, ?_⟩⟩⟩
  · rw [upd_ne nd] at hd
    exact hd
  · have hd1 : H1 d = none := by
      rw [upd_ne nd] at hd
      exact hd
    have eq : upd (del H' a) d (.xd (fs v)) = upd H1 d (.xd (fs v)) := by
      funext b
      by_cases hb : b = d
      · rw [hb, upd_same, upd_same]
      · rw [upd_ne hb, upd_ne hb]
        by_cases hba : b = a
        · rw [hba, del_same, ha]
        · rw [del_ne hba, rest b hba hb, upd_ne hba]
    rw [eq]
    exact k d hd1
/-- raise C(e): its making -/
theorem pmk_err {X : Cx} {x : Str} {C fI : Addr} {k : Nat} {fd : FuncData} {ps : List Str} {fs : V → List (Str × V)} {Ok : V → Hp → Prop} {e : Expr} {te : TE} {p pos : Pos} (T : ErrC X.K C fI)
    (G : FnOk X.prog X.w X.K X.mg X.base CX0 k fI fd ps (spErr X.K C fs Ok)) (hr : Room (k + 1) X.A) (hb : Binds X.K fd ps []) (hg : Gl X x) (hm : X.mg x = some (.ref C)) (he : PE X e te)
    (hdb : (x == ("__debug__" : Str)) = false := by decide) (hs : starEach [e] X.env = (false, eval e X.env) :: starEach [] X.env := by rfl) (hpl : (backTo pos (starEach [] X.env)).any (·.1) = false := by rfl) :
    PMk X (.Call (.Name x p) [e] [] pos) (tMkO C (spErr X.K C fs Ok) [] (tCons te tNil)) :=
  pmk_oex T.o T.iC T.tI G hr hb .nil pass0 hg hm (pa_cons he pa_nil hs) hdb hs hpl
/-! ### x in [y], by an own == -/
section
variable {X : Cx} {CX : CXT} {n : Nat} {C f : Addr} {fd : FuncData} {ps : List Str} {sp : Sp} {E : XK}
theorem rich_sub (G : FnOk X.prog X.w X.K X.mg X.base CX n f fd ps sp) (hs : PySem.W.findIn X.K (.ref C) "__eq__" = some (some (.ref f))) (hf : PySem.W.isFn X.K (.ref f) = true) (hb : Binds X.K fd ps []) (hx : Passes CX X E) {A : Around} (sb : Sub X n A)
    {pins : List (Addr × Obj)} {s : Shared} {σ : L2.St} {H : Hp} {x y : V} {v u : Value} {Q : VK} (I : Inv X pins σ H s) (rx : RelV x v) (ry : RelV y u) (h : KdEx.rOwn C sp E x y H Q) : wpAny (model X.prog X.w) A (richCompare .Eq v u) (EP X pins σ Q) X.xe s := by
  obtain ⟨a, b, dx, dy, fs, gs, rfl, rfl, ha, hb', hsp⟩ := h
  cases rx
  cases ry
  obtain ⟨mA, J, _⟩ := ins_get I.hok ha
  obtain ⟨mB, J', _⟩ := ins_get I.hok hb'
  obtain ⟨od, J, _⟩ := J.look
  obtain ⟨od', J', _⟩ := J'.look
  obtain ⟨m, hF⟩ := I.fr
  refine PySem.W.cmp_K (op := .Eq) (tb := .ref C) sb.room.units0 hF I.ok.mod.kin J J'.type (by simp [PySem.W.notFirst]) hs hf ?_
  have en : Env0 X.prog X.w X.K X.mg X.base A X.stack s H := by
    have z := I.env0
    exact ⟨by rw [sb.fr]; exact z.frames, z.mod, z.bs, z.bsz, z.funs, z.frf, z.hok, z.bare⟩
  have hlen := G.len _ _ _ _ hsp
  have rr : Vals [V.ref a, V.ref b] [Value.ref a, Value.ref b] := .cons rfl (.cons rfl .nil)
  have bb := hb s [.ref a, .ref b] I.kIn (by simpa using hlen)
  rw [List.append_nil] at bb
  refine wpAny_call (codeAny_mono (G.run A X.stack s H ⟨[.ref a, .ref b], []⟩ [.ref a, .ref b] [.ref a, .ref b] _ E sb.room en bb rr hsp) fun r s' back => ?_)
  cases r with
  | error er => exact hx pins σ H s er s' I back
  | ok fl =>
    cases fl with
    | ret w =>
      obtain ⟨z, H', J3, rz, r, ez, q⟩ := I.after back
      subst ez
      cases rz
      exact ⟨.bl r, H', J3, rfl, q⟩
    | next => exact False.elim back
    | brk => exact False.elim back
    | cont => exact False.elim back
/-- x in a list of one y -/
def rIn1 (C : Addr) (sp : Sp) (E : XK) : R2 := fun x l H Q => ∃ (a b p : Addr), x = .ref a ∧ l = .ref p ∧ H p = some (.lst [.ref b]) ∧ a ≠ b ∧ KdEx.rOwn C sp E (.ref b) (.ref a) H (fun v H' => (∃ r, v = .bl r) ∧ H' = H ∧ Q v H')
open MeetsSeq MeetsSeq2 MeetsSeq3 SeqRoads2 in
/-- list.__contains__ of a list of one -/
theorem contains_1 {prog : Program} {w : World} {A : Around} {R : Result → Shared → Prop} {s : Shared} {p : Addr} {x y : Value} {n : Nat} {items : Array Value} {dd : Option Addr} {sl : Array (Option Value)} (hl : s.heap.get? p = some { cls := .type "list", dict := dd, data := .seq items n, slots := sl })
    (i0 : items[((0 : Nat) : Int).toNat]? = some y) (i1 : items[((1 : Nat) : Int).toNat]? = none)
    (h : wpAny (model prog w) A.in1 (eqBool y x) (fun r s' => (r = true → R (.ok (.ret (.bool true))) s') ∧ (r = false → ∃ n2 dd2 sl2, s'.heap.get? p = some { cls := .type "list", dict := dd2, data := .seq items n2, slots := sl2 } ∧ R (.ok (.ret (.bool false))) s')) (fun e s' => R (.error e) s') s) :
    wpAny (model prog w) A.in1 (Builtin.«list.__contains__» ⟨[.ref p, x], []⟩) (GQ.FinOf prog w A R) (fun e s' => R (.error e) s') s := by
  have loop : ∀ (i : Nat) (s : Shared), (∃ n dd sl, s.heap.get? p = some { cls := .type "list", dict := dd, data := .seq items n, slots := sl }) → (match items[((i : Nat) : Int).toNat]? with
      | none => R (.ok (.ret (.bool false))) s
      | some y => wpAny (model prog w) A.in1 (eqBool y x) (fun r s' => (r = true → R (.ok (.ret (.bool true))) s') ∧ (r = false → codeAny (model prog w) A (.builtin "list.__contains__.loop" ⟨[.ref p, x, rawInt ((i : Int) + 1)], []⟩) R s')) (fun e s' => R (.error e) s') s) →
      wpAny (model prog w) A.in1 (Builtin.«list.__contains__.loop» ⟨[.ref p, x, rawInt i], []⟩) (GQ.FinOf prog w A R) (fun e s' => R (.error e) s') s := by
    intro i s hs hi
    obtain ⟨n, dd, sl, hl⟩ := hs
    obtain ⟨hp, g, d, tk, os⟩ := s
    cases e : items[((i : Nat) : Int).toNat]? with
    | none =>
      rw [e] at hi
      wp_walk using AutoSeq1.wpAny_loadPart' hl
      rw [e]
      wp_walk
      exact hi
    | some y =>
      rw [e] at hi
      wp_walk using AutoSeq1.wpAny_loadPart' hl
      rw [e]
      refine wpAny_bind (wpAny_mono hi (fun r s2 h2 => ?_) fun _ _ z => z)
      cases r with
      | true =>
        have z := h2.1 rfl
        obtain ⟨hp2, g2, d2, tk2, os2⟩ := s2
        wp_walk
        exact z
      | false =>
        have z := h2.2 rfl
        obtain ⟨hp2, g2, d2, tk2, os2⟩ := s2
        wp_walk
        exact ⟨plainId_quiet plain_contains_loop _, z⟩
  have step : ∀ (i : Nat) (s : Shared), wpAny (model prog w) A.in1 (Builtin.«list.__contains__.loop» ⟨[.ref p, x, rawInt i], []⟩) (GQ.FinOf prog w A R) (fun e s' => R (.error e) s') s → codeAny (model prog w) A (.builtin "list.__contains__.loop" ⟨[.ref p, x, rawInt i], []⟩) R s := fun i s q =>
    codeAny_builtin entry_contains_loop (by
      rw [Around.under_plainId plain_contains_loop _]
      exact q)
  have fin := step 0 s (loop 0 s ⟨_, _, _, hl⟩ (by
    rw [i0]
    refine wpAny_mono h (fun r s' z => ⟨z.1, fun er => ?_⟩) fun _ _ z => z
    obtain ⟨n2, dd2, sl2, hl2, q⟩ := z.2 er
    have e1 : ((0 : Nat) : Int) + 1 = ((1 : Nat) : Int) := by decide
    rw [e1]
    refine step 1 s' (loop 1 s' ⟨_, _, _, hl2⟩ ?_)
    rw [i1]
    exact q))
  obtain ⟨hp, g, d, tk, os⟩ := s
  wp_walk using AutoSeq1.wpAny_loadPart' hl
  exact ⟨plainId_quiet plain_contains_loop _, fin⟩
theorem op_in1 (G : FnOk X.prog X.w X.K X.mg X.base CX n f fd ps sp) (hs : PySem.W.findIn X.K (.ref C) "__eq__" = some (some (.ref f))) (hf : PySem.W.isFn X.K (.ref f) = true) (hb : Binds X.K fd ps []) (hx : Passes CX X E) (hr : Room (n + 1) X.A) : OpR X (compareOp .In) (rIn1 C sp E) := by
  intro pins s σ H x l v u Q I rx rl h
  obtain ⟨a, b, p, rfl, rfl, hp, nab, hown⟩ := h
  cases rx
  cases rl
  have list1 : ∀ {s' : Shared}, Inv X pins σ H s' → ∃ n dd sl, s'.heap.get? p = some { cls := .type "list", dict := dd, data := .seq #[Value.ref b] n, slots := sl } := fun {s'} J => by
    obtain ⟨its, rv, ⟨o, m, e1, e2, e3, e4⟩, _⟩ := J.list (SqL.of hp)
    have ei : its = [Value.ref b] := by
      cases rv with
      | cons r1 r2 =>
        cases r1
        cases r2
        rfl
    subst ei
    obtain ⟨oc, od, oda, osl⟩ := o
    dsimp only at e2 e4
    subst e2 e4
    exact ⟨_, _, _, e1⟩
  obtain ⟨n0, dd, sl, hl⟩ := list1 I
  show wpAny _ _ (do return Value.bool (← contains (.ref p) (.ref a))) _ _ _
  refine wpAny_bind (wpAny_contains_slot ⟨_, hl, rfl⟩ F.slot_list_contains (wpAny_mono (GQ.call_here (Q := fun v s' => ∃ b, v = .bool b ∧ EP X pins σ Q (.bool b) s') F.slot_list_contains ⟨_, hl, rfl⟩ F.entry_list_contains (F.args_list_contains_2 _ _) (contains_1 hl rfl rfl ?_)) (fun v s' hv => ?_) fun _ _ z => z))
  · refine GQ.eqBool_refG (Ne.symm nab) (wpAny_mono (rich_sub G hs hf hb hx (Sub.in1 (X := X) ⟨hr, rfl⟩) (x := .ref b) (y := .ref a) I rfl rfl hown) (fun z s' hz => ?_) fun _ _ q => q)
    obtain ⟨y, H', J, ry, ⟨r, ey⟩, eH, q⟩ := hz
    subst eH ey
    cases ry
    refine ⟨r, rfl, fun e => ?_, fun e => ?_⟩
    · subst e
      exact ⟨true, rfl, .bl true, _, J, rfl, q⟩
    · subst e
      obtain ⟨n2, dd2, sl2, hl2⟩ := list1 J
      exact ⟨n2, dd2, sl2, hl2, false, rfl, .bl false, _, J, rfl, q⟩
  · obtain ⟨r, rfl, hq⟩ := hv
    exact wpAny_truthy_bool (wpAny_pure hq)
end
end KdXc

namespace KdRp
open PySem PySem.Spec PyProof.Rows L2
section
variable {prog : Program} {w : World}
/-- what repr makes of x in this heap is some text of at most L signs -/
def RepW (prog : Program) (w : World) (h : Heap) (d : Nat) (x : Value) (L : Nat) : Prop :=
  ∀ (A : Around) (s : Shared), A.units + d < cLine → s.heap = h → ∀ b, b + L ≤ sizeLine → ∀ (E : Value → Shared → Prop) (Q : Str → Shared → Prop), (∀ t tk, t.length ≤ L → Q t { s with toks := tk }) → wpAny (model prog w) A (pyReprUnder b x) Q E s
theorem RepW.flat {h : Heap} {d L : Nat} {x : Value} {t : Str} (r : ReprIs prog w x t) (hl : t.length ≤ L) : RepW prog w h d x L := fun A s _ _ b hb E Q q => r b (by omega) A E s Q fun tk => q t tk hl
theorem fold_w {h : Heap} {d L : Nat} {A : Around} {E : Value → Shared → Prop} (hu : A.units + d < cLine) : ∀ (l : List Value) (acc : Array Str) (n : Nat) (s : Shared) (Q : (Array Str × Nat) → Shared → Prop), s.heap = h → (∀ x ∈ l, RepW prog w h d x L) → n + 1 + (L + 2) * l.length ≤ sizeLine →
    (∀ (ts : List Str) (m : Nat) (tk : Nat), ts.length = l.length → (∀ t ∈ ts, t.length ≤ L) → Q ⟨acc ++ ts.toArray, m⟩ { s with toks := tk }) → wpAny (model prog w) A (forIn l (⟨acc, n⟩ : (Array Str × Nat)) tupBody) Q E s := by
  intro l
  induction l with
  | nil =>
    intro acc n s Q _ _ _ q
    have q0 := q [] n s.toks rfl (fun _ z => (nomatch z))
    simp only [List.forIn_nil]
    exact wpAny_pure (by simpa using q0)
  | cons x l ih =>
    intro acc n s Q hs hx hn q
    rw [List.length_cons, Nat.mul_succ] at hn
    rw [List.forIn_cons]
    refine wpAny_bind (wpAny_bind (hx x (List.mem_cons_self ..) A s hu hs (n + 1) (by omega) E _ fun t tk ht => wpAny_pure ?_))
    refine ih (acc.push t) (n + (t.length + 2)) { s with toks := tk } Q hs (fun y hy => hx y (List.mem_cons_of_mem _ hy)) (by omega) fun ts m tk' hl hts => ?_
    have q1 := q (t :: ts) m tk' (by rw [List.length_cons, hl, List.length_cons]) fun y hy => by
      rcases List.mem_cons.mp hy with rfl | hy
      · exact ht
      · exact hts y hy
    simpa using q1
theorem piled_of : ∀ (ts : List Str) {L : Nat}, (∀ t ∈ ts, t.length ≤ L) → piled ts ≤ (L + 2) * ts.length
  | [], _, _ => Nat.zero_le _
  | t :: ts, L, h => by
    have ih := piled_of ts fun y hy => h y (List.mem_cons_of_mem _ hy)
    have h1 := h t (List.mem_cons_self ..)
    rw [piled_cons, List.length_cons, Nat.mul_succ]
    omega
theorem join_le (ts : List Str) {L : Nat} (h : ∀ t ∈ ts, t.length ≤ L) : (Str.join ", " ts).length ≤ (L + 2) * ts.length := by
  have p := piled_of ts h
  cases ts with
  | nil => show (Str.join ", " []).length ≤ _; exact Nat.zero_le _
  | cons t ts =>
    have e := join_length_add (t :: ts) (by simp)
    omega
/-- a tuple's signs -/
abbrev tupL (L n : Nat) : Nat := (L + 2) * n + 8
theorem at_w {h : Heap} {d L b : Nat} {A : Around} {E : Value → Shared → Prop} {s : Shared} {a : Addr} {o : Obj} {items : Array Value} {n : Nat} {Q : Fin → Shared → Prop} (hu : A.units + d < cLine) (hs : s.heap = h) (ha : h.get? a = some o) (hd : o.data = .seq items n)
    (hx : ∀ x ∈ items.toList, RepW prog w h d x L) (hb : b + tupL L items.size ≤ sizeLine) (q : ∀ m u tk, m.length ≤ tupL L items.size → Q (.done (.ret (.str m u))) { s with toks := tk }) : wpAny (model prog w) A (Builtin.tupleReprAt b ⟨[.ref a], []⟩) Q E s := by
  have hb' : b + ((L + 2) * items.size + 8) ≤ sizeLine := hb
  rw [tuple_repr_tree]
  refine wpAny_bind (fmt_underWay fun c => ?_)
  cases c with
  | true =>
    refine PySem.W.KFB.if_so rfl ?_
    refine wpAny_bind (wpAny_rule ?_)
    refine wpAny_bind (wpAny_mkStr (wpAny_pure ?_) (by decide +kernel))
    exact q "(...)" _ _ (Nat.le_trans fmt_way (by show 5 ≤ (L + 2) * items.size + 8; omega))
  | false =>
    refine PySem.W.KFB.if_not rfl ?_
    unfold tupleReprRest Builtin.Tuple.tupleItemsOf
    refine wpAny_bind (wpAny_bind (wpAny_seqItems (by rw [hs]; exact ha) hd (wpAny_pure ?_)))
    rw [← Array.forIn_toList]
    have el : items.toList.length = items.size := Array.length_toList
    refine wpAny_bind (fold_w hu _ _ _ _ _ hs hx (by rw [el]; omega) fun ts m tk hl hts => ?_)
    have hj := join_le ts hts
    rw [hl, el] at hj
    have e1 : ((("(" : String) : Str)).length = 1 := rfl
    have e3 : (((if items.size == 1 then ",)" else ")" : String) : Str)).length ≤ 2 := by split <;> decide +kernel
    have e4 : (#[] ++ ts.toArray).toList = ts := by simp
    have hm : ((("(" : Str) ++ Str.join ", " ts ++ ((if items.size == 1 then ",)" else ")" : String) : Str)) : Str).length ≤ tupL L items.size := by
      rw [strLen_append, strLen_append, e1]
      show _ ≤ (L + 2) * items.size + 8
      omega
    have hz := Nat.le_trans hm (Nat.le_trans (Nat.le_add_left _ b) hb)
    refine wpAny_bind (wpAny_mkStr (wpAny_pure ?_) (by simpa using hz))
    have q1 := q _ tk (tk + 1) hm
    simpa using q1
/-- a tuple within -/
theorem RepW.tup {h : Heap} {d L : Nat} {a : Addr} {o : Obj} {items : Array Value} {n : Nat} (ha : h.get? a = some o) (hc : o.cls = .type "tuple") (hd : o.data = .seq items n) (hx : ∀ x ∈ items.toList, RepW prog w h d x L) : RepW prog w h (d + 2) (.ref a) (tupL L items.size) := by
  intro A s hu hs b hb E Q q
  have hT : s.TypeIs (.ref a) "tuple" := ⟨o, by rw [hs]; exact ha, hc⟩
  refine wpAny_pyReprUnder_ref (by omega) (wpAny_pyReprObjUnder_twin (twin := "tuple.__repr__.under") hT F.slot_tuple_repr rfl (by omega) ?_)
  refine call_twin_own (F.quiet_tuple_repr_under _) F.entry_tuple_repr_under F.check_tuple_repr_under hT F.slot_tuple_repr (F.args_tuple_repr_1 _) (wpOwn_of_wpAny ?_)
  refine at_w (by rw [units_under_tuple_repr_under]; omega) hs ha hd hx hb fun m u tk hm => ?_
  exact ⟨⟨m, u, rfl⟩, m, u, rfl, q m tk hm⟩
/-- repr(t) -/
theorem repr_w {h : Heap} {d L : Nat} {A : Around} {E : Value → Shared → Prop} {s : Shared} {a : Addr} {o : Obj} {items : Array Value} {n : Nat} {Q : Value → Shared → Prop} (hu : A.units + (d + 8) < cLine) (hs : s.heap = h) (ha : h.get? a = some o) (hc : o.cls = .type "tuple") (hd : o.data = .seq items n)
    (hx : ∀ x ∈ items.toList, RepW prog w h d x L) (hb : tupL L items.size ≤ sizeLine) (q : ∀ (m : Str) (u tk : Tok), Q (.str m u) { s with toks := tk }) : wpAny (model prog w) A (call (.builtin "repr") [.ref a]) Q E s := by
  have hT : s.TypeIs (.ref a) "tuple" := ⟨o, by rw [hs]; exact ha, hc⟩
  refine call_repr_slot (by omega) hT F.slot_tuple_repr ?_
  refine wpAny_call (codeAny_call_builtin_own (Code.quiet_builtin _ (by decide +kernel)) F.entry_tuple_repr (F.slot_tuple_repr.check _ _ _ _ _ _ _ _ hT (F.args_tuple_repr_1 _) (wpOwn_of_wpAny ?_)))
  refine at_w (b := 0) (by
    have e : A.in1.units ≤ A.units + 1 := by first | exact Nat.le_refl _ | (simp [Around.in1])
    rw [units_under_tuple_repr]
    omega) hs ha hd hx (by omega) fun m u tk _ => ?_
  exact ⟨m, u, rfl, q m u tk⟩
end
/-! ### repr of what a refusal keeps -/
theorem RepW.mono {prog : Program} {w : World} {h : Heap} {d d' L L' : Nat} {x : Value} (r : RepW prog w h d x L) (hd : d ≤ d') (hl : L ≤ L') : RepW prog w h d' x L' :=
  fun A s hu hs b hb E Q q => r A s (by omega) hs b (by omega) E Q fun t tk ht => q t tk (by omega)
/-- a value without parts, of a few signs -/
def FlatS : V → Prop
  | .str z => (∀ c ∈ z.cps.toList, c < 16 ^ 8) ∧ z.length ≤ 100
  | .int i => i.natAbs.log2 < 1920
  | .non => True
  | _ => False
theorem flat_w {prog : Program} {w : World} {h : Heap} {v : V} {u : Value} (r : RelV v u) (f : FlatS v) : RepW prog w h 0 u 2000 := by
  cases v with
  | str z =>
    obtain ⟨t, rfl⟩ := r
    have := StrLaws.reprText_len z f.1
    have f2 := f.2
    have hl : (reprText z).length ≤ 2000 := by omega
    exact .flat (ReprIs.str z t (Nat.le_trans hl (by decide))) hl
  | int i =>
    obtain ⟨t, rfl⟩ := r
    exact .flat (ReprIs.int t f) (Nat.le_trans (int_text_len_1921 f) (by decide))
  | non =>
    cases r
    exact .flat ReprIs.none (by decide +kernel)
  | _ => exact f.elim
theorem flats_w {prog : Program} {w : World} {h : Heap} : ∀ {ys : List V} {us : List Value}, Vals ys us → (∀ y ∈ ys, FlatS y) → ∀ u ∈ us, RepW prog w h 0 u 2000
  | [], _, r, _, u, hu => by
    cases r
    cases hu
  | y :: ys, _, r, hy, u, hu => by
    cases r with
    | cons r1 r2 =>
      rcases List.mem_cons.mp hu with rfl | hu
      · exact flat_w r1 (hy y (List.mem_cons_self ..))
      · exact flats_w r2 (fun z hz => hy z (List.mem_cons_of_mem _ hz)) u hu
/-- a tuple of such -/
def Tup1 (K : PySem.W.Frag) (H : Hp) (y : V) : Prop := ∃ (b : Addr) (zs : List V), y = .ref b ∧ SqT K H b zs ∧ zs.length ≤ 40 ∧ ∀ z ∈ zs, FlatS z
def Rep2 (K : PySem.W.Frag) (x : V) (H : Hp) : Prop := (∃ z : Str, x = .str z ∧ KdEx.Flat1 (.str z)) ∨ (∃ i : Int, x = .int i ∧ i.natAbs.log2 < 1920) ∨ x = .non ∨ ∃ (a : Addr) (ys : List V), x = .ref a ∧ SqT K H a ys ∧ ys.length ≤ 40 ∧ ∀ y ∈ ys, FlatS y ∨ Tup1 K H y
section
variable {X : Cx} {pins : List (Addr × Obj)} {σ : L2.St} {H : Hp} {s : Shared}
theorem parts_w (I : Inv X pins σ H s) : ∀ {ys : List V} {us : List Value}, Vals ys us → (∀ y ∈ ys, FlatS y ∨ Tup1 X.K H y) → ∀ u ∈ us, RepW X.prog X.w s.heap 2 u 80100
  | [], _, r, _, u, hu => by
    cases r
    cases hu
  | y :: ys, _, r, hy, u, hu => by
    cases r with
    | cons r1 r2 =>
      rcases List.mem_cons.mp hu with rfl | hu
      · rcases hy y (List.mem_cons_self ..) with f | ⟨b, zs, rfl, hb, hl, hz⟩
        · exact (flat_w r1 f).mono (by decide) (by decide)
        · cases r1
          obtain ⟨its, rv, ⟨o, ho, hcl, n, hd⟩, _⟩ := I.tuple hb
          have el : its.toArray.size = zs.length := by rw [List.size_toArray, ← rv.length]
          refine RepW.mono (RepW.tup (d := 0) (L := 2000) ho hcl hd (by simpa using flats_w rv hz)) (by decide) ?_
          show (2000 + 2) * its.toArray.size + 8 ≤ 80100
          rw [el]
          omega
      · exact parts_w I r2 (fun z hz => hy z (List.mem_cons_of_mem _ hz)) u hu
def rRep2 (K : PySem.W.Frag) : List V → Hp → VK → Prop := fun xs H Q => ∃ x, xs = [x] ∧ Rep2 K x H ∧ ∀ m : Str, Q (.str m) H
theorem cr_rep2 (hu : X.A.units + 64 < cLine) : CallR X (.builtin "repr") (rRep2 X.K) := by
  intro pins s σ H xs us Q I r h
  obtain ⟨x, rfl, hx, q⟩ := h
  obtain ⟨u, rfl, rx⟩ := vals1 r
  rcases hx with ⟨z, rfl, hz⟩ | ⟨i, rfl, hi⟩ | rfl | ⟨a, ys, rfl, ht, hl, hy⟩
  · obtain ⟨t, rfl⟩ := rx
    exact PySem.P.repr_of_str ⟨.str _, H, I.tok _, ⟨_, rfl⟩, q _⟩ (Nat.le_trans (KdEx.flat_len (v := .str z) hz) (by decide))
  · obtain ⟨t, rfl⟩ := rx
    exact PySem.P.repr_of_int hi ⟨.str _, H, I.tok _, ⟨_, rfl⟩, q _⟩
  · cases rx
    exact PySem.P.repr_of_none ⟨.str _, H, I.tok _, ⟨_, rfl⟩, q _⟩
  · cases rx
    obtain ⟨its, rv, ⟨o, ho, hcl, n, hd⟩, _⟩ := I.tuple ht
    have el : its.toArray.size = ys.length := by rw [List.size_toArray, ← rv.length]
    refine repr_w (d := 2) (L := 80100) (by omega) rfl ho hcl hd (by simpa using parts_w I rv hy) (Nat.le_trans (show (80100 + 2) * its.toArray.size + 8 ≤ 4000000 by rw [el]; omega) (by decide)) fun m u tk => ⟨.str m, H, I.tok _, ⟨u, rfl⟩, q m⟩
end
end KdRp

set_option maxHeartbeats 4000000
namespace KdXv
open PySem PySem.W PySem.Calls PyProof.Rows PySem.HandSPX
open Builtin Builtin.ObjectAttr
/-! ### C(k = v), C an own class over ValueError with an __init__ -/
section
variable {M : Model} {prog : Program} {w : World} {A : Around} {E : Value → Shared → Prop} {R : Result → Shared → Prop} {h : Heap} {g : Array GenState} {d : Drawn} {t : Nat} {os : OsState} {kw : List (Str × Value)}
variable {nm q : Str} {C N : Addr} {bs bm bmB : List Value} {hdct : Bool} {sn : List Str} {sub : List Value} {ab : Bool} {col : Option Bool} {dd : Option Addr} {k0 k1 k2 k3 k5 : Option Value} {B newId initId : String}
theorem check_kw (F : ExcBaseFacts B newId initId bmB) (hT : ∀ X : String, bm.contains (.type X) = bmB.contains (.type X)) {Q : Unit → Shared → Prop} (hC : h.get? C = some (excClassObj nm q C N bs bm hdct sn sub ab col dd k0 k1 k2 k3 k5 newId)) (hq : Q () ⟨h, g, d, t, os⟩) :
    wpAny M A (checkBuiltinCall newId ⟨[.ref C], kw⟩) Q E ⟨h, g, d, t, os⟩ := by
  have has : (Value.ref C :: bm).contains (.type B) = true := by rw [List.contains_cons, hT, F.hasB, Bool.or_true]
  have star := F.noStar
  simp only [checkBuiltinCall, F.newKind, F.newSplit, F.newRow]
  repeat (first | refine wpAny_loadPart_at hC ?_ | (refine wpAny_isSubtype_exc hC ?_; rw [has]) | refine wpAny_staticBase_exc hC ?_ | refine wpAny_madeBy_exc hC ?_ | simp only [bne_self_eq_false, Bool.false_eq_true, if_false] | wp_step)
  exact hq
theorem new_kw (F : ExcBaseFacts B newId initId bmB) (hT : ∀ X : String, bm.contains (.type X) = bmB.contains (.type X)) (hC : h.get? C = some (excClassObj nm q C N bs bm hdct sn sub ab col dd k0 k1 k2 k3 k5 newId))
    (hq : R (.ok (.ret (.ref (h.objs.size + 1)))) ⟨(h.push (W.kdv_tup [])).push (excO C h.objs.size), g, d, t, os⟩) : codeAny (model prog w) A (.builtin newId ⟨[.ref C], kw⟩) R ⟨h, g, d, t, os⟩ := by
  have ends := F.ends
  have c1 : (Value.ref C :: bm).contains (.type B) = true := by rw [List.contains_cons, hT, F.hasB, Bool.or_true]
  have c2 : (Value.ref C :: bm).contains (.type "AttributeError") = false := by rw [List.contains_cons, hT, F.noAttr]; rfl
  have c3 : (Value.ref C :: bm).contains (.type "NameError") = false := by rw [List.contains_cons, hT, F.noName]; rfl
  refine codeAny_builtinAt F.entry ?_
  unfold Builtin.«BaseException.__new__»
  refine _root_.PySem.wpAt_bind ?_
  show _root_.PySem.wpAt _ _ _ (stack >>= _) _ _ _
  refine _root_.PySem.wpAt_bind (_root_.PySem.wpAt_stack fun p below => _root_.PySem.wpAt_of_wpAny ?_)
  wp_walk
  refine _root_.PySem.wpAt_of_wpAny ?_
  rw [F.owner]
  repeat (first | with_reducible refine wpAny_madeHere_exc F.canon hC ?_ | with_reducible refine wpAny_loadPart_at hC ?_ | (with_reducible refine wpAny_isSubtype_exc hC ?_; first | rw [c1] | rw [c2] | rw [c3]) | wp_step)
  show R _ _
  rw [Heap.size_push]
  exact hq
theorem type_kw (F : ExcBaseFacts B newId initId bmB) (hT : ∀ X : String, bm.contains (.type X) = bmB.contains (.type X)) {fI : Addr} {Q : Fin → Shared → Prop} (hC : h.get? C = some (excClassObj nm q C N bs bm hdct sn sub ab col dd k0 k1 k2 k3 k5 newId))
    (hi : W.Looks (model prog w) h (typeLookup (.ref C) "__init__") (some (.ref fI))) (hb : ∀ self, W.Looks (model prog w) h (bindSpecial (.ref fI) self) (.ref fI, [self]))
    (hq : codeAny (model prog w) A (.call (.ref fI) ⟨[.ref (h.objs.size + 1)], kw⟩) (fun r s' => match r with | .ok (.ret v) => v = .none ∧ Q (.done (.ret (.ref (h.objs.size + 1)))) s' | .ok _ => False | .error e => E e s') ⟨(h.push (W.kdv_tup [])).push (excO C h.objs.size), g, d, t, os⟩) :
    wpAny (model prog w) A (Builtin.«type.__call__» ⟨[.ref C], kw⟩) Q E ⟨h, g, d, t, os⟩ := by
  repeat (first | with_reducible refine wpAny_loadPart_at hC ?_ | with_reducible refine wpAny_madeBy_exc hC ?_ | wp_step)
  refine codeAny_call_builtin_code (Code.quiet_builtin _ F.quiet) (check_kw F hT hC ?_)
  refine new_kw F hT hC ?_
  show wpAny _ _ _ _ _ _
  have keep : ∀ b o, h.get? b = some o → ((h.push (W.kdv_tup [])).push (excO C h.objs.size)).get? b = some o := fun b o e => Heap.get?_push_of_some _ (Heap.get?_push_of_some _ e)
  have hC1 := keep _ _ hC
  have here : ((h.push (W.kdv_tup [])).push (excO C h.objs.size)).get? (h.objs.size + 1) = some (excO C h.objs.size) := by heap_get
  have own : (Value.ref C :: bm).contains (.ref C) = true := by simp
  have i1 := hi.keeps keep
  have b1 := (hb (.ref (h.objs.size + 1))).keeps keep
  unfold isInstance
  repeat (first | with_reducible refine wpAny_loadPart_at here ?_ | (with_reducible refine wpAny_isSubtype_exc hC1 ?_; rw [own]) | wp_step)
  show wpAny _ _ (typeLookup (.ref C) _) _ _ _
  refine i1.at ?_
  refine wpAny_holding (wpAny_bind (b1.at ?_))
  refine wpAny_bind (wpAny_call (codeAny_mono hq fun r s' z => ?_))
  rcases r with e | (v | _ | _ | _) <;> first | exact z | exact z.elim | skip
  obtain ⟨rfl, z⟩ := z
  first
    | exact wpAny_pure (wpAny_pure z)
    | (wp_walk; exact z)
theorem call_kw (F : ExcBaseFacts B newId initId bmB) (hT : ∀ X : String, bm.contains (.type X) = bmB.contains (.type X)) {fI : Addr} (hC : h.get? C = some (excClassObj nm q C N bs bm hdct sn sub ab col dd k0 k1 k2 k3 k5 newId))
    (hi : W.Looks (model prog w) h (typeLookup (.ref C) "__init__") (some (.ref fI))) (hb : ∀ self, W.Looks (model prog w) h (bindSpecial (.ref fI) self) (.ref fI, [self]))
    (hq : codeAny (model prog w) (A.under (.builtin "type.__call__" ⟨[.ref C], kw⟩)) (.call (.ref fI) ⟨[.ref (h.objs.size + 1)], kw⟩) (W.InitBack (h.objs.size + 1) R) ⟨(h.push (W.kdv_tup [])).push (excO C h.objs.size), g, d, t, os⟩) :
    codeAny (model prog w) A (.call (.ref C) ⟨[], kw⟩) R ⟨h, g, d, t, os⟩ := by
  have f1 := tc_lookup
  have f2 := tc_bind (.ref C)
  have ty : (⟨h, g, d, t, os⟩ : Shared).TypeIs (.ref C) "type" := ⟨_, hC, rfl⟩
  refine codeAny_of_tree ?_
  show wpAny _ _ (callAny (.ref C) _) _ _ _
  repeat (any_goals (first | assumption | with_reducible refine wpAny_loadPart_at hC ?_ | wp_step))
  refine ⟨rfl, ?_⟩
  have chk : ∀ {Q : Unit → Shared → Prop} {E : Value → Shared → Prop} {A : Around}, Q () ⟨h, g, d, t, os⟩ → wpAny (model prog w) A (checkBuiltinCall "type.__call__" ⟨[.ref C], kw⟩) Q E ⟨h, g, d, t, os⟩ := fun {Q E A} hq' => by
    have f3 := tc_sub
    simp only [checkBuiltinCall, tc_kind, tc_split]
    repeat (any_goals (first | assumption | with_reducible refine wpAny_loadPart_at hC ?_ | with_reducible refine wpAny_onRaise ?_ | with_reducible refine wpAny_map ?_ | wp_step))
  refine codeAny_call_builtin_at (Code.quiet_builtin _ (by decide +kernel)) entry_typeCall (chk (type_kw F hT hC hi hb ?_))
  refine codeAny_mono hq fun r s' z => ?_
  rcases r with e | (v | _ | _ | _) <;> exact z
end
end KdXv
namespace KdXv
open PySem PySem.Spec PyProof.Rows L2 KdXc
/-! ### a refusal's field, as it is made -/
def tMkF (t : L2.St → Hp → XK → Prop) (C : Addr) (f : Str) : TE := fun σ H Q => t σ H fun cls d H2 => cls = .ref C ∧ ∃ (dd : Addr) (fs : List (Str × V)) (v : V), d = some dd ∧ H2 dd = some (.xd fs) ∧ fs.lookup f = some v ∧ Q v H2
theorem pe_mkf {X : Cx} {C : Addr} {e : Expr} {t : L2.St → Hp → XK → Prop} {n : Str} {pos : Pos} (hm : PMk X e t) (T : XfC X.K C) (hno : PySem.W.findIn X.K (.ref C) n = some none) (hb : attributeBase e n X.env (eval e X.env) = eval e X.env := by rfl) : PE X (.Attribute e n pos) (tMkF t C n) := by
  refine ⟨fun pins s σ H Q I h => ?_⟩
  refine attr_of hb (thn (hm pins s σ H _ I h) fun u s1 hu => ?_)
  obtain ⟨a, oe, vs, sI, H', cls, d, rfl, J, k, hne, ha, hz, hd, h1, na, os, ag, r, ec, dd, fs, v, ed, ea, l, q⟩ := hu
  subst ec ed
  have up : sI.heap.UpToSlots s1.heap := fun b o e _ => ⟨o.slots, k b o e⟩
  have J1 : Inv X pins σ H' s1 := J.landed (B := s1.heap) (fun b o e _ => k b o e) (fun _ _ e => e) up os ag
  have hx : ObjOk X.prog X.w H' s1.heap dd (.xd fs) := J1.hok dd _ ea
  obtain ⟨mA, hns, hr⟩ := hx
  obtain ⟨od, ho, hl⟩ := lookIn_ns hns
  obtain ⟨u, hu, ru⟩ := RelO.some_of (v := v) (o := mA n) (by rw [← l]; exact hr n)
  have JJ : PySem.W.InstAt s1.heap a oe C (some od) := ⟨ha, hz.1, by unfold PySem.W.notCls; rw [hd] <;> rfl, by rw [hz.2]; exact ho⟩
  exact HandSPX.exc_get J1.kIn JJ T.ga T.gg T.exC (PySem.W.findObj_own T.hdC hno rfl (by rw [hl, hu])) (handed_of ru) ⟨v, H', J1.tok _, ru, q⟩
/-- C(k = e) -/
def tMkK (C : Addr) (sp : Sp) (te : TE) : L2.St → Hp → XK → Prop := fun σ H Q => tCons te tNil σ H fun zs H1 => ∃ v, zs = [v] ∧ ∀ a, H1 a = none → sp [.ref a, v] (upd H1 a (exo a C none))
  (fun u H2 => u = .non ∧ ∃ (d : Addr) (fs : List (Str × V)), H2 a = some (exo a C (some d)) ∧ H2 d = some (exd d fs) ∧ H1 d = none ∧ Q (.ref C) (some d) (upd (del H2 a) d (.xd fs))) (fun _ _ _ => False)
theorem pmk_kw {X : Cx} {x kn : Str} {C fI : Addr} {k : Nat} {fd : FuncData} {ps : List Str} {sp : Sp} {e : Expr} {te : TE} {p pos kpos : Pos} (T : ErrC X.K C fI) (G : FnOk X.prog X.w X.K X.mg X.base CX0 k fI fd ps sp) (hr : Room (k + 1) X.A)
    (hb : ∀ (s : Shared) (a v : Value), X.K.In s.heap → BindsTo s fd ⟨[a], [(kn, v)]⟩ (ps.zip [a, v])) (hg : Gl X x) (hm : X.mg x = some (.ref C)) (he : PE X e te)
    (hall : (backToKw pos (keywordEach [⟨some kn, e, kpos⟩] X.env)).all (·.1.isSome) = true := by rfl) (hks : (backToKw pos (keywordEach [⟨some kn, e, kpos⟩] X.env)).filterMap (·.1) = [kn] := by rfl) (hdb : (x == ("__debug__" : Str)) = false := by decide)
    (hpl : ((backTo pos (starEach [] X.env)).any (·.1) || (backToKw pos (keywordEach [⟨some kn, e, kpos⟩] X.env)).any (·.1.isNone)) = false := by rfl) : PMk X (.Call (.Name x p) [] [⟨some kn, e, kpos⟩] pos) (tMkK C sp te) := by
  intro pins s σ H Q I h
  obtain ⟨nm, q, N, bs, bm, sn, sub, ab, col, dd, k0, k1, k2, k3, k5, hC, hbm⟩ := T.o.cls
  have hk : PK X [⟨some kn, e, kpos⟩] (tCons te tNil) := pk_cons he pk_nil
  refine wpAny_Call_Name_kw (ld_glob I hg hm ?_ hdb)
  refine PySem.W.callWith_KW0 (h₀ := X.base) I.ok.mod.kin T.o.kC hall ?_ hpl
  refine thn (hk.run pos pins s σ H _ I h) fun ws s1 hh => ?_
  obtain ⟨zs, H1, I1, rz, v, rfl, q1⟩ := hh
  refine ⟨I1.kIn, ?_⟩
  rw [hks]
  cases rz with
  | cons rv rr =>
    cases rr
    rename_i u
    obtain ⟨hp, g, dr, tk, os⟩ := s1
    have hsz : hp.objs.size ≤ hp.objs.size + 1 := Nat.le_succ _
    have hn : H1 (hp.objs.size + 1) = none := I1.hok.fresh hsz
    have want := q1 (hp.objs.size + 1) hn
    have kk : ∀ b o, hp.get? b = some o → ((hp.push (PySem.W.kdv_tup [])).push (PySem.HandSPX.excO C hp.objs.size)).get? b = some o := fun b o e => Heap.get?_push_of_some _ (Heap.get?_push_of_some _ e)
    have here : ((hp.push (PySem.W.kdv_tup [])).push (PySem.HandSPX.excO C hp.objs.size)).get? (hp.objs.size + 1) = some (PySem.HandSPX.excO C hp.objs.size) := by heap_get
    have J : Inv X pins σ (upd H1 (hp.objs.size + 1) (exo (hp.objs.size + 1) C none)) ⟨(hp.push (PySem.W.kdv_tup [])).push (PySem.HandSPX.excO C hp.objs.size), g, dr, tk, os⟩ :=
      I1.laid (t' := tk) (a := hp.objs.size + 1) (o := exo (hp.objs.size + 1) C none) (h' := (hp.push (PySem.W.kdv_tup [])).push (PySem.HandSPX.excO C hp.objs.size)) kk hsz (exo_ok here)
    have r2 : Vals [V.ref (hp.objs.size + 1), v] [Value.ref (hp.objs.size + 1), u] := .cons rfl (.cons rv .nil)
    have go := G.run _ X.stack _ _ ⟨[Value.ref (hp.objs.size + 1)], [(kn, u)]⟩ [Value.ref (hp.objs.size + 1), u] _ _ (fun _ _ _ => False) (hr.make C [] [(kn, u)]) (J.env0.make C [] [(kn, u)]) (hb _ _ _ J.kIn) r2 want
    refine wpAny_call (KdXv.call_kw F.excBase_ValueError (fun Y => PySem.HandSPX.refsVE_contains Y bm hbm) (I1.kIn _ _ hC) (PySem.W.looks_findIn I1.kIn T.iC) (fun self => PySem.W.bind_fn I1.kIn self T.tI) (codeAny_mono go fun r s' back => ?_))
    cases r with
    | error er => exact False.elim back
    | ok fl =>
      cases fl with
      | ret u2 =>
        obtain ⟨v2, H2, os2, bare2, un2, hok2, rv2, ev, d, fs, ea, ed, hd1, q2⟩ := back
        subst ev
        obtain ⟨h2, g2, d2, t2, os'⟩ := s'
        exact ⟨rv2, mk_end (raises_own T.o.exC T.o.tyC) I1 hsz kk un2 hok2 os2 bare2 ea ed hd1 q2⟩
      | next => exact False.elim back
      | brk => exact False.elim back
      | cont => exact False.elim back
/-- what tMkK asks of a refusal -/
theorem err_kw {K : PySem.W.Frag} {C : Addr} {fs : V → List (Str × V)} {Ok : V → Hp → Prop} {H1 : Hp} {v : V} {Q : XK} (ok : ∀ a, H1 a = none → Ok v (upd H1 a (exo a C none))) (k : ∀ d, H1 d = none → Q (.ref C) (some d) (upd H1 d (.xd (fs v)))) :
    ∃ y, [v] = [y] ∧ ∀ a, H1 a = none → spErr K C fs Ok [.ref a, y] (upd H1 a (exo a C none))
      (fun u H2 => u = .non ∧ ∃ (d : Addr) (gs : List (Str × V)), H2 a = some (exo a C (some d)) ∧ H2 d = some (exd d gs) ∧ H1 d = none ∧ Q (.ref C) (some d) (upd (del H2 a) d (.xd gs))) (fun _ _ _ => False) :=
  ⟨v, rfl, (err_ok (K := K) ok k).2⟩
end KdXv

namespace Kd
open PySem PySem.Spec PyProof.Rows L2 KdXc
section
variable {P : Program} {w : World} {K : PySem.W.Frag} {mg : Str → Option Value} {base : Heap} {f : Addr} {fd : FuncData}
/-! ### a refusal's __init__ -/
def dayF (v : V) : List (Str × V) := [("name", .str "DayError"), ("what", v)]
def noF (nm : Str) (v : V) : List (Str × V) := ("name", .str nm) :: dayF v
abbrev RepOk (K : PySem.W.Frag) (v : V) (H : Hp) : Prop := KdRp.Rep2 K v H
theorem what_of (nm : Str) (v : V) : (noF nm v).lookup ("what" : Str) = some v := by
  unfold noF dayF
  rw [List.lookup_cons, show (("what" : Str) == "name") = false by decide +kernel, List.lookup_cons, show (("what" : Str) == "name") = false by decide +kernel, List.lookup_cons, show (("what" : Str) == "what") = true by decide +kernel]
theorem sc_DayError : FnScope ["self", "what"] ["self", "what"] (defScope s_DayError_init) := ⟨rfl, rfl, rfl, by decide +kernel, rfl, by decide +kernel, by decide +kernel⟩
theorem ok_DayError {C fI : Addr} (F : FnP K "__init__" "DayError.__init__" s_DayError_init f fd) (T : ErrC K C fI) (z_ValueError : mg "ValueError" = none) (vV : PySem.W.findCls K (.type "ValueError") (.type "type") "__init__" = some (.val (.builtin "ValueError.__init__"))) (z_repr : mg "repr" = none) :
    FnOk P w K mg base CX0 1 f fd ["self", "what"] (spErr K C dayF (RepOk K)) := by
  refine F.ok sc_DayError (fun vs H Q E h => ?_) (fun cdv A outer s H vs Q E hr h => ?_)
  · obtain ⟨a, v, rfl, _⟩ := h
    rfl
  · obtain ⟨a, v, rfl, ha, hv, k⟩ := h
    have nd := sc_DayError.nd
    refine ⟨_, PSs.nox (pss_cons (ps_expr (pe_veinit rfl z_ValueError vV (pa_cons (pv 0) (pa_cons (pe_callB (KdRp.cr_rep2 hr.units) (by rfl) z_repr (by decide +kernel) (pa_cons (pv 1) pa_nil)) pa_nil))))
      (pss_cons (ps_ost (pv 0) (pv 1)) (pss_one (ps_ost (pv 0) pe_str)))), ?_⟩
    refine ⟨_, rfl, _, rfl, v, rfl, hv, fun m => ⟨a, C, [.str m], rfl, by show 1 ≤ 1000; decide, T.o, ha, ?_⟩⟩
    refine ⟨_, rfl, _, rfl, a, C, rfl, T.o, T.nW, .inl ⟨ha, fun d hd nda => ?_⟩⟩
    refine ⟨_, rfl, a, C, rfl, T.o, T.nN, .inr ⟨d, _, upd_same, by rw [upd_ne nda]; exact upd_same, by show 1 ≤ 900; decide, ?_⟩⟩
    refine k d _ hd nda (by rw [upd_ne nda.symm]; exact upd_same) upd_same fun b hba hbd => ?_
    rw [upd_ne hbd, upd_ne hba, upd_ne hbd]
theorem sc_NoPlan : FnScope ["self", "what"] ["self", "what"] (defScope s_NoPlan_init) := ⟨rfl, rfl, rfl, by decide +kernel, rfl, by decide +kernel, by decide +kernel⟩
theorem ok_NoPlan {C fI D fD : Addr} {fdD : FuncData} (F : FnP K "__init__" "NoPlan.__init__" s_NoPlan_init f fd) (T : ErrC K C fI) (GD : FnOk P w K mg base CX0 1 fD fdD ["self", "what"] (spErr K C dayF (RepOk K))) (cD : KdEx.ClsFn K D fD "__init__") (bD : Binds K fdD ["self", "what"] []) (gD : mg "DayError" = some (.ref D)) :
    FnOk P w K mg base CX0 2 f fd ["self", "what"] (spErr K C (noF "NoPlan") (RepOk K)) := by
  refine F.ok sc_NoPlan (fun vs H Q E h => ?_) (fun cdv A outer s H vs Q E hr h => ?_)
  · obtain ⟨a, v, rfl, _⟩ := h
    rfl
  · obtain ⟨a, v, rfl, ha, hv, k⟩ := h
    refine ⟨_, PSs.nox (pss_cons (ps_expr (KdEx.pe_clsfn rfl gD cD GD hr bD .nil pass0 (pa_cons (pv 0) (pa_cons (pv 1) pa_nil)))) (pss_one (ps_ost (pv 0) pe_str))), ?_⟩
    refine ⟨_, rfl, _, rfl, a, v, rfl, ha, hv, fun d H' hd nda e1 e2 rest => ?_⟩
    refine ⟨_, rfl, a, C, rfl, T.o, T.nN, .inr ⟨d, _, e1, e2, by show 2 ≤ 900; decide, ?_⟩⟩
    refine k d _ hd nda (by rw [upd_ne nda.symm]; exact e1) upd_same fun b hba hbd => ?_
    rw [upd_ne hbd]
    exact rest b hba hbd
theorem sc_NoRow : FnScope ["self", "what"] ["self", "what"] (defScope s_NoRow_init) := ⟨rfl, rfl, rfl, by decide +kernel, rfl, by decide +kernel, by decide +kernel⟩
theorem ok_NoRow {C fI D fD : Addr} {fdD : FuncData} (F : FnP K "__init__" "NoRow.__init__" s_NoRow_init f fd) (T : ErrC K C fI) (GD : FnOk P w K mg base CX0 1 fD fdD ["self", "what"] (spErr K C dayF (RepOk K))) (cD : KdEx.ClsFn K D fD "__init__") (bD : Binds K fdD ["self", "what"] []) (gD : mg "DayError" = some (.ref D)) :
    FnOk P w K mg base CX0 2 f fd ["self", "what"] (spErr K C (noF "NoRow") (RepOk K)) := by
  refine F.ok sc_NoRow (fun vs H Q E h => ?_) (fun cdv A outer s H vs Q E hr h => ?_)
  · obtain ⟨a, v, rfl, _⟩ := h
    rfl
  · obtain ⟨a, v, rfl, ha, hv, k⟩ := h
    refine ⟨_, PSs.nox (pss_cons (ps_expr (KdEx.pe_clsfn rfl gD cD GD hr bD .nil pass0 (pa_cons (pv 0) (pa_cons (pv 1) pa_nil)))) (pss_one (ps_ost (pv 0) pe_str))), ?_⟩
    refine ⟨_, rfl, _, rfl, a, v, rfl, ha, hv, fun d H' hd nda e1 e2 rest => ?_⟩
    refine ⟨_, rfl, a, C, rfl, T.o, T.nN, .inr ⟨d, _, e1, e2, by show 2 ≤ 900; decide, ?_⟩⟩
    refine k d _ hd nda (by rw [upd_ne nda.symm]; exact e1) upd_same fun b hba hbd => ?_
    rw [upd_ne hbd]
    exact rest b hba hbd
theorem sc_NoFact : FnScope ["self", "what"] ["self", "what"] (defScope s_NoFact_init) := ⟨rfl, rfl, rfl, by decide +kernel, rfl, by decide +kernel, by decide +kernel⟩
theorem ok_NoFact {C fI D fD : Addr} {fdD : FuncData} (F : FnP K "__init__" "NoFact.__init__" s_NoFact_init f fd) (T : ErrC K C fI) (GD : FnOk P w K mg base CX0 1 fD fdD ["self", "what"] (spErr K C dayF (RepOk K))) (cD : KdEx.ClsFn K D fD "__init__") (bD : Binds K fdD ["self", "what"] []) (gD : mg "DayError" = some (.ref D)) :
    FnOk P w K mg base CX0 2 f fd ["self", "what"] (spErr K C (noF "NoFact") (RepOk K)) := by
  refine F.ok sc_NoFact (fun vs H Q E h => ?_) (fun cdv A outer s H vs Q E hr h => ?_)
  · obtain ⟨a, v, rfl, _⟩ := h
    rfl
  · obtain ⟨a, v, rfl, ha, hv, k⟩ := h
    refine ⟨_, PSs.nox (pss_cons (ps_expr (KdEx.pe_clsfn rfl gD cD GD hr bD .nil pass0 (pa_cons (pv 0) (pa_cons (pv 1) pa_nil)))) (pss_one (ps_ost (pv 0) pe_str))), ?_⟩
    refine ⟨_, rfl, _, rfl, a, v, rfl, ha, hv, fun d H' hd nda e1 e2 rest => ?_⟩
    refine ⟨_, rfl, a, C, rfl, T.o, T.nN, .inr ⟨d, _, e1, e2, by show 2 ≤ 900; decide, ?_⟩⟩
    refine k d _ hd nda (by rw [upd_ne nda.symm]; exact e1) upd_same fun b hba hbd => ?_
    rw [upd_ne hbd]
    exact rest b hba hbd
theorem sc_NoThing : FnScope ["self", "what"] ["self", "what"] (defScope s_NoThing_init) := ⟨rfl, rfl, rfl, by decide +kernel, rfl, by decide +kernel, by decide +kernel⟩
theorem ok_NoThing {C fI D fD : Addr} {fdD : FuncData} (F : FnP K "__init__" "NoThing.__init__" s_NoThing_init f fd) (T : ErrC K C fI) (GD : FnOk P w K mg base CX0 1 fD fdD ["self", "what"] (spErr K C dayF (RepOk K))) (cD : KdEx.ClsFn K D fD "__init__") (bD : Binds K fdD ["self", "what"] []) (gD : mg "DayError" = some (.ref D)) :
    FnOk P w K mg base CX0 2 f fd ["self", "what"] (spErr K C (noF "NoThing") (RepOk K)) := by
  refine F.ok sc_NoThing (fun vs H Q E h => ?_) (fun cdv A outer s H vs Q E hr h => ?_)
  · obtain ⟨a, v, rfl, _⟩ := h
    rfl
  · obtain ⟨a, v, rfl, ha, hv, k⟩ := h
    refine ⟨_, PSs.nox (pss_cons (ps_expr (KdEx.pe_clsfn rfl gD cD GD hr bD .nil pass0 (pa_cons (pv 0) (pa_cons (pv 1) pa_nil)))) (pss_one (ps_ost (pv 0) pe_str))), ?_⟩
    refine ⟨_, rfl, _, rfl, a, v, rfl, ha, hv, fun d H' hd nda e1 e2 rest => ?_⟩
    refine ⟨_, rfl, a, C, rfl, T.o, T.nN, .inr ⟨d, _, e1, e2, by show 2 ≤ 900; decide, ?_⟩⟩
    refine k d _ hd nda (by rw [upd_ne nda.symm]; exact e1) upd_same fun b hba hbd => ?_
    rw [upd_ne hbd]
    exact rest b hba hbd
theorem sc_Twice : FnScope ["self", "what"] ["self", "what"] (defScope s_Twice_init) := ⟨rfl, rfl, rfl, by decide +kernel, rfl, by decide +kernel, by decide +kernel⟩
theorem ok_Twice {C fI D fD : Addr} {fdD : FuncData} (F : FnP K "__init__" "Twice.__init__" s_Twice_init f fd) (T : ErrC K C fI) (GD : FnOk P w K mg base CX0 1 fD fdD ["self", "what"] (spErr K C dayF (RepOk K))) (cD : KdEx.ClsFn K D fD "__init__") (bD : Binds K fdD ["self", "what"] []) (gD : mg "DayError" = some (.ref D)) :
    FnOk P w K mg base CX0 2 f fd ["self", "what"] (spErr K C (noF "Twice") (RepOk K)) := by
  refine F.ok sc_Twice (fun vs H Q E h => ?_) (fun cdv A outer s H vs Q E hr h => ?_)
  · obtain ⟨a, v, rfl, _⟩ := h
    rfl
  · obtain ⟨a, v, rfl, ha, hv, k⟩ := h
    refine ⟨_, PSs.nox (pss_cons (ps_expr (KdEx.pe_clsfn rfl gD cD GD hr bD .nil pass0 (pa_cons (pv 0) (pa_cons (pv 1) pa_nil)))) (pss_one (ps_ost (pv 0) pe_str))), ?_⟩
    refine ⟨_, rfl, _, rfl, a, v, rfl, ha, hv, fun d H' hd nda e1 e2 rest => ?_⟩
    refine ⟨_, rfl, a, C, rfl, T.o, T.nN, .inr ⟨d, _, e1, e2, by show 2 ≤ 900; decide, ?_⟩⟩
    refine k d _ hd nda (by rw [upd_ne nda.symm]; exact e1) upd_same fun b hba hbd => ?_
    rw [upd_ne hbd]
    exact rest b hba hbd
theorem sc_NoGroup : FnScope ["self", "what"] ["self", "what"] (defScope s_NoGroup_init) := ⟨rfl, rfl, rfl, by decide +kernel, rfl, by decide +kernel, by decide +kernel⟩
theorem ok_NoGroup {C fI D fD : Addr} {fdD : FuncData} (F : FnP K "__init__" "NoGroup.__init__" s_NoGroup_init f fd) (T : ErrC K C fI) (GD : FnOk P w K mg base CX0 1 fD fdD ["self", "what"] (spErr K C dayF (RepOk K))) (cD : KdEx.ClsFn K D fD "__init__") (bD : Binds K fdD ["self", "what"] []) (gD : mg "DayError" = some (.ref D)) :
    FnOk P w K mg base CX0 2 f fd ["self", "what"] (spErr K C (noF "NoGroup") (RepOk K)) := by
  refine F.ok sc_NoGroup (fun vs H Q E h => ?_) (fun cdv A outer s H vs Q E hr h => ?_)
  · obtain ⟨a, v, rfl, _⟩ := h
    rfl
  · obtain ⟨a, v, rfl, ha, hv, k⟩ := h
    refine ⟨_, PSs.nox (pss_cons (ps_expr (KdEx.pe_clsfn rfl gD cD GD hr bD .nil pass0 (pa_cons (pv 0) (pa_cons (pv 1) pa_nil)))) (pss_one (ps_ost (pv 0) pe_str))), ?_⟩
    refine ⟨_, rfl, _, rfl, a, v, rfl, ha, hv, fun d H' hd nda e1 e2 rest => ?_⟩
    refine ⟨_, rfl, a, C, rfl, T.o, T.nN, .inr ⟨d, _, e1, e2, by show 2 ≤ 900; decide, ?_⟩⟩
    refine k d _ hd nda (by rw [upd_ne nda.symm]; exact e1) upd_same fun b hba hbd => ?_
    rw [upd_ne hbd]
    exact rest b hba hbd
theorem sc_NoMeasure : FnScope ["self", "what"] ["self", "what"] (defScope s_NoMeasure_init) := ⟨rfl, rfl, rfl, by decide +kernel, rfl, by decide +kernel, by decide +kernel⟩
theorem ok_NoMeasure {C fI D fD : Addr} {fdD : FuncData} (F : FnP K "__init__" "NoMeasure.__init__" s_NoMeasure_init f fd) (T : ErrC K C fI) (GD : FnOk P w K mg base CX0 1 fD fdD ["self", "what"] (spErr K C dayF (RepOk K))) (cD : KdEx.ClsFn K D fD "__init__") (bD : Binds K fdD ["self", "what"] []) (gD : mg "DayError" = some (.ref D)) :
    FnOk P w K mg base CX0 2 f fd ["self", "what"] (spErr K C (noF "NoMeasure") (RepOk K)) := by
  refine F.ok sc_NoMeasure (fun vs H Q E h => ?_) (fun cdv A outer s H vs Q E hr h => ?_)
  · obtain ⟨a, v, rfl, _⟩ := h
    rfl
  · obtain ⟨a, v, rfl, ha, hv, k⟩ := h
    refine ⟨_, PSs.nox (pss_cons (ps_expr (KdEx.pe_clsfn rfl gD cD GD hr bD .nil pass0 (pa_cons (pv 0) (pa_cons (pv 1) pa_nil)))) (pss_one (ps_ost (pv 0) pe_str))), ?_⟩
    refine ⟨_, rfl, _, rfl, a, v, rfl, ha, hv, fun d H' hd nda e1 e2 rest => ?_⟩
    refine ⟨_, rfl, a, C, rfl, T.o, T.nN, .inr ⟨d, _, e1, e2, by show 2 ≤ 900; decide, ?_⟩⟩
    refine k d _ hd nda (by rw [upd_ne nda.symm]; exact e1) upd_same fun b hba hbd => ?_
    rw [upd_ne hbd]
    exact rest b hba hbd
theorem sc_NoWatch : FnScope ["self", "what"] ["self", "what"] (defScope s_NoWatch_init) := ⟨rfl, rfl, rfl, by decide +kernel, rfl, by decide +kernel, by decide +kernel⟩
theorem ok_NoWatch {C fI D fD : Addr} {fdD : FuncData} (F : FnP K "__init__" "NoWatch.__init__" s_NoWatch_init f fd) (T : ErrC K C fI) (GD : FnOk P w K mg base CX0 1 fD fdD ["self", "what"] (spErr K C dayF (RepOk K))) (cD : KdEx.ClsFn K D fD "__init__") (bD : Binds K fdD ["self", "what"] []) (gD : mg "DayError" = some (.ref D)) :
    FnOk P w K mg base CX0 2 f fd ["self", "what"] (spErr K C (noF "NoWatch") (RepOk K)) := by
  refine F.ok sc_NoWatch (fun vs H Q E h => ?_) (fun cdv A outer s H vs Q E hr h => ?_)
  · obtain ⟨a, v, rfl, _⟩ := h
    rfl
  · obtain ⟨a, v, rfl, ha, hv, k⟩ := h
    refine ⟨_, PSs.nox (pss_cons (ps_expr (KdEx.pe_clsfn rfl gD cD GD hr bD .nil pass0 (pa_cons (pv 0) (pa_cons (pv 1) pa_nil)))) (pss_one (ps_ost (pv 0) pe_str))), ?_⟩
    refine ⟨_, rfl, _, rfl, a, v, rfl, ha, hv, fun d H' hd nda e1 e2 rest => ?_⟩
    refine ⟨_, rfl, a, C, rfl, T.o, T.nN, .inr ⟨d, _, e1, e2, by show 2 ≤ 900; decide, ?_⟩⟩
    refine k d _ hd nda (by rw [upd_ne nda.symm]; exact e1) upd_same fun b hba hbd => ?_
    rw [upd_ne hbd]
    exact rest b hba hbd
theorem sc_NoTime : FnScope ["self", "what"] ["self", "what"] (defScope s_NoTime_init) := ⟨rfl, rfl, rfl, by decide +kernel, rfl, by decide +kernel, by decide +kernel⟩
theorem ok_NoTime {C fI D fD : Addr} {fdD : FuncData} (F : FnP K "__init__" "NoTime.__init__" s_NoTime_init f fd) (T : ErrC K C fI) (GD : FnOk P w K mg base CX0 1 fD fdD ["self", "what"] (spErr K C dayF (RepOk K))) (cD : KdEx.ClsFn K D fD "__init__") (bD : Binds K fdD ["self", "what"] []) (gD : mg "DayError" = some (.ref D)) :
    FnOk P w K mg base CX0 2 f fd ["self", "what"] (spErr K C (noF "NoTime") (RepOk K)) := by
  refine F.ok sc_NoTime (fun vs H Q E h => ?_) (fun cdv A outer s H vs Q E hr h => ?_)
  · obtain ⟨a, v, rfl, _⟩ := h
    rfl
  · obtain ⟨a, v, rfl, ha, hv, k⟩ := h
    refine ⟨_, PSs.nox (pss_cons (ps_expr (KdEx.pe_clsfn rfl gD cD GD hr bD .nil pass0 (pa_cons (pv 0) (pa_cons (pv 1) pa_nil)))) (pss_one (ps_ost (pv 0) pe_str))), ?_⟩
    refine ⟨_, rfl, _, rfl, a, v, rfl, ha, hv, fun d H' hd nda e1 e2 rest => ?_⟩
    refine ⟨_, rfl, a, C, rfl, T.o, T.nN, .inr ⟨d, _, e1, e2, by show 2 ≤ 900; decide, ?_⟩⟩
    refine k d _ hd nda (by rw [upd_ne nda.symm]; exact e1) upd_same fun b hba hbd => ?_
    rw [upd_ne hbd]
    exact rest b hba hbd
theorem sc_NoText : FnScope ["self", "what"] ["self", "what"] (defScope s_NoText_init) := ⟨rfl, rfl, rfl, by decide +kernel, rfl, by decide +kernel, by decide +kernel⟩
theorem ok_NoText {C fI D fD : Addr} {fdD : FuncData} (F : FnP K "__init__" "NoText.__init__" s_NoText_init f fd) (T : ErrC K C fI) (GD : FnOk P w K mg base CX0 1 fD fdD ["self", "what"] (spErr K C dayF (RepOk K))) (cD : KdEx.ClsFn K D fD "__init__") (bD : Binds K fdD ["self", "what"] []) (gD : mg "DayError" = some (.ref D)) :
    FnOk P w K mg base CX0 2 f fd ["self", "what"] (spErr K C (noF "NoText") (RepOk K)) := by
  refine F.ok sc_NoText (fun vs H Q E h => ?_) (fun cdv A outer s H vs Q E hr h => ?_)
  · obtain ⟨a, v, rfl, _⟩ := h
    rfl
  · obtain ⟨a, v, rfl, ha, hv, k⟩ := h
    refine ⟨_, PSs.nox (pss_cons (ps_expr (KdEx.pe_clsfn rfl gD cD GD hr bD .nil pass0 (pa_cons (pv 0) (pa_cons (pv 1) pa_nil)))) (pss_one (ps_ost (pv 0) pe_str))), ?_⟩
    refine ⟨_, rfl, _, rfl, a, v, rfl, ha, hv, fun d H' hd nda e1 e2 rest => ?_⟩
    refine ⟨_, rfl, a, C, rfl, T.o, T.nN, .inr ⟨d, _, e1, e2, by show 2 ≤ 900; decide, ?_⟩⟩
    refine k d _ hd nda (by rw [upd_ne nda.symm]; exact e1) upd_same fun b hba hbd => ?_
    rw [upd_ne hbd]
    exact rest b hba hbd
theorem sc_NoDeskRow : FnScope ["self", "what"] ["self", "what"] (defScope s_NoDeskRow_init) := ⟨rfl, rfl, rfl, by decide +kernel, rfl, by decide +kernel, by decide +kernel⟩
theorem ok_NoDeskRow {C fI D fD : Addr} {fdD : FuncData} (F : FnP K "__init__" "NoDeskRow.__init__" s_NoDeskRow_init f fd) (T : ErrC K C fI) (GD : FnOk P w K mg base CX0 1 fD fdD ["self", "what"] (spErr K C dayF (RepOk K))) (cD : KdEx.ClsFn K D fD "__init__") (bD : Binds K fdD ["self", "what"] []) (gD : mg "DayError" = some (.ref D)) :
    FnOk P w K mg base CX0 2 f fd ["self", "what"] (spErr K C (noF "NoDeskRow") (RepOk K)) := by
  refine F.ok sc_NoDeskRow (fun vs H Q E h => ?_) (fun cdv A outer s H vs Q E hr h => ?_)
  · obtain ⟨a, v, rfl, _⟩ := h
    rfl
  · obtain ⟨a, v, rfl, ha, hv, k⟩ := h
    refine ⟨_, PSs.nox (pss_cons (ps_expr (KdEx.pe_clsfn rfl gD cD GD hr bD .nil pass0 (pa_cons (pv 0) (pa_cons (pv 1) pa_nil)))) (pss_one (ps_ost (pv 0) pe_str))), ?_⟩
    refine ⟨_, rfl, _, rfl, a, v, rfl, ha, hv, fun d H' hd nda e1 e2 rest => ?_⟩
    refine ⟨_, rfl, a, C, rfl, T.o, T.nN, .inr ⟨d, _, e1, e2, by show 2 ≤ 900; decide, ?_⟩⟩
    refine k d _ hd nda (by rw [upd_ne nda.symm]; exact e1) upd_same fun b hba hbd => ?_
    rw [upd_ne hbd]
    exact rest b hba hbd
end
end Kd

namespace Kd
open PySem PySem.Spec PyProof.Rows L2 KdXc
/-- a def that lets nothing out keeps its promise among those that may -/
theorem fn_calm {P : Program} {w : World} {K : PySem.W.Frag} {mg : Str → Option Value} {base : Heap} {k : Nat} {f : Addr} {fd : FuncData} {ps : List Str} {sp : Sp} (G : FnOk P w K mg base CX0 k f fd ps sp) : FnOk P w K mg base (L2.CX P w) k f fd ps sp :=
  ⟨G.len, fun A outer s H args us vs Q E hr he hb hv hs => codeAny_mono (G.run A outer s H args us vs Q E hr he hb hv hs) fun r s' z => by
    cases r with
    | error e => exact False.elim z
    | ok fl => cases fl <;> exact z⟩
/-- two promises of one def -/
theorem fn_or {P : Program} {w : World} {K : PySem.W.Frag} {mg : Str → Option Value} {base : Heap} {CX : CXT} {k : Nat} {f : Addr} {fd : FuncData} {ps : List Str} {sp sp' : Sp} (G : FnOk P w K mg base CX k f fd ps sp) (G' : FnOk P w K mg base CX k f fd ps sp') : FnOk P w K mg base CX k f fd ps (fun vs H Q E => sp vs H Q E ∨ sp' vs H Q E) :=
  ⟨fun vs H Q E h => h.elim (G.len vs H Q E) (G'.len vs H Q E), fun A outer s H args us vs Q E hr he hb hv hs => hs.elim (fun z => G.run A outer s H args us vs Q E hr he hb hv z) (fun z => G'.run A outer s H args us vs Q E hr he hb hv z)⟩
section
variable {P : Program} {w : World} {K : PySem.W.Frag} {mg : Str → Option Value} {base : Heap} {f : Addr} {fd : FuncData}
theorem ff_cases (ds : List (Str × List (Str × Str))) (ms : List Str) : ffV ds ms = .non ∨ ∃ z : Str, ffV ds ms = .str z ∧ KdEx.Flat1 (.str z) := by
  have w1 : KdEx.Flat1 (.str "dimensions") := ⟨by decide +kernel, by decide +kernel⟩
  have w2 : KdEx.Flat1 (.str "attributes") := ⟨by decide +kernel, by decide +kernel⟩
  have w3 : KdEx.Flat1 (.str "measures") := ⟨by decide +kernel, by decide +kernel⟩
  unfold ffV
  by_cases c1 : (ds.isEmpty || fltB (ds.map (·.1)) 4) = true
  · rw [if_pos c1]
    exact .inr ⟨_, rfl, w1⟩
  · rw [if_neg c1]
    by_cases c2 : ds.any (fun d => fltB (d.2.map (·.1)) 5) = true
    · rw [if_pos c2]
      exact .inr ⟨_, rfl, w2⟩
    · rw [if_neg c2]
      by_cases c3 : fltB ms 4 = true
      · rw [if_pos c3]
        exact .inr ⟨_, rfl, w3⟩
      · rw [if_neg c3]
        exact .inl rfl
/-- a class of refusals, and how one is made -/
structure ErrM (P : Program) (w : World) (K : PySem.W.Frag) (mg : Str → Option Value) (base : Heap) (x : Str) (C fI : Addr) (fdI : FuncData) : Prop where
  T : ErrC K C fI
  G : FnOk P w K mg base CX0 2 fI fdI ["self", "what"] (spErr K C (noF x) (RepOk K))
  b : Binds K fdI ["self", "what"] []
  g : mg x = some (.ref C)
/-! ### Plan.__init__ of faulty lists -/
def spFail (K : PySem.W.Frag) (N : Addr) : Sp := fun vs H _ E => ∃ (x l m : Addr) (ds : List (Str × List (Str × Str))) (ms : List Str) (z : Str), vs = [.ref x, .ref l, .ref m] ∧ DimsAt K H l ds ∧ Txs K H m ms ∧ Szd ds ms ∧ ffV ds ms = .str z ∧
  ∀ H1 d, Same H H1 → H1 d = none → E (.ref N) (some d) (upd H1 d (.xd (noF "NoPlan" (.str z))))
theorem ok_fail {fF N fN : Addr} {fdF fdN : FuncData} {dvs : List V} (F : FunD K "__init__" "Plan.__init__" (defArgs s_Plan_init) (defBody s_Plan_init) (defScope s_Plan_init) dvs [] f fd) (GF : FnOk P w K mg base CX0 4 fF fdF ["dimensions", "measures"] (spFirst K)) (kF : PySem.W.keepIn K (.ref fF) = true) (bF : Binds K fdF ["dimensions", "measures"] []) (gF : mg "first_fault" = some (.ref fF))
    (M : ErrM P w K mg base "NoPlan" N fN fdN) : FnOk P w K mg base (L2.CX P w) 5 f fd ["self", "dimensions", "measures"] (spFail K N) := by
  refine F.ok sc_init (fun vs H Q E h => ?_) (fun cdv A outer s H vs Q E hr h => ?_)
  · obtain ⟨x, l, m, ds, ms, z, rfl, _⟩ := h
    rfl
  · obtain ⟨x, l, m, ds, ms, z, rfl, hl, hm, sz, ev, k⟩ := h
    have nd := sc_init.nd
    refine ⟨_, pss_cons (ps_set (i := 3) nd rfl (Or.inl rfl) (pe_call GF hr rfl gF kF bF .nil pass0 (pa_cons (pv 1) (pa_cons (pv 2) pa_nil))))
      (pss_cons (ps_if (pt_cmp (pc_notN (pv 3))) (pss_one (ps_raise rfl (takes_of rfl rfl rfl rfl) (pmk_err M.T M.G (hr.mono (by decide)) M.b rfl M.g (pv 3)))) pss_nil)
      (pss_cons ps_never (pss_one ps_never))), ?_⟩
    refine ⟨_, rfl, _, rfl, l, m, ds, ms, rfl, hl, hm, sz, fun H1 s1 => ?_⟩
    rw [ev]
    refine ⟨_, rfl, _, rfl, iteT ?_⟩
    refine ⟨_, rfl, err_ok (fun a ha => .inl ⟨z, rfl, ?_⟩) fun d hd => k H1 d s1 hd⟩
    rcases ff_cases ds ms with e | ⟨y, e, hy⟩
    · rw [ev] at e
      cases e
    · rw [ev] at e
      cases e
      exact hy
def spInitX (K : PySem.W.Frag) (C N : Addr) : Sp := fun vs H Q E => spInit K C vs H Q E ∨ spFail K N vs H Q E
theorem ok_initX {C N : Addr} (G : FnOk P w K mg base CX0 5 f fd ["self", "dimensions", "measures"] (spInit K C)) (G' : FnOk P w K mg base (L2.CX P w) 5 f fd ["self", "dimensions", "measures"] (spFail K N)) : FnOk P w K mg base (L2.CX P w) 5 f fd ["self", "dimensions", "measures"] (spInitX K C N) := fn_or (fn_calm G) G'
end
end Kd

namespace Kd
open PySem PySem.Spec PyProof.Rows L2
/-! ### slices by whole numbers that are not below 0 -/
theorem cutTo (xs : List V) (j : Nat) : cutV xs none (some (j : Int)) = xs.take j := by
  unfold cutV
  rw [HT.sIx_none, HT.sIx_nat, List.drop_zero, Nat.sub_zero]
  by_cases h : j ≤ xs.length
  · rw [Nat.min_eq_left h]
  · rw [Nat.min_eq_right (by omega), List.take_of_length_le (by omega), List.take_of_length_le (by omega)]
theorem cutFrom (xs : List V) (i : Nat) : cutV xs (some (i : Int)) none = xs.drop i := by
  unfold cutV
  rw [HT.sIx_none, HT.sIx_nat]
  by_cases h : i ≤ xs.length
  · rw [Nat.min_eq_left h, List.take_of_length_le (by rw [List.length_drop]; omega)]
  · rw [Nat.min_eq_right (by omega), List.drop_of_length_le (by omega), List.drop_of_length_le (by omega), List.take_nil]
theorem cutMid (xs : List V) (i j : Nat) : cutV xs (some (i : Int)) (some (j : Int)) = (xs.drop i).take (j - i) := by
  unfold cutV
  rw [HT.sIx_nat, HT.sIx_nat]
  by_cases h : i ≤ xs.length
  · rw [Nat.min_eq_left h]
    by_cases h2 : j ≤ xs.length
    · rw [Nat.min_eq_left h2]
    · rw [Nat.min_eq_right (by omega), List.take_of_length_le (by rw [List.length_drop]; omega), List.take_of_length_le (by rw [List.length_drop]; omega)]
  · rw [List.drop_of_length_le (show xs.length ≤ min i xs.length by omega), List.drop_of_length_le (show xs.length ≤ i by omega), List.take_nil, List.take_nil]
/-! ### pairs -/
theorem paired_app2 {α β : Type} {R : α → β → Prop} : ∀ {a c : List α} {b d : List β}, Paired R a b → Paired R c d → Paired R (a ++ c) (b ++ d)
  | _, _, _, _, .nil, h => h
  | _, _, _, _, .cons x t, h => .cons x (paired_app2 t h)
theorem paired_rev2 {α β : Type} {R : α → β → Prop} : ∀ {a : List α} {b : List β}, Paired R a b → Paired R a.reverse b.reverse
  | _, _, .nil => .nil
  | _, _, .cons x t => by
    rw [List.reverse_cons, List.reverse_cons]
    exact paired_app2 (paired_rev2 t) (.cons x .nil)
theorem paired_take2 {α β : Type} {R : α → β → Prop} : ∀ (n : Nat) {a : List α} {b : List β}, Paired R a b → Paired R (a.take n) (b.take n)
  | 0, _, _, _ => by rw [List.take_zero, List.take_zero]; exact .nil
  | n + 1, _, _, .nil => .nil
  | n + 1, _, _, .cons h t => .cons h (paired_take2 n t)
theorem paired_drop2 {α β : Type} {R : α → β → Prop} : ∀ (n : Nat) {a : List α} {b : List β}, Paired R a b → Paired R (a.drop n) (b.drop n)
  | 0, _, _, h => h
  | n + 1, _, _, .nil => .nil
  | n + 1, _, _, .cons h t => paired_drop2 n t
/-! ### a list with one out, or two turned about -/
def trn {α : Type} (b : Bool) (at_ : Nat) (xs : List α) : List α := if b = true then xs.take at_ ++ xs.drop (at_ + 1) else xs.take at_ ++ ((xs.drop at_).take 2).reverse ++ xs.drop (at_ + 2)
theorem trn_mem {α : Type} {b : Bool} {at_ : Nat} {xs : List α} {x : α} (h : x ∈ trn b at_ xs) : x ∈ xs := by
  unfold trn at h
  split at h
  · rcases List.mem_append.mp h with h | h
    · exact List.mem_of_mem_take h
    · exact List.mem_of_mem_drop h
  · rcases List.mem_append.mp h with h | h
    · rcases List.mem_append.mp h with h | h
      · exact List.mem_of_mem_take h
      · exact List.mem_of_mem_drop (List.mem_of_mem_take (List.mem_reverse.mp h))
    · exact List.mem_of_mem_drop h
theorem trn_len {α : Type} (b : Bool) (at_ : Nat) (xs : List α) : (trn b at_ xs).length ≤ xs.length := by
  unfold trn
  split
  · simp only [List.length_append, List.length_take, List.length_drop]
    omega
  · simp only [List.length_append, List.length_take, List.length_drop, List.length_reverse]
    omega
theorem trn_paired {α β : Type} {R : α → β → Prop} {b : Bool} {at_ : Nat} {xs : List α} {ys : List β} (h : Paired R xs ys) : Paired R (trn b at_ xs) (trn b at_ ys) := by
  unfold trn
  split
  · exact paired_app2 (paired_take2 _ h) (paired_drop2 _ h)
  · exact paired_app2 (paired_app2 (paired_take2 _ h) (paired_rev2 (paired_take2 _ (paired_drop2 _ h)))) (paired_drop2 _ h)
theorem trn_map {α β : Type} (f : α → β) (b : Bool) (at_ : Nat) (xs : List α) : trn b at_ (xs.map f) = (trn b at_ xs).map f := by
  unfold trn
  split <;> simp [List.map_take, List.map_drop]
/-- a text and a text -/
def rAddS : R2 := fun x y H Q => ∃ a b, x = .str a ∧ y = .str b ∧ a.length + b.length ≤ sizeLine ∧ Q (.str (a ++ b)) H
/-- len(x) -/
def rLenQ (K : PySem.W.Frag) : List V → Hp → VK → Prop := fun xs H Q => ∃ p ys, xs = [.ref p] ∧ (SqL K H p ys ∨ SqT K H p ys) ∧ Q (.int (ys.length : Nat)) H
/-- list(x): a new one -/
def rListOf (K : PySem.W.Frag) : List V → Hp → VK → Prop := fun xs H Q => ∃ p ys, xs = [.ref p] ∧ (SqL K H p ys ∨ SqT K H p ys) ∧ ∀ l, H l = none → Q (.ref l) (upd H l (.lst ys))
/-- a new object stands, what was there stands too -/
theorem seqL_new {K : PySem.W.Frag} {H : Hp} {a p : Addr} {o : HO} {xs : List V} (h : SqL K H a xs) (np : H p = none) : SqL K (upd H p o) a xs := Same.seq (same_new np) h
theorem seqT_new {K : PySem.W.Frag} {H : Hp} {a p : Addr} {o : HO} {xs : List V} (h : SqT K H a xs) (np : H p = none) : SqT K (upd H p o) a xs := Same.seqT (same_new np) h
end Kd

namespace Kd
open PySem PySem.Spec PyProof.Rows L2
section
variable {X : Cx}
/-! ### xs.count(z) of texts -/
def eqs (k : Str) (v : Value) : Bool := match v with
  | .str y _ => y == k
  | _ => false
theorem eqs_gives {k : Str} {t : Tok} : ∀ {ys : List Str} {us : List Value}, Vals (ys.map V.str) us → ∀ u ∈ us, MeetsSeq.EqGives u (.str k t) (eqs k u)
  | [], _, r, u, h => by
    cases r
    cases h
  | y :: ys, _, r, u, h => by
    cases r with
    | cons r1 r2 =>
      obtain ⟨t1, rfl⟩ := r1
      rcases List.mem_cons.mp h with e | e
      · rw [e]
        exact eqGives_str y k t1 t
      · exact eqs_gives r2 u e
theorem eqs_count {k : Str} : ∀ {ys : List Str} {us : List Value}, Vals (ys.map V.str) us → us.countP (eqs k) = ys.count k
  | [], _, r => by
    cases r
    rfl
  | y :: ys, _, r => by
    cases r with
    | cons r1 r2 =>
      obtain ⟨t1, rfl⟩ := r1
      have ih := eqs_count (k := k) r2
      rw [List.countP_cons, List.count_cons, ih] <;> rfl
def rCntS (K : PySem.W.Frag) : V → List V → Hp → VK → Prop := fun x xs H Q => ∃ (p : Addr) (ys : List Str) (k : Str), x = .ref p ∧ xs = [.str k] ∧ SqL K H p (ys.map V.str) ∧ Q (.int (ys.count k : Nat)) H
theorem mt_lcountS : MtR X "list.count" (rCntS X.K) := by
  intro pins s σ H x xs v us Q I rx rxs h
  obtain ⟨p, ys, k, rfl, rfl, hs, q⟩ := h
  cases rx
  obtain ⟨u, rfl, ru⟩ := rxs.one
  obtain ⟨t, rfl⟩ := ru
  obtain ⟨its, rv, ⟨⟨cls, dd, data, sl⟩, n, ho, hc, hdn, hd⟩, hlen⟩ := I.list hs
  simp only at hc hd
  subst hc hd
  refine call_meets PySem.F.slot_list_count ⟨_, ho, rfl⟩ PySem.F.entry_list_count (PySem.F.args_list_count_2 _ _) (SeqAt.list_countAt p its.toArray n dd sl (.str k t) (eqs k)) ⟨ho, fun y hy => (eqs_gives rv y (by simpa using hy)).at _ _, ?_⟩
  have ec : its.toArray.toList.countP (eqs k) = ys.count k := eqs_count rv
  refine ⟨.int (ys.count k : Nat), H, I.tok _, ⟨s.toks, ?_⟩, q⟩
  rw [ec]
end
/-- one sign in a text, and not -/
def rInSgn : R2 := fun x y H Q => ∃ (c : Nat) (z : Str), x = .str ⟨#[c]⟩ ∧ y = .str z ∧ Q (.bl (decide (c ∈ z.cps.toList))) H
def rNoSgn : R2 := fun x y H Q => ∃ (c : Nat) (z : Str), x = .str ⟨#[c]⟩ ∧ y = .str z ∧ Q (.bl (!decide (c ∈ z.cps.toList))) H
/-! ### lists of texts as data -/
theorem eqv_strs : ∀ as bs : List Str, PyData.eqvAll (as.map PyData.str) (bs.map PyData.str) = decide (as = bs)
  | [], [] => by rfl
  | [], _ :: _ => by
    rw [decide_eq_false (by simp)]
    rfl
  | _ :: _, [] => by
    rw [decide_eq_false (by simp)]
    rfl
  | a :: as, b :: bs => by
    show (PyData.eqv (.str a) (.str b) && PyData.eqvAll (as.map PyData.str) (bs.map PyData.str)) = _
    rw [eqv_strs as bs]
    show ((a == b) && _) = _
    by_cases h : a = b
    · by_cases h2 : as = bs
      · rw [h, h2]
        simp
      · simp [h, h2]
    · simp [h]
theorem count_one : ∀ xs : List Str, (∀ z ∈ xs, xs.count z = 1) ↔ xs.Nodup
  | [] => by simp
  | a :: xs => by
    have ih := count_one xs
    rw [List.nodup_cons, ← ih]
    constructor
    · intro h
      have ha : a ∉ xs := by
        have h1 := h a (List.mem_cons_self ..)
        rw [List.count_cons_self] at h1
        intro hm
        have := List.count_pos_iff.mpr hm
        omega
      refine ⟨ha, fun z hz => ?_⟩
      have h1 := h z (List.mem_cons_of_mem _ hz)
      rw [List.count_cons_of_ne (fun e => ha (by rw [e]; exact hz))] at h1
      exact h1
    · rintro ⟨ha, h⟩ z hz
      rcases List.mem_cons.mp hz with rfl | hz
      · rw [List.count_cons_self, List.count_eq_zero.mpr ha]
      · rw [List.count_cons_of_ne (fun e => ha (by rw [e]; exact hz))]
        exact h z hz
theorem dup_lt {xs : List Str} (h : ¬ xs.Nodup) : KdS.dcn xs xs.length < xs.length := by
  have key : ∀ {ys : List Str}, ¬ ys.Nodup → ∃ (j i : Nat) (hi : i < ys.length) (hj : j < i), ys[j]'(by omega) = ys[i] := by
    intro ys
    induction ys with
    | nil => exact fun h => absurd List.nodup_nil h
    | cons y ys ih =>
      intro h
      by_cases hy : y ∈ ys
      · obtain ⟨i, hi, e⟩ := List.mem_iff_getElem.mp hy
        exact ⟨0, i + 1, by simpa using hi, by omega, by simpa using e.symm⟩
      · obtain ⟨j, i, hi, hj, e⟩ := ih fun hn => h (List.nodup_cons.mpr ⟨hy, hn⟩)
        exact ⟨j + 1, i + 1, by simpa using hi, by omega, by simpa using e⟩
  obtain ⟨j, i, hi, hj, e⟩ := key h
  exact KdS.dcn_dup hj hi e _ hi
end Kd

namespace Kd
open PySem PySem.Spec PyProof.Rows L2 KdXc
/-- a def of the module, its promise and how it is called -/
structure Fun (P : Program) (w : World) (K : PySem.W.Frag) (mg : Str → Option Value) (base : Heap) (x : Str) (n : Nat) (ps : List Str) (sp : Sp) (f : Addr) (fd : FuncData) : Prop where
  G : FnOk P w K mg base CX0 n f fd ps sp
  k : PySem.W.keepIn K (.ref f) = true
  b : Binds K fd ps []
  g : mg x = some (.ref f)
theorem st_eq {t : L2.St → Hp → Prop} {σ σ' : L2.St} {H : Hp} (e : σ = σ') (h : t σ' H) : t σ H := by
  rw [e]
  exact h
theorem set_st {i : Nat} {σ σ' : L2.St} {K : L2.St → Hp → Prop} {v : V} {H : Hp} (e : σ.set i (some v) = σ') (h : K σ' H) : (fun x H1 => gName i x σ H1 K) v H := by
  show K (σ.set i (some v)) H
  rw [e]
  exact h
theorem intEq {x y : Int} (c : decide (V.int x = V.int y) = true) : x = y := V.int.inj (of_decide_eq_true c)
theorem intNe {x y : Int} (h : x ≠ y) : ¬ decide (V.int x = V.int y) = true := fun c => h (intEq c)
theorem iteF0 {c : Prop} [Decidable c] {A B : Prop} (h : ¬ c) (b : B) : if c then A else B := by
  rw [if_neg h]
  exact b
theorem iteT0 {c : Prop} [Decidable c] {A B : Prop} (h : c) (b : A) : if c then A else B := by
  rw [if_pos h]
  exact b
section
variable {P : Program} {w : World} {K : PySem.W.Frag} {mg : Str → Option Value} {base : Heap} {f : Addr} {fd : FuncData}
theorem seqL_ct {H : Hp} {a g l : Addr} {xs : List V} (h : SqL K (ct a g H) l xs) : SqL K H l xs := Same.seq ct_sub h
theorem ct_back {a g p : Addr} {H H' : Hp} (s : Same (ct a g H) (ct a g H')) (h : ct a g H' p = none) : ct a g H p = none := by
  cases e : ct a g H p with
  | none => rfl
  | some o =>
    rw [s _ _ e] at h
    cases h
/-- a new object beside the tray -/
structure NewAt (H H3 : Hp) (p : Addr) (o : HO) (a g : Addr) (n : Nat) : Prop where
  f : H3 p = some o
  T : Tray H3 a g n
  s : Same H H3
  c : Same (ct a g H) (ct a g H3)
  na : p ≠ a
  ng : p ≠ g
theorem newAt {H H3 : Hp} {p : Addr} {o : HO} {a g : Addr} {n : Nat} (T : Tray H a g n) (np : H p = none) (e : upd H p o = H3) : NewAt H H3 p o a g n := by
  subst e
  exact ⟨upd_same, T.new np, same_new np, ctnew np, (T.na np).1, (T.na np).2⟩
theorem NewAt.fc {H H3 : Hp} {p : Addr} {o : HO} {a g : Addr} {n : Nat} (h : NewAt H H3 p o a g n) : ct a g H3 p = some o := ct_of h.f h.na h.ng
/-- a new object, no tray asked -/
structure NewO (H H3 : Hp) (p : Addr) (o : HO) : Prop where
  f : H3 p = some o
  s : Same H H3
theorem newO {H H3 : Hp} {p : Addr} {o : HO} (np : H p = none) (e : upd H p o = H3) : NewO H H3 p o := by
  subst e
  exact ⟨upd_same, same_new np⟩
abbrev InitD (K : PySem.W.Frag) (e f : Addr) (fd : FuncData) : Prop := FunD K "__init__" "Plan.__init__" (defArgs s_Plan_init) (defBody s_Plan_init) (defScope s_Plan_init) [.ref e] [] f fd
theorem init_b2 {e : Addr} (F : InitD K e f fd) : ∃ ds, Vals [V.ref e] ds ∧ Binds K fd ["self", "dimensions", "measures"] ds :=
  F.binds1 (ps := ["self", "dimensions", "measures"]) 2 0 (by simp) rfl fun T kV doc pm an cdv ct us its h1 h2 => match us, its, h1, h2 with
    | [_, _], [_], _, _ => ⟨_, rfl, rfl⟩
theorem init_b3 {e : Addr} (F : InitD K e f fd) : ∃ ds, Vals [] ds ∧ Binds K fd ["self", "dimensions", "measures"] ds :=
  F.binds1 (ps := ["self", "dimensions", "measures"]) 3 1 (by simp) rfl fun T kV doc pm an cdv ct us its h1 h2 => match us, its, h1, h2 with
    | [_, _, _], [_], _, _ => ⟨_, rfl, rfl⟩
/-- the class Plan, how it is called, and how it refuses -/
structure PlanX (P : Program) (w : World) (K : PySem.W.Frag) (mg : Str → Option Value) (base : Heap) (C e fI : Addr) (fdI : FuncData) (N fN : Addr) (fdN : FuncData) : Prop where
  T : PlTxt K C
  M : Mk K C fI
  GI : FnOk P w K mg base CX0 5 fI fdI ["self", "dimensions", "measures"] (spInit K C)
  GX : FnOk P w K mg base (L2.CX P w) 5 fI fdI ["self", "dimensions", "measures"] (spInitX K C N)
  gC : mg "Plan" = some (.ref C)
  I : InitD K e fI fdI
  E : ErrM P w K mg base "NoPlan" N fN fdN
/-- a Plan that is new behind H -/
structure PlanN (K : PySem.W.Frag) (C : Addr) (H H' : Hp) (x : Addr) (ds : List Dm) (ms : List Str) : Prop where
  ex : ∃ dx a b xs, H' x = some (.ins C dx (plF a b)) ∧ H' a = some (.lst xs) ∧ Paired (DimAt K H') xs ds ∧ H' b = some (.lst (ms.map V.str)) ∧ H x = none ∧ H a = none ∧ H b = none
  s : Same H H'
theorem PlanN.ct {C x a g : Addr} {H H' : Hp} {n : Nat} {ds : List Dm} {ms : List Str} (h : PlanN K C H H' x ds ms) (T : Tray H a g n) : PlanAt K C (ct a g H') x ds ms := by
  obtain ⟨dx, pa, pb, xs, e1, e2, e3, e4, n1, n2, n3⟩ := h.ex
  exact ⟨dx, pa, pb, xs, ct_of e1 (T.na n1).1 (T.na n1).2, ct_of e2 (T.na n2).1 (T.na n2).2, PySem.Paired.mono (fun _ _ => dim_ct (T.same h.s)) e3, ct_of e4 (T.na n3).1 (T.na n3).2⟩
theorem init_good {C hp bp x dx : Addr} {H5 : Hp} {ds : List Dm} {ms : List Str} {B : Hp → Prop} {E : XK} (hd : DimsAt K H5 hp ds) (hm : Txs K H5 bp ms) (sz : Szd ds ms) (ff : ffV ds ms = .non) (nx : H5 x = none) (ndx : H5 dx = none) (nex : dx ≠ x) (k : ∀ H7, PlanN K C H5 H7 x ds ms → B H7) :
    spInit K C [.ref x, .ref hp, .ref bp] (upd (upd H5 dx (.own x)) x (.ins C dx [])) (fun v H2 => v = .non ∧ B H2) E := by
  have sx : Same H5 (upd (upd H5 dx (.own x)) x (.ins C dx [])) := fun b o q => by rw [upd_ne (ne_of_none q nx), upd_ne (ne_of_none q ndx)]; exact q
  refine ⟨x, dx, hp, bp, ds, ms, rfl, upd_same, DimsAt.same sx hd, Same.txs sx hm, sz, ff, fun H7 pa pb px npa npb e1 e2 e3 e4 s7 => ⟨rfl, ?_⟩⟩
  have s57 : Same H5 H7 := fun b o e => cd_sub _ _ (s7 b o (cd_of (sx b o e) (ne_of_none e nx)))
  exact k H7 ⟨⟨dx, pa, pb, px, e1, e2, e3, e4, nx, sx.free npa, sx.free npb⟩, s57⟩
/-- .. and of faulty ones -/
theorem init_bad {C N hp bp : Addr} {H5 : Hp} {ds : List Dm} {ms : List Str} {Q : VK} {E : XK} {z : Str} (hd : DimsAt K H5 hp ds) (hm : Txs K H5 bp ms) (sz : Szd ds ms) (ff : ffV ds ms = .str z) (k : ∀ d H7, Same H5 H7 → H7 d = some (.xd (noF "NoPlan" (.str z))) → H5 d = none → E (.ref N) (some d) H7)
    {x dx : Addr} (nx : H5 x = none) (ndx : H5 dx = none) (nex : dx ≠ x) : spFail K N [.ref x, .ref hp, .ref bp] (upd (upd H5 dx (.own x)) x (.ins C dx [])) Q E := by
  have sx : Same H5 (upd (upd H5 dx (.own x)) x (.ins C dx [])) := fun b o q => by rw [upd_ne (ne_of_none q nx), upd_ne (ne_of_none q ndx)]; exact q
  exact ⟨x, hp, bp, ds, ms, z, rfl, DimsAt.same sx hd, Same.txs sx hm, sz, ff, fun H1 d s1 hd => k d _ ((sx.trans s1).trans (same_new hd)) upd_same ((sx.trans s1).free hd)⟩
end
end Kd

namespace Kd
open PySem PySem.Spec PyProof.Rows L2
/-! ### kinds -/
/-- a value as the laws draw it -/
inductive Fv where
  | i (z : Int)
  | s (z : Str)
  deriving DecidableEq
def Fv.v : Fv → V
  | .i z => .int z
  | .s z => .str z
def Fv.d : Fv → PyData
  | .i z => .int z
  | .s z => .str z
theorem Fv.v_inj {a b : Fv} (h : a.v = b.v) : a = b := by
  cases a <;> cases b <;> simp [Fv.v] at h <;> rw [h]
theorem Fv.scal (a b : Fv) : L2.scal a.v b.v = true := by
  cases a <;> cases b <;> rfl
theorem Fv.ne (a b : Fv) : (!decide (a.v = b.v)) = !decide (a = b) := by
  by_cases h : a = b
  · rw [h]
    simp
  · have h2 : ¬ a.v = b.v := fun q => h (Fv.v_inj q)
    rw [decide_eq_false h, decide_eq_false h2]
theorem Fv.flat (a : Fv) : flatV a.v = true := by cases a <;> rfl
abbrev Kind := Int × List Fv
section
variable {P : Program} {w : World} {K : PySem.W.Frag} {mg : Str → Option Value} {base : Heap} {f : Addr} {fd : FuncData}
theorem Fv.dp {H : Hp} (a : Fv) : Dp K H a.v a.d := by
  cases a
  · exact .int _
  · exact .str _
def KindAt (K : PySem.W.Frag) (H : Hp) (x : V) (k : Kind) : Prop := ∃ p q, x = .ref p ∧ SqT K H p [.int k.1, .ref q] ∧ SqT K H q (k.2.map Fv.v)
theorem KindAt.same {H H' : Hp} {x : V} {k : Kind} (e : Same H H') : KindAt K H x k → KindAt K H' x k := fun ⟨p, q, h1, h2, h3⟩ => ⟨p, q, h1, Same.seqT e h2, Same.seqT e h3⟩
def KindsAt (K : PySem.W.Frag) (H : Hp) (l : Addr) (ks : List Kind) : Prop := ∃ xs, SqL K H l xs ∧ Paired (KindAt K H) xs ks
theorem KindsAt.same {H H' : Hp} {l : Addr} {ks : List Kind} (e : Same H H') : KindsAt K H l ks → KindsAt K H' l ks := fun ⟨xs, h1, h2⟩ => ⟨xs, e.seq h1, PySem.Paired.mono (fun _ _ => KindAt.same e) h2⟩
theorem map_at {α β : Type} {g : α → β} {l : List α} {i : Nat} (h : i < l.length) : (l.map g)[i]? = some (g l[i]) := by rw [List.getElem?_map, List.getElem?_eq_getElem h]; rfl
/-! ### attributes_of -/
def spAttr (K : PySem.W.Frag) (C : Addr) : Sp := fun vs H Q _ => ∃ (x : Addr) (n : Str) (ds : List (Str × List (Str × Str))) (ms : List Str), vs = [.ref x, .str n] ∧ PlanAt K C H x ds ms ∧
  (∀ d q H', ds.find? (fun d => decide (d.1 = n)) = some d → AttsAt K H' q d.2 → Same H H' → Q (.ref q) H') ∧ (ds.find? (fun d => decide (d.1 = n)) = none → ∀ H', Same H H' → Q .non H')
theorem sc_attr : FnScope ["plan", "dimension", "name", "attributes"] ["plan", "dimension"] (defScope s_attributes_of) := ⟨rfl, rfl, rfl, by decide +kernel, rfl, by decide +kernel, by decide +kernel⟩
theorem ok_attr {C fd1 : Addr} {fdd : FuncData} (F : FnP K "attributes_of" "attributes_of" s_attributes_of f fd) (T : PlTxt K C) (GD : FnOk P w K mg base CX0 1 fd1 fdd ["self"] (spDims K C)) (bD : Binds K fdd ["self"] []) (mD : Meth K C "dimensions" fd1) : FnOk P w K mg base CX0 2 f fd ["plan", "dimension"] (spAttr K C) := by
  refine F.ok sc_attr (fun vs H Q E h => ?_) (fun cdv A outer s H vs Q E hr h => ?_)
  · obtain ⟨x, n, ds, ms, rfl, _⟩ := h
    rfl
  · obtain ⟨x, n, ds, ms, rfl, hp, k1, k2⟩ := h
    have nd := sc_attr.nd
    obtain ⟨dx, pa, pb, px, e1, e2, e3, e4⟩ := id hp.ex
    refine ⟨_, PSs.nox (pss_cons (ps_for PassesOwn.never rfl (pi_list (pe_meth0 (pv 0) T.cl mD GD hr bD .nil pass0)) (pg_tup rfl (pgs_cons (pg_name (i := 2) nd rfl (Or.inl rfl)) (pgs_cons (pg_name (i := 3) nd rfl (Or.inl rfl)) pgs_nil)))
        (pss_one (ps_if (pt_cmpR op_eq (pv 2) (pv 1) (nomark _)) (pss_one (ps_ret (pv 3))) pss_nil)))
      (pss_one (ps_ret pe_non))), ?_⟩
    refine ⟨_, rfl, x, dx, _, rfl, e1, pl_no0 (by decide +kernel) (by decide +kernel), x, ds, ms, rfl, hp, fun l xs nl pl => ?_⟩
    have s1 : Same H (upd H l (.lst xs)) := same_new nl
    refine ⟨l, rfl, ⟨_, SqL.of upd_same⟩, for_list (K := K) (a := l) (xs := xs) (fun i σ H2 => ∃ u v, σ = [some (.ref x), some (.str n), u, v] ∧ Same (upd H l (.lst xs)) H2 ∧ (ds.take i).find? (fun d => decide (d.1 = n)) = none) ⟨_, _, rfl, Same.refl _, rfl⟩ (fun i σ H2 _ ⟨_, _, _, s2, _⟩ => SqL.of (s2 _ _ upd_same)) ?_ ?_⟩
    · rintro i y σ H2 hi ⟨u, v, rfl, s2, na⟩
      obtain ⟨d, hd, p, q, rfl, h1, h2⟩ := paired_at pl hi
      have s02 := s1.trans s2
      refine ⟨p, _, rfl, Same.seqT s02 h1, rfl, _, _, rfl, _, _, rfl, rfl, ?_⟩
      refine ⟨_, rfl, _, rfl, rfl, _, rfl, ?_⟩
      obtain ⟨g1, g2⟩ := List.getElem?_eq_some_iff.mp hd
      by_cases c : d.1 = n
      · rw [decide_eq_true (congrArg V.str c)]
        refine iteT ⟨_, rfl, k1 d q H2 ?_ (h2.same s02) s02⟩
        rw [← List.take_append_drop i ds, List.find?_append, na, List.drop_eq_getElem_cons g1, g2, List.find?_cons_of_pos (by simp [c])]
        rfl
      · rw [decide_eq_false (fun z => c (by injection z))]
        refine iteF ⟨_, _, rfl, s2, ?_⟩
        rw [List.take_succ_eq_append_getElem g1, List.find?_append, na, g2, List.find?_cons_of_neg (by simp [c])]
        rfl
    · rintro σ H2 ⟨u, v, rfl, s2, na⟩
      have hl := pl.length
      rw [hl, List.take_length] at na
      exact k2 na H2 (s1.trans s2)
end
end Kd

namespace Kd
open PySem PySem.Spec PyProof.Rows L2 KdXc
/-! ### rows -/
inductive Rw where
  | kind (d key : Str) (day : Int) (vals : List Fv)
  | fact (name : Str) (day : Int) (keys : List Str) (nums : List Int)
  | forget (name : Str)
def Rw.at (K : PySem.W.Frag) (H : Hp) (p : Addr) : Rw → Prop
  | .kind d key day vals => ∃ q, SqT K H p [.str "kind", .str d, .str key, .int day, .ref q] ∧ SqT K H q (vals.map Fv.v)
  | .fact name day keys nums => ∃ q1 q2, SqT K H p [.str "fact", .str name, .int day, .ref q1, .ref q2] ∧ SqT K H q1 (keys.map V.str) ∧ SqT K H q2 (nums.map V.int)
  | .forget name => SqT K H p [.str "forget", .str name]
theorem Rw.same {K : PySem.W.Frag} {H H' : Hp} {p : Addr} (e : Same H H') : ∀ {r : Rw}, r.at K H p → r.at K H' p
  | .kind .., ⟨q, h1, h2⟩ => ⟨q, Same.seqT e h1, Same.seqT e h2⟩
  | .fact .., ⟨q1, q2, h1, h2, h3⟩ => ⟨q1, q2, Same.seqT e h1, Same.seqT e h2, Same.seqT e h3⟩
  | .forget .., h => Same.seqT e h
/-- a short text of letters and figures, and more -/
structure Tx (z : Str) : Prop where
  le : z.length ≤ 14
  ok : ∀ c ∈ z.cps.toList, c < 128
def Nu (i : Int) : Prop := i.natAbs < 2 ^ 210
def Fv.ok : Fv → Prop
  | .i z => Nu z
  | .s z => Tx z
def Rw.ok : Rw → Prop
  | .kind d key day vals => Tx d ∧ Tx key ∧ Nu day ∧ vals.length ≤ 10 ∧ ∀ v ∈ vals, v.ok
  | .fact name day keys nums => Tx name ∧ Nu day ∧ (keys.length ≤ 10 ∧ ∀ z ∈ keys, Tx z) ∧ nums.length ≤ 10 ∧ ∀ i ∈ nums, Nu i
  | .forget name => Tx name
theorem IsNm.tx {z : Str} (h : IsNm z) : Tx z := ⟨by have := h.le8; omega, fun c hc => by have := h.low c hc; omega⟩
theorem Tx.sok {z : Str} (h : Tx z) : PyData.strOk z = true := by
  unfold PyData.strOk
  rw [Array.all_eq_true']
  intro c hc
  have := h.ok c (Array.mem_toList_iff.mpr hc)
  exact decide_eq_true (by omega)
theorem Tx.flat {z : Str} (h : Tx z) : KdRp.FlatS (.str z) := ⟨fun c hc => Nat.lt_of_lt_of_le (h.ok c hc) (by decide), by have := h.le; omega⟩
theorem Nu.flat {i : Int} (h : Nu i) : KdRp.FlatS (.int i) := by
  show i.natAbs.log2 < 1920
  by_cases z : i.natAbs = 0
  · rw [z]
    decide
  · exact Nat.lt_trans ((Nat.log2_lt z).mpr h) (by decide)
theorem Fv.ok.flat : ∀ {v : Fv}, v.ok → KdRp.FlatS v.v
  | .i _, h => Nu.flat h
  | .s _, h => Tx.flat h
theorem tx_kind : Tx ("kind" : Str) := ⟨by decide +kernel, by decide +kernel⟩
theorem tx_fact : Tx ("fact" : Str) := ⟨by decide +kernel, by decide +kernel⟩
theorem tx_forget : Tx ("forget" : Str) := ⟨by decide +kernel, by decide +kernel⟩
/-- repr of a row is some text -/
theorem Rw.rep {K : PySem.W.Frag} {H : Hp} {p : Addr} : ∀ {r : Rw}, r.at K H p → r.ok → KdRp.Rep2 K (.ref p) H
  | .kind d key day vals, ⟨q, h1, h2⟩, ⟨o1, o2, o3, o4, o5⟩ => .inr (.inr (.inr ⟨p, _, rfl, h1, by show 5 ≤ 40; decide, fun y hy => by
      simp only [List.mem_cons, List.not_mem_nil, or_false] at hy
      rcases hy with rfl | rfl | rfl | rfl | rfl
      · exact .inl tx_kind.flat
      · exact .inl o1.flat
      · exact .inl o2.flat
      · exact .inl o3.flat
      · exact .inr ⟨q, _, rfl, h2, by rw [List.length_map]; omega, fun z hz => by
          obtain ⟨v, hv, rfl⟩ := List.mem_map.mp hz
          exact (o5 v hv).flat⟩⟩))
  | .fact name day keys nums, ⟨q1, q2, h1, h2, h3⟩, ⟨o1, o2, ⟨o3, o4⟩, o5, o6⟩ => .inr (.inr (.inr ⟨p, _, rfl, h1, by show 5 ≤ 40; decide, fun y hy => by
      simp only [List.mem_cons, List.not_mem_nil, or_false] at hy
      rcases hy with rfl | rfl | rfl | rfl | rfl
      · exact .inl tx_fact.flat
      · exact .inl o1.flat
      · exact .inl o2.flat
      · exact .inr ⟨q1, _, rfl, h2, by rw [List.length_map]; omega, fun z hz => by
          obtain ⟨v, hv, rfl⟩ := List.mem_map.mp hz
          exact (o4 v hv).flat⟩
      · exact .inr ⟨q2, _, rfl, h3, by rw [List.length_map]; omega, fun z hz => by
          obtain ⟨v, hv, rfl⟩ := List.mem_map.mp hz
          exact (o6 v hv).flat⟩⟩))
  | .forget name, h1, o1 => .inr (.inr (.inr ⟨p, _, rfl, h1, by show 2 ≤ 40; decide, fun y hy => by
      simp only [List.mem_cons, List.not_mem_nil, or_false] at hy
      rcases hy with rfl | rfl
      · exact .inl tx_forget.flat
      · exact .inl (Tx.flat o1)⟩))
def kfits (ds : List Dm) (d : Str) (n : Nat) : Bool := match ds.find? (fun e => decide (e.1 = d)) with
  | some e => decide (n = e.2.length)
  | none => false
def ffits (ds : List Dm) (ms : List Str) (k n : Nat) : Bool := decide (k = ds.length) && decide (n = ms.length)
def Rw.fits (ds : List Dm) (ms : List Str) : Rw → Bool
  | .kind d _ _ vals => kfits ds d vals.length
  | .fact _ _ keys nums => ffits ds ms keys.length nums.length
  | .forget _ => true
theorem natEq (a b : Nat) : decide (V.int (a : Int) = V.int (b : Int)) = decide (a = b) := by
  by_cases h : a = b
  · rw [h]
    simp
  · rw [decide_eq_false h]
    exact decide_eq_false fun q => h (by have := V.int.inj q; omega)
section
variable {P : Program} {w : World} {K : PySem.W.Frag} {mg : Str → Option Value} {base : Heap} {f : Addr} {fd : FuncData}
/-! ### kind_fits -/
abbrev N_kind_fits : List Str := ["plan", "dimension", "values", "attributes"]
theorem sc_kind_fits : FnScope N_kind_fits ["plan", "dimension", "values"] (defScope s_kind_fits) := ⟨rfl, rfl, rfl, by decide +kernel, rfl, by decide +kernel, by decide +kernel⟩
/-! slots: 0 plan 1 dimension 2 values 3 attributes; cells:  -/
def spKf (K : PySem.W.Frag) (C : Addr) : Sp := fun vs H Q _ => ∃ (x q : Addr) (d : Str) (ys : List V) (ds : List Dm) (ms : List Str), vs = [.ref x, .str d, .ref q] ∧ PlanAt K C H x ds ms ∧ SqT K H q ys ∧ ∀ H', Same H H' → Q (.bl (kfits ds d ys.length)) H'
theorem ok_kf {C fA : Addr} {fdA : FuncData} (F : FnP K "kind_fits" "kind_fits" s_kind_fits f fd) (c_attributes_of : Fun P w K mg base "attributes_of" 2 ["plan", "dimension"] (spAttr K C) fA fdA) (z_len : mg "len" = none) : FnOk P w K mg base CX0 3 f fd ["plan", "dimension", "values"] (spKf K C) := by
  refine F.ok sc_kind_fits (fun vs H Q E h => ?_) (fun cdv A outer s H vs Q E hr h => ?_)
  · obtain ⟨x, q, d, ys, ds, ms, rfl, _⟩ := h
    rfl
  · obtain ⟨x, q, d, ys, ds, ms, rfl, hx, hq, k⟩ := h
    have nd := sc_kind_fits.nd
    refine ⟨_, PSs.nox (pss_cons (ps_set (i := 3) nd rfl (Or.inl rfl) (pe_call c_attributes_of.G (hr.mono (by decide)) rfl c_attributes_of.g c_attributes_of.k c_attributes_of.b .nil pass0 (pa_cons (pv 0) (pa_cons (pv 1) pa_nil))))
      (pss_one (ps_ret (pe_and (pe_cmp (pc_notN (pv 3)) rfl) (pe_one (pe_cmpR op_eq (pe_callB call_len_seq (by rfl) z_len boot_len (pa_cons (pv 2) pa_nil)) (pe_callB call_len_seq (by rfl) z_len boot_len (pa_cons (pv 3) pa_nil)) (nomark _))))))), ?_⟩
    refine ⟨_, rfl, _, rfl, x, d, ds, ms, rfl, hx, fun e qa H1 he ha s1 => ?_, fun he H1 s1 => ?_⟩
    · have ek : kfits ds d ys.length = decide (ys.length = e.2.length) := by unfold kfits; rw [he]
      rw [ek] at k
      obtain ⟨zs, a1, a2⟩ := ha
      refine ⟨_, rfl, _, rfl, iteT ⟨_, rfl, q, _, rfl, .inr (Same.seqT s1 hq), _, rfl, qa, _, rfl, .inr a1, rfl, ?_⟩⟩
      rw [natEq, a2.length]
      exact k H1 s1
    · have ek : kfits ds d ys.length = false := by unfold kfits; rw [he]
      rw [ek] at k
      exact ⟨_, rfl, _, rfl, iteF (k H1 s1)⟩
/-! ### fact_fits -/
abbrev N_fact_fits : List Str := ["plan", "keys", "numbers"]
theorem sc_fact_fits : FnScope N_fact_fits ["plan", "keys", "numbers"] (defScope s_fact_fits) := ⟨rfl, rfl, rfl, by decide +kernel, rfl, by decide +kernel, by decide +kernel⟩
/-! slots: 0 plan 1 keys 2 numbers; cells:  -/
def spFf (K : PySem.W.Frag) (C : Addr) : Sp := fun vs H Q _ => ∃ (x q1 q2 : Addr) (ys zs : List V) (ds : List Dm) (ms : List Str), vs = [.ref x, .ref q1, .ref q2] ∧ PlanAt K C H x ds ms ∧ SqT K H q1 ys ∧ SqT K H q2 zs ∧ ∀ H', Same H H' → Q (.bl (ffits ds ms ys.length zs.length)) H'
theorem ok_ff {C fD fM : Addr} {fdD fdM : FuncData} (F : FnP K "fact_fits" "fact_fits" s_fact_fits f fd) (T : PlTxt K C) (GD : FnOk P w K mg base CX0 1 fD fdD ["self"] (spDims K C)) (bD : Binds K fdD ["self"] []) (mD : Meth K C "dimensions" fD) (GM : FnOk P w K mg base CX0 1 fM fdM ["self"] (spMeas K C)) (bM : Binds K fdM ["self"] []) (mM : Meth K C "measures" fM)
    (z_len : mg "len" = none) : FnOk P w K mg base CX0 2 f fd ["plan", "keys", "numbers"] (spFf K C) := by
  refine F.ok sc_fact_fits (fun vs H Q E h => ?_) (fun cdv A outer s H vs Q E hr h => ?_)
  · obtain ⟨x, q1, q2, ys, zs, ds, ms, rfl, _⟩ := h
    rfl
  · obtain ⟨x, q1, q2, ys, zs, ds, ms, rfl, hx, h1, h2, k⟩ := h
    have nd := sc_fact_fits.nd
    refine ⟨_, PSs.nox (pss_one (ps_ret (pe_and (pe_cmpR op_eq (pe_callB call_len_seq (by rfl) z_len boot_len (pa_cons (pv 1) pa_nil)) (pe_callB call_len_seq (by rfl) z_len boot_len (pa_cons (pe_meth0 (pv 0) T.cl mD GD (hr.mono (by decide)) bD .nil pass0) pa_nil)) (nomark _)) (pe_one (pe_cmpR op_eq (pe_callB call_len_seq (by rfl) z_len boot_len (pa_cons (pv 2) pa_nil)) (pe_callB call_len_seq (by rfl) z_len boot_len (pa_cons (pe_meth0 (pv 0) T.cl mM GM (hr.mono (by decide)) bM .nil pass0) pa_nil)) (nomark _)))))), ?_⟩
    obtain ⟨dx, pa, pb, px, e1, e2, e3, e4⟩ := id hx.ex
    refine ⟨_, rfl, q1, _, rfl, .inr h1, _, rfl, x, dx, _, rfl, e1, pl_no0 (by decide +kernel) (by decide +kernel), x, ds, ms, rfl, hx, fun l xs nl pl => ?_⟩
    have s1 : Same H (upd H l (.lst xs)) := same_new nl
    refine ⟨l, _, rfl, .inl (SqL.of upd_same), rfl, _, rfl, ?_⟩
    rw [natEq, pl.length]
    by_cases c : ys.length = ds.length
    · rw [decide_eq_true c]
      refine iteT ⟨_, rfl, q2, _, rfl, .inr (Same.seqT s1 h2), _, rfl, x, dx, _, rfl, s1 _ _ e1, pl_no0 (by decide +kernel) (by decide +kernel), x, ds, ms, rfl, hx.same s1, fun l2 nl2 => ?_⟩
      refine ⟨l2, _, rfl, .inl (SqL.of upd_same), rfl, ?_⟩
      rw [natEq, List.length_map]
      have ek : ffits ds ms ys.length zs.length = decide (zs.length = ms.length) := by unfold ffits; rw [decide_eq_true c, Bool.true_and]
      rw [ek] at k
      exact k _ (s1.trans (same_new nl2))
    · rw [decide_eq_false c]
      have ek : ffits ds ms ys.length zs.length = false := by unfold ffits; rw [decide_eq_false c, Bool.false_and]
      rw [ek] at k
      exact iteF (k _ s1)
/-! ### has_form -/
abbrev N_has_form : List Str := ["plan", "row"]
theorem sc_has_form : FnScope N_has_form ["plan", "row"] (defScope s_has_form) := ⟨rfl, rfl, rfl, by decide +kernel, rfl, by decide +kernel, by decide +kernel⟩
/-! slots: 0 plan 1 row; cells:  -/
def spForm (K : PySem.W.Frag) (C : Addr) : Sp := fun vs H Q _ => ∃ (x p : Addr) (r : Rw) (ds : List Dm) (ms : List Str), vs = [.ref x, .ref p] ∧ PlanAt K C H x ds ms ∧ r.at K H p ∧ ∀ H', Same H H' → Q (.bl (r.fits ds ms)) H'
theorem ok_form {C fK fF : Addr} {fdK fdF : FuncData} (F : FnP K "has_form" "has_form" s_has_form f fd) (c_kind_fits : Fun P w K mg base "kind_fits" 3 ["plan", "dimension", "values"] (spKf K C) fK fdK) (c_fact_fits : Fun P w K mg base "fact_fits" 2 ["plan", "keys", "numbers"] (spFf K C) fF fdF) : FnOk P w K mg base CX0 4 f fd ["plan", "row"] (spForm K C) := by
  refine F.ok sc_has_form (fun vs H Q E h => ?_) (fun cdv A outer s H vs Q E hr h => ?_)
  · obtain ⟨x, p, r, ds, ms, rfl, _⟩ := h
    rfl
  · obtain ⟨x, p, r, ds, ms, rfl, hx, hr', k⟩ := h
    have nd := sc_has_form.nd
    refine ⟨_, PSs.nox (pss_cons (ps_if (pt_cmpR op_eq (pe_ix ix_tup (pv 1) pe_int (fun _ _ => rfl)) pe_str (nomark _))
        (pss_one (ps_ret (pe_call c_kind_fits.G (hr.mono (by decide)) rfl c_kind_fits.g c_kind_fits.k c_kind_fits.b .nil pass0 (pa_cons (pv 0) (pa_cons (pe_ix ix_tup (pv 1) pe_int (fun _ _ => rfl)) (pa_cons (pe_ix ix_tup (pv 1) pe_int (fun _ _ => rfl)) pa_nil))))))
        pss_nil)
      (pss_cons (ps_if (pt_cmpR op_eq (pe_ix ix_tup (pv 1) pe_int (fun _ _ => rfl)) pe_str (nomark _))
        (pss_one (ps_ret (pe_call c_fact_fits.G (hr.mono (by decide)) rfl c_fact_fits.g c_fact_fits.k c_fact_fits.b .nil pass0 (pa_cons (pv 0) (pa_cons (pe_ix ix_tup (pv 1) pe_int (fun _ _ => rfl)) (pa_cons (pe_ix ix_tup (pv 1) pe_int (fun _ _ => rfl)) pa_nil))))))
        pss_nil)
      (pss_one (ps_ret (pe_cmpR op_eq (pe_ix ix_tup (pv 1) pe_int (fun _ _ => rfl)) pe_str (nomark _)))))), ?_⟩
    cases r with
    | kind d key day vals =>
      obtain ⟨q, h1, h2⟩ := hr'
      refine ⟨_, rfl, p, _, _, _, rfl, rfl, h1, atI_nat (j := 0) rfl, rfl, _, rfl, iteT0 (decide_eq_true rfl) ?_⟩
      refine ⟨_, rfl, _, rfl, p, _, _, _, rfl, rfl, h1, atI_nat (j := 1) rfl, _, rfl, p, _, _, _, rfl, rfl, h1, atI_nat (j := 4) rfl, x, q, d, _, ds, ms, rfl, hx, h2, fun H1 s1 => ?_⟩
      rw [List.length_map]
      exact k H1 s1
    | fact name day keys nums =>
      obtain ⟨q1, q2, h1, h2, h3⟩ := hr'
      refine ⟨_, rfl, p, _, _, _, rfl, rfl, h1, atI_nat (j := 0) rfl, rfl, _, rfl, iteF0 (by decide +kernel) ?_⟩
      refine ⟨_, rfl, p, _, _, _, rfl, rfl, h1, atI_nat (j := 0) rfl, rfl, _, rfl, iteT0 (decide_eq_true rfl) ?_⟩
      refine ⟨_, rfl, _, rfl, p, _, _, _, rfl, rfl, h1, atI_nat (j := 3) rfl, _, rfl, p, _, _, _, rfl, rfl, h1, atI_nat (j := 4) rfl, x, q1, q2, _, _, ds, ms, rfl, hx, h2, h3, fun H1 s1 => ?_⟩
      rw [List.length_map, List.length_map]
      exact k H1 s1
    | forget name =>
      refine ⟨_, rfl, p, _, _, _, rfl, rfl, hr', atI_nat (j := 0) rfl, rfl, _, rfl, iteF0 (by decide +kernel) ?_⟩
      refine ⟨_, rfl, p, _, _, _, rfl, rfl, hr', atI_nat (j := 0) rfl, rfl, _, rfl, iteF0 (by decide +kernel) ?_⟩
      refine ⟨_, rfl, p, _, _, _, rfl, rfl, hr', atI_nat (j := 0) rfl, rfl, ?_⟩
      have e : decide (V.str "forget" = V.str "forget") = true := decide_eq_true rfl
      rw [e]
      exact k H (Same.refl H)
/-! ### look -/
abbrev N_look : List Str := ["plan", "row"]
theorem sc_look : FnScope N_look ["plan", "row"] (defScope s_look) := ⟨rfl, rfl, rfl, by decide +kernel, rfl, by decide +kernel, by decide +kernel⟩
/-! slots: 0 plan 1 row; cells:  -/
def spLook (K : PySem.W.Frag) (C N : Addr) : Sp := fun vs H Q E => ∃ (x p : Addr) (r : Rw) (ds : List Dm) (ms : List Str), vs = [.ref x, .ref p] ∧ PlanAt K C H x ds ms ∧ r.at K H p ∧ r.ok ∧ (r.fits ds ms = true → ∀ H', Same H H' → Q .non H') ∧
  (r.fits ds ms = false → ∀ d H', Same H H' → H d = none → H' d = some (.xd (noF "NoRow" (.ref p))) → E (.ref N) (some d) H')
theorem ok_look {C fH N fN : Addr} {fdH fdN : FuncData} (F : FnP K "look" "look" s_look f fd) (c_has_form : Fun P w K mg base "has_form" 4 ["plan", "row"] (spForm K C) fH fdH) (M : ErrM P w K mg base "NoRow" N fN fdN) : FnOk P w K mg base (L2.CX P w) 5 f fd ["plan", "row"] (spLook K C N) := by
  refine F.ok sc_look (fun vs H Q E h => ?_) (fun cdv A outer s H vs Q E hr h => ?_)
  · obtain ⟨x, p, r, ds, ms, rfl, _⟩ := h
    rfl
  · obtain ⟨x, p, r, ds, ms, rfl, hx, hp, ok, k1, k2⟩ := h
    have nd := sc_look.nd
    refine ⟨_, pss_one (ps_if (pt_not (pt_val (pe_call c_has_form.G (hr.mono (by decide)) rfl c_has_form.g c_has_form.k c_has_form.b .nil pass0 (pa_cons (pv 0) (pa_cons (pv 1) pa_nil)))))
      (pss_one (ps_raise rfl (takes_of rfl rfl rfl rfl) (pmk_err M.T M.G (hr.mono (by decide)) M.b rfl M.g (pv 1)))) pss_nil), ?_⟩
    refine ⟨_, rfl, _, rfl, x, p, r, ds, ms, rfl, hx, hp, fun H1 s1 => ⟨_, rfl, ?_⟩⟩
    cases c : r.fits ds ms with
    | true => exact iteF (k1 c H1 s1)
    | false =>
      refine iteT ⟨_, rfl, err_ok (fun a ha => Rw.rep (Rw.same (s1.trans (same_new ha)) hp) ok) fun d hd => ?_⟩
      exact k2 c d _ (s1.trans (same_new hd)) (s1.free hd) upd_same
end
end Kd

namespace Kd
open PySem PySem.Spec PyProof.Rows L2 KdXc
/-- a small letter or a figure -/
def KeyC (c : Nat) : Prop := (97 ≤ c ∧ c ≤ 122) ∨ (48 ≤ c ∧ c ≤ 57)
structure Ky (z : Str) : Prop where
  ok : ∀ c ∈ z.cps.toList, KeyC c
  ge : 1 ≤ z.length
  le : z.length ≤ 12
theorem Ky.tx {z : Str} (h : Ky z) : Tx z := ⟨by have := h.le; omega, fun c hc => by rcases h.ok c hc with q | q <;> omega⟩
def Wh (i : Int) : Prop := i.natAbs < 10 ^ 60
theorem Wh.nu {i : Int} (h : Wh i) : Nu i := Nat.lt_of_lt_of_le h (by decide)
def Fv.good : Fv → Prop
  | .i z => Wh z
  | .s z => Ky z
theorem Fv.good.ok : ∀ {v : Fv}, v.good → v.ok
  | .i _, h => Wh.nu h
  | .s _, h => Ky.tx h
abbrev figs : Str := "abcdefghijklmnopqrstuvwxyz0123456789"
theorem figs_len : figs.length = 36 := by decide +kernel
theorem figs_at {i : Nat} (h : i < 36) : ∃ c, figs.cps.toList[i]? = some c ∧ KeyC c := by
  have hl : i < figs.cps.toList.length := by
    have e : figs.cps.toList.length = 36 := by decide +kernel
    rw [e]
    exact h
  refine ⟨figs.cps.toList[i], List.getElem?_eq_getElem hl, ?_⟩
  have hall : figs.cps.toList.all (fun c => decide ((97 ≤ c ∧ c ≤ 122) ∨ (48 ≤ c ∧ c ≤ 57))) = true := by decide +kernel
  have := of_decide_eq_true (List.all_eq_true.mp hall _ (List.getElem_mem hl))
  exact this
theorem joinedK {y : Str} (hy : y.cps.toList = []) (parts : List Str) (h1 : ∀ z ∈ parts, z.length = 1) (h2 : ∀ z ∈ parts, ∀ c ∈ z.cps.toList, KeyC c) : (∀ c ∈ (Txt.join y parts).cps.toList, KeyC c) ∧ (Txt.join y parts).length = parts.length := by
  have e := join_list_eq y hy parts
  constructor
  · intro c hc
    rw [e] at hc
    obtain ⟨l, hl, hcl⟩ := List.mem_flatten.mp hc
    obtain ⟨z, hz, rfl⟩ := List.mem_map.mp hl
    exact h2 z hz c hcl
  · have e2 : (Txt.join y parts).length = (Txt.join y parts).cps.toList.length := by rw [Array.length_toList]; rfl
    rw [e2, e]
    exact flat_len parts h1
def wordsK : List Str := [("a" : Str), ("b" : Str), ("ab" : Str), ("a1" : Str), ("1" : Str), ("01" : Str), ("x9" : Str), ("abcdefghijkl" : Str), ("abcdefghijkm" : Str)]
theorem wordsK_at {j : Nat} (h : j < 9) : ∃ z, (wordsK.map V.str)[j]? = some (.str z) ∧ Ky z := by
  have hl : j < wordsK.length := h
  refine ⟨wordsK[j], by rw [List.getElem?_map, List.getElem?_eq_getElem hl]; rfl, ?_⟩
  have hall : wordsK.all (fun z => (z.cps.toList.all fun c => decide ((97 ≤ c ∧ c ≤ 122) ∨ (48 ≤ c ∧ c ≤ 57))) && (decide (1 ≤ z.length) && decide (z.length ≤ 12))) = true := by decide +kernel
  obtain ⟨h1, h2⟩ := Bool.and_eq_true_iff.mp (List.all_eq_true.mp hall _ (List.getElem_mem hl))
  obtain ⟨h2, h3⟩ := Bool.and_eq_true_iff.mp h2
  exact ⟨fun c hc => by
    have := of_decide_eq_true (List.all_eq_true.mp h1 c hc)
    exact this, of_decide_eq_true h2, of_decide_eq_true h3⟩
section
variable {P : Program} {w : World} {K : PySem.W.Frag} {mg : Str → Option Value} {base : Heap} {f : Addr} {fd : FuncData}
/-! ### _law_great -/
abbrev N_l_great : List Str := ["tray", "found", "k"]
theorem sc_l_great : FnScope N_l_great ["tray"] (defScope s_l_great) := ⟨rfl, rfl, rfl, by decide +kernel, rfl, by decide +kernel, by decide +kernel⟩
/-! slots: 0 tray 1 found 2 k; cells:  -/
def spGreat : Sp := fun vs H Q _ => ∃ (a g : Addr) (n : Nat), vs = [.ref a] ∧ Tray H a g n ∧ n ≤ 900000 ∧ ∀ (r : Int) H', 0 ≤ r → r < 10 ^ 59 → Tray H' a g (n + 4) → Same (ct a g H) (ct a g H') → Q (.int r) H'
theorem ok_great {fD : Addr} {fdD : FuncData} (F : FnP K "_law_great" "_law_great" s_l_great f fd) (c_draw : Fun P w K mg base "_law_draw" 1 ["tray", "many"] spDraw fD fdD) (z_range : mg "range" = none) : FnOk P w K mg base CX0 2 f fd ["tray"] spGreat := by
  refine F.ok sc_l_great (fun vs H Q E h => ?_) (fun cdv A outer s H vs Q E hr h => ?_)
  · obtain ⟨a, g, n, rfl, _⟩ := h
    rfl
  · obtain ⟨a, g, n, rfl, hT, hn, k⟩ := h
    have nd := sc_l_great.nd
    refine ⟨_, PSs.nox (pss_cons (ps_set (i := 1) nd rfl (Or.inl rfl) (pe_call c_draw.G (hr.mono (by decide)) rfl c_draw.g c_draw.k c_draw.b .nil pass0 (pa_cons (pv 0) (pa_cons (pe_op op_pow pe_int pe_int) pa_nil))))
      (pss_cons (ps_for PassesOwn.never rfl (pi_range1 rfl z_range (pa_cons pe_int pa_nil)) (pg_name (i := 2) nd rfl (Or.inl rfl))
        (pss_one (ps_set (i := 1) nd rfl (Or.inl rfl) (pe_op op_add (pe_op op_mul (pv 1) (pe_op op_pow pe_int pe_int)) (pe_call c_draw.G (hr.mono (by decide)) rfl c_draw.g c_draw.k c_draw.b .nil pass0 (pa_cons (pv 0) (pa_cons (pe_op op_pow pe_int pe_int) pa_nil)))))))
      (pss_one (ps_ret (pv 1))))), ?_⟩
    have p14 : (10 : Int) ^ Int.toNat 14 = 100000000000000 := by decide
    have p15 : (10 : Int) ^ Int.toNat 15 = 1000000000000000 := by decide
    refine ⟨_, rfl, _, _, rfl, rfl, ⟨by decide, by decide, by decide⟩, a, g, n, _, rfl, hT, by omega, by rw [p14]; decide, by rw [p14]; decide, fun r H1 r0 r1 T1 s1 => ?_⟩
    rw [p14] at r1
    refine set_st (σ' := [some (.ref a), some (.int r), none]) rfl ?_
    refine ⟨_, rfl, by decide, by decide, for_range (lo := 0) (n := 3) (fun i σ H2 => ∃ (x2 : Option V) (r : Int), σ = [some (.ref a), some (.int r), x2] ∧ 0 ≤ r ∧ r < 10 ^ (14 + 15 * i) ∧ Tray H2 a g (n + 1 + i) ∧ Same (ct a g H) (ct a g H2)) ⟨_, r, rfl, r0, by simpa using r1, T1, s1⟩ ?_ ?_⟩
    · rintro i σ H2 hi ⟨x2, r, rfl, q0, q1, T2, s2⟩
      refine ⟨_, rfl, _, _, rfl, rfl, ⟨by decide, by decide, by decide⟩, _, _, rfl, rfl, .inr ?_, _, rfl, _, _, rfl, rfl, ⟨by decide, by decide, by decide⟩, a, g, n + 1 + i, _, rfl, T2, by omega, by rw [p15]; decide, by rw [p15]; decide, fun d H3 d0 d1 T3 s3 => ?_⟩
      · rw [p15]
        exact ⟨by decide, by decide⟩
      rw [p15] at d1
      refine ⟨_, _, rfl, rfl, ?_⟩
      rw [p15]
      refine ⟨_, _, rfl, by omega, ?_, T3, s2.trans s3⟩
      have e : (10 : Int) ^ (14 + 15 * (i + 1)) = 10 ^ (14 + 15 * i) * 1000000000000000 := by
        rw [show 14 + 15 * (i + 1) = 14 + 15 * i + 15 by omega, Int.pow_add]
        rfl
      rw [e]
      have h1 : r + 1 ≤ 10 ^ (14 + 15 * i) := q1
      have h2 := Int.mul_le_mul_of_nonneg_right h1 (show (0 : Int) ≤ 1000000000000000 by decide)
      omega
    · rintro σ H2 ⟨x2, r, rfl, q0, q1, T2, s2⟩
      exact ⟨_, rfl, k r H2 q0 q1 T2 s2⟩
/-! ### _law_text -/
abbrev N_l_text : List Str := ["tray", "signs", "k"]
theorem sc_l_text : FnScope N_l_text ["tray"] (defScope s_l_text) := ⟨rfl, rfl, rfl, by decide +kernel, rfl, by decide +kernel, by decide +kernel⟩
/-! slots: 0 tray 1 signs 2 k; cells: signs tray -/
def spText : Sp := fun vs H Q _ => ∃ (a g : Addr) (n : Nat), vs = [.ref a] ∧ Tray H a g n ∧ n ≤ 900000 ∧ ∀ (z : Str) H', Ky z → Tray H' a g (n + 14) → Same (ct a g H) (ct a g H') → Q (.str z) H'
theorem ok_text {fD : Addr} {fdD : FuncData} (F : FnP K "_law_text" "_law_text" s_l_text f fd) (c_draw : Fun P w K mg base "_law_draw" 1 ["tray", "many"] spDraw fD fdD) (z_range : mg "range" = none) : FnOk P w K mg base CX0 2 f fd ["tray"] spText := by
  refine F.ok sc_l_text (fun vs H Q E h => ?_) (fun cdv A outer s H vs Q E hr h => ?_)
  · obtain ⟨a, g, n, rfl, _⟩ := h
    rfl
  · obtain ⟨a, g, n, rfl, hT, hn, k⟩ := h
    have nd := sc_l_text.nd
    refine ⟨_, PSs.nox (pss_cons (ps_if (pt_cmpR op_gt (pe_call c_draw.G (hr.mono (by decide)) rfl c_draw.g c_draw.k c_draw.b .nil pass0 (pa_cons (pv 0) (pa_cons pe_int pa_nil))) pe_int (nomark _))
        (pss_one (ps_ret (pe_ix ix_list (pe_lst (pa_cons pe_str (pa_cons pe_str (pa_cons pe_str (pa_cons pe_str (pa_cons pe_str (pa_cons pe_str (pa_cons pe_str (pa_cons pe_str (pa_cons pe_str pa_nil)))))))))) (pe_call c_draw.G (hr.mono (by decide)) rfl c_draw.g c_draw.k c_draw.b .nil pass0 (pa_cons (pv 0) (pa_cons pe_int pa_nil))) (fun _ _ => rfl))))
        pss_nil)
      (pss_cons (ps_set (i := 1) nd rfl (Or.inr rfl) pe_str)
      (pss_one (ps_ret (pe_join pe_str (pe_lc (own := [("k", 2)]) (g := gName 2) (tt := tYes) (te := tOp rIxS (tVar 1) (tCall spDraw [] E0 (tCons (tVar 0) (tCons (tC (.int 36)) tNil)))) rfl nd (pi_range1 rfl z_range (pa_cons (pe_op op_add pe_int (pe_call c_draw.G (hr.mono (by decide)) rfl c_draw.g c_draw.k c_draw.b .nil pass0 (pa_cons (pv 0) (pa_cons pe_int pa_nil)))) pa_nil)) (blkOk_by (own := [("k", 2)]) (N := N_l_text) (sc := defScope s_l_text) (by decide +kernel))
        (fun _ _ _ _ _ => pg_name (i := 2) nd rfl (Or.inl rfl)) (fun _ _ _ _ _ => pts_nil) (fun _ _ _ _ _ => pe_ix ix_str (pv 1) (pe_call c_draw.G (hr.mono (by decide)) rfl c_draw.g c_draw.k c_draw.b .nil pass0 (pa_cons (pv 0) (pa_cons pe_int pa_nil))) (fun _ _ => rfl)))))))), ?_⟩
    refine ⟨_, rfl, a, g, n, _, rfl, hT, by omega, by decide, by decide, fun r H1 r0 r1 T1 s1 => ⟨_, _, rfl, rfl, _, rfl, ite2 (fun c => ?_) (fun c => ?_)⟩⟩
    · refine ⟨by show 9 ≤ sizeLine; decide, fun p1 n1 => ?_⟩
      generalize e2 : upd H1 p1 _ = H2
      have N2 := newAt T1 n1 e2
      refine ⟨_, rfl, a, g, n + 1, _, rfl, N2.T, by omega, by decide, by decide, fun q H3 q0 q1 T3 s3 => ?_⟩
      obtain ⟨j, rfl⟩ : ∃ j : Nat, q = (j : Int) := ⟨q.toNat, by omega⟩
      obtain ⟨z, hz, kz⟩ := wordsK_at (j := j) (by omega)
      exact ⟨p1, _, _, _, rfl, rfl, SqL.of (ctkeep s3 N2.f N2.na N2.ng), atI_nat hz, k z H3 kz (T3.mono (by omega)) ((s1.trans N2.c).trans s3)⟩
    · refine ⟨⟨_, rfl⟩, _, rfl, a, g, n + 1, _, rfl, T1, by omega, by decide, by decide, fun q H3 q0 q1 T3 s3 => ?_⟩
      obtain ⟨jr, rfl⟩ : ∃ j : Nat, q = (j : Int) := ⟨q.toNat, by omega⟩
      refine ⟨_, _, rfl, rfl, _, rfl, by omega, by omega, fun D hD => ?_⟩
      have eN : ((1 : Int) + (jr : Int)).toNat = 1 + jr := by omega
      rw [eN]
      obtain ⟨nDa, nDg⟩ := T3.na hD
      refine lc_build (walk_range (lo := 0)) hD (fun i ys R => ∃ parts : List Str, ys = parts.map V.str ∧ parts.length = i ∧ (∀ z ∈ parts, z.length = 1 ∧ ∀ c ∈ z.cps.toList, KeyC c) ∧ Tray R a g (n + 2 + i) ∧ Same (ct a g H3) (ct a g R)) ⟨[], rfl, rfl, fun _ h => (nomatch h), T3.mono (by omega), Same.refl _⟩ (fun _ _ _ _ _ => trivial) ?_ ?_
      · rintro i ys x Ha Hb hi e l ⟨parts, rfl, lp, pz, Tp, sp⟩ ⟨rfl, rfl⟩
        refine ⟨rfl, yes ?_⟩
        refine ⟨_, rfl, _, rfl, a, g, n + 2 + i, _, rfl, Tp.same cd_sub, by omega, by decide, by decide, fun ch Hc h0 h1 Tc sc => ?_⟩
        obtain ⟨jc, rfl⟩ : ∃ j : Nat, ch = (j : Int) := ⟨ch.toNat, by omega⟩
        obtain ⟨c, hc, kc⟩ := figs_at (i := jc) (by omega)
        refine ⟨figs, _, _, rfl, rfl, le_line (by rw [figs_len]; decide), atI_nat hc, LcNx.add (ctkeep sc e nDa nDg) l (by omega) ⟨parts ++ [⟨#[c]⟩], by rw [List.map_append]; rfl, by rw [List.length_append]; show parts.length + 1 = i + 1; omega, fun z hz => ?_, (Tc.cd nDa nDg).mono (by omega), ctcd hD sp sc⟩⟩
        rcases List.mem_append.mp hz with hz | hz
        · exact pz z hz
        · rw [List.mem_singleton.mp hz]
          exact ⟨rfl, fun c' hc' => by
            have : c' = c := by simpa using hc'
            rw [this]
            exact kc⟩
      · rintro ys H4 e l ⟨parts, rfl, lp, pz, Tp, sp⟩
        obtain ⟨jok, jlen⟩ := joinedK (y := Str.ofString "") (by decide +kernel) parts (fun z hz => (pz z hz).1) fun z hz => (pz z hz).2
        refine ⟨_, D, parts, rfl, rfl, .inl (SqL.of e), ?_, ?_⟩
        · rw [sum_ones parts fun z hz => (pz z hz).1]
          show parts.length + parts.length * 0 ≤ 16777216
          omega
        · exact k _ H4 ⟨jok, by omega, by omega⟩ ((Tp.same cd_sub).mono (by omega)) (((s1.trans s3).trans sp).trans (ct_same cd_sub))
/-! ### _law_whole -/
abbrev N_l_whole : List Str := ["tray", "lot"]
theorem sc_l_whole : FnScope N_l_whole ["tray"] (defScope s_l_whole) := ⟨rfl, rfl, rfl, by decide +kernel, rfl, by decide +kernel, by decide +kernel⟩
/-! slots: 0 tray 1 lot; cells:  -/
def spWhole : Sp := fun vs H Q _ => ∃ (a g : Addr) (n : Nat), vs = [.ref a] ∧ Tray H a g n ∧ n ≤ 800000 ∧ ∀ (i : Int) H', Wh i → Tray H' a g (n + 7) → Same (ct a g H) (ct a g H') → Q (.int i) H'
theorem ok_whole {fD fG : Addr} {fdD fdG : FuncData} (F : FnP K "_law_whole" "_law_whole" s_l_whole f fd) (c_draw : Fun P w K mg base "_law_draw" 1 ["tray", "many"] spDraw fD fdD) (c_great : Fun P w K mg base "_law_great" 2 ["tray"] spGreat fG fdG) : FnOk P w K mg base CX0 3 f fd ["tray"] spWhole := by
  refine F.ok sc_l_whole (fun vs H Q E h => ?_) (fun cdv A outer s H vs Q E hr h => ?_)
  · obtain ⟨a, g, n, rfl, _⟩ := h
    rfl
  · obtain ⟨a, g, n, rfl, hT, hn, k⟩ := h
    have nd := sc_l_whole.nd
    refine ⟨_, PSs.nox (pss_cons (ps_set (i := 1) nd rfl (Or.inl rfl) (pe_call c_draw.G (hr.mono (by decide)) rfl c_draw.g c_draw.k c_draw.b .nil pass0 (pa_cons (pv 0) (pa_cons pe_int pa_nil))))
      (pss_cons (ps_if (pt_cmpR op_eq (pv 1) pe_int (nomark _))
        (pss_one (ps_ret (pe_op op_mul (pe_op op_add (pe_op op_mul (pe_call c_great.G (hr.mono (by decide)) rfl c_great.g c_great.k c_great.b .nil pass0 (pa_cons (pv 0) pa_nil)) pe_int) (pe_call c_draw.G (hr.mono (by decide)) rfl c_draw.g c_draw.k c_draw.b .nil pass0 (pa_cons (pv 0) (pa_cons pe_int pa_nil)))) (pe_op op_sub pe_int (pe_op op_mul pe_int (pe_call c_draw.G (hr.mono (by decide)) rfl c_draw.g c_draw.k c_draw.b .nil pass0 (pa_cons (pv 0) (pa_cons pe_int pa_nil))))))))
        pss_nil)
      (pss_one (ps_ret (pe_op op_sub (pe_call c_draw.G (hr.mono (by decide)) rfl c_draw.g c_draw.k c_draw.b .nil pass0 (pa_cons (pv 0) (pa_cons pe_int pa_nil))) pe_int))))), ?_⟩
    refine ⟨_, rfl, a, g, n, _, rfl, hT, by omega, by decide, by decide, fun lot H1 l0 l1 T1 s1 => ?_⟩
    refine set_st (σ' := [some (.ref a), some (.int lot)]) rfl ?_
    refine ⟨_, rfl, rfl, _, rfl, ite2 (fun c => ?_) (fun c => ?_)⟩
    · refine ⟨_, rfl, a, g, n + 1, rfl, T1, by omega, fun gr H2 g0 g1 T2 s2 => ?_⟩
      refine ⟨_, _, rfl, rfl, .inr ⟨by decide, by decide⟩, _, rfl, a, g, n + 1 + 4, _, rfl, T2, by omega, by decide, by decide, fun d H3 d0 d1 T3 s3 => ?_⟩
      refine ⟨_, _, rfl, rfl, _, rfl, a, g, n + 1 + 4 + 1, _, rfl, T3, by omega, by decide, by decide, fun e H4 e0 e1 T4 s4 => ?_⟩
      refine ⟨_, _, rfl, rfl, .inl ⟨by decide, by decide⟩, _, _, rfl, rfl, _, _, rfl, rfl, .inr ⟨by omega, by omega⟩, ?_⟩
      refine k _ H4 ?_ (T4.mono (by omega)) (((s1.trans s2).trans s3).trans s4)
      have he : e = 0 ∨ e = 1 := by omega
      have hb : (gr * 10 + d).natAbs < 10 ^ 60 := by
        have : gr * 10 + d < 10 ^ 60 := by
          have h1 : gr + 1 ≤ 10 ^ 59 := g1
          have h2 : (10 : Int) ^ 60 = 10 ^ 59 * 10 := by decide
          rw [h2]
          omega
        have h3 : ((10 ^ 60 : Nat) : Int) = (10 : Int) ^ 60 := by decide
        omega
      show ((gr * 10 + d) * (1 - 2 * e)).natAbs < 10 ^ 60
      rcases he with rfl | rfl
      · rw [show (1 : Int) - 2 * 0 = 1 by decide, Int.mul_one]
        exact hb
      · rw [show (1 : Int) - 2 * 1 = -1 by decide, Int.mul_neg, Int.mul_one, Int.natAbs_neg]
        exact hb
    · refine ⟨_, rfl, a, g, n + 1, _, rfl, T1, by omega, by decide, by decide, fun d H3 d0 d1 T3 s3 => ⟨_, _, rfl, rfl, ?_⟩⟩
      refine k _ H3 ?_ (T3.mono (by omega)) (s1.trans s3)
      show (d - 4).natAbs < 10 ^ 60
      exact Nat.lt_of_lt_of_le (show (d - 4).natAbs < 100 by omega) (by decide)
/-! ### _law_value -/
abbrev N_l_value : List Str := ["tray"]
theorem sc_l_value : FnScope N_l_value ["tray"] (defScope s_l_value) := ⟨rfl, rfl, rfl, by decide +kernel, rfl, by decide +kernel, by decide +kernel⟩
/-! slots: 0 tray; cells:  -/
def spValue : Sp := fun vs H Q _ => ∃ (a g : Addr) (n : Nat), vs = [.ref a] ∧ Tray H a g n ∧ n ≤ 700000 ∧ ∀ (v : Fv) H', v.good → Tray H' a g (n + 22) → Same (ct a g H) (ct a g H') → Q v.v H'
theorem ok_value {fD fT fW : Addr} {fdD fdT fdW : FuncData} (F : FnP K "_law_value" "_law_value" s_l_value f fd) (c_draw : Fun P w K mg base "_law_draw" 1 ["tray", "many"] spDraw fD fdD) (c_text : Fun P w K mg base "_law_text" 2 ["tray"] spText fT fdT) (c_whole : Fun P w K mg base "_law_whole" 3 ["tray"] spWhole fW fdW) : FnOk P w K mg base CX0 4 f fd ["tray"] spValue := by
  refine F.ok sc_l_value (fun vs H Q E h => ?_) (fun cdv A outer s H vs Q E hr h => ?_)
  · obtain ⟨a, g, n, rfl, _⟩ := h
    rfl
  · obtain ⟨a, g, n, rfl, hT, hn, k⟩ := h
    have nd := sc_l_value.nd
    refine ⟨_, PSs.nox (pss_one (ps_ret (pe_ix ix_list (pe_lst (pa_cons (pe_call c_whole.G (hr.mono (by decide)) rfl c_whole.g c_whole.k c_whole.b .nil pass0 (pa_cons (pv 0) pa_nil)) (pa_cons (pe_call c_text.G (hr.mono (by decide)) rfl c_text.g c_text.k c_text.b .nil pass0 (pa_cons (pv 0) pa_nil)) pa_nil))) (pe_call c_draw.G (hr.mono (by decide)) rfl c_draw.g c_draw.k c_draw.b .nil pass0 (pa_cons (pv 0) (pa_cons pe_int pa_nil))) (fun _ _ => rfl)))), ?_⟩
    refine ⟨_, rfl, a, g, n, rfl, hT, by omega, fun i H1 hi T1 s1 => ?_⟩
    refine ⟨_, rfl, a, g, n + 7, rfl, T1, by omega, fun z H2 hz T2 s2 => ?_⟩
    refine ⟨by show 2 ≤ sizeLine; decide, fun p np => ?_⟩
    generalize e3 : upd H2 p _ = H3
    have N3 := newAt T2 np e3
    refine ⟨_, rfl, a, g, n + 7 + 14, _, rfl, N3.T, by omega, by decide, by decide, fun d H4 d0 d1 T4 s4 => ?_⟩
    have hd : d = 0 ∨ d = 1 := by omega
    have s04 := ((s1.trans s2).trans N3.c).trans s4
    rcases hd with rfl | rfl
    · exact ⟨p, _, _, _, rfl, rfl, SqL.of (ctkeep s4 N3.f N3.na N3.ng), atI_nat (j := 0) rfl, k (.i i) H4 hi T4 s04⟩
    · exact ⟨p, _, _, _, rfl, rfl, SqL.of (ctkeep s4 N3.f N3.na N3.ng), atI_nat (j := 1) rfl, k (.s z) H4 hz T4 s04⟩
end
end Kd

namespace Kd
open PySem PySem.Spec PyProof.Rows L2 KdXc
/-- a row of a plan of these lists -/
def Rw.good (ds : List Dm) (ms : List Str) : Rw → Prop
  | .kind d key day vals => (∃ e ∈ ds, d = e.1 ∧ vals.length = e.2.length) ∧ Ky key ∧ Wh day ∧ ∀ v ∈ vals, v.good
  | .fact name day keys nums => Ky name ∧ Wh day ∧ (keys.length = ds.length ∧ ∀ z ∈ keys, Ky z) ∧ nums.length = ms.length ∧ ∀ i ∈ nums, Wh i
  | .forget name => Ky name
theorem Rw.good.ok {ds : List Dm} {ms : List Str} (h : Good ds ms) : ∀ {r : Rw}, r.good ds ms → r.ok
  | .kind d key day vals, ⟨⟨e, he, e1, e2⟩, h1, h2, h3⟩ => ⟨by rw [e1]; exact (h.dn e he).tx, h1.tx, h2.nu, by have := h.al e he; omega, fun v hv => (h3 v hv).ok⟩
  | .fact name day keys nums, ⟨h1, h2, ⟨h3, h4⟩, h5, h6⟩ => ⟨h1.tx, h2.nu, ⟨by have := h.d4; omega, fun z hz => (h4 z hz).tx⟩, by have := h.m4; omega, fun i hi => (h6 i hi).nu⟩
  | .forget name, h1 => Ky.tx h1
section
variable {P : Program} {w : World} {K : PySem.W.Frag} {mg : Str → Option Value} {base : Heap} {f : Addr} {fd : FuncData}
/-! ### _law_row -/
abbrev N_l_row : List Str := ["tray", "some", "sums", "lot", "day", "name", "rows", "one", "keys"]
theorem sc_l_row : FnScope N_l_row ["tray", "some", "sums"] (defScope s_l_row) := ⟨rfl, rfl, rfl, by decide +kernel, rfl, by decide +kernel, by decide +kernel⟩
/-! slots: 0 tray 1 some 2 sums 3 lot 4 day 5 name 6 rows 7 one 8 keys; cells: tray -/
def spRowG (K : PySem.W.Frag) : Sp := fun vs H Q _ => ∃ (a g l m : Addr) (n : Nat) (ds : List Dm) (ms : List Str), vs = [.ref a, .ref l, .ref m] ∧ Tray H a g n ∧ n ≤ 600000 ∧ DimsAt K (ct a g H) l ds ∧ SqL K (ct a g H) m (ms.map V.str) ∧ Good ds ms ∧
  ∀ (p : Addr) (r : Rw) (H' : Hp), r.at K (ct a g H') p → r.good ds ms → Tray H' a g (n + 200) → Same (ct a g H) (ct a g H') → Q (.ref p) H'
theorem ok_rowG {fD fT fW fV : Addr} {fdD fdT fdW fdV : FuncData} (F : FnP K "_law_row" "_law_row" s_l_row f fd) (c_draw : Fun P w K mg base "_law_draw" 1 ["tray", "many"] spDraw fD fdD) (c_text : Fun P w K mg base "_law_text" 2 ["tray"] spText fT fdT) (c_whole : Fun P w K mg base "_law_whole" 3 ["tray"] spWhole fW fdW) (c_value : Fun P w K mg base "_law_value" 4 ["tray"] spValue fV fdV)
    (z_len : mg "len" = none) (z_tuple : mg "tuple" = none) : FnOk P w K mg base CX0 5 f fd ["tray", "some", "sums"] (spRowG K) := by
  refine F.ok sc_l_row (fun vs H Q E h => ?_) (fun cdv A outer s H vs Q E hr h => ?_)
  · obtain ⟨a, g, l, m, n, ds, ms, rfl, _⟩ := h
    rfl
  · obtain ⟨a, g, l, m, n, ds, ms, rfl, hT, hn, ⟨xs, hl, hp⟩, hm, ok, k⟩ := h
    have nd := sc_l_row.nd
    have hlen := hp.length
    have d1 := ok.d1
    have d4 := ok.d4
    have m4 := ok.m4
    refine ⟨_, PSs.nox (pss_cons (ps_set (i := 3) nd rfl (Or.inl rfl) (pe_call c_draw.G (hr.mono (by decide)) rfl c_draw.g c_draw.k c_draw.b .nil pass0 (pa_cons (pv 0) (pa_cons pe_int pa_nil))))
      (pss_cons (ps_set (i := 4) nd rfl (Or.inl rfl) (pe_call c_whole.G (hr.mono (by decide)) rfl c_whole.g c_whole.k c_whole.b .nil pass0 (pa_cons (pv 0) pa_nil)))
      (pss_cons (ps_if (pt_cmpR op_lt (pv 3) pe_int (nomark _))
        (pss_cons (ps_asg (pe_ix ix_list (pv 1) (pe_call c_draw.G (hr.mono (by decide)) rfl c_draw.g c_draw.k c_draw.b .nil pass0 (pa_cons (pv 0) (pa_cons (pe_callB call_len_seq (by rfl) z_len boot_len (pa_cons (pv 1) pa_nil)) pa_nil))) (fun _ _ => rfl)) (pg_tup rfl (pgs_cons (pg_name (i := 5) nd rfl (Or.inl rfl)) (pgs_cons (pg_name (i := 6) nd rfl (Or.inl rfl)) pgs_nil))))
        (pss_one (ps_ret (pe_tup (pa_cons pe_str (pa_cons (pv 5) (pa_cons (pe_call c_text.G (hr.mono (by decide)) rfl c_text.g c_text.k c_text.b .nil pass0 (pa_cons (pv 0) pa_nil)) (pa_cons (pv 4) (pa_cons (pe_callTy call_tuple_of (by rfl) z_tuple (by decide +kernel) (pa_cons (pe_lc (own := [("one", 7)]) (g := gName 7) (tt := tYes) (te := tCall spValue [] E0 (tCons (tVar 0) tNil)) rfl nd (pi_tup (pv 6)) (blkOk_by (own := [("one", 7)]) (N := N_l_row) (sc := defScope s_l_row) (by decide +kernel))
        (fun _ _ _ _ _ => pg_name (i := 7) nd rfl (Or.inl rfl)) (fun _ _ _ _ _ => pts_nil) (fun _ _ _ _ _ => pe_call c_value.G (hr.mono (by decide)) rfl c_value.g c_value.k c_value.b .nil pass0 (pa_cons (pv 0) pa_nil))) pa_nil)) pa_nil)))))))))
        pss_nil)
      (pss_cons (ps_if (pt_cmpR op_lt (pv 3) pe_int (nomark _))
        (pss_cons (ps_set (i := 8) nd rfl (Or.inl rfl) (pe_callTy call_tuple_of (by rfl) z_tuple (by decide +kernel) (pa_cons (pe_lc (own := [("one", 7)]) (g := gName 7) (tt := tYes) (te := tCall spText [] E0 (tCons (tVar 0) tNil)) rfl nd (pi_list (pv 1)) (blkOk_by (own := [("one", 7)]) (N := N_l_row) (sc := defScope s_l_row) (by decide +kernel))
        (fun _ _ _ _ _ => pg_name (i := 7) nd rfl (Or.inl rfl)) (fun _ _ _ _ _ => pts_nil) (fun _ _ _ _ _ => pe_call c_text.G (hr.mono (by decide)) rfl c_text.g c_text.k c_text.b .nil pass0 (pa_cons (pv 0) pa_nil))) pa_nil)))
        (pss_one (ps_ret (pe_tup (pa_cons pe_str (pa_cons (pe_call c_text.G (hr.mono (by decide)) rfl c_text.g c_text.k c_text.b .nil pass0 (pa_cons (pv 0) pa_nil)) (pa_cons (pv 4) (pa_cons (pv 8) (pa_cons (pe_callTy call_tuple_of (by rfl) z_tuple (by decide +kernel) (pa_cons (pe_lc (own := [("one", 7)]) (g := gName 7) (tt := tYes) (te := tCall spWhole [] E0 (tCons (tVar 0) tNil)) rfl nd (pi_list (pv 2)) (blkOk_by (own := [("one", 7)]) (N := N_l_row) (sc := defScope s_l_row) (by decide +kernel))
        (fun _ _ _ _ _ => pg_name (i := 7) nd rfl (Or.inl rfl)) (fun _ _ _ _ _ => pts_nil) (fun _ _ _ _ _ => pe_call c_whole.G (hr.mono (by decide)) rfl c_whole.g c_whole.k c_whole.b .nil pass0 (pa_cons (pv 0) pa_nil))) pa_nil)) pa_nil)))))))))
        pss_nil)
      (pss_one (ps_ret (pe_tup (pa_cons pe_str (pa_cons (pe_call c_text.G (hr.mono (by decide)) rfl c_text.g c_text.k c_text.b .nil pass0 (pa_cons (pv 0) pa_nil)) pa_nil))))))))), ?_⟩
    refine ⟨_, rfl, a, g, n, _, rfl, hT, by omega, by decide, by decide, fun lot H1 l0 l1 T1 s1 => ?_⟩
    refine set_st (σ' := [some (.ref a), some (.ref l), some (.ref m), some (.int lot), none, none, none, none, none]) rfl ?_
    refine ⟨_, rfl, a, g, n + 1, rfl, T1, by omega, fun day H2 hday T2 s2 => ?_⟩
    refine set_st (σ' := [some (.ref a), some (.ref l), some (.ref m), some (.int lot), some (.int day), none, none, none, none]) rfl ?_
    have s02 := s1.trans s2
    refine ⟨_, rfl, _, _, rfl, rfl, _, rfl, ite2 (fun c1 => ?_) (fun c1 => ?_)⟩
    · -- a kind
      refine ⟨_, rfl, _, rfl, _, rfl, l, _, rfl, .inl (Same.seq (s02.trans ct_sub) hl), a, g, n + 1 + 7, _, rfl, T2, by omega, by omega, by omega, fun r H3 r0 r1 T3 s3 => ?_⟩
      obtain ⟨j, rfl⟩ : ∃ j : Nat, r = (j : Int) := ⟨r.toNat, by omega⟩
      have hj : j < xs.length := by omega
      have s03 := s02.trans s3
      have hp3 := PySem.Paired.mono (fun _ _ => DimAt.same s03) hp
      obtain ⟨d, hd, pd, qd, ep, t1, zs, z1, z2⟩ := paired_at hp3 (List.getElem?_eq_getElem hj)
      have dm : d ∈ ds := List.mem_of_getElem? hd
      have l5 := ok.al d dm
      have lz := z2.length
      refine ⟨l, _, _, _, rfl, rfl, Same.seq (s03.trans ct_sub) hl, (by rw [atI_nat (List.getElem?_eq_getElem hj), ep]), pd, _, rfl, Same.seqT ct_sub t1, rfl, _, _, rfl, _, _, rfl, rfl, ?_⟩
      refine st_eq (σ' := [some (.ref a), some (.ref l), some (.ref m), some (.int lot), some (.int day), some (.str d.1), some (.ref qd), none, none]) rfl ?_
      refine ⟨_, rfl, _, rfl, a, g, n + 1 + 7 + 1, rfl, T3, by omega, fun key H4 hkey T4 s4 => ?_⟩
      have z4 : SqT K (ct a g H4) qd zs := Same.seqT s4 z1
      refine ⟨_, rfl, _, rfl, qd, rfl, ⟨_, Same.seqT ct_sub z4⟩, fun D hD => ?_⟩
      obtain ⟨nDa, nDg⟩ := T4.na hD
      refine lc_build (walk_tup (K := K) (a := qd) (xs := zs)) hD (fun i ys R => ∃ vals : List Fv, ys = vals.map Fv.v ∧ vals.length = i ∧ (∀ v ∈ vals, v.good) ∧ Tray R a g (n + 23 + 22 * i) ∧ Same (ct a g H4) (ct a g R)) ⟨[], rfl, rfl, fun _ h => (nomatch h), T4.mono (by omega), Same.refl _⟩ (fun _ _ _ _ ⟨_, _, _, _, _, s5⟩ => Same.seqT ((s5.trans ct_sub).trans cd_sub) z4) ?_ ?_
      · rintro i ys y H5 H5' hi e5 l5' ⟨vals, rfl, lv, hv, T5, s5⟩ ⟨rfl, hy⟩
        refine ⟨rfl, yes ?_⟩
        refine ⟨_, rfl, a, g, n + 23 + 22 * i, rfl, T5.same cd_sub, by omega, fun v H6 gv T6 s6 => ?_⟩
        refine LcNx.add (ctkeep s6 e5 nDa nDg) l5' (by omega) ⟨vals ++ [v], by rw [List.map_append]; rfl, by rw [List.length_append]; show vals.length + 1 = i + 1; omega, fun y hy => ?_, (T6.cd nDa nDg).mono (by omega), ctcd hD s5 s6⟩
        rcases List.mem_append.mp hy with hy | hy
        · exact hv y hy
        · rw [List.mem_singleton.mp hy]
          exact gv
      · rintro ys H5 e5 l5' ⟨vals, rfl, lv, hv, T5, s5⟩
        have T5' := T5.same cd_sub
        have s45 : Same (ct a g H4) (ct a g H5) := s5.trans (ct_same cd_sub)
        refine ⟨D, _, rfl, .inl ⟨SqL.of e5, fun q nq => ?_⟩⟩
        generalize e6 : upd H5 q _ = H6
        have N6 := newAt T5' nq e6
        refine ⟨by show 5 ≤ sizeLine; decide, fun p np => ?_⟩
        generalize e7 : upd H6 p _ = H7
        have N7 := newAt N6.T np e7
        refine k p (.kind d.1 key day vals) H7 ⟨q, SqT.of N7.fc, SqT.of (N7.c _ _ N6.fc)⟩ ⟨⟨d, dm, rfl, by omega⟩, hkey, hday, hv⟩ (N7.T.mono (by omega)) ((((s03.trans s4).trans s45).trans N6.c).trans N7.c)
    refine ⟨_, rfl, _, _, rfl, rfl, _, rfl, ite2 (fun c2 => ?_) (fun c2 => ?_)⟩
    · -- a fact
      have hl2 := Same.seq s02 hl
      have hm2 := Same.seq s02 hm
      refine ⟨_, rfl, l, rfl, ⟨_, Same.seq ct_sub hl2⟩, fun D hD => ?_⟩
      obtain ⟨nDa, nDg⟩ := T2.na hD
      refine lc_build (walk_list (K := K) (a := l) (xs := xs)) hD (fun i ys R => ∃ keys : List Str, ys = keys.map V.str ∧ keys.length = i ∧ (∀ v ∈ keys, Ky v) ∧ Tray R a g (n + 8 + 14 * i) ∧ Same (ct a g H2) (ct a g R)) ⟨[], rfl, rfl, fun _ h => (nomatch h), T2.mono (by omega), Same.refl _⟩ (fun _ _ _ _ ⟨_, _, _, _, _, s5⟩ => Same.seq ((s5.trans ct_sub).trans cd_sub) hl2) ?_ ?_
      · rintro i ys y H5 H5' hi e5 l5' ⟨keys, rfl, lv, hv, T5, s5⟩ ⟨rfl, hy⟩
        refine ⟨rfl, yes ?_⟩
        refine ⟨_, rfl, a, g, n + 8 + 14 * i, rfl, T5.same cd_sub, by omega, fun v H6 gv T6 s6 => ?_⟩
        refine LcNx.add (ctkeep s6 e5 nDa nDg) l5' (by omega) ⟨keys ++ [v], by rw [List.map_append]; rfl, by rw [List.length_append]; show keys.length + 1 = i + 1; omega, fun y hy => ?_, (T6.cd nDa nDg).mono (by omega), ctcd hD s5 s6⟩
        rcases List.mem_append.mp hy with hy | hy
        · exact hv y hy
        · rw [List.mem_singleton.mp hy]
          exact gv
      · rintro ys H5 e5 l5' ⟨keys, rfl, lv, hv, T5, s5⟩
        have T5' := T5.same cd_sub
        have s25 : Same (ct a g H2) (ct a g H5) := s5.trans (ct_same cd_sub)
        refine ⟨D, _, rfl, .inl ⟨SqL.of e5, fun q nq => ?_⟩⟩
        generalize e6 : upd H5 q _ = H6
        have N6 := newAt T5' nq e6
        refine set_st (σ' := [some (.ref a), some (.ref l), some (.ref m), some (.int lot), some (.int day), none, none, none, some (.ref q)]) rfl ?_
        have s26 := s25.trans N6.c
        refine ⟨_, rfl, a, g, n + 8 + 14 * xs.length, rfl, N6.T, by omega, fun name H7 hname T7 s7 => ?_⟩
        have hm7 := Same.seq (s26.trans s7) hm2
        refine ⟨_, rfl, _, rfl, _, rfl, m, rfl, ⟨_, Same.seq ct_sub hm7⟩, fun D2 hD2 => ?_⟩
        obtain ⟨n2a, n2g⟩ := T7.na hD2
        refine lc_build (walk_list (K := K) (a := m) (xs := ms.map V.str)) hD2 (fun i ys R => ∃ nums : List Int, ys = nums.map V.int ∧ nums.length = i ∧ (∀ v ∈ nums, Wh v) ∧ Tray R a g (n + 80 + 7 * i) ∧ Same (ct a g H7) (ct a g R)) ⟨[], rfl, rfl, fun _ h => (nomatch h), T7.mono (by omega), Same.refl _⟩ (fun _ _ _ _ ⟨_, _, _, _, _, s8⟩ => Same.seq ((s8.trans ct_sub).trans cd_sub) hm7) ?_ ?_
        · rintro i ys y H8 H8' hi e8 l8 ⟨nums, rfl, lv8, hv8, T8, s8⟩ ⟨rfl, hy⟩
          rw [List.length_map] at hi
          refine ⟨rfl, yes ?_⟩
          refine ⟨_, rfl, a, g, n + 80 + 7 * i, rfl, T8.same cd_sub, by omega, fun v H9 gv T9 s9 => ?_⟩
          refine LcNx.add (ctkeep s9 e8 n2a n2g) l8 (by omega) ⟨nums ++ [v], by rw [List.map_append]; rfl, by rw [List.length_append]; show nums.length + 1 = i + 1; omega, fun y hy => ?_, (T9.cd n2a n2g).mono (by omega), ctcd hD2 s8 s9⟩
          rcases List.mem_append.mp hy with hy | hy
          · exact hv8 y hy
          · rw [List.mem_singleton.mp hy]
            exact gv
        · rintro ys H8 e8 l8 ⟨nums, rfl, lv8, hv8, T8, s8⟩
          have T8' := T8.same cd_sub
          have s78 : Same (ct a g H7) (ct a g H8) := s8.trans (ct_same cd_sub)
          rw [List.length_map] at lv8 T8'
          refine ⟨D2, _, rfl, .inl ⟨SqL.of e8, fun q2 nq2 => ?_⟩⟩
          generalize e9 : upd H8 q2 _ = H9
          have N9 := newAt T8' nq2 e9
          refine ⟨by show 5 ≤ sizeLine; decide, fun p np => ?_⟩
          generalize e10 : upd H9 p _ = H10
          have N10 := newAt N9.T np e10
          have s610 := ((s7.trans s78).trans N9.c).trans N10.c
          exact k p (.fact name day keys nums) H10 ⟨q, q2, SqT.of N10.fc, SqT.of (s610 _ _ N6.fc), SqT.of (N10.c _ _ N9.fc)⟩ ⟨hname, hday, ⟨by omega, hv⟩, by omega, hv8⟩ (N10.T.mono (by omega)) ((s02.trans s26).trans s610)
    · refine ⟨_, rfl, a, g, n + 1 + 7, rfl, T2, by omega, fun name H3 hname T3 s3 => ?_⟩
      refine ⟨by show 2 ≤ sizeLine; decide, fun p np => ?_⟩
      generalize e4 : upd H3 p _ = H4
      have N4 := newAt T3 np e4
      exact k p (.forget name) H4 (SqT.of N4.fc) hname (N4.T.mono (by omega)) ((s02.trans s3).trans N4.c)
end
end Kd

namespace Kd
open PySem PySem.Spec PyProof.Rows L2 KdXc
theorem nw_to {xs : List V} (j : Nat) (h : j < xs.length) : ¬ (HT.sIx xs.length 0 none = 0 ∧ HT.sIx xs.length xs.length (some (j : Int)) = xs.length) := fun z => by
  have z2 := z.2
  rw [HT.sIx_nat] at z2
  omega
theorem nw_from {xs : List V} (j : Nat) (h : 0 < j) (hx : 0 < xs.length) : ¬ (HT.sIx xs.length 0 (some (j : Int)) = 0 ∧ HT.sIx xs.length xs.length none = xs.length) := fun z => by
  have z1 := z.1
  rw [HT.sIx_nat] at z1
  omega
theorem cat_ne {K : PySem.W.Frag} {H : Hp} {a b : Addr} {xs ys : List V} {Q : VK} (h1 : SqT K H a xs) (h2 : SqT K H b ys) (n1 : xs ≠ []) (n2 : ys ≠ []) (hl : xs.length + ys.length ≤ 4000) (k : ∀ p, H p = none → Q (.ref p) (upd H p (.tup (xs ++ ys)))) : rCatA K (.ref a) (.ref b) H Q :=
  ⟨a, b, xs, ys, rfl, rfl, h1, h2, le_line hl, fun z => absurd z n1, fun _ z => absurd z n2, fun _ _ p np => k p np⟩
theorem cutLast1 (xs : List V) : cutV xs none (some (-1)) = xs.take (xs.length - 1) := by
  unfold cutV
  rw [HT.sIx_none, List.drop_zero, Nat.sub_zero]
  have e : HT.sIx xs.length xs.length (some (-1)) = ((-1 : Int) + (xs.length : Int)).toNat := rfl
  rw [e, show ((-1 : Int) + (xs.length : Int)).toNat = xs.length - 1 by omega]
theorem pick_fv : ∀ {xs : List V}, (∀ x ∈ xs, ∃ v : Fv, x = v.v ∧ v.ok) → ∃ vs : List Fv, xs = vs.map Fv.v ∧ ∀ v ∈ vs, v.ok
  | [], _ => ⟨[], rfl, fun _ h => (nomatch h)⟩
  | x :: xs, h => by
    obtain ⟨b, rfl, h2⟩ := h x (List.mem_cons_self ..)
    obtain ⟨bs, rfl, h4⟩ := pick_fv fun y hy => h y (List.mem_cons_of_mem _ hy)
    exact ⟨b :: bs, rfl, fun c hc => by
      rcases List.mem_cons.mp hc with rfl | hc
      · exact h2
      · exact h4 c hc⟩
theorem pick_tx : ∀ {xs : List V}, (∀ x ∈ xs, ∃ z : Str, x = .str z ∧ Tx z) → ∃ vs : List Str, xs = vs.map V.str ∧ ∀ v ∈ vs, Tx v
  | [], _ => ⟨[], rfl, fun _ h => (nomatch h)⟩
  | x :: xs, h => by
    obtain ⟨b, rfl, h2⟩ := h x (List.mem_cons_self ..)
    obtain ⟨bs, rfl, h4⟩ := pick_tx fun y hy => h y (List.mem_cons_of_mem _ hy)
    exact ⟨b :: bs, rfl, fun c hc => by
      rcases List.mem_cons.mp hc with rfl | hc
      · exact h2
      · exact h4 c hc⟩
theorem pick_nu : ∀ {xs : List V}, (∀ x ∈ xs, ∃ z : Int, x = .int z ∧ Nu z) → ∃ vs : List Int, xs = vs.map V.int ∧ ∀ v ∈ vs, Nu v
  | [], _ => ⟨[], rfl, fun _ h => (nomatch h)⟩
  | x :: xs, h => by
    obtain ⟨b, rfl, h2⟩ := h x (List.mem_cons_self ..)
    obtain ⟨bs, rfl, h4⟩ := pick_nu fun y hy => h y (List.mem_cons_of_mem _ hy)
    exact ⟨b :: bs, rfl, fun c hc => by
      rcases List.mem_cons.mp hc with rfl | hc
      · exact h2
      · exact h4 c hc⟩
section
variable {P : Program} {w : World} {K : PySem.W.Frag} {mg : Str → Option Value} {base : Heap} {f : Addr} {fd : FuncData}
/-! ### _law_many_otherwise -/
abbrev N_l_many_otherwise : List Str := ["tray", "things", "more"]
theorem sc_l_many_otherwise : FnScope N_l_many_otherwise ["tray", "things", "more"] (defScope s_l_many_otherwise) := ⟨rfl, rfl, rfl, by decide +kernel, rfl, by decide +kernel, by decide +kernel⟩
/-! slots: 0 tray 1 things 2 more; cells:  -/
def spMany (K : PySem.W.Frag) : Sp := fun vs H Q _ => ∃ (a g t : Addr) (n : Nat) (ys : List V) (more : V), vs = [.ref a, .ref t, more] ∧ Tray H a g n ∧ n ≤ 900000 ∧ SqT K (ct a g H) t ys ∧ ys.length ≤ 20 ∧
  ∀ t' zs H', SqT K (ct a g H') t' zs → zs.length ≤ ys.length + 1 → (∀ z ∈ zs, z ∈ ys ∨ z = more) → Tray H' a g (n + 1) → Same (ct a g H) (ct a g H') → Q (.ref t') H'
theorem ok_many {fD : Addr} {fdD : FuncData} (F : FnP K "_law_many_otherwise" "_law_many_otherwise" s_l_many_otherwise f fd) (c_draw : Fun P w K mg base "_law_draw" 1 ["tray", "many"] spDraw fD fdD) : FnOk P w K mg base CX0 2 f fd ["tray", "things", "more"] (spMany K) := by
  refine F.ok sc_l_many_otherwise (fun vs H Q E h => ?_) (fun cdv A outer s H vs Q E hr h => ?_)
  · obtain ⟨a, g, t, n, ys, more, rfl, _⟩ := h
    rfl
  · obtain ⟨a, g, t, n, ys, more, rfl, hT, hn, ht, hl, k⟩ := h
    have nd := sc_l_many_otherwise.nd
    refine ⟨_, PSs.nox (pss_one (ps_ret (pe_ix ix_list (pe_lst (pa_cons (pe_op op_catA (pv 1) (pe_tup (pa_cons (pv 2) pa_nil))) (pa_cons (pe_slice sl_tupA (pv 1) (po_some pe_int) po_none) (pa_cons (pe_slice sl_tupA (pv 1) po_none (po_some (pe_un un_neg pe_int))) (pa_cons (pe_tup pa_nil) pa_nil))))) (pe_call c_draw.G (hr.mono (by decide)) rfl c_draw.g c_draw.k c_draw.b .nil pass0 (pa_cons (pv 0) (pa_cons pe_int pa_nil))) (fun _ _ => rfl)))), ?_⟩
    refine ⟨_, rfl, _, rfl, by show 1 ≤ sizeLine; decide, fun t1 n1 => ?_⟩
    generalize e1 : upd H t1 _ = H1
    have N1 := newAt hT n1 e1
    have ht1 : SqT K H1 t ys := Same.seqT (N1.c.trans ct_sub) ht
    cases ys with
    | nil =>
      refine ⟨t, t1, _, _, rfl, rfl, ht1, SqT.of N1.f, le_line (by show 0 + 1 ≤ 4000; decide), fun _ => ?_, fun z => absurd rfl z, fun z => absurd rfl z⟩
      refine ⟨_, rfl, _, rfl, t, _, rfl, ht1, fun _ => ?_, fun z => absurd ⟨rfl, rfl⟩ z⟩
      refine ⟨_, rfl, _, rfl, _, rfl, t, _, rfl, ht1, fun _ => ?_, fun z => absurd ⟨rfl, rfl⟩ z⟩
      refine ⟨by show 0 ≤ sizeLine; decide, fun t2 n2 => ?_⟩
      generalize e2 : upd H1 t2 _ = H2
      have N2 := newAt N1.T n2 e2
      refine ⟨by show 4 ≤ sizeLine; decide, fun p np => ?_⟩
      generalize e3 : upd H2 p _ = H3
      have N3 := newAt N2.T np e3
      refine ⟨_, rfl, a, g, n, _, rfl, N3.T, by omega, by decide, by decide, fun r H4 r0 r1 T4 s4 => ?_⟩
      have hp4 := SqL.of (K := K) (ctkeep s4 N3.f N3.na N3.ng)
      have c04 := ((N1.c.trans N2.c).trans N3.c).trans s4
      have hr : r = 0 ∨ r = 1 ∨ r = 2 ∨ r = 3 := by omega
      rcases hr with rfl | rfl | rfl | rfl
      · exact ⟨p, _, _, _, rfl, rfl, hp4, atI_nat (j := 0) rfl, k t1 [more] H4 (SqT.of (((N2.c.trans N3.c).trans s4) _ _ N1.fc)) (by show 1 ≤ 0 + 1; decide) (fun z hz => .inr (List.mem_singleton.mp hz)) T4 c04⟩
      · exact ⟨p, _, _, _, rfl, rfl, hp4, atI_nat (j := 1) rfl, k t [] H4 (Same.seqT c04 ht) (by decide) (fun z hz => (nomatch hz)) T4 c04⟩
      · exact ⟨p, _, _, _, rfl, rfl, hp4, atI_nat (j := 2) rfl, k t [] H4 (Same.seqT c04 ht) (by decide) (fun z hz => (nomatch hz)) T4 c04⟩
      · exact ⟨p, _, _, _, rfl, rfl, hp4, atI_nat (j := 3) rfl, k t2 [] H4 (SqT.of ((N3.c.trans s4) _ _ N2.fc)) (by decide) (fun z hz => (nomatch hz)) T4 c04⟩
    | cons y ys =>
      refine cat_ne ht1 (SqT.of N1.f) (by simp) (by simp) (by show (y :: ys).length + 1 ≤ 4000; omega) fun t2 n2 => ?_
      generalize e2 : upd H1 t2 _ = H2
      have N2 := newAt N1.T n2 e2
      have ht2 := Same.seqT N2.s ht1
      refine ⟨_, rfl, _, rfl, t, _, rfl, ht2, fun z => absurd z (nw_from 1 (by decide) (by rw [List.length_cons]; omega)), fun _ t3 n3 => ?_⟩
      rw [show cutV (y :: ys) (some 1) none = (y :: ys).drop 1 from cutFrom (y :: ys) 1]
      generalize e3 : upd H2 t3 _ = H3
      have N3 := newAt N2.T n3 e3
      have ht3 := Same.seqT N3.s ht2
      refine ⟨_, rfl, _, rfl, _, rfl, t, _, rfl, ht3, fun z => ?_, fun _ t4 n4 => ?_⟩
      · have z2 : ((-1 : Int) + ((y :: ys).length : Int)).toNat = (y :: ys).length := z.2
        rw [List.length_cons] at z2
        omega
      rw [show cutV (y :: ys) none (some (-1)) = (y :: ys).take ((y :: ys).length - 1) from cutLast1 (y :: ys)]
      generalize e4 : upd H3 t4 _ = H4
      have N4 := newAt N3.T n4 e4
      refine ⟨by show 0 ≤ sizeLine; decide, fun t5 n5 => ?_⟩
      generalize e5 : upd H4 t5 _ = H5
      have N5 := newAt N4.T n5 e5
      refine ⟨by show 4 ≤ sizeLine; decide, fun p np => ?_⟩
      generalize e6 : upd H5 p _ = H6
      have N6 := newAt N5.T np e6
      refine ⟨_, rfl, a, g, n, _, rfl, N6.T, by omega, by decide, by decide, fun r H7 r0 r1 T7 s7 => ?_⟩
      have hp7 := SqL.of (K := K) (ctkeep s7 N6.f N6.na N6.ng)
      have c67 := N6.c.trans s7
      have c57 := N5.c.trans c67
      have c47 := N4.c.trans c57
      have c37 := N3.c.trans c47
      have c07 := (N1.c.trans N2.c).trans c37
      have hr : r = 0 ∨ r = 1 ∨ r = 2 ∨ r = 3 := by omega
      rcases hr with rfl | rfl | rfl | rfl
      · refine ⟨p, _, _, _, rfl, rfl, hp7, atI_nat (j := 0) rfl, k t2 _ H7 (SqT.of (c37 _ _ N2.fc)) (by rw [List.length_append]; exact Nat.le_refl _) (fun z hz => ?_) T7 c07⟩
        rcases List.mem_append.mp hz with hz | hz
        · exact .inl hz
        · exact .inr (List.mem_singleton.mp hz)
      · exact ⟨p, _, _, _, rfl, rfl, hp7, atI_nat (j := 1) rfl, k t3 _ H7 (SqT.of (c47 _ _ N3.fc)) (by rw [List.length_drop]; omega) (fun z hz => .inl (List.mem_of_mem_drop hz)) T7 c07⟩
      · exact ⟨p, _, _, _, rfl, rfl, hp7, atI_nat (j := 2) rfl, k t4 _ H7 (SqT.of (c57 _ _ N4.fc)) (by rw [List.length_take]; omega) (fun z hz => .inl (List.mem_of_mem_take hz)) T7 c07⟩
      · exact ⟨p, _, _, _, rfl, rfl, hp7, atI_nat (j := 3) rfl, k t5 [] H7 (SqT.of (c67 _ _ N5.fc)) (Nat.zero_le _) (fun z hz => (nomatch hz)) T7 c07⟩
/-! ### _law_row_spoilt -/
abbrev N_l_row_spoilt : List Str := ["tray", "line", "some", "one"]
theorem sc_l_row_spoilt : FnScope N_l_row_spoilt ["tray", "line", "some"] (defScope s_l_row_spoilt) := ⟨rfl, rfl, rfl, by decide +kernel, rfl, by decide +kernel, by decide +kernel⟩
/-! slots: 0 tray 1 line 2 some 3 one; cells:  -/
def spSpoG (K : PySem.W.Frag) : Sp := fun vs H Q _ => ∃ (a g p l : Addr) (n : Nat) (r : Rw) (ds : List Dm) (ms : List Str), vs = [.ref a, .ref p, .ref l] ∧ Tray H a g n ∧ n ≤ 600000 ∧ DimsAt K (ct a g H) l ds ∧ r.at K (ct a g H) p ∧ r.good ds ms ∧ Good ds ms ∧
  ∀ (p' : Addr) (r' : Rw) (H' : Hp), r'.at K (ct a g H') p' → r'.ok → Tray H' a g (n + 20) → Same (ct a g H) (ct a g H') → Q (.ref p') H'
theorem ok_spoG {fD fN fM : Addr} {fdD fdN fdM : FuncData} (F : FnP K "_law_row_spoilt" "_law_row_spoilt" s_l_row_spoilt f fd) (c_draw : Fun P w K mg base "_law_draw" 1 ["tray", "many"] spDraw fD fdD) (c_name : Fun P w K mg base "_law_name" 2 ["tray", "used"] (spName K) fN fdN) (c_many_otherwise : Fun P w K mg base "_law_many_otherwise" 2 ["tray", "things", "more"] (spMany K) fM fdM) : FnOk P w K mg base CX0 3 f fd ["tray", "line", "some"] (spSpoG K) := by
  refine F.ok sc_l_row_spoilt (fun vs H Q E h => ?_) (fun cdv A outer s H vs Q E hr h => ?_)
  · obtain ⟨a, g, p, l, n, r, ds, ms, rfl, _⟩ := h
    rfl
  · obtain ⟨a, g, p, l, n, r, ds, ms, rfl, hT, hn, ⟨xs, hl, hp⟩, hr', hg, ok, k⟩ := h
    have nd := sc_l_row_spoilt.nd
    have hlen := hp.length
    have d4 := ok.d4
    refine ⟨_, PSs.nox (pss_cons (ps_if (pt_cmpR op_eq (pe_ix ix_tup (pv 1) pe_int (fun _ _ => rfl)) pe_str (nomark _))
        (pss_cons (ps_if (pt_cmpR op_eq (pe_call c_draw.G (hr.mono (by decide)) rfl c_draw.g c_draw.k c_draw.b .nil pass0 (pa_cons (pv 0) (pa_cons pe_int pa_nil))) pe_int (nomark _))
          (pss_one (ps_ret (pe_op op_catA (pe_op op_catA (pe_slice sl_tupA (pv 1) po_none (po_some pe_int)) (pe_tup (pa_cons (pe_call c_name.G (hr.mono (by decide)) rfl c_name.g c_name.k c_name.b .nil pass0 (pa_cons (pv 0) (pa_cons (pe_lc (own := [("one", 3)]) (g := gName 3) (tt := tYes) (te := tOp (rIxT K) (tVar 3) (tC (.int 0))) rfl nd (pi_list (pv 2)) (blkOk_by (own := [("one", 3)]) (N := N_l_row_spoilt) (sc := defScope s_l_row_spoilt) (by decide +kernel))
        (fun _ _ _ _ _ => pg_name (i := 3) nd rfl (Or.inl rfl)) (fun _ _ _ _ _ => pts_nil) (fun _ _ _ _ _ => pe_ix ix_tup (pv 3) pe_int (fun _ _ => rfl))) pa_nil))) pa_nil))) (pe_slice sl_tupA (pv 1) (po_some pe_int) po_none))))
          pss_nil)
        (pss_one (ps_ret (pe_op op_catA (pe_slice sl_tupA (pv 1) po_none (po_some pe_int)) (pe_tup (pa_cons (pe_call c_many_otherwise.G (hr.mono (by decide)) rfl c_many_otherwise.g c_many_otherwise.k c_many_otherwise.b .nil pass0 (pa_cons (pv 0) (pa_cons (pe_ix ix_tup (pv 1) pe_int (fun _ _ => rfl)) (pa_cons pe_int pa_nil)))) pa_nil))))))
        pss_nil)
      (pss_cons (ps_if (pt_cmpR op_eq (pe_ix ix_tup (pv 1) pe_int (fun _ _ => rfl)) pe_str (nomark _))
        (pss_cons (ps_if (pt_cmpR op_eq (pe_call c_draw.G (hr.mono (by decide)) rfl c_draw.g c_draw.k c_draw.b .nil pass0 (pa_cons (pv 0) (pa_cons pe_int pa_nil))) pe_int (nomark _))
          (pss_one (ps_ret (pe_op op_catA (pe_slice sl_tupA (pv 1) po_none (po_some pe_int)) (pe_tup (pa_cons (pe_call c_many_otherwise.G (hr.mono (by decide)) rfl c_many_otherwise.g c_many_otherwise.k c_many_otherwise.b .nil pass0 (pa_cons (pv 0) (pa_cons (pe_ix ix_tup (pv 1) pe_int (fun _ _ => rfl)) (pa_cons pe_str pa_nil)))) (pa_cons (pe_ix ix_tup (pv 1) pe_int (fun _ _ => rfl)) pa_nil))))))
          pss_nil)
        (pss_one (ps_ret (pe_op op_catA (pe_slice sl_tupA (pv 1) po_none (po_some pe_int)) (pe_tup (pa_cons (pe_call c_many_otherwise.G (hr.mono (by decide)) rfl c_many_otherwise.g c_many_otherwise.k c_many_otherwise.b .nil pass0 (pa_cons (pv 0) (pa_cons (pe_ix ix_tup (pv 1) pe_int (fun _ _ => rfl)) (pa_cons pe_int pa_nil)))) pa_nil))))))
        pss_nil)
      (pss_one (ps_ret (pv 1))))), ?_⟩
    have rok := Rw.good.ok ok hg
    cases r with
    | forget name =>
      have h1 : SqT K H p [.str "forget", .str name] := Same.seqT ct_sub hr'
      refine ⟨_, rfl, p, _, _, _, rfl, rfl, h1, atI_nat (j := 0) rfl, rfl, _, rfl, iteF0 (by decide +kernel) ?_⟩
      refine ⟨_, rfl, p, _, _, _, rfl, rfl, h1, atI_nat (j := 0) rfl, rfl, _, rfl, iteF0 (by decide +kernel) ?_⟩
      exact ⟨_, rfl, k p (.forget name) H hr' rok (hT.mono (by omega)) (Same.refl _)⟩
    | kind d key day vals =>
      obtain ⟨q, h1, h2⟩ := hr'
      obtain ⟨⟨e, he, e1, e2⟩, hk, hd, hv⟩ := hg
      obtain ⟨o1, o2, o3, o4, o5⟩ := rok
      have al := ok.al e he
      have h10 := Same.seqT ct_sub h1
      refine ⟨_, rfl, p, _, _, _, rfl, rfl, h10, atI_nat (j := 0) rfl, rfl, _, rfl, iteT0 (decide_eq_true rfl) ?_⟩
      refine ⟨_, rfl, a, g, n, _, rfl, hT, by omega, by decide, by decide, fun b H1 b0 b1 T1 s1 => ⟨rfl, _, rfl, ite2 (fun c => ?_) (fun c => ?_)⟩⟩
      · have p1 := Same.seqT (s1.trans ct_sub) h1
        refine ⟨_, rfl, _, rfl, p, _, rfl, p1, fun z => absurd z (nw_to 1 (by show 1 < 5; decide)), fun _ t1 n1 => ?_⟩
        have ec : cutV _ none (some ((1 : Nat) : Int)) = [.str "kind"] := cutTo [.str "kind", .str d, .str key, .int day, .ref q] 1
        rw [show cutV _ none (some 1) = [.str "kind"] from ec]
        generalize e2' : upd H1 t1 _ = H2
        have N2 := newAt T1 n1 e2'
        have c02 := s1.trans N2.c
        have hl2 : SqL K H2 l xs := Same.seq (c02.trans ct_sub) hl
        have hp2 := PySem.Paired.mono (fun _ _ => DimAt.same (c02.trans ct_sub)) hp
        refine ⟨_, rfl, _, rfl, l, rfl, ⟨_, hl2⟩, fun D hD => lc_build (walk_list (K := K) (a := l) (xs := xs)) hD (fun i ys R => Same H2 R ∧ ys = ((ds.take i).map (·.1)).map V.str) ⟨Same.refl _, rfl⟩ (fun _ _ _ _ p => Same.seq (p.1.trans cd_sub) hl2) ?_ ?_⟩
        · rintro i ys y H3 H3' hi e3 l3 ⟨s3, rfl⟩ ⟨rfl, hy⟩
          obtain ⟨d', hd', p', q', rfl, t1', _⟩ := paired_at hp2 hy
          refine ⟨rfl, yes ?_⟩
          refine ⟨_, rfl, p', _, _, _, rfl, rfl, Same.seqT (s3.trans cd_sub) t1', atI_nat (j := 0) rfl, LcNx.add e3 l3 (by omega) ⟨s3, ?_⟩⟩
          obtain ⟨g1, g2⟩ := List.getElem?_eq_some_iff.mp hd'
          rw [List.take_succ_eq_append_getElem g1, g2, List.map_append, List.map_append]
          rfl
        · rintro ys H3 e3 l3 ⟨s3, rfl⟩
          obtain ⟨nDa, nDg⟩ := N2.T.na hD
          have s23 := s3.trans cd_sub
          have T3 := N2.T.same s23
          rw [hlen, List.take_length] at e3
          refine ⟨a, g, D, n + 1, ds.map (·.1), rfl, T3, by omega, SqL.of (ct_of e3 nDa nDg), by rw [List.length_map]; omega, fun z hz => ?_, fun z H4 hz hz2 T4 s4 => ?_⟩
          · obtain ⟨e, he, rfl⟩ := List.mem_map.mp hz
            exact ok.dn e he
          · refine ⟨by show 1 ≤ sizeLine; decide, fun t5 n5 => ?_⟩
            generalize e5 : upd H4 t5 _ = H5
            have N5 := newAt T4 n5 e5
            have c25 : Same (ct a g H2) (ct a g H5) := ((ct_same s23).trans s4).trans N5.c
            refine cat_ne (SqT.of (ct_sub _ _ (c25 _ _ N2.fc))) (SqT.of N5.f) (by simp) (by simp) (by show 1 + 1 ≤ 4000; decide) fun t6 n6 => ?_
            generalize e6 : upd H5 t6 _ = H6
            have N6 := newAt N5.T n6 e6
            have c06 := (c02.trans c25).trans N6.c
            have p6 := Same.seqT (c06.trans ct_sub) h1
            refine ⟨_, rfl, _, rfl, p, _, rfl, p6, fun z => absurd z (nw_from 2 (by decide) (by show 0 < 5; decide)), fun _ t7 n7 => ?_⟩
            have ec2 : cutV _ (some ((2 : Nat) : Int)) none = [.str key, .int day, .ref q] := cutFrom [.str "kind", .str d, .str key, .int day, .ref q] 2
            rw [show cutV _ (some 2) none = [.str key, .int day, .ref q] from ec2]
            generalize e7 : upd H6 t7 _ = H7
            have N7 := newAt N6.T n7 e7
            refine cat_ne (SqT.of (N7.s _ _ N6.f)) (SqT.of N7.f) (by simp) (by simp) (by show 2 + 3 ≤ 4000; decide) fun t8 n8 => ?_
            generalize e8 : upd H7 t8 _ = H8
            have N8 := newAt N7.T n8 e8
            have c08 := (c06.trans N7.c).trans N8.c
            exact k t8 (.kind z key day vals) H8 ⟨q, SqT.of N8.fc, Same.seqT c08 h2⟩ ⟨hz.tx, o2, o3, o4, o5⟩ (N8.T.mono (by omega)) c08
      · have p1 := Same.seqT (s1.trans ct_sub) h1
        refine ⟨_, rfl, _, rfl, p, _, rfl, p1, fun z => absurd z (nw_to 4 (by show 4 < 5; decide)), fun _ t1 n1 => ?_⟩
        have ec : cutV _ none (some ((4 : Nat) : Int)) = [.str "kind", .str d, .str key, .int day] := cutTo [.str "kind", .str d, .str key, .int day, .ref q] 4
        rw [show cutV _ none (some 4) = [.str "kind", .str d, .str key, .int day] from ec]
        generalize e2' : upd H1 t1 _ = H2
        have N2 := newAt T1 n1 e2'
        have c02 := s1.trans N2.c
        refine ⟨_, rfl, _, rfl, p, _, _, _, rfl, rfl, Same.seqT N2.s p1, atI_nat (j := 4) rfl, a, g, q, n + 1, _, .int 7, rfl, N2.T, by omega, Same.seqT c02 h2, by rw [List.length_map]; omega, fun t' zs H3 hz lz mz T3 s3 => ?_⟩
        obtain ⟨vals', rfl, ov⟩ := pick_fv (xs := zs) fun x hx => by
          rcases mz x hx with hx | rfl
          · obtain ⟨v, hv', rfl⟩ := List.mem_map.mp hx
            exact ⟨v, rfl, o5 v hv'⟩
          · exact ⟨.i 7, rfl, by show (7 : Int).natAbs < 2 ^ 210; decide⟩
        rw [List.length_map, List.length_map] at lz
        refine ⟨by show 1 ≤ sizeLine; decide, fun t5 n5 => ?_⟩
        generalize e5 : upd H3 t5 _ = H5
        have N5 := newAt T3 n5 e5
        refine cat_ne (SqT.of (ct_sub _ _ ((s3.trans N5.c) _ _ N2.fc))) (SqT.of N5.f) (by simp) (by simp) (by show 4 + 1 ≤ 4000; decide) fun t6 n6 => ?_
        generalize e6 : upd H5 t6 _ = H6
        have N6 := newAt N5.T n6 e6
        have c36 := N5.c.trans N6.c
        exact k t6 (.kind d key day vals') H6 ⟨t', SqT.of N6.fc, Same.seqT c36 hz⟩ ⟨o1, o2, o3, by omega, ov⟩ (N6.T.mono (by omega)) ((c02.trans s3).trans c36)
    | fact name day keys nums =>
      obtain ⟨q1, q2, h1, h2, h3⟩ := hr'
      obtain ⟨_, _, ⟨lk, _⟩, lnm, _⟩ := hg
      obtain ⟨o1, o2, ⟨o3, o4⟩, o5, o6⟩ := rok
      have m4 := ok.m4
      have h10 := Same.seqT ct_sub h1
      refine ⟨_, rfl, p, _, _, _, rfl, rfl, h10, atI_nat (j := 0) rfl, rfl, _, rfl, iteF0 (by decide +kernel) ?_⟩
      refine ⟨_, rfl, p, _, _, _, rfl, rfl, h10, atI_nat (j := 0) rfl, rfl, _, rfl, iteT0 (decide_eq_true rfl) ?_⟩
      refine ⟨_, rfl, a, g, n, _, rfl, hT, by omega, by decide, by decide, fun b H1 b0 b1 T1 s1 => ⟨rfl, _, rfl, ite2 (fun c => ?_) (fun c => ?_)⟩⟩
      · have p1 := Same.seqT (s1.trans ct_sub) h1
        refine ⟨_, rfl, _, rfl, p, _, rfl, p1, fun z => absurd z (nw_to 3 (by show 3 < 5; decide)), fun _ t1 n1 => ?_⟩
        have ec : cutV _ none (some ((3 : Nat) : Int)) = [.str "fact", .str name, .int day] := cutTo [.str "fact", .str name, .int day, .ref q1, .ref q2] 3
        rw [show cutV _ none (some 3) = [.str "fact", .str name, .int day] from ec]
        generalize e2' : upd H1 t1 _ = H2
        have N2 := newAt T1 n1 e2'
        have c02 := s1.trans N2.c
        refine ⟨_, rfl, _, rfl, p, _, _, _, rfl, rfl, Same.seqT N2.s p1, atI_nat (j := 3) rfl, a, g, q1, n + 1, _, .str "a", rfl, N2.T, by omega, Same.seqT c02 h2, by rw [List.length_map]; omega, fun t' zs H3 hz lz mz T3 s3 => ?_⟩
        obtain ⟨keys', rfl, ov⟩ := pick_tx (xs := zs) fun x hx => by
          rcases mz x hx with hx | rfl
          · obtain ⟨v, hv', rfl⟩ := List.mem_map.mp hx
            exact ⟨v, rfl, o4 v hv'⟩
          · exact ⟨"a", rfl, by decide +kernel, by decide +kernel⟩
        rw [List.length_map, List.length_map] at lz
        have c03 := c02.trans s3
        have p3 := Same.seqT (c03.trans ct_sub) h1
        refine ⟨_, rfl, p, _, _, _, rfl, rfl, p3, atI_nat (j := 4) rfl, by show 2 ≤ sizeLine; decide, fun t5 n5 => ?_⟩
        generalize e5 : upd H3 t5 _ = H5
        have N5 := newAt T3 n5 e5
        refine cat_ne (SqT.of (ct_sub _ _ ((s3.trans N5.c) _ _ N2.fc))) (SqT.of N5.f) (by simp) (by simp) (by show 3 + 2 ≤ 4000; decide) fun t6 n6 => ?_
        generalize e6 : upd H5 t6 _ = H6
        have N6 := newAt N5.T n6 e6
        have c36 := N5.c.trans N6.c
        have c06 := c03.trans c36
        exact k t6 (.fact name day keys' nums) H6 ⟨t', q2, SqT.of N6.fc, Same.seqT c36 hz, Same.seqT c06 h3⟩ ⟨o1, o2, ⟨by omega, ov⟩, o5, o6⟩ (N6.T.mono (by omega)) c06
      · have p1 := Same.seqT (s1.trans ct_sub) h1
        refine ⟨_, rfl, _, rfl, p, _, rfl, p1, fun z => absurd z (nw_to 4 (by show 4 < 5; decide)), fun _ t1 n1 => ?_⟩
        have ec : cutV _ none (some ((4 : Nat) : Int)) = [.str "fact", .str name, .int day, .ref q1] := cutTo [.str "fact", .str name, .int day, .ref q1, .ref q2] 4
        rw [show cutV _ none (some 4) = [.str "fact", .str name, .int day, .ref q1] from ec]
        generalize e2' : upd H1 t1 _ = H2
        have N2 := newAt T1 n1 e2'
        have c02 := s1.trans N2.c
        refine ⟨_, rfl, _, rfl, p, _, _, _, rfl, rfl, Same.seqT N2.s p1, atI_nat (j := 4) rfl, a, g, q2, n + 1, _, .int 0, rfl, N2.T, by omega, Same.seqT c02 h3, by rw [List.length_map]; omega, fun t' zs H3 hz lz mz T3 s3 => ?_⟩
        obtain ⟨nums', rfl, ov⟩ := pick_nu (xs := zs) fun x hx => by
          rcases mz x hx with hx | rfl
          · obtain ⟨v, hv', rfl⟩ := List.mem_map.mp hx
            exact ⟨v, rfl, o6 v hv'⟩
          · exact ⟨0, rfl, by show (0 : Int).natAbs < 2 ^ 210; decide⟩
        rw [List.length_map, List.length_map] at lz
        refine ⟨by show 1 ≤ sizeLine; decide, fun t5 n5 => ?_⟩
        generalize e5 : upd H3 t5 _ = H5
        have N5 := newAt T3 n5 e5
        refine cat_ne (SqT.of (ct_sub _ _ ((s3.trans N5.c) _ _ N2.fc))) (SqT.of N5.f) (by simp) (by simp) (by show 4 + 1 ≤ 4000; decide) fun t6 n6 => ?_
        generalize e6 : upd H5 t6 _ = H6
        have N6 := newAt N5.T n6 e6
        have c36 := N5.c.trans N6.c
        have c06 := (c02.trans s3).trans c36
        exact k t6 (.fact name day keys nums') H6 ⟨q1, t', SqT.of N6.fc, Same.seqT c06 h2, Same.seqT c36 hz⟩ ⟨o1, o2, ⟨o3, o4⟩, by omega, ov⟩ (N6.T.mono (by omega)) c06
end
end Kd

namespace Kd
open PySem PySem.Spec PyProof.Rows L2 KdXc
section
variable {P : Program} {w : World} {K : PySem.W.Frag} {mg : Str → Option Value} {base : Heap} {f : Addr} {fd : FuncData}
/-! ### _law_good -/
abbrev N_l_good : List Str := ["some", "sums", "line", "name", "rows", "found"]
theorem sc_l_good : FnScope N_l_good ["some", "sums", "line"] (defScope s_l_good) := ⟨rfl, rfl, rfl, by decide +kernel, rfl, by decide +kernel, by decide +kernel⟩
/-! slots: 0 some 1 sums 2 line 3 name 4 rows 5 found; cells: line -/
def spGoodL (K : PySem.W.Frag) : Sp := fun vs H Q _ => ∃ (l m p : Addr) (r : Rw) (ds : List Dm) (ms : List Str), vs = [.ref l, .ref m, .ref p] ∧ DimsAt K H l ds ∧ SqL K H m (ms.map V.str) ∧ r.at K H p ∧ Good ds ms ∧ ∀ H', Same H H' → Q (.bl (r.fits ds ms)) H'
def AtsAt (K : PySem.W.Frag) (H : Hp) (v : V) (e : Dm) : Prop := ∃ q, v = .ref q ∧ AttsAt K H q e.2
theorem ats_dp {H : Hp} : ∀ {ys : List V} {es : List Dm}, Paired (AtsAt K H) ys es → DpAll K H ys (es.map fun e => .tuple (e.2.map attD))
  | _, _, .nil => .nil
  | _, _, .cons ⟨q, e1, zs, h1, h2⟩ t => by
    subst e1
    exact .cons (.tup h1 (atts_dp h2)) (ats_dp t)
theorem lay_ats : ∀ es : List Dm, (∀ e ∈ es, ∀ a ∈ e.2, Low a.1 ∧ Low a.2) → PyData.canLayAll0 (es.map fun e => .tuple (e.2.map attD)) = true ∧ PyData.depthAll (es.map fun e => PyData.tuple (e.2.map attD)) ≤ 2
  | [], _ => ⟨rfl, by decide⟩
  | d :: ds, h => by
    obtain ⟨h1, h2⟩ := lay_ats ds fun z hz => h z (List.mem_cons_of_mem _ hz)
    obtain ⟨h5, h6⟩ := lay_atts d.2 (h d (List.mem_cons_self ..))
    constructor
    · simp only [List.map_cons, PyData.canLayAll0, PyData.canLay0, h1, h5, Bool.and_self]
    · simp only [List.map_cons, PyData.depthAll, PyData.depth]
      omega
theorem shaped_nil5 : SeqAt.shaped (.list []) = true := by decide +kernel
theorem filt_dm {p : Dm → Bool} {xs : List Dm} {i : Nat} {z : Dm} (h : xs[i]? = some z) : (xs.take (i + 1)).filter p = (xs.take i).filter p ++ if p z = true then [z] else [] := by
  obtain ⟨h1, h2⟩ := List.getElem?_eq_some_iff.mp h
  rw [List.take_succ_eq_append_getElem h1, List.filter_append, h2]
  congr 1
  by_cases q : p z = true
  · rw [if_pos q, List.filter_cons_of_pos q]
    rfl
  · rw [if_neg q, List.filter_cons_of_neg q]
    rfl
theorem ok_goodL (F : FnP K "_law_good" "_law_good" s_l_good f fd) (z_len : mg "len" = none) : FnOk P w K mg base CX0 1 f fd ["some", "sums", "line"] (spGoodL K) := by
  refine F.ok sc_l_good (fun vs H Q E h => ?_) (fun cdv A outer s H vs Q E hr h => ?_)
  · obtain ⟨l, m, p, r, ds, ms, rfl, _⟩ := h
    rfl
  · obtain ⟨l, m, p, r, ds, ms, rfl, ⟨xs, hl, hp⟩, hm, hr', ok, k⟩ := h
    have nd := sc_l_good.nd
    have hlen := hp.length
    have d4 := ok.d4
    refine ⟨_, PSs.nox (pss_cons (ps_if (pt_cmpR op_eq (pe_ix ix_tup (pv 2) pe_int (fun _ _ => rfl)) pe_str (nomark _))
        (pss_cons (ps_setLc (i := 5) (own := [("name", 3), ("rows", 4)]) (g := gTup K 2 (gCons (gName 3) (gCons (gName 4) gNil))) (tt := tTest (tOp rEq (tVar 3) (tOp (rIxT K) (tVar 2) (tC (.int 1))))) (te := tVar 4) rfl nd rfl rfl (sw_true rfl rfl rfl (by decide +kernel)) (pi_list (pv 0)) (blkOk_by (own := [("name", 3), ("rows", 4)]) (N := N_l_good) (sc := defScope s_l_good) (by decide +kernel))
        (fun _ _ _ _ _ => pg_tup rfl (pgs_cons (pg_name (i := 3) nd rfl (Or.inl rfl)) (pgs_cons (pg_name (i := 4) nd rfl (Or.inl rfl)) pgs_nil))) (fun _ _ _ _ _ => pts_one (pt_cmpR op_eq (pv 3) (pe_ix ix_tup (pv 2) pe_int (fun _ _ => rfl)) (nomark _))) (fun _ _ _ _ _ => pv 4))
        (pss_one (ps_ret (pe_and (pe_cmpR (op_neD hr.units) (pv 5) (pe_lst pa_nil) (nomark _)) (pe_one (pe_cmpR op_eq (pe_callB call_len_seq (by rfl) z_len boot_len (pa_cons (pe_ix ix_list (pv 5) pe_int (fun _ _ => rfl)) pa_nil)) (pe_callB call_len_seq (by rfl) z_len boot_len (pa_cons (pe_ix ix_tup (pv 2) pe_int (fun _ _ => rfl)) pa_nil)) (nomark _)))))))
        pss_nil)
      (pss_one (ps_ret (pe_or (pe_cmpR op_eq (pe_ix ix_tup (pv 2) pe_int (fun _ _ => rfl)) pe_str (nomark _)) (pe_one (pe_and (pe_cmpR op_eq (pe_callB call_len_seq (by rfl) z_len boot_len (pa_cons (pe_ix ix_tup (pv 2) pe_int (fun _ _ => rfl)) pa_nil)) (pe_callB call_len_seq (by rfl) z_len boot_len (pa_cons (pv 0) pa_nil)) (nomark _)) (pe_one (pe_cmpR op_eq (pe_callB call_len_seq (by rfl) z_len boot_len (pa_cons (pe_ix ix_tup (pv 2) pe_int (fun _ _ => rfl)) pa_nil)) (pe_callB call_len_seq (by rfl) z_len boot_len (pa_cons (pv 1) pa_nil)) (nomark _))))))))), ?_⟩
    cases r with
    | kind d key day vals =>
      obtain ⟨q, h1, h2⟩ := hr'
      refine ⟨_, rfl, p, _, _, _, rfl, rfl, h1, atI_nat (j := 0) rfl, rfl, _, rfl, iteT0 (decide_eq_true rfl) ?_⟩
      refine ⟨_, rfl, l, rfl, ⟨_, hl⟩, fun D hD => lc_build (walk_list (K := K) (a := l) (xs := xs)) hD (fun i ys R => Same H R ∧ Paired (AtsAt K H) ys ((ds.take i).filter fun e => decide (e.1 = d))) ⟨Same.refl H, .nil⟩ (fun _ _ _ _ p => Same.seq (p.1.trans cd_sub) hl) ?_ ?_⟩
      · rintro i ys y H2 H2' hi e2 l2 ⟨s2, py⟩ ⟨rfl, hy⟩
        obtain ⟨d', hd', p', q', rfl, t1', t2'⟩ := paired_at hp hy
        have st := filt_dm (p := fun e => decide (e.1 = d)) hd'
        have s02 := s2.trans cd_sub
        refine ⟨p', _, rfl, Same.seqT s02 t1', rfl, _, _, rfl, _, _, rfl, rfl, rfl, ?_⟩
        refine ⟨_, rfl, _, rfl, p, _, _, _, rfl, rfl, Same.seqT s02 h1, atI_nat (j := 1) rfl, rfl, _, rfl, ite2 (fun c => ?_) (fun c => ?_)⟩
        · have c' : decide (d'.1 = d) = true := decide_eq_true (V.str.inj (of_decide_eq_true c))
          rw [if_pos c'] at st
          refine ⟨_, rfl, LcNx.add e2 l2 (by omega) ⟨s2, ?_⟩⟩
          rw [st]
          exact PySem.Paired.snoc py ⟨q', rfl, t2'⟩
        · have c' : ¬ decide (d'.1 = d) = true := fun z => c (decide_eq_true (by rw [of_decide_eq_true z]))
          rw [if_neg c', List.append_nil] at st
          exact LcNx.skip e2 l2 ⟨s2, by rw [st]; exact py⟩
      · rintro ys H2 e2 l2 ⟨s2, py⟩
        rw [hlen, List.take_length] at py
        have s02 := s2.trans cd_sub
        refine set_st (σ' := [some (.ref l), some (.ref m), some (.ref p), none, none, some (.ref D)]) rfl ?_
        refine ⟨_, rfl, by show 0 ≤ sizeLine; decide, fun p3 n3 => ?_⟩
        generalize e3 : upd H2 p3 _ = H3
        have N3 := newO n3 e3
        have s03 := s02.trans N3.s
        have lay := lay_ats (ds.filter fun e => decide (e.1 = d)) fun e he a ha => ⟨(ok.an e (List.mem_filter.mp he).1 a ha).1.low, (ok.an e (List.mem_filter.mp he).1 a ha).2.nm.1⟩
        have sh : SeqAt.shaped (.list ((ds.filter fun e => decide (e.1 = d)).map fun e => .tuple (e.2.map attD))) = true := by
          unfold SeqAt.shaped
          rw [Bool.and_eq_true]
          refine ⟨by rw [PyData.canLay0]; exact lay.1, decide_eq_true ?_⟩
          rw [PyData.depth]
          have := lay.2
          omega
        have py3 : Paired (AtsAt K H3) ys (ds.filter fun e => decide (e.1 = d)) := PySem.Paired.mono (fun _ _ ⟨q, e1, h⟩ => ⟨q, e1, h.same s03⟩) py
        have D3 : SqL K H3 D ys := SqL.of (N3.s _ _ e2)
        refine ⟨_, _, .lst D3 (ats_dp py3), .lst (SqL.of N3.f) .nil, sh, shaped_nil5, _, rfl, ?_⟩
        have hf : (ds.filter fun e => decide (e.1 = d)).head? = ds.find? (fun e => decide (e.1 = d)) := List.head?_filter ..
        have ek : (Rw.kind d key day vals).fits ds ms = kfits ds d vals.length := rfl
        rw [ek] at k
        unfold kfits at k
        rw [← hf] at k
        cases hx : ds.filter (fun e => decide (e.1 = d)) with
        | nil =>
          rw [hx] at k
          exact iteF0 (by intro c; cases c) (k H3 s03)
        | cons e es =>
          rw [hx] at k py3
          cases py3 with
          | @cons v0 _ vs _ h0 ht =>
            obtain ⟨q0, ev, zs, z1, z2⟩ := h0
            subst ev
            refine iteT0 rfl ⟨_, rfl, D, _, _, _, rfl, rfl, D3, atI_nat (j := 0) rfl, q0, _, rfl, .inr z1, _, rfl, p, _, _, _, rfl, rfl, Same.seqT s03 h1, atI_nat (j := 4) rfl, q, _, rfl, .inr (Same.seqT s03 h2), rfl, ?_⟩
            rw [natEq, z2.length, List.length_map]
            have ec : decide (e.2.length = vals.length) = decide (vals.length = e.2.length) := by
              by_cases h : e.2.length = vals.length
              · rw [decide_eq_true h, decide_eq_true h.symm]
              · rw [decide_eq_false h, decide_eq_false (fun z => h z.symm)]
            rw [ec]
            exact k H3 s03
    | fact name day keys nums =>
      obtain ⟨q1, q2, h1, h2, h3⟩ := hr'
      refine ⟨_, rfl, p, _, _, _, rfl, rfl, h1, atI_nat (j := 0) rfl, rfl, _, rfl, iteF0 (by decide +kernel) ?_⟩
      refine ⟨_, rfl, p, _, _, _, rfl, rfl, h1, atI_nat (j := 0) rfl, rfl, _, rfl, iteF0 (by decide +kernel) ?_⟩
      refine ⟨_, rfl, p, _, _, _, rfl, rfl, h1, atI_nat (j := 3) rfl, q1, _, rfl, .inr h2, _, rfl, l, _, rfl, .inl hl, rfl, _, rfl, ?_⟩
      rw [natEq, List.length_map, hlen]
      have ek : (Rw.fact name day keys nums).fits ds ms = ffits ds ms keys.length nums.length := rfl
      rw [ek] at k
      unfold ffits at k
      by_cases c : keys.length = ds.length
      · rw [decide_eq_true c]
        rw [decide_eq_true c, Bool.true_and] at k
        refine iteT ⟨_, rfl, p, _, _, _, rfl, rfl, h1, atI_nat (j := 4) rfl, q2, _, rfl, .inr h3, _, rfl, m, _, rfl, .inl hm, rfl, ?_⟩
        rw [natEq, List.length_map, List.length_map]
        exact k H (Same.refl H)
      · rw [decide_eq_false c]
        rw [decide_eq_false c, Bool.false_and] at k
        exact iteF (k H (Same.refl H))
    | forget name =>
      refine ⟨_, rfl, p, _, _, _, rfl, rfl, hr', atI_nat (j := 0) rfl, rfl, _, rfl, iteF0 (by decide +kernel) ?_⟩
      refine ⟨_, rfl, p, _, _, _, rfl, rfl, hr', atI_nat (j := 0) rfl, rfl, _, rfl, iteT0 (decide_eq_true rfl) ?_⟩
      exact k H (Same.refl H)
end
end Kd

namespace Kd
open PySem PySem.Spec PyProof.Rows L2 KdXc
theorem neSelf {x : V} {q : Decidable (x = x)} : ¬ (!(@decide (x = x) q)) = true := by
  have e : @decide (x = x) q = true := decide_eq_true rfl
  rw [e]
  decide
theorem what_ofD (v : V) : (dayF v).lookup ("what" : Str) = some v := by
  unfold dayF
  rw [List.lookup_cons, show (("what" : Str) == "name") = false by decide +kernel, List.lookup_cons, show (("what" : Str) == "what") = true by decide +kernel]
theorem errNone {H : Hp} {a d : Addr} {o : HO} (hd : upd H a o d = none) (nd : d ≠ a) : H d = none := by
  rw [upd_ne nd] at hd
  exact hd
theorem newE {H J H3 : Hp} {a d : Addr} {o x : HO} (ha : H a = none) (hd : upd H a o d = none) (nd : d ≠ a) (rest : ∀ b, b ≠ a → b ≠ d → J b = upd H a o b) (e : upd (del J a) d x = H3) : NewO H H3 d x := by
  subst e
  refine ⟨upd_same, fun b o' hb => ?_⟩
  have bd : b ≠ d := fun z => by rw [z, errNone hd nd] at hb; cases hb
  have ba : b ≠ a := fun z => by rw [z, ha] at hb; cases hb
  rw [upd_ne bd, del_ne ba, rest b ba bd, upd_ne ba]
  exact hb
theorem tx_a : Tx ("a" : Str) := ⟨by decide +kernel, by decide +kernel⟩
theorem tx_b : Tx ("b" : Str) := ⟨by decide +kernel, by decide +kernel⟩
theorem flat2B {K : PySem.W.Frag} {H : Hp} : ∀ y ∈ ([V.str "a", V.str "b"] : List V), KdRp.FlatS y ∨ KdRp.Tup1 K H y := fun y hy => by
  simp only [List.mem_cons, List.not_mem_nil, or_false] at hy
  rcases hy with rfl | rfl
  · exact .inl tx_a.flat
  · exact .inl tx_b.flat
theorem flat2N {K : PySem.W.Frag} {H : Hp} : ∀ y ∈ ([V.str "a", V.non] : List V), KdRp.FlatS y ∨ KdRp.Tup1 K H y := fun y hy => by
  simp only [List.mem_cons, List.not_mem_nil, or_false] at hy
  rcases hy with rfl | rfl
  · exact .inl tx_a.flat
  · exact .inl trivial
section
variable {P : Program} {w : World} {K : PySem.W.Frag} {mg : Str → Option Value} {base : Heap} {f : Addr} {fd : FuncData}
/-- DayError itself -/
structure ErrD (P : Program) (w : World) (K : PySem.W.Frag) (mg : Str → Option Value) (base : Heap) (C fI : Addr) (fdI : FuncData) : Prop where
  T : ErrC K C fI
  G : FnOk P w K mg base CX0 1 fI fdI ["self", "what"] (spErr K C dayF (RepOk K))
  b : Binds K fdI ["self", "what"] []
  g : mg "DayError" = some (.ref C)
theorem sc_l_errors_right : FnScope ["many"] ["many"] (defScope s_l_errors_right) := ⟨rfl, rfl, rfl, by decide +kernel, rfl, by decide +kernel, by decide +kernel⟩
def spErrs : Sp := fun vs H Q _ => ∃ n : Int, vs = [.int n] ∧ n.natAbs < 1000 ∧ ∀ H', Same H H' → Q (.bl true) H'
theorem ok_errs {C0 f0 C1 f1 C2 f2 C3 f3 C4 f4 C5 f5 C6 f6 C7 f7 C8 f8 C9 f9 C10 f10 C11 f11 : Addr} {fd0 fd1 fd2 fd3 fd4 fd5 fd6 fd7 fd8 fd9 fd10 fd11 : FuncData} (F : FnP K "_law_errors_right" "_law_errors_right" s_l_errors_right f fd) (e_DayError : ErrD P w K mg base C0 f0 fd0) (e_NoPlan : ErrM P w K mg base "NoPlan" C1 f1 fd1) (e_NoFact : ErrM P w K mg base "NoFact" C2 f2 fd2) (e_NoTime : ErrM P w K mg base "NoTime" C3 f3 fd3) (e_NoThing : ErrM P w K mg base "NoThing" C4 f4 fd4) (e_Twice : ErrM P w K mg base "Twice" C5 f5 fd5) (e_NoGroup : ErrM P w K mg base "NoGroup" C6 f6 fd6) (e_NoMeasure : ErrM P w K mg base "NoMeasure" C7 f7 fd7) (e_NoWatch : ErrM P w K mg base "NoWatch" C8 f8 fd8) (e_NoText : ErrM P w K mg base "NoText" C9 f9 fd9) (e_NoDeskRow : ErrM P w K mg base "NoDeskRow" C10 f10 fd10) (e_NoRow : ErrM P w K mg base "NoRow" C11 f11 fd11)
    (k_NoTime : ∀ (s : Shared) (a v : Value), K.In s.heap → BindsTo s fd3 ⟨[a], [("what", v)]⟩ ((["self", "what"] : List Str).zip [a, v])) (k_DayError : ∀ (s : Shared) (a v : Value), K.In s.heap → BindsTo s fd0 ⟨[a], [("what", v)]⟩ ((["self", "what"] : List Str).zip [a, v])) (k_NoThing : ∀ (s : Shared) (a v : Value), K.In s.heap → BindsTo s fd4 ⟨[a], [("what", v)]⟩ ((["self", "what"] : List Str).zip [a, v])) : FnOk P w K mg base CX0 4 f fd ["many"] spErrs := by
  refine F.ok sc_l_errors_right (fun vs H Q E h => ?_) (fun cdv A outer s H vs Q E hr h => ?_)
  · obtain ⟨n, rfl, _⟩ := h
    rfl
  · obtain ⟨n, rfl, hn, k⟩ := h
    have nd := sc_l_errors_right.nd
    have hlog : n.natAbs.log2 < 1920 := by
      by_cases z : n.natAbs = 0
      · rw [z]
        decide
      · exact Nat.lt_trans ((Nat.log2_lt z).mpr (show n.natAbs < 2 ^ 10 by omega)) (by decide)
    refine ⟨_, PSs.nox (pss_cons (ps_if (PW.pt (pw_or (pt_cmpR op_ne (KdXv.pe_mkf (pmk_err e_DayError.T e_DayError.G (hr.mono (by decide)) e_DayError.b rfl e_DayError.g (pv 0)) e_DayError.T.x e_DayError.T.nW) (pv 0) (nomark _)) (pw_or (pt_cmpR op_ne (KdXv.pe_mkf (pmk_err e_NoPlan.T e_NoPlan.G (hr.mono (by decide)) e_NoPlan.b rfl e_NoPlan.g (pe_str)) e_NoPlan.T.x e_NoPlan.T.nW) (pe_str) (nomark _)) (pw_or1 (pt_cmpR op_ne (KdXv.pe_mkf (pmk_err e_NoFact.T e_NoFact.G (hr.mono (by decide)) e_NoFact.b rfl e_NoFact.g (pe_str)) e_NoFact.T.x e_NoFact.T.nW) (pe_str) (nomark _)))))) (pss_one (ps_ret pe_bl)) pss_nil)
      (pss_cons (ps_if (PW.pt (pw_or (pt_cmpR op_ne (KdXv.pe_mkf (KdXv.pmk_kw e_NoTime.T e_NoTime.G (hr.mono (by decide)) k_NoTime rfl e_NoTime.g (pv 0)) e_NoTime.T.x e_NoTime.T.nW) (pv 0) (nomark _)) (pw_or (pt_cmpR op_ne (KdXv.pe_mkf (KdXv.pmk_kw e_DayError.T e_DayError.G (hr.mono (by decide)) k_DayError rfl e_DayError.g (pe_str)) e_DayError.T.x e_DayError.T.nW) (pe_str) (nomark _)) (pw_or1 (pt_cmpR (op_neD hr.units) (KdXv.pe_mkf (KdXv.pmk_kw e_NoThing.T e_NoThing.G (hr.mono (by decide)) k_NoThing rfl e_NoThing.g (pe_tup (pa_cons pe_str (pa_cons pe_str pa_nil)))) e_NoThing.T.x e_NoThing.T.nW) (pe_tup (pa_cons pe_str (pa_cons pe_str pa_nil))) (nomark _)))))) (pss_one (ps_ret pe_bl)) pss_nil)
      (pss_cons (ps_if (PW.pt (pw_or (pt_cmpR (op_neD hr.units) (KdXv.pe_mkf (pmk_err e_NoThing.T e_NoThing.G (hr.mono (by decide)) e_NoThing.b rfl e_NoThing.g (pe_tup (pa_cons pe_str (pa_cons pe_non pa_nil)))) e_NoThing.T.x e_NoThing.T.nW) (pe_tup (pa_cons pe_str (pa_cons pe_non pa_nil))) (nomark _)) (pw_or (pt_cmpR op_ne (KdXv.pe_mkf (pmk_err e_Twice.T e_Twice.G (hr.mono (by decide)) e_Twice.b rfl e_Twice.g (pe_str)) e_Twice.T.x e_Twice.T.nW) (pe_str) (nomark _)) (pw_or1 (pt_cmpR (op_neD hr.units) (KdXv.pe_mkf (pmk_err e_NoGroup.T e_NoGroup.G (hr.mono (by decide)) e_NoGroup.b rfl e_NoGroup.g (pe_tup (pa_cons pe_str (pa_cons pe_str pa_nil)))) e_NoGroup.T.x e_NoGroup.T.nW) (pe_tup (pa_cons pe_str (pa_cons pe_str pa_nil))) (nomark _)))))) (pss_one (ps_ret pe_bl)) pss_nil)
      (pss_cons (ps_if (PW.pt (pw_or (pt_cmpR op_ne (KdXv.pe_mkf (pmk_err e_NoMeasure.T e_NoMeasure.G (hr.mono (by decide)) e_NoMeasure.b rfl e_NoMeasure.g (pe_str)) e_NoMeasure.T.x e_NoMeasure.T.nW) (pe_str) (nomark _)) (pw_or (pt_cmpR op_ne (KdXv.pe_mkf (pmk_err e_NoWatch.T e_NoWatch.G (hr.mono (by decide)) e_NoWatch.b rfl e_NoWatch.g (pe_str)) e_NoWatch.T.x e_NoWatch.T.nW) (pe_str) (nomark _)) (pw_or1 (pt_cmpR op_ne (KdXv.pe_mkf (pmk_err e_NoTime.T e_NoTime.G (hr.mono (by decide)) e_NoTime.b rfl e_NoTime.g (pv 0)) e_NoTime.T.x e_NoTime.T.nW) (pv 0) (nomark _)))))) (pss_one (ps_ret pe_bl)) pss_nil)
      (pss_one (ps_ret (pe_and (pe_cmpR op_eq (KdXv.pe_mkf (pmk_err e_NoText.T e_NoText.G (hr.mono (by decide)) e_NoText.b rfl e_NoText.g (pe_str)) e_NoText.T.x e_NoText.T.nW) (pe_str) (nomark _)) (pe_and (pe_cmpR op_eq (KdXv.pe_mkf (pmk_err e_NoDeskRow.T e_NoDeskRow.G (hr.mono (by decide)) e_NoDeskRow.b rfl e_NoDeskRow.g (pe_str)) e_NoDeskRow.T.x e_NoDeskRow.T.nW) (pe_str) (nomark _)) (pe_one (pe_cmp (pc_isN (KdXv.pe_mkf (pmk_err e_NoRow.T e_NoRow.G (hr.mono (by decide)) e_NoRow.b rfl e_NoRow.g (pe_non)) e_NoRow.T.x e_NoRow.T.nW)) rfl)))))))))), ?_⟩
    refine ⟨_, rfl, ⟨by show 1 ≤ 1000; decide, fun a1 ha1 => ⟨a1, _, rfl, upd_same, (.inr (.inl ⟨n, rfl, hlog⟩) : RepOk K (.int n) _), fun d1 J1 hd1 nd1 x1 y1 rest1 => ⟨rfl, d1, _, x1, y1, errNone hd1 nd1, ?_⟩⟩⟩⟩
    generalize eh1 : upd (del J1 a1) d1 _ = H1
    have N1 := newE ha1 hd1 nd1 rest1 eh1
    refine ⟨rfl, d1, _, _, rfl, N1.f, what_ofD _, ?_⟩
    refine ⟨_, rfl, rfl, _, rfl, iteF0 neSelf ?_⟩
    refine ⟨by show 1 ≤ 1000; decide, fun a2 ha2 => ⟨a2, _, rfl, upd_same, (.inl ⟨_, rfl, by decide +kernel, by decide +kernel⟩ : RepOk K (.str "measures") _), fun d2 J2 hd2 nd2 x2 y2 rest2 => ⟨rfl, d2, _, x2, y2, errNone hd2 nd2, ?_⟩⟩⟩
    generalize eh2 : upd (del J2 a2) d2 _ = H2
    have N2 := newE ha2 hd2 nd2 rest2 eh2
    refine ⟨rfl, d2, _, _, rfl, N2.f, what_of "NoPlan" _, ?_⟩
    refine ⟨rfl, _, rfl, iteF0 neSelf ?_⟩
    refine ⟨by show 1 ≤ 1000; decide, fun a3 ha3 => ⟨a3, _, rfl, upd_same, (.inl ⟨_, rfl, by decide +kernel, by decide +kernel⟩ : RepOk K (.str "a") _), fun d3 J3 hd3 nd3 x3 y3 rest3 => ⟨rfl, d3, _, x3, y3, errNone hd3 nd3, ?_⟩⟩⟩
    generalize eh3 : upd (del J3 a3) d3 _ = H3
    have N3 := newE ha3 hd3 nd3 rest3 eh3
    refine ⟨rfl, d3, _, _, rfl, N3.f, what_of "NoFact" _, ?_⟩
    refine ⟨rfl, _, rfl, iteF0 neSelf ?_⟩
    refine ⟨_, rfl, ⟨_, rfl, fun a4 ha4 => ⟨a4, _, rfl, upd_same, (.inr (.inl ⟨n, rfl, hlog⟩) : RepOk K (.int n) _), fun d4 J4 hd4 nd4 x4 y4 rest4 => ⟨rfl, d4, _, x4, y4, errNone hd4 nd4, ?_⟩⟩⟩⟩
    generalize eh4 : upd (del J4 a4) d4 _ = H4
    have N4 := newE ha4 hd4 nd4 rest4 eh4
    refine ⟨rfl, d4, _, _, rfl, N4.f, what_of "NoTime" _, ?_⟩
    refine ⟨_, rfl, rfl, _, rfl, iteF0 neSelf ?_⟩
    refine ⟨_, rfl, fun a5 ha5 => ⟨a5, _, rfl, upd_same, (.inl ⟨_, rfl, by decide +kernel, by decide +kernel⟩ : RepOk K (.str "a") _), fun d5 J5 hd5 nd5 x5 y5 rest5 => ⟨rfl, d5, _, x5, y5, errNone hd5 nd5, ?_⟩⟩⟩
    generalize eh5 : upd (del J5 a5) d5 _ = H5
    have N5 := newE ha5 hd5 nd5 rest5 eh5
    refine ⟨rfl, d5, _, _, rfl, N5.f, what_ofD _, ?_⟩
    refine ⟨rfl, _, rfl, iteF0 neSelf ?_⟩
    refine ⟨by show 2 ≤ sizeLine; decide, fun t6 nt6 => ?_⟩
    generalize et6 : upd H5 t6 _ = G6
    have M6 := newO nt6 et6
    refine ⟨_, rfl, fun a6 ha6 => ⟨a6, _, rfl, upd_same, (.inr (.inr (.inr ⟨t6, _, rfl, SqT.of (same_new ha6 _ _ M6.f), by show 2 ≤ 40; decide, flat2B⟩)) : RepOk K (.ref t6) _), fun d6 J6 hd6 nd6 x6 y6 rest6 => ⟨rfl, d6, _, x6, y6, errNone hd6 nd6, ?_⟩⟩⟩
    generalize eh6 : upd (del J6 a6) d6 _ = H6
    have N6 := newE ha6 hd6 nd6 rest6 eh6
    refine ⟨rfl, d6, _, _, rfl, N6.f, what_of "NoThing" _, ?_⟩
    refine ⟨by show 2 ≤ sizeLine; decide, fun u6 nu6 => ?_⟩
    generalize eu6 : upd H6 u6 _ = U6
    have L6 := newO nu6 eu6
    refine ⟨.tuple [.str "a", .str "b"], .tuple [.str "a", .str "b"], .tup (SqT.of (L6.s _ _ (N6.s _ _ M6.f))) (.cons (.str _) (.cons (.str _) .nil)), .tup (SqT.of L6.f) (.cons (.str _) (.cons (.str _) .nil)), by decide +kernel, by decide +kernel, _, rfl, iteF0 (by decide +kernel) ?_⟩
    refine ⟨by show 2 ≤ sizeLine; decide, fun t7 nt7 => ?_⟩
    generalize et7 : upd U6 t7 _ = G7
    have M7 := newO nt7 et7
    refine ⟨by show 1 ≤ 1000; decide, fun a7 ha7 => ⟨a7, _, rfl, upd_same, (.inr (.inr (.inr ⟨t7, _, rfl, SqT.of (same_new ha7 _ _ M7.f), by show 2 ≤ 40; decide, flat2N⟩)) : RepOk K (.ref t7) _), fun d7 J7 hd7 nd7 x7 y7 rest7 => ⟨rfl, d7, _, x7, y7, errNone hd7 nd7, ?_⟩⟩⟩
    generalize eh7 : upd (del J7 a7) d7 _ = H7
    have N7 := newE ha7 hd7 nd7 rest7 eh7
    refine ⟨rfl, d7, _, _, rfl, N7.f, what_of "NoThing" _, ?_⟩
    refine ⟨by show 2 ≤ sizeLine; decide, fun u7 nu7 => ?_⟩
    generalize eu7 : upd H7 u7 _ = U7
    have L7 := newO nu7 eu7
    refine ⟨.tuple [.str "a", .none], .tuple [.str "a", .none], .tup (SqT.of (L7.s _ _ (N7.s _ _ M7.f))) (.cons (.str _) (.cons (.non) .nil)), .tup (SqT.of L7.f) (.cons (.str _) (.cons (.non) .nil)), by decide +kernel, by decide +kernel, _, rfl, iteF0 (by decide +kernel) ?_⟩
    refine ⟨by show 1 ≤ 1000; decide, fun a8 ha8 => ⟨a8, _, rfl, upd_same, (.inl ⟨_, rfl, by decide +kernel, by decide +kernel⟩ : RepOk K (.str "a") _), fun d8 J8 hd8 nd8 x8 y8 rest8 => ⟨rfl, d8, _, x8, y8, errNone hd8 nd8, ?_⟩⟩⟩
    generalize eh8 : upd (del J8 a8) d8 _ = H8
    have N8 := newE ha8 hd8 nd8 rest8 eh8
    refine ⟨rfl, d8, _, _, rfl, N8.f, what_of "Twice" _, ?_⟩
    refine ⟨rfl, _, rfl, iteF0 neSelf ?_⟩
    refine ⟨by show 2 ≤ sizeLine; decide, fun t9 nt9 => ?_⟩
    generalize et9 : upd H8 t9 _ = G9
    have M9 := newO nt9 et9
    refine ⟨by show 1 ≤ 1000; decide, fun a9 ha9 => ⟨a9, _, rfl, upd_same, (.inr (.inr (.inr ⟨t9, _, rfl, SqT.of (same_new ha9 _ _ M9.f), by show 2 ≤ 40; decide, flat2B⟩)) : RepOk K (.ref t9) _), fun d9 J9 hd9 nd9 x9 y9 rest9 => ⟨rfl, d9, _, x9, y9, errNone hd9 nd9, ?_⟩⟩⟩
    generalize eh9 : upd (del J9 a9) d9 _ = H9
    have N9 := newE ha9 hd9 nd9 rest9 eh9
    refine ⟨rfl, d9, _, _, rfl, N9.f, what_of "NoGroup" _, ?_⟩
    refine ⟨by show 2 ≤ sizeLine; decide, fun u9 nu9 => ?_⟩
    generalize eu9 : upd H9 u9 _ = U9
    have L9 := newO nu9 eu9
    refine ⟨.tuple [.str "a", .str "b"], .tuple [.str "a", .str "b"], .tup (SqT.of (L9.s _ _ (N9.s _ _ M9.f))) (.cons (.str _) (.cons (.str _) .nil)), .tup (SqT.of L9.f) (.cons (.str _) (.cons (.str _) .nil)), by decide +kernel, by decide +kernel, _, rfl, iteF0 (by decide +kernel) ?_⟩
    refine ⟨by show 1 ≤ 1000; decide, fun a10 ha10 => ⟨a10, _, rfl, upd_same, (.inl ⟨_, rfl, by decide +kernel, by decide +kernel⟩ : RepOk K (.str "b") _), fun d10 J10 hd10 nd10 x10 y10 rest10 => ⟨rfl, d10, _, x10, y10, errNone hd10 nd10, ?_⟩⟩⟩
    generalize eh10 : upd (del J10 a10) d10 _ = H10
    have N10 := newE ha10 hd10 nd10 rest10 eh10
    refine ⟨rfl, d10, _, _, rfl, N10.f, what_of "NoMeasure" _, ?_⟩
    refine ⟨rfl, _, rfl, iteF0 neSelf ?_⟩
    refine ⟨by show 1 ≤ 1000; decide, fun a11 ha11 => ⟨a11, _, rfl, upd_same, (.inl ⟨_, rfl, by decide +kernel, by decide +kernel⟩ : RepOk K (.str "c") _), fun d11 J11 hd11 nd11 x11 y11 rest11 => ⟨rfl, d11, _, x11, y11, errNone hd11 nd11, ?_⟩⟩⟩
    generalize eh11 : upd (del J11 a11) d11 _ = H11
    have N11 := newE ha11 hd11 nd11 rest11 eh11
    refine ⟨rfl, d11, _, _, rfl, N11.f, what_of "NoWatch" _, ?_⟩
    refine ⟨rfl, _, rfl, iteF0 neSelf ?_⟩
    refine ⟨_, rfl, ⟨by show 1 ≤ 1000; decide, fun a12 ha12 => ⟨a12, _, rfl, upd_same, (.inr (.inl ⟨n, rfl, hlog⟩) : RepOk K (.int n) _), fun d12 J12 hd12 nd12 x12 y12 rest12 => ⟨rfl, d12, _, x12, y12, errNone hd12 nd12, ?_⟩⟩⟩⟩
    generalize eh12 : upd (del J12 a12) d12 _ = H12
    have N12 := newE ha12 hd12 nd12 rest12 eh12
    refine ⟨rfl, d12, _, _, rfl, N12.f, what_of "NoTime" _, ?_⟩
    refine ⟨_, rfl, rfl, _, rfl, iteF0 neSelf ?_⟩
    refine ⟨by show 1 ≤ 1000; decide, fun a13 ha13 => ⟨a13, _, rfl, upd_same, (.inl ⟨_, rfl, by decide +kernel, by decide +kernel⟩ : RepOk K (.str "") _), fun d13 J13 hd13 nd13 x13 y13 rest13 => ⟨rfl, d13, _, x13, y13, errNone hd13 nd13, ?_⟩⟩⟩
    generalize eh13 : upd (del J13 a13) d13 _ = H13
    have N13 := newE ha13 hd13 nd13 rest13 eh13
    refine ⟨rfl, d13, _, _, rfl, N13.f, what_of "NoText" _, ?_⟩
    refine ⟨rfl, _, rfl, iteT0 (decide_eq_true rfl) ?_⟩
    refine ⟨by show 1 ≤ 1000; decide, fun a14 ha14 => ⟨a14, _, rfl, upd_same, (.inl ⟨_, rfl, by decide +kernel, by decide +kernel⟩ : RepOk K (.str "a") _), fun d14 J14 hd14 nd14 x14 y14 rest14 => ⟨rfl, d14, _, x14, y14, errNone hd14 nd14, ?_⟩⟩⟩
    generalize eh14 : upd (del J14 a14) d14 _ = H14
    have N14 := newE ha14 hd14 nd14 rest14 eh14
    refine ⟨rfl, d14, _, _, rfl, N14.f, what_of "NoDeskRow" _, ?_⟩
    refine ⟨rfl, _, rfl, iteT0 (decide_eq_true rfl) ?_⟩
    refine ⟨by show 1 ≤ 1000; decide, fun a15 ha15 => ⟨a15, _, rfl, upd_same, (.inr (.inr (.inl rfl)) : RepOk K (.non) _), fun d15 J15 hd15 nd15 x15 y15 rest15 => ⟨rfl, d15, _, x15, y15, errNone hd15 nd15, ?_⟩⟩⟩
    generalize eh15 : upd (del J15 a15) d15 _ = H15
    have N15 := newE ha15 hd15 nd15 rest15 eh15
    refine ⟨rfl, d15, _, _, rfl, N15.f, what_of "NoRow" _, ?_⟩
    exact k _ ((((((((((((((((((((((Same.refl _).trans N1.s).trans N2.s).trans N3.s).trans N4.s).trans N5.s).trans M6.s).trans N6.s).trans L6.s).trans M7.s).trans N7.s).trans L7.s).trans N8.s).trans M9.s).trans N9.s).trans L9.s).trans N10.s).trans N11.s).trans N12.s).trans N13.s).trans N14.s).trans N15.s)
end
end Kd

namespace KdKw
open PySem PySem.Spec PyProof.Rows L2
section
variable {X : Cx} {CX : CXT} {k : Nat} {f : Addr} {fd : FuncData} {ps ks : List Str} {sp : Sp} {x : Str} {p pos : Pos} {kws : List Keyword} {tk : TA} {g : List Value → List Value → List Value} {gV : List V → List V → List V}
/-- f(k = v, ..), and what it raises is wished for at the slots -/
def tCallK0S (sp : Sp) (gV : List V → List V → List V) (E : L2.St → XK) (tk : TA) : TE := fun σ H Q => tk σ H fun zs H2 => sp (gV [] zs) H2 Q (E σ)
theorem run_fnkS {E : L2.St → XK} {pins : List (Addr × Obj)} {σ : L2.St} {H : Hp} {s : Shared} {Q : VK} {us ws : List Value} {vs zs : List V} (F : FnOk X.prog X.w X.K X.mg X.base CX k f fd ps sp) (hr : Room k X.A) (hb : KBinds X.K fd ps ks g gV) (hx : PassesAt CX X σ (E σ))
    (I : Inv X pins σ H s) (r : Vals vs us) (rz : Vals zs ws) (h : sp (gV vs zs) H Q (E σ)) : wpAny (model X.prog X.w) X.A (call (.ref f) us (ks.zip ws)) (EP X pins σ Q) X.xe s := by
  have r2 := hb.rel r rz
  have hl : (g us ws).length = ps.length := by rw [← r2.length]; exact F.len _ _ _ _ h
  refine wpAny_call (codeAny_mono (F.run X.A X.stack s H ⟨us, ks.zip ws⟩ (g us ws) (gV vs zs) Q (E σ) hr I.env0 (hb.to s us ws I.kIn hl) r2 h) fun r s' hq => ?_)
  cases r with
  | error e => exact hx pins H s e s' I hq
  | ok fl =>
    cases fl with
    | ret u => exact I.after hq
    | next => exact False.elim hq
    | brk => exact False.elim hq
    | cont => exact False.elim hq
theorem pe_callK0S {E : L2.St → XK} (F : FnOk X.prog X.w X.K X.mg X.base CX k f fd ps sp) (hr : Room k X.A) (hg : Gl X x) (hm : X.mg x = some (.ref f)) (hk : PySem.W.keepIn X.K (.ref f) = true) (hb : KBinds X.K fd ps ks g gV) (hx : ∀ σ, PassesAt CX X σ (E σ)) (hkw : PK X kws tk)
    (hall : (backToKw pos (keywordEach kws X.env)).all (·.1.isSome) = true := by rfl) (hks : (backToKw pos (keywordEach kws X.env)).filterMap (·.1) = ks := by rfl) (hdb : (x == ("__debug__" : Str)) = false := by decide)
    (hpl : ((backTo pos (starEach [] X.env)).any (·.1) || (backToKw pos (keywordEach kws X.env)).any (·.1.isNone)) = false := by rfl) :
    PE X (.Call (.Name x p) [] kws pos) (tCallK0S sp gV E tk) := by
  refine ⟨fun pins s σ H Q I h => ?_⟩
  refine wpAny_Call_Name_kw (ld_glob I hg hm ?_ hdb)
  refine PySem.W.callWith_KW0 (h₀ := X.base) I.ok.mod.kin hk hall ?_ hpl
  refine thn (hkw.run pos pins s σ H _ I h) fun ws s2 ⟨zs, H2, I2, rz, q2⟩ => ⟨I2.kIn, ?_⟩
  rw [hks]
  exact run_fnkS (us := []) (vs := []) F hr hb (hx σ) I2 .nil rz q2
theorem pe_callK0 {E : XK} (F : FnOk X.prog X.w X.K X.mg X.base CX k f fd ps sp) (hr : Room k X.A) (hg : Gl X x) (hm : X.mg x = some (.ref f)) (hk : PySem.W.keepIn X.K (.ref f) = true) (hb : KBinds X.K fd ps ks g gV) (hx : Passes CX X E) (hkw : PK X kws tk)
    (hall : (backToKw pos (keywordEach kws X.env)).all (·.1.isSome) = true := by rfl) (hks : (backToKw pos (keywordEach kws X.env)).filterMap (·.1) = ks := by rfl) (hdb : (x == ("__debug__" : Str)) = false := by decide)
    (hpl : ((backTo pos (starEach [] X.env)).any (·.1) || (backToKw pos (keywordEach kws X.env)).any (·.1.isNone)) = false := by rfl) :
    PE X (.Call (.Name x p) [] kws pos) (L2.tCallK sp gV E tNil tk) := by
  refine ⟨fun pins s σ H Q I h => ?_⟩
  refine wpAny_Call_Name_kw (ld_glob I hg hm ?_ hdb)
  refine PySem.W.callWith_KW0 (h₀ := X.base) I.ok.mod.kin hk hall ?_ hpl
  refine thn (hkw.run pos pins s σ H _ I h) fun ws s2 ⟨zs, H2, I2, rz, q2⟩ => ⟨I2.kIn, ?_⟩
  rw [hks]
  exact run_fnk (us := []) (vs := []) F hr hb hx I2 .nil rz q2
end
/-- one name -/
def kw1 {α : Type} (us ws : List α) : List α := match us, ws with
  | [], [k] => [k]
  | _, _ => []
theorem kw1_rel {vs : List V} {us : List Value} {zs : List V} {ws : List Value} (r1 : Vals vs us) (r2 : Vals zs ws) : Vals (kw1 vs zs) (kw1 us ws) := by
  cases r1 with
  | cons _ _ => exact .nil
  | nil =>
    cases r2 with
    | nil => exact .nil
    | cons a t =>
      cases t with
      | nil => exact .cons a .nil
      | cons _ _ => exact .nil
/-- two names, the other way round -/
def kw2 {α : Type} (us ws : List α) : List α := match us, ws with
  | [], [a, b] => [b, a]
  | _, _ => []
theorem kw2_rel {vs : List V} {us : List Value} {zs : List V} {ws : List Value} (r1 : Vals vs us) (r2 : Vals zs ws) : Vals (kw2 vs zs) (kw2 us ws) := by
  cases r1 with
  | cons _ _ => exact .nil
  | nil =>
    cases r2 with
    | nil => exact .nil
    | cons a t =>
      cases t with
      | nil => exact .nil
      | cons b t =>
        cases t with
        | nil => exact .cons b (.cons a .nil)
        | cons _ _ => exact .nil
end KdKw

namespace Kd
open PySem PySem.Spec PyProof.Rows L2 KdXc
section
variable {P : Program} {w : World} {K : PySem.W.Frag} {mg : Str → Option Value} {base : Heap} {f : Addr} {fd : FuncData}
theorem kw_look (F : FnP K "look" "look" s_look f fd) : KBinds K fd ["plan", "row"] ["row", "plan"] KdKw.kw2 KdKw.kw2 := by
  obtain ⟨oc, od, dV, kV, doc, pm, an, cdv, ct, osl, rfl, lk, hcd, hD, hK⟩ := F.ex
  rcases hD with ⟨_, rfl⟩ | ⟨e, _⟩
  · refine ⟨fun s us ws X l1 => BindsTo.of_looks fun M => ?_, KdKw.kw2_rel⟩
    match us, ws, l1 with
    | [], [k, d], _ => exact PySem.W.Looks.of_pure rfl
  · exact absurd rfl e
/-! ### _law_refused -/
/-- how isinstance answers of an error of the class N -/
structure ErrK (K : PySem.W.Frag) (N D : Addr) (os us : List Addr) : Prop where
  kD : PySem.W.kitOne K (.ref N) (.ref D) = some true
  kV : PySem.W.kitOne K (.ref N) (.type "ValueError") = some true
  kO : PySem.W.kitAny K (.ref N) (os.map Value.ref) = some false
  kU : PySem.W.kitAny K (.ref N) (us.map Value.ref) = some false
def tSuite (K : PySem.W.Frag) (N D c0 c1 c2 c3 c4 c5 c6 c7 d0 d1 : Addr) : Addr → Value → Option Addr → TS := fun a cls d => tAsg (tLst (tCons (tXf a cls d N "what" (tVar 5)) (tCons (tCB (rIsC K N a cls d) (tCons (tVar 5) (tCons (tC (.ref D)) tNil))) (tCons (tCB (rIsC K N a cls d) (tCons (tVar 5) (tCons (tC (.ty "ValueError")) tNil)))
  (tCons (tCB (rIsC K N a cls d) (tCons (tVar 5) (tCons (tTup (tCons (tC (.ref c0)) (tCons (tC (.ref c1)) (tCons (tC (.ref c2)) (tCons (tC (.ref c3)) (tCons (tC (.ref c4)) (tCons (tC (.ref c5)) (tCons (tC (.ref c6)) (tCons (tC (.ref c7)) tNil))))))))) tNil))) (tCons (tCB (rIsC K N a cls d) (tCons (tVar 5) (tCons (tTup (tCons (tC (.ref d0)) (tCons (tC (.ref d1)) tNil))) tNil))) tNil)))))) (gName 3)
abbrev N_l_refused : List Str := ["made", "line", "named", "found", "told", "e"]
theorem sc_l_refused : FnScope N_l_refused ["made", "line", "named"] (defScope s_l_refused) := ⟨rfl, rfl, rfl, by decide +kernel, rfl, by decide +kernel, by decide +kernel⟩
def spRefused (K : PySem.W.Frag) (C : Addr) : Sp := fun vs H Q _ => ∃ (x p : Addr) (b : Bool) (r : Rw) (ds : List Dm) (ms : List Str), vs = [.ref x, .ref p, .bl b] ∧ PlanAt K C H x ds ms ∧ r.at K H p ∧ r.ok ∧
  (r.fits ds ms = true → ∀ q H', Same H H' → H q = none → H' q = some (.lst []) → Q (.ref q) H') ∧
  (r.fits ds ms = false → ∀ q H', Same H H' → H q = none → H' q = some (.lst [.ref p, .bl true, .bl true, .bl false, .bl false]) → Q (.ref q) H')
theorem ok_refused {C N fN D fL c0 c1 c2 c3 c4 c5 c6 c7 d0 d1 : Addr} {fdN fdL : FuncData} (F : FnP K "_law_refused" "_law_refused" s_l_refused f fd) (GL : FnOk P w K mg base (L2.CX P w) 5 fL fdL ["plan", "row"] (spLook K C N)) (gL : mg "look" = some (.ref fL)) (kL : PySem.W.keepIn K (.ref fL) = true) (bL : Binds K fdL ["plan", "row"] []) (wL : KBinds K fdL ["plan", "row"] ["row", "plan"] KdKw.kw2 KdKw.kw2)
    (M : ErrM P w K mg base "NoRow" N fN fdN) (EK : ErrK K N D [c0, c1, c2, c3, c4, c5, c6, c7] [d0, d1]) (gD : mg "DayError" = some (.ref D)) (zV : mg "ValueError" = none) (zI : mg "isinstance" = none)
    (g0 : mg "NoDeskRow" = some (.ref c0)) (g1 : mg "NoFact" = some (.ref c1)) (g2 : mg "NoGroup" = some (.ref c2)) (g3 : mg "NoMeasure" = some (.ref c3)) (g4 : mg "NoPlan" = some (.ref c4)) (g5 : mg "NoText" = some (.ref c5)) (g6 : mg "NoThing" = some (.ref c6)) (g7 : mg "NoTime" = some (.ref c7)) (h0 : mg "NoWatch" = some (.ref d0)) (h1 : mg "Twice" = some (.ref d1)) :
    FnOk P w K mg base CX0 6 f fd ["made", "line", "named"] (spRefused K C) := by
  refine F.ok sc_l_refused (fun vs H Q E h => ?_) (fun cdv A outer s H vs Q E hr h => ?_)
  · obtain ⟨x, p, b, r, ds, ms, rfl, _⟩ := h
    rfl
  · obtain ⟨x, p, b, r, ds, ms, rfl, hx, hp, ok, k1, k2⟩ := h
    have nd := sc_l_refused.nd
    refine ⟨_, pss_cons (ps_set (i := 3) nd rfl (Or.inl rfl) (pe_lst pa_nil)) (pss_cons (ps_try_as (i := 5)
        (tb := fun W => tSeq (tAsg (tIf (tB (tVar 2)) (KdKw.tCallK0S (spLook K C N) KdKw.kw2 (WE W) (tCons (tVar 1) (tCons (tVar 0) tNil))) (tCallS (spLook K C N) (WE W) (tCons (tVar 0) (tCons (tVar 1) tNil)))) (gName 4)) (tIfS (tB (tNotN (tVar 4))) (tAsg (tLst (tCons (tC (.str "told")) tNil)) (gName 3)) tNext))
        (ts := tSuite K N D c0 c1 c2 c3 c4 c5 c6 c7 d0 d1) (Wout := fun _ _ _ _ => False) rfl rfl nd rfl rfl ⟨rfl, by decide, .inl M.g⟩ takes0
        (fun W pn xe tk _ => pss_cons (ps_set (i := 4) nd rfl (Or.inl rfl) (by exact (pe_ifExp (pt_val (pv 2)) (KdKw.pe_callK0S GL (hr.mono (by decide)) rfl gL kL wL (fun σ => passAt tk σ) (pk_cons (pv 1) (pk_cons (pv 0) pk_nil))) (pe_callS GL (hr.mono (by decide)) rfl gL kL bL (fun σ => passAt tk σ) (pa_cons (pv 0) (pa_cons (pv 1) pa_nil))))))
          (pss_one (ps_if (by exact (pt_cmp (pc_notN (pv 4)))) (pss_one (ps_set (i := 3) nd rfl (Or.inl rfl) (by exact (pe_lst (pa_cons pe_str pa_nil))))) pss_nil)))
        (fun a oe cls d pn hz hf => pss_one (ps_set (i := 3) nd rfl (Or.inl rfl) (by exact (pe_lst (pa_cons (pe_xf M.T.x M.T.nW hz hf (pv 5)) (pa_cons (pe_callB (call_isX M.T hz hf) (by rfl) zI (by decide +kernel) (pa_cons (pv 5) (pa_cons (pe_glob (v := .ref D) rfl gD rfl) pa_nil))) (pa_cons (pe_callB (call_isX M.T hz hf) (by rfl) zI (by decide +kernel) (pa_cons (pv 5) (pa_cons (pe_bltn (v := .ty "ValueError") (by rfl) zV (by decide +kernel) rfl) pa_nil)))
          (pa_cons (pe_callB (call_isX M.T hz hf) (by rfl) zI (by decide +kernel) (pa_cons (pv 5) (pa_cons (pe_tup (pa_cons (pe_glob (v := .ref c0) rfl g0 rfl) (pa_cons (pe_glob (v := .ref c1) rfl g1 rfl) (pa_cons (pe_glob (v := .ref c2) rfl g2 rfl) (pa_cons (pe_glob (v := .ref c3) rfl g3 rfl) (pa_cons (pe_glob (v := .ref c4) rfl g4 rfl) (pa_cons (pe_glob (v := .ref c5) rfl g5 rfl) (pa_cons (pe_glob (v := .ref c6) rfl g6 rfl) (pa_cons (pe_glob (v := .ref c7) rfl g7 rfl) pa_nil))))))))) pa_nil))) (pa_cons (pe_callB (call_isX M.T hz hf) (by rfl) zI (by decide +kernel) (pa_cons (pv 5) (pa_cons (pe_tup (pa_cons (pe_glob (v := .ref d0) rfl h0 rfl) (pa_cons (pe_glob (v := .ref d1) rfl h1 rfl) pa_nil))) pa_nil))) pa_nil))))))))))
      (pss_one (ps_ret (pv 3)))), ?_⟩
    refine ⟨by show 0 ≤ sizeLine; decide, fun q0 nq0 => ?_⟩
    generalize e0 : upd H q0 _ = H0
    have N0 := newO nq0 e0
    refine set_st (σ' := [some (.ref x), some (.ref p), some (.bl b), some (.ref q0), none, none]) rfl ?_
    have good : ∀ {H7 : Hp}, r.fits ds ms = true → Same H0 H7 → Q (.ref q0) H7 := fun c s7 => k1 c q0 _ (N0.s.trans s7) nq0 (s7 _ _ N0.f)
    cases b with
    | true =>
      refine ⟨_, rfl, true, rfl, ?_⟩
      refine ⟨_, rfl, _, rfl, x, p, r, ds, ms, rfl, PlanAt.same N0.s hx, Rw.same N0.s hp, ok, fun c H7 s7 => ?_, fun c d H7 s7 _ hd => ?_⟩
      · exact ⟨_, rfl, _, rfl, iteF0 neSelf ⟨_, rfl, good c s7⟩⟩
      · refine ⟨true, M.T.em, fun _ a ha => ?_, fun q => nomatch q⟩
        refine ⟨_, rfl, rfl, rfl, d, _, _, rfl, hd, what_of "NoRow" (.ref p), ?_⟩
        refine ⟨_, rfl, rfl, d, _, rfl, hd, _, rfl, .inl ⟨_, true, fun u hu => hu, EK.kD, ?_⟩⟩
        refine ⟨_, rfl, rfl, d, _, rfl, hd, _, rfl, .inl ⟨_, true, fun u hu => hu, EK.kV, ?_⟩⟩
        refine ⟨_, rfl, by show 8 ≤ sizeLine; decide, fun t nt => ?_⟩
        generalize e8 : upd H7 t _ = H8
        have N8 := newO nt e8
        refine ⟨rfl, d, _, rfl, N8.s _ _ hd, _, rfl, .inr ⟨t, [c0, c1, c2, c3, c4, c5, c6, c7], false, rfl, SqT.of N8.f, EK.kO, ?_⟩⟩
        refine ⟨_, rfl, by show 2 ≤ sizeLine; decide, fun t2 nt2 => ?_⟩
        generalize e9 : upd H8 t2 _ = H9
        have N9 := newO nt2 e9
        refine ⟨rfl, d, _, rfl, N9.s _ _ (N8.s _ _ hd), _, rfl, .inr ⟨t2, [d0, d1], false, rfl, SqT.of N9.f, EK.kU, ?_⟩⟩
        refine ⟨by show 5 ≤ sizeLine; decide, fun q nq => ?_⟩
        generalize e10 : upd H9 q _ = H10
        have N10 := newO nq e10
        have s9 := (s7.trans N8.s).trans N9.s
        have s010 := (N0.s.trans s9).trans N10.s
        exact ⟨_, rfl, k2 c q H10 s010 ((N0.s.trans s9).free nq) N10.f⟩
    | false =>
      refine ⟨_, rfl, false, rfl, ?_⟩
      refine ⟨_, rfl, _, rfl, x, p, r, ds, ms, rfl, PlanAt.same N0.s hx, Rw.same N0.s hp, ok, fun c H7 s7 => ?_, fun c d H7 s7 _ hd => ?_⟩
      · exact ⟨_, rfl, _, rfl, iteF0 neSelf ⟨_, rfl, good c s7⟩⟩
      · refine ⟨true, M.T.em, fun _ a ha => ?_, fun q => nomatch q⟩
        refine ⟨_, rfl, rfl, rfl, d, _, _, rfl, hd, what_of "NoRow" (.ref p), ?_⟩
        refine ⟨_, rfl, rfl, d, _, rfl, hd, _, rfl, .inl ⟨_, true, fun u hu => hu, EK.kD, ?_⟩⟩
        refine ⟨_, rfl, rfl, d, _, rfl, hd, _, rfl, .inl ⟨_, true, fun u hu => hu, EK.kV, ?_⟩⟩
        refine ⟨_, rfl, by show 8 ≤ sizeLine; decide, fun t nt => ?_⟩
        generalize e8 : upd H7 t _ = H8
        have N8 := newO nt e8
        refine ⟨rfl, d, _, rfl, N8.s _ _ hd, _, rfl, .inr ⟨t, [c0, c1, c2, c3, c4, c5, c6, c7], false, rfl, SqT.of N8.f, EK.kO, ?_⟩⟩
        refine ⟨_, rfl, by show 2 ≤ sizeLine; decide, fun t2 nt2 => ?_⟩
        generalize e9 : upd H8 t2 _ = H9
        have N9 := newO nt2 e9
        refine ⟨rfl, d, _, rfl, N9.s _ _ (N8.s _ _ hd), _, rfl, .inr ⟨t2, [d0, d1], false, rfl, SqT.of N9.f, EK.kU, ?_⟩⟩
        refine ⟨by show 5 ≤ sizeLine; decide, fun q nq => ?_⟩
        generalize e10 : upd H9 q _ = H10
        have N10 := newO nq e10
        have s9 := (s7.trans N8.s).trans N9.s
        have s010 := (N0.s.trans s9).trans N10.s
        exact ⟨_, rfl, k2 c q H10 s010 ((N0.s.trans s9).free nq) N10.f⟩
end
end Kd

namespace Kd
open PySem PySem.Spec PyProof.Rows L2 KdXc
section
variable {P : Program} {w : World} {K : PySem.W.Frag} {mg : Str → Option Value} {base : Heap} {f : Addr} {fd : FuncData}
/-! ### Plan.__eq__ of any two plans -/
def strsD (ms : List Str) : PyData := .list (ms.map PyData.str)
def Shp (ds : List Dm) (ms : List Str) : Prop := SeqAt.shaped (dimsD ds) = true ∧ SeqAt.shaped (strsD ms) = true
def plE (ds : List Dm) (ms : List Str) (ds' : List Dm) (ms' : List Str) : Bool := PyData.eqv (dimsD ds) (dimsD ds') && PyData.eqv (strsD ms) (strsD ms')
def spEq2 (K : PySem.W.Frag) (C : Addr) (neg : Bool) : Sp := fun vs H Q _ => ∃ (x y : Addr) (ds : List Dm) (ms : List Str) (ds' : List Dm) (ms' : List Str), vs = [.ref x, .ref y] ∧ PlanAt K C H x ds ms ∧ PlanAt K C H y ds' ms' ∧ Shp ds ms ∧ Shp ds' ms' ∧ Q (.bl (neg ^^ plE ds ms ds' ms')) H
theorem sc_eq : FnScope ["self", "other"] ["self", "other"] (defScope s_Plan_eq) := ⟨rfl, rfl, rfl, by decide +kernel, rfl, by decide +kernel, by decide +kernel⟩
theorem sc_ne : FnScope ["self", "other"] ["self", "other"] (defScope s_Plan_ne) := ⟨rfl, rfl, rfl, by decide +kernel, rfl, by decide +kernel, by decide +kernel⟩
theorem ok_eq2 {C : Addr} (F : FnP K "__eq__" "Plan.__eq__" s_Plan_eq f fd) (T : PlTxt K C) (gC : mg "Plan" = some (.ref C)) (hI : ∀ (H : Hp) (x dx : Addr) (fs : List (Str × V)), H x = some (.ins C dx fs) → TyOf K H (.ref x) (.ref C)) (kC : PySem.W.kitOne K (.ref C) (.ref C) = some true) (z_isinstance : mg "isinstance" = none) : FnOk P w K mg base CX0 1 f fd ["self", "other"] (spEq2 K C false) := by
  refine F.ok sc_eq (fun vs H Q E h => ?_) (fun cdv A outer s H vs Q E hr h => ?_)
  · obtain ⟨x, y, ds, ms, ds', ms', rfl, _⟩ := h
    rfl
  · obtain ⟨x, y, ds, ms, ds', ms', rfl, hx, hy, hg, hg', k⟩ := h
    obtain ⟨dx, xa, xb, xs, x1, x2, x3, x4⟩ := id hx.ex
    obtain ⟨dy, ya, yb, ys, y1, y2, y3, y4⟩ := id hy.ex
    refine ⟨_, PSs.nox (pss_one (ps_ret (pe_and (pe_callB call_isi (by rfl) z_isinstance (by decide +kernel) (pa_cons (pv 1) (pa_cons (pe_glob (v := .ref C) rfl gC rfl) pa_nil))) (pe_and (pe_cmpR (op_eqD hr.units) (pe_fld (pv 0) rfl) (pe_fld (pv 1) rfl) (nomark _)) (pe_one (pe_cmpR (op_eqD hr.units) (pe_fld (pv 0) rfl) (pe_fld (pv 1) rfl) (nomark _))))))), ?_⟩
    refine ⟨_, rfl, _, _, _, _, _, rfl, ClsV.own C, .base (hI _ _ _ _ y1), kC, _, rfl, iteT ?_⟩
    refine ⟨_, rfl, x, C, dx, _, _, rfl, x1, T.cl, T.nD, pl_dim xa xb, _, rfl, y, C, dy, _, _, rfl, y1, T.cl, T.nD, pl_dim ya yb, ?_⟩
    refine ⟨dimsD ds, dimsD ds', DimsAt.dp ⟨xs, SqL.of x2, x3⟩, DimsAt.dp ⟨ys, SqL.of y2, y3⟩, hg.1, hg'.1, _, rfl, ?_⟩
    have ek : (false ^^ plE ds ms ds' ms') = (PyData.eqv (dimsD ds) (dimsD ds') && PyData.eqv (strsD ms) (strsD ms')) := by rw [Bool.false_xor]; rfl
    rw [ek] at k
    cases hc : PyData.eqv (dimsD ds) (dimsD ds') with
    | false =>
      rw [hc, Bool.false_and] at k
      exact iteF k
    | true =>
      rw [hc, Bool.true_and] at k
      refine iteT ?_
      refine ⟨_, rfl, x, C, dx, _, _, rfl, x1, T.cl, T.nM, pl_mea xa xb, _, rfl, y, C, dy, _, _, rfl, y1, T.cl, T.nM, pl_mea ya yb, ?_⟩
      exact ⟨strsD ms, strsD ms', strs_dp (SqL.of x4), strs_dp (SqL.of y4), hg.2, hg'.2, k⟩
/-! ### Plan.__ne__ -/
theorem ok_ne2 {C fE : Addr} {fdE : FuncData} (F : FnP K "__ne__" "Plan.__ne__" s_Plan_ne f fd) (GE : FnOk P w K mg base CX0 1 fE fdE ["self", "other"] (spEq2 K C false)) (hE : PySem.W.findIn K (.ref C) "__eq__" = some (some (.ref fE))) (kE : PySem.W.isFn K (.ref fE) = true) (bE : Binds K fdE ["self", "other"] []) : FnOk P w K mg base CX0 2 f fd ["self", "other"] (spEq2 K C true) := by
  refine F.ok sc_ne (fun vs H Q E h => ?_) (fun cdv A outer s H vs Q E hr h => ?_)
  · obtain ⟨x, y, ds, ms, ds', ms', rfl, _⟩ := h
    rfl
  · obtain ⟨x, y, ds, ms, ds', ms', rfl, hx, hy, hg, hg', k⟩ := h
    obtain ⟨dx, xa, xb, xs, x1, x2, x3, x4⟩ := id hx.ex
    obtain ⟨dy, ya, yb, ys, y1, y2, y3, y4⟩ := id hy.ex
    refine ⟨_, PSs.nox (pss_one (ps_ret (pe_not (pe_cmpR (KdEx.op_eqOwn GE hE kE bE pass0 (hr.mono (by decide))) (pv 0) (pv 1) (nomark _))))), ?_⟩
    refine ⟨_, rfl, _, rfl, x, y, dx, dy, _, _, rfl, rfl, x1, y1, x, y, ds, ms, ds', ms', rfl, hx, hy, hg, hg', _, rfl, _, rfl, ?_⟩
    rw [Bool.false_xor]
    rw [Bool.true_xor] at k
    exact k
theorem plE_comm (ds : List Dm) (ms : List Str) (ds' : List Dm) (ms' : List Str) : plE ds' ms' ds ms = plE ds ms ds' ms' := by
  unfold plE
  rw [PySem.W.eqv_comm, PySem.W.eqv_comm (strsD ms')]
end
end Kd

namespace Kd
open PySem PySem.Spec PyProof.Rows L2 KdXc
section
variable {P : Program} {w : World} {K : PySem.W.Frag} {mg : Str → Option Value} {base : Heap} {f : Addr} {fd : FuncData}
/-! ### rows as data -/
def rwD : Rw → PyData
  | .kind d key day vals => .tuple [.str "kind", .str d, .str key, .int day, .tuple (vals.map Fv.d)]
  | .fact name day keys nums => .tuple [.str "fact", .str name, .int day, .tuple (keys.map PyData.str), .tuple (nums.map PyData.int)]
  | .forget name => .tuple [.str "forget", .str name]
theorem fvs_dp {H : Hp} : ∀ vs : List Fv, DpAll K H (vs.map Fv.v) (vs.map Fv.d)
  | [] => .nil
  | v :: vs => .cons v.dp (fvs_dp vs)
theorem strs_dpA {H : Hp} : ∀ vs : List Str, DpAll K H (vs.map V.str) (vs.map PyData.str)
  | [] => .nil
  | v :: vs => .cons (.str v) (strs_dpA vs)
theorem Rw.dp {H : Hp} {p : Addr} : ∀ {r : Rw}, r.at K H p → Dp K H (.ref p) (rwD r)
  | .kind d key day vals, ⟨q, h1, h2⟩ => .tup h1 (.cons (.str _) (.cons (.str _) (.cons (.str _) (.cons (.int _) (.cons (.tup h2 (fvs_dp vals)) .nil)))))
  | .fact name day keys nums, ⟨q1, q2, h1, h2, h3⟩ => .tup h1 (.cons (.str _) (.cons (.str _) (.cons (.int _) (.cons (.tup h2 (strs_dpA keys)) (.cons (.tup h3 (DpAll.ints nums)) .nil)))))
  | .forget name, h => .tup h (.cons (.str _) (.cons (.str _) .nil))
theorem lay_fvs : ∀ vs : List Fv, (∀ v ∈ vs, v.ok) → PyData.canLayAll0 (vs.map Fv.d) = true ∧ PyData.depthAll (vs.map Fv.d) = 0
  | [], _ => ⟨rfl, rfl⟩
  | v :: vs, h => by
    obtain ⟨h1, h2⟩ := lay_fvs vs fun z hz => h z (List.mem_cons_of_mem _ hz)
    have h3 := h v (List.mem_cons_self ..)
    cases v with
    | i z =>
      constructor
      · simp only [List.map_cons, Fv.d, PyData.canLayAll0, PyData.canLay0, h1, Bool.and_self]
      · simp only [List.map_cons, Fv.d, PyData.depthAll, PyData.depth, h2]
        rfl
    | s z =>
      have h4 : Tx z := h3
      constructor
      · simp only [List.map_cons, Fv.d, PyData.canLayAll0, PyData.canLay0, h1, h4.sok, Bool.and_self]
      · simp only [List.map_cons, Fv.d, PyData.depthAll, PyData.depth, h2]
        rfl
theorem lay_txs : ∀ vs : List Str, (∀ v ∈ vs, Tx v) → PyData.canLayAll0 (vs.map PyData.str) = true ∧ PyData.depthAll (vs.map PyData.str) = 0
  | [], _ => ⟨rfl, rfl⟩
  | v :: vs, h => by
    obtain ⟨h1, h2⟩ := lay_txs vs fun z hz => h z (List.mem_cons_of_mem _ hz)
    have h3 := h v (List.mem_cons_self ..)
    constructor
    · simp only [List.map_cons, PyData.canLayAll0, PyData.canLay0, h1, h3.sok, Bool.and_self]
    · simp only [List.map_cons, PyData.depthAll, PyData.depth, h2]
      rfl
theorem lay_rw : ∀ {r : Rw}, r.ok → PyData.canLay0 (rwD r) = true ∧ (rwD r).depth ≤ 2
  | .kind d key day vals, ⟨o1, o2, o3, o4, o5⟩ => by
    obtain ⟨h1, h2⟩ := lay_fvs vals o5
    constructor
    · simp only [rwD, PyData.canLayAll0, PyData.canLay0, h1, o1.sok, o2.sok, tx_kind.sok, Bool.and_self]
    · simp only [rwD, PyData.depthAll, PyData.depth, h2]
      decide
  | .fact name day keys nums, ⟨o1, o2, ⟨o3, o4⟩, o5, o6⟩ => by
    obtain ⟨h1, h2⟩ := lay_txs keys o4
    obtain ⟨h3, h4⟩ := lay_ints nums
    constructor
    · simp only [rwD, PyData.canLayAll0, PyData.canLay0, h1, h3, o1.sok, tx_fact.sok, Bool.and_self]
    · simp only [rwD, PyData.depthAll, PyData.depth, h2, h4]
      decide
  | .forget name, o => by
    have o : Tx name := o
    constructor
    · simp only [rwD, PyData.canLayAll0, PyData.canLay0, o.sok, tx_forget.sok, Bool.and_self]
    · simp only [rwD, PyData.depthAll, PyData.depth]
      decide
def dueD (r : Rw) : PyData := .list [rwD r, .bool true, .bool true, .bool false, .bool false]
theorem due_sh {r : Rw} (h : r.ok) : SeqAt.shaped (dueD r) = true := by
  obtain ⟨h1, h2⟩ := lay_rw h
  unfold SeqAt.shaped dueD
  simp only [PyData.canLay0, PyData.canLayAll0, PyData.depth, PyData.depthAll, h1, Bool.and_self, Bool.true_and, decide_eq_true_eq]
  exact decide_eq_true (by omega)
theorem due_dp {H : Hp} {p q : Addr} {r : Rw} (h : r.at K H p) (hq : H q = some (.lst [.ref p, .bl true, .bl true, .bl false, .bl false])) : Dp K H (.ref q) (dueD r) :=
  .lst (SqL.of hq) (.cons (Rw.dp h) (.cons (.bl _) (.cons (.bl _) (.cons (.bl _) (.cons (.bl _) .nil)))))
theorem shp_good {ds : List Dm} {ms : List Str} (h : Good ds ms) : Shp ds ms := ⟨shaped_dims h, by
  obtain ⟨h1, h2⟩ := lay_txs ms fun z hz => (h.mn z hz).tx
  unfold SeqAt.shaped strsD
  simp only [PyData.canLay0, PyData.depth, h1, h2]
  rfl⟩
/-! ### the law -/
structure Calls (P : Program) (w : World) (K : PySem.W.Frag) (mg : Str → Option Value) (base : Heap) (C : Addr) (fT fD fL fE fR fS fG fX fN : Addr) (fdT fdD fdL fdE fdR fdS fdG fdX fdN : FuncData) : Prop where
  c_tray : Fun P w K mg base "_law_tray" 1 ["script"] (spTray K) fT fdT
  c_draw : Fun P w K mg base "_law_draw" 1 ["tray", "many"] spDraw fD fdD
  c_lists : Fun P w K mg base "_law_lists" 4 ["tray", "most", "wide"] (spLists K) fL fdL
  c_errors_right : Fun P w K mg base "_law_errors_right" 4 ["many"] spErrs fE fdE
  c_row : Fun P w K mg base "_law_row" 5 ["tray", "some", "sums"] (spRowG K) fR fdR
  c_row_spoilt : Fun P w K mg base "_law_row_spoilt" 3 ["tray", "line", "some"] (spSpoG K) fS fdS
  c_good : Fun P w K mg base "_law_good" 1 ["some", "sums", "line"] (spGoodL K) fG fdG
  c_refused : Fun P w K mg base "_law_refused" 6 ["made", "line", "named"] (spRefused K C) fX fdX
  GN : FnOk P w K mg base CX0 2 fN fdN ["self", "other"] (spEq2 K C true)
  hN : PySem.W.findIn K (.ref C) "__ne__" = some (some (.ref fN))
  kN : PySem.W.isFn K (.ref fN) = true
  bN : Binds K fdN ["self", "other"] []
  z_len : mg "len" = none
  z_range : mg "range" = none
  z_list : mg "list" = none
  z_int : mg "int" = none
def spLaw (K : PySem.W.Frag) : Sp := fun vs H Q _ => ∃ (l : Addr) (ns : List Int), vs = [.ref l] ∧ SqL K H l (ns.map V.int) ∧ ns.length ≤ 63 ∧ ∀ H', Q (.bl true) H'
abbrev N_law : List Str := ["script", "tray", "k", "some", "sums", "made", "j", "line", "due"]
theorem sc_law : FnScope N_law ["script"] (defScope s_law) := ⟨rfl, rfl, rfl, by decide +kernel, rfl, by decide +kernel, by decide +kernel⟩
/-! slots: 0 script 1 tray 2 k 3 some 4 sums 5 made 6 j 7 line 8 due; cells:  -/
theorem ok_law {C : Addr} {fT fD fL fE fR fS fG fX fN : Addr} {fdT fdD fdL fdE fdR fdS fdG fdX fdN : FuncData} {e fI Np fNp : Addr} {fdI fdNp : FuncData} (F : FnP K "law" "law" s_law f fd) (PC : PlanX P w K mg base C e fI fdI Np fNp fdNp) (Z : Calls P w K mg base C fT fD fL fE fR fS fG fX fN fdT fdD fdL fdE fdR fdS fdG fdX fdN) : FnOk P w K mg base CX0 8 f fd ["script"] (spLaw K) := by
  obtain ⟨i3, v3, b3⟩ := init_b3 PC.I
  refine F.ok sc_law (fun vs H Q E h => ?_) (fun cdv A outer s H vs Q E hr h => ?_)
  · obtain ⟨l, ns, rfl, _⟩ := h
    rfl
  · obtain ⟨l, ns, rfl, hS, hn, k⟩ := h
    have nd := sc_law.nd
    refine ⟨_, PSs.nox (pss_cons (ps_set (i := 1) nd rfl (Or.inl rfl) (pe_call Z.c_tray.G (hr.mono (by decide)) rfl Z.c_tray.g Z.c_tray.k Z.c_tray.b .nil pass0 (pa_cons (pv 0) pa_nil)))
      (pss_cons (ps_if (pt_not (pt_val (pe_call Z.c_errors_right.G (hr.mono (by decide)) rfl Z.c_errors_right.g Z.c_errors_right.k Z.c_errors_right.b .nil pass0 (pa_cons (pe_callB call_len_seq (by rfl) Z.z_len boot_len (pa_cons (pv 0) pa_nil)) pa_nil))))
        (pss_one (ps_ret pe_bl))
        pss_nil)
      (pss_cons (ps_for PassesOwn.never rfl (pi_range1 rfl Z.z_range (pa_cons (pe_op op_add pe_int (pe_callB call_len_seq (by rfl) Z.z_len boot_len (pa_cons (pe_slice sl_list (pv 0) po_none (po_some pe_int)) pa_nil))) pa_nil)) (pg_name (i := 2) nd rfl (Or.inl rfl))
        (pss_cons (ps_asg (pe_call Z.c_lists.G (hr.mono (by decide)) rfl Z.c_lists.g Z.c_lists.k Z.c_lists.b .nil pass0 (pa_cons (pv 1) (pa_cons pe_int (pa_cons pe_int pa_nil)))) (pg_unl rfl (pgs_cons (pg_name (i := 3) nd rfl (Or.inl rfl)) (pgs_cons (pg_name (i := 4) nd rfl (Or.inl rfl)) pgs_nil))))
        (pss_cons (ps_set (i := 5) nd rfl (Or.inl rfl) (pe_make PC.M PC.GI (hr.mono (by decide)) rfl PC.gC b3 v3 pass0 (pa_cons (pe_callTy call_list_of (by rfl) Z.z_list (by decide +kernel) (pa_cons (pv 3) pa_nil)) (pa_cons (pe_callTy call_list_of (by rfl) Z.z_list (by decide +kernel) (pa_cons (pv 4) pa_nil)) pa_nil))))
        (pss_cons (ps_for PassesOwn.never rfl (pi_range1 rfl Z.z_range (pa_cons (pe_op op_add pe_int (pe_op op_mul pe_int (pe_callB call_len_seq (by rfl) Z.z_len boot_len (pa_cons (pe_slice sl_list (pv 0) (po_some pe_int) (po_some pe_int)) pa_nil)))) pa_nil)) (pg_name (i := 6) nd rfl (Or.inl rfl))
          (pss_cons (ps_set (i := 7) nd rfl (Or.inl rfl) (pe_call Z.c_row.G (hr.mono (by decide)) rfl Z.c_row.g Z.c_row.k Z.c_row.b .nil pass0 (pa_cons (pv 1) (pa_cons (pv 3) (pa_cons (pv 4) pa_nil)))))
          (pss_cons (ps_if (pt_cmpR op_eq (pe_call Z.c_draw.G (hr.mono (by decide)) rfl Z.c_draw.g Z.c_draw.k Z.c_draw.b .nil pass0 (pa_cons (pv 1) (pa_cons pe_int pa_nil))) pe_int (nomark _))
            (pss_one (ps_set (i := 7) nd rfl (Or.inl rfl) (pe_call Z.c_row_spoilt.G (hr.mono (by decide)) rfl Z.c_row_spoilt.g Z.c_row_spoilt.k Z.c_row_spoilt.b .nil pass0 (pa_cons (pv 1) (pa_cons (pv 7) (pa_cons (pv 3) pa_nil))))))
            pss_nil)
          (pss_cons (ps_set (i := 8) nd rfl (Or.inl rfl) (pe_ix ix_list (pe_lst (pa_cons (pe_lst (pa_cons (pv 7) (pa_cons pe_bl (pa_cons pe_bl (pa_cons pe_bl (pa_cons pe_bl pa_nil)))))) (pa_cons (pe_lst pa_nil) pa_nil))) (pe_callTy call_int1 (by rfl) Z.z_int (by decide +kernel) (pa_cons (pe_call Z.c_good.G (hr.mono (by decide)) rfl Z.c_good.g Z.c_good.k Z.c_good.b .nil pass0 (pa_cons (pv 3) (pa_cons (pv 4) (pa_cons (pv 7) pa_nil)))) pa_nil)) (fun _ _ => rfl)))
          (pss_one (ps_if (PW.pt (pw_or (pt_cmpR (op_neD hr.units) (pe_call Z.c_refused.G (hr.mono (by decide)) rfl Z.c_refused.g Z.c_refused.k Z.c_refused.b .nil pass0 (pa_cons (pv 5) (pa_cons (pv 7) (pa_cons (pe_cmpR op_eq (pe_op op_mod (pv 6) pe_int) pe_int (nomark _)) pa_nil)))) (pv 8) (nomark _)) (pw_or1 (pt_cmpR (op_neD hr.units) (pe_call Z.c_refused.G (hr.mono (by decide)) rfl Z.c_refused.g Z.c_refused.k Z.c_refused.b .nil pass0 (pa_cons (pv 5) (pa_cons (pv 7) (pa_cons pe_bl pa_nil)))) (pv 8) (nomark _)))))
            (pss_one (ps_ret pe_bl))
            pss_nil))))))
        (pss_one (ps_if (pt_cmpR (KdEx.op_neOwn Z.GN Z.hN Z.kN Z.bN pass0 (hr.mono (by decide))) (pv 5) (pe_make PC.M PC.GI (hr.mono (by decide)) rfl PC.gC b3 v3 pass0 (pa_cons (pe_callTy call_list_of (by rfl) Z.z_list (by decide +kernel) (pa_cons (pv 3) pa_nil)) (pa_cons (pe_callTy call_list_of (by rfl) Z.z_list (by decide +kernel) (pa_cons (pv 4) pa_nil)) pa_nil))) (nomark _))
          (pss_one (ps_ret pe_bl))
          pss_nil))))))
      (pss_one (ps_ret pe_bl))))), ?_⟩
    refine ⟨_, rfl, l, ns, rfl, hS, hn, fun a g H1 na ng T1 s1 => ?_⟩
    refine set_st (σ' := [some (.ref l), some (.ref a), none, none, none, none, none, none, none]) rfl ?_
    refine ⟨_, rfl, l, _, rfl, .inl (s1.seq hS), ?_⟩
    refine ⟨_, rfl, by rw [Int.natAbs_natCast, List.length_map]; omega, fun H2 s2 => ⟨_, rfl, ?_⟩⟩
    refine ⟨_, rfl, _, rfl, l, _, rfl, (s1.trans s2).seq hS, fun p np => ?_⟩
    have sH1 : Same H (ct a g H1) := fun b o e => ct_of (s1 b o e) (ne_of_none e na) (ne_of_none e ng)
    have cl : (cutV (ns.map V.int) none (some 3)).length ≤ 3 := by
      rw [show cutV (ns.map V.int) none (some 3) = _ from cutTo _ 3, List.length_take]
      omega
    have cl2 : (cutV (ns.map V.int) (some 3) (some 11)).length ≤ 8 := by
      rw [show cutV (ns.map V.int) (some 3) (some 11) = _ from cutMid _ 3 11, List.length_take]
      omega
    refine ⟨p, _, rfl, .inl (SqL.of upd_same), _, _, rfl, rfl, _, rfl, by omega, by omega, ?_⟩
    refine for_range (lo := 0) (fun i σ H2 => ∃ (x2 x3 x4 x5 x6 x7 x8 : Option V), σ = [some (.ref l), some (.ref a), x2, x3, x4, x5, x6, x7, x8] ∧ Tray H2 a g (5000 * i) ∧ SqL K (ct a g H2) l (ns.map V.int)) ⟨_, _, _, _, _, _, _, rfl, (T1.same s2).new np, ?_⟩ ?_ ?_
    · exact Same.seq ((sH1.trans (ct_same s2)).trans (ctnew np)) hS
    · rintro i σ H2 hi ⟨x2, x3, x4, x5, x6, x7, x8, rfl, T2, S2⟩
      have hi2 : i < 5 := by omega
      refine ⟨_, rfl, a, g, 5000 * i, 4, 1, rfl, T2, by omega, by decide, by decide, by decide, fun r lo mo ds ms H3 hr3 L3 T3 s3 => ?_⟩
      refine ⟨r, _, rfl, SqL.of (ct_sub _ _ hr3), rfl, _, _, rfl, _, _, rfl, rfl, ?_⟩
      refine st_eq (σ' := [some (.ref l), some (.ref a), some (.int (0 + (i : Int))), some (.ref lo), some (.ref mo), x5, x6, x7, x8]) rfl ?_
      have S3 := s3.seq S2
      obtain ⟨xs, hl3, hp3⟩ := id L3.dl
      have hm3 := L3.ml
      have ok := L3.ok
      refine ⟨_, rfl, lo, xs, rfl, .inl (SqL.of (ct_sub _ _ hl3)), fun ph nh => ?_⟩
      generalize e4 : upd H3 ph _ = H4
      have N4 := newAt T3 nh e4
      refine ⟨_, rfl, mo, _, rfl, .inl (SqL.of (N4.s _ _ (ct_sub _ _ hm3))), fun pb nb => ?_⟩
      generalize e5 : upd H4 pb _ = H5
      have N5 := newAt N4.T nb e5
      have s35 := N4.c.trans N5.c
      have p5 : Paired (DimAt K H5) xs ds := PySem.Paired.mono (fun _ _ => DimAt.same (ct_sub.trans (N4.s.trans N5.s))) hp3
      refine fun x dx nx ndx nex => ?_
      refine init_good ⟨xs, SqL.of (N5.s _ _ N4.f), p5⟩ (.inl (SqL.of N5.f)) ok.szd ok.ff nx ndx nex fun H6 hN => ?_
      refine set_st (σ' := [some (.ref l), some (.ref a), some (.int (0 + (i : Int))), some (.ref lo), some (.ref mo), some (.ref x), x6, x7, x8]) rfl ?_
      have T6 := N5.T.same hN.s
      have P6 := hN.ct N5.T
      have s36 := s35.trans (ct_same hN.s)
      have S6 := s36.seq S3
      refine ⟨_, rfl, _, rfl, _, rfl, l, _, rfl, seqL_ct S6, fun p6 np6 => ?_⟩
      generalize e7 : upd H6 p6 _ = H7
      have N7 := newAt T6 np6 e7
      refine ⟨p6, _, rfl, .inl (SqL.of N7.f), _, _, rfl, rfl, .inl (by decide), _, _, rfl, rfl, _, rfl, by omega, by omega, ?_⟩
      refine for_range (lo := 0) (fun j σ H8 => ∃ (x6 x7 x8 : Option V), σ = [some (.ref l), some (.ref a), some (.int (0 + (i : Int))), some (.ref lo), some (.ref mo), some (.ref x), x6, x7, x8] ∧ Tray H8 a g (5000 * i + 420 + 225 * j) ∧ Same (ct a g H6) (ct a g H8)) ⟨_, _, _, rfl, N7.T, N7.c⟩ ?_ ?_
      · rintro j σ H8 hj ⟨y6, y7, y8, rfl, T8, s68⟩
        have hj2 : j < 20 := by omega
        refine ⟨_, rfl, _, rfl, _, rfl, a, g, lo, mo, _, ds, ms, rfl, T8, by omega, ⟨xs, SqL.of (s68 _ _ (s36 _ _ hl3)), PySem.Paired.mono (fun _ _ => DimAt.same (s36.trans s68)) hp3⟩, SqL.of (s68 _ _ (s36 _ _ hm3)), ok, fun pr rr H9 r9 g9 T9 s9 => ?_⟩
        refine set_st (σ' := [some (.ref l), some (.ref a), some (.int (0 + (i : Int))), some (.ref lo), some (.ref mo), some (.ref x), some (.int (0 + (j : Int))), some (.ref pr), y8]) rfl ?_
        refine ⟨_, rfl, a, g, _, _, rfl, T9, by omega, by decide, by decide, fun b H10 b0 b1 T10 s10 => ⟨rfl, _, rfl, ite2 (fun c => ?_) (fun c => ?_)⟩⟩
        · have s610 := (s68.trans s9).trans s10
          refine ⟨_, rfl, _, rfl, _, rfl, a, g, pr, lo, _, rr, ds, ms, rfl, T10, by omega, ⟨xs, SqL.of (s610 _ _ (s36 _ _ hl3)), PySem.Paired.mono (fun _ _ => DimAt.same (s36.trans s610)) hp3⟩, Rw.same s10 r9, g9, ok, fun ps rs H11 r11 o11 T11 s11 => ?_⟩
          refine set_st (σ' := [some (.ref l), some (.ref a), some (.int (0 + (i : Int))), some (.ref lo), some (.ref mo), some (.ref x), some (.int (0 + (j : Int))), some (.ref ps), y8]) rfl ?_
          have s611 := s610.trans s11
          have PJ : PlanAt K C H11 x ds ms := PlanAt.same (s611.trans ct_sub) P6
          refine ⟨_, rfl, by show 5 ≤ sizeLine; decide, fun q1 nq1 => ?_⟩
          generalize f1 : upd H11 q1 _ = J1
          have M1 := newAt T11 nq1 f1
          refine ⟨by show 0 ≤ sizeLine; decide, fun q2 nq2 => ?_⟩
          generalize f2 : upd J1 q2 _ = J2
          have M2 := newAt M1.T nq2 f2
          refine ⟨by show 2 ≤ sizeLine; decide, fun q3 nq3 => ?_⟩
          generalize f3 : upd J2 q3 _ = J3
          have M3 := newAt M2.T nq3 f3
          have sJ3 := (M1.s.trans M2.s).trans M3.s
          have cJ3 := (M1.c.trans M2.c).trans M3.c
          have dJ : DimsAt K J3 lo ds := ⟨xs, SqL.of (ct_sub _ _ (cJ3 _ _ (s611 _ _ (s36 _ _ hl3)))), PySem.Paired.mono (fun _ _ => DimAt.same (((s36.trans s611).trans cJ3).trans ct_sub)) hp3⟩
          have mJ : SqL K J3 mo (ms.map V.str) := SqL.of (ct_sub _ _ (cJ3 _ _ (s611 _ _ (s36 _ _ hm3))))
          have rJ3 := Rw.same (ct_sub.trans sJ3) r11
          refine ⟨_, rfl, _, rfl, _, rfl, lo, mo, ps, rs, ds, ms, rfl, dJ, mJ, rJ3, ok, fun J4 t4 => ?_⟩
          refine .inr ⟨_, rfl, ?_⟩
          have sJ4 := sJ3.trans t4
          have T4 := M3.T.same t4
          have P4 := PlanAt.same sJ4 PJ
          have r4 := Rw.same t4 rJ3
          cases fi : rs.fits ds ms with
          | true =>
            refine ⟨q3, _, _, _, rfl, rfl, SqL.of (t4 _ _ M3.f), atI_nat (j := 1) rfl, ?_⟩
            refine set_st (σ' := [some (.ref l), some (.ref a), some (.int (0 + (i : Int))), some (.ref lo), some (.ref mo), some (.ref x), some (.int (0 + (j : Int))), some (.ref ps), some (.ref q2)]) rfl ?_
            have d4 := t4 _ _ (M3.s _ _ M2.f)
            refine ⟨_, rfl, _, rfl, _, rfl, _, _, rfl, rfl, (by show (0 : Int) < 2; decide), rfl, x, ps, _, rs, ds, ms, rfl, P4, r4, o11, fun _ q5 J5 t5 n5 h5 => ?_, fun z => absurd (fi.symm.trans z) (by decide)⟩
            refine ⟨_, rfl, .list [], .list [], .lst (SqL.of h5) .nil, .lst (SqL.of (t5 _ _ d4)) .nil, shaped_nil5, shaped_nil5, _, rfl, iteF0 (by decide +kernel) ?_⟩
            refine ⟨_, rfl, _, rfl, x, ps, _, rs, ds, ms, rfl, PlanAt.same t5 P4, Rw.same t5 r4, o11, fun _ q6 J6 t6 n6 h6 => ?_, fun z => absurd (fi.symm.trans z) (by decide)⟩
            refine ⟨_, rfl, .list [], .list [], .lst (SqL.of h6) .nil, .lst (SqL.of (t6 _ _ (t5 _ _ d4))) .nil, shaped_nil5, shaped_nil5, _, rfl, iteF0 (by decide +kernel) ?_⟩
            exact ⟨_, _, _, rfl, (T4.same (t5.trans t6)).mono (by omega), s611.trans (ct_same (sJ4.trans (t5.trans t6)))⟩
          | false =>
            refine ⟨q3, _, _, _, rfl, rfl, SqL.of (t4 _ _ M3.f), atI_nat (j := 0) rfl, ?_⟩
            refine set_st (σ' := [some (.ref l), some (.ref a), some (.int (0 + (i : Int))), some (.ref lo), some (.ref mo), some (.ref x), some (.int (0 + (j : Int))), some (.ref ps), some (.ref q1)]) rfl ?_
            have d4 := t4 _ _ (M3.s _ _ (M2.s _ _ M1.f))
            have sh := due_sh o11
            refine ⟨_, rfl, _, rfl, _, rfl, _, _, rfl, rfl, (by show (0 : Int) < 2; decide), rfl, x, ps, _, rs, ds, ms, rfl, P4, r4, o11, fun z => absurd (fi.symm.trans z) (by decide), fun _ q5 J5 t5 n5 h5 => ?_⟩
            have r5 := Rw.same t5 r4
            refine ⟨_, rfl, dueD rs, dueD rs, due_dp r5 h5, due_dp r5 (t5 _ _ d4), sh, sh, _, rfl, ?_⟩
            rw [eqv_self sh]
            refine iteF0 (by decide) ?_
            refine ⟨_, rfl, _, rfl, x, ps, _, rs, ds, ms, rfl, PlanAt.same t5 P4, r5, o11, fun z => absurd (fi.symm.trans z) (by decide), fun _ q6 J6 t6 n6 h6 => ?_⟩
            have r6 := Rw.same t6 r5
            refine ⟨_, rfl, dueD rs, dueD rs, due_dp r6 h6, due_dp r6 (t6 _ _ (t5 _ _ d4)), sh, sh, _, rfl, ?_⟩
            rw [eqv_self sh]
            refine iteF0 (by decide) ?_
            exact ⟨_, _, _, rfl, (T4.same (t5.trans t6)).mono (by omega), s611.trans (ct_same (sJ4.trans (t5.trans t6)))⟩
        · have s610 := (s68.trans s9).trans s10
          have r10 := Rw.same s10 r9
          have o10 := Rw.good.ok ok g9
          have PJ : PlanAt K C H10 x ds ms := PlanAt.same (s610.trans ct_sub) P6
          refine ⟨_, rfl, by show 5 ≤ sizeLine; decide, fun q1 nq1 => ?_⟩
          generalize f1 : upd H10 q1 _ = J1
          have M1 := newAt T10 nq1 f1
          refine ⟨by show 0 ≤ sizeLine; decide, fun q2 nq2 => ?_⟩
          generalize f2 : upd J1 q2 _ = J2
          have M2 := newAt M1.T nq2 f2
          refine ⟨by show 2 ≤ sizeLine; decide, fun q3 nq3 => ?_⟩
          generalize f3 : upd J2 q3 _ = J3
          have M3 := newAt M2.T nq3 f3
          have sJ3 := (M1.s.trans M2.s).trans M3.s
          have cJ3 := (M1.c.trans M2.c).trans M3.c
          have dJ : DimsAt K J3 lo ds := ⟨xs, SqL.of (ct_sub _ _ (cJ3 _ _ (s610 _ _ (s36 _ _ hl3)))), PySem.Paired.mono (fun _ _ => DimAt.same (((s36.trans s610).trans cJ3).trans ct_sub)) hp3⟩
          have mJ : SqL K J3 mo (ms.map V.str) := SqL.of (ct_sub _ _ (cJ3 _ _ (s610 _ _ (s36 _ _ hm3))))
          have rJ3 := Rw.same (ct_sub.trans sJ3) r10
          refine ⟨_, rfl, _, rfl, _, rfl, lo, mo, pr, rr, ds, ms, rfl, dJ, mJ, rJ3, ok, fun J4 t4 => ?_⟩
          refine .inr ⟨_, rfl, ?_⟩
          have sJ4 := sJ3.trans t4
          have T4 := M3.T.same t4
          have P4 := PlanAt.same sJ4 PJ
          have r4 := Rw.same t4 rJ3
          cases fi : rr.fits ds ms with
          | true =>
            refine ⟨q3, _, _, _, rfl, rfl, SqL.of (t4 _ _ M3.f), atI_nat (j := 1) rfl, ?_⟩
            refine set_st (σ' := [some (.ref l), some (.ref a), some (.int (0 + (i : Int))), some (.ref lo), some (.ref mo), some (.ref x), some (.int (0 + (j : Int))), some (.ref pr), some (.ref q2)]) rfl ?_
            have d4 := t4 _ _ (M3.s _ _ M2.f)
            refine ⟨_, rfl, _, rfl, _, rfl, _, _, rfl, rfl, (by show (0 : Int) < 2; decide), rfl, x, pr, _, rr, ds, ms, rfl, P4, r4, o10, fun _ q5 J5 t5 n5 h5 => ?_, fun z => absurd (fi.symm.trans z) (by decide)⟩
            refine ⟨_, rfl, .list [], .list [], .lst (SqL.of h5) .nil, .lst (SqL.of (t5 _ _ d4)) .nil, shaped_nil5, shaped_nil5, _, rfl, iteF0 (by decide +kernel) ?_⟩
            refine ⟨_, rfl, _, rfl, x, pr, _, rr, ds, ms, rfl, PlanAt.same t5 P4, Rw.same t5 r4, o10, fun _ q6 J6 t6 n6 h6 => ?_, fun z => absurd (fi.symm.trans z) (by decide)⟩
            refine ⟨_, rfl, .list [], .list [], .lst (SqL.of h6) .nil, .lst (SqL.of (t6 _ _ (t5 _ _ d4))) .nil, shaped_nil5, shaped_nil5, _, rfl, iteF0 (by decide +kernel) ?_⟩
            exact ⟨_, _, _, rfl, (T4.same (t5.trans t6)).mono (by omega), s610.trans (ct_same (sJ4.trans (t5.trans t6)))⟩
          | false =>
            refine ⟨q3, _, _, _, rfl, rfl, SqL.of (t4 _ _ M3.f), atI_nat (j := 0) rfl, ?_⟩
            refine set_st (σ' := [some (.ref l), some (.ref a), some (.int (0 + (i : Int))), some (.ref lo), some (.ref mo), some (.ref x), some (.int (0 + (j : Int))), some (.ref pr), some (.ref q1)]) rfl ?_
            have d4 := t4 _ _ (M3.s _ _ (M2.s _ _ M1.f))
            have sh := due_sh o10
            refine ⟨_, rfl, _, rfl, _, rfl, _, _, rfl, rfl, (by show (0 : Int) < 2; decide), rfl, x, pr, _, rr, ds, ms, rfl, P4, r4, o10, fun z => absurd (fi.symm.trans z) (by decide), fun _ q5 J5 t5 n5 h5 => ?_⟩
            have r5 := Rw.same t5 r4
            refine ⟨_, rfl, dueD rr, dueD rr, due_dp r5 h5, due_dp r5 (t5 _ _ d4), sh, sh, _, rfl, ?_⟩
            rw [eqv_self sh]
            refine iteF0 (by decide) ?_
            refine ⟨_, rfl, _, rfl, x, pr, _, rr, ds, ms, rfl, PlanAt.same t5 P4, r5, o10, fun z => absurd (fi.symm.trans z) (by decide), fun _ q6 J6 t6 n6 h6 => ?_⟩
            have r6 := Rw.same t6 r5
            refine ⟨_, rfl, dueD rr, dueD rr, due_dp r6 h6, due_dp r6 (t6 _ _ (t5 _ _ d4)), sh, sh, _, rfl, ?_⟩
            rw [eqv_self sh]
            refine iteF0 (by decide) ?_
            exact ⟨_, _, _, rfl, (T4.same (t5.trans t6)).mono (by omega), s610.trans (ct_same (sJ4.trans (t5.trans t6)))⟩
      · rintro σ H8 ⟨y6, y7, y8, rfl, T8, s68⟩
        have s38 := s36.trans s68
        have P8 : PlanAt K C H8 x ds ms := PlanAt.same (s68.trans ct_sub) P6
        refine ⟨_, rfl, _, rfl, lo, xs, rfl, .inl (SqL.of (ct_sub _ _ (s38 _ _ hl3))), fun ph2 nh2 => ?_⟩
        generalize e9 : upd H8 ph2 _ = H9
        have N9 := newAt T8 nh2 e9
        refine ⟨_, rfl, mo, _, rfl, .inl (SqL.of (N9.s _ _ (ct_sub _ _ (s38 _ _ hm3)))), fun pb2 nb2 => ?_⟩
        generalize e10 : upd H9 pb2 _ = H10
        have N10 := newAt N9.T nb2 e10
        have p10 : Paired (DimAt K H10) xs ds := PySem.Paired.mono (fun _ _ => DimAt.same ((s38.trans ct_sub).trans (N9.s.trans N10.s))) hp3
        refine fun y dy ny ndy ney => ?_
        refine init_good ⟨xs, SqL.of (N10.s _ _ N9.f), p10⟩ (.inl (SqL.of N10.f)) ok.szd ok.ff ny ndy ney fun H11 hM => ?_
        have s811 := (N9.s.trans N10.s).trans hM.s
        have P11 := PlanAt.same s811 P8
        have Q11 : PlanAt K C H11 y ds ms := PlanAt.same ct_sub (hM.ct N10.T)
        obtain ⟨ex, ea, eb, exs, x1, _⟩ := id P11.ex
        obtain ⟨ey, fa, fb, fxs, y1, _⟩ := id Q11.ex
        refine ⟨x, y, ex, ey, _, _, rfl, rfl, x1, y1, x, y, ds, ms, ds, ms, rfl, P11, Q11, shp_good ok, shp_good ok, _, rfl, ?_⟩
        rw [show plE ds ms ds ms = true by unfold plE; rw [eqv_self (shp_good ok).1, eqv_self (shp_good ok).2]; rfl]
        refine ⟨_, rfl, iteF ?_⟩
        exact ⟨_, _, _, _, _, _, _, rfl, (T8.same s811).mono (by omega), ((s38.trans (ct_same s811))).seq S3⟩
    · rintro σ H2 ⟨x2, x3, x4, x5, x6, x7, x8, rfl, T2, S2⟩
      exact k H2
end
end Kd

namespace Kd
open PySem PySem.Spec PyProof.Rows L2 KdXc
section
variable {P : Program} {w : World} {K : PySem.W.Frag} {mg : Str → Option Value} {base : Heap} {f : Addr} {fd : FuncData}
theorem kw_NoTime (F : FnP K "__init__" "NoTime.__init__" s_NoTime_init f fd) : ∀ (s : Shared) (a v : Value), K.In s.heap → BindsTo s fd ⟨[a], [("what", v)]⟩ ((["self", "what"] : List Str).zip [a, v]) := by
  obtain ⟨oc, od, dV, kV, doc, pm, an, cdv, ct, osl, rfl, lk, hcd, hD, hK⟩ := F.ex
  rcases hD with ⟨_, rfl⟩ | ⟨e, _⟩
  · exact fun s a v X => BindsTo.of_looks fun M => PySem.W.Looks.of_pure rfl
  · exact absurd rfl e
theorem kw_DayError (F : FnP K "__init__" "DayError.__init__" s_DayError_init f fd) : ∀ (s : Shared) (a v : Value), K.In s.heap → BindsTo s fd ⟨[a], [("what", v)]⟩ ((["self", "what"] : List Str).zip [a, v]) := by
  obtain ⟨oc, od, dV, kV, doc, pm, an, cdv, ct, osl, rfl, lk, hcd, hD, hK⟩ := F.ex
  rcases hD with ⟨_, rfl⟩ | ⟨e, _⟩
  · exact fun s a v X => BindsTo.of_looks fun M => PySem.W.Looks.of_pure rfl
  · exact absurd rfl e
theorem kw_NoThing (F : FnP K "__init__" "NoThing.__init__" s_NoThing_init f fd) : ∀ (s : Shared) (a v : Value), K.In s.heap → BindsTo s fd ⟨[a], [("what", v)]⟩ ((["self", "what"] : List Str).zip [a, v]) := by
  obtain ⟨oc, od, dV, kV, doc, pm, an, cdv, ct, osl, rfl, lk, hcd, hD, hK⟩ := F.ex
  rcases hD with ⟨_, rfl⟩ | ⟨e, _⟩
  · exact fun s a v X => BindsTo.of_looks fun M => PySem.W.Looks.of_pure rfl
  · exact absurd rfl e
end
end Kd

namespace Kd
open PySem PySem.Spec PyProof.Rows L2
/-! ### what the head says of a tuple of texts and of a class -/
def strB : List Str → List Value → Bool
  | [], [] => true
  | z :: zs, .str y _ :: vs => decide (y = z) && strB zs vs
  | _, _ => false
theorem strB_ok : ∀ {zs : List Str} {vs : List Value}, strB zs vs = true → Vals (zs.map V.str) vs
  | [], [], _ => .nil
  | [], _ :: _, h => by cases h
  | _ :: _, [], h => by cases h
  | z :: zs, v :: vs, h => by
    cases v with
    | str y t =>
      obtain ⟨h1, h2⟩ := He.ba (show (decide (y = z) && strB zs vs) = true from h)
      have e : y = z := of_decide_eq_true h1
      subst e
      exact .cons ⟨t, rfl⟩ (strB_ok h2)
    | _ => cases h
def tupB (K : PySem.W.Frag) (a : Addr) (zs : List Str) : Bool := match K.lookup a with
  | some ⟨.type c, _, .seq its _, _⟩ => decide (c = "tuple") && (decide (its.size ≤ 4000) && strB zs its.toList)
  | _ => false
theorem tupB_ok {K : PySem.W.Frag} {a : Addr} {zs : List Str} (h : tupB K a zs = true) (H : Hp) : SqT K H a (zs.map V.str) := by
  unfold tupB at h
  cases q : K.lookup a with
  | none => rw [q] at h; cases h
  | some o =>
    obtain ⟨oc, od, dt, sl⟩ := o
    rw [q] at h
    cases oc with
    | type c =>
      cases dt with
      | seq its n =>
        obtain ⟨h1, h⟩ := He.ba (show (decide (c = "tuple") && (decide (its.size ≤ 4000) && strB zs its.toList)) = true from h)
        obtain ⟨h2, h3⟩ := He.ba h
        exact .inr ⟨_, its, n, q, congrArg Value.type (of_decide_eq_true h1), rfl, le_line (of_decide_eq_true h2), strB_ok h3⟩
      | _ => cases h
    | _ => cases dt <;> cases h
def clsB (K : PySem.W.Frag) (C : Addr) : Bool := He.eqO (PySem.W.findIn K (.ref C) "__class__") (some (some (.builtin "object.__class__"))) && (He.eqO (PySem.W.specialIn K (.builtin "object.__class__") "__get__") (some (some (.builtin "getset_descriptor.__get__"))) &&
  (decide (PySem.W.takesIn K (.builtin "object.__class__") = some true) && (decide (PySem.W.mroIn K C (.type "object") = some true) && decide (PySem.W.kitOne K (.ref C) (.ref C) = some true))))
theorem clsB_ok {K : PySem.W.Frag} {C : Addr} (h : clsB K C = true) (cl : Cls K C) : (∀ (H : Hp) (x dx : Addr) (fs : List (Str × V)), H x = some (.ins C dx fs) → TyOf K H (.ref x) (.ref C)) ∧ PySem.W.kitOne K (.ref C) (.ref C) = some true := by
  obtain ⟨h1, h⟩ := He.ba h
  obtain ⟨h2, h⟩ := He.ba h
  obtain ⟨h3, h⟩ := He.ba h
  obtain ⟨h4, h5⟩ := He.ba h
  exact ⟨fun H x dx fs e => .ins e cl (He.eqO_ok h1) (He.eqO_ok h2) (of_decide_eq_true h3) (of_decide_eq_true h4), of_decide_eq_true h5⟩
end Kd

namespace Kd
open PySem PySem.Spec PyProof.Rows L2 LamX
def d_DayError_init : He.DefD := ⟨("DayError", some "__init__"), "__init__", "DayError.__init__", defArgs s_DayError_init, defBody s_DayError_init, defScope s_DayError_init, [], []⟩
def d_NoPlan_init : He.DefD := ⟨("NoPlan", some "__init__"), "__init__", "NoPlan.__init__", defArgs s_NoPlan_init, defBody s_NoPlan_init, defScope s_NoPlan_init, [], []⟩
def d_NoRow_init : He.DefD := ⟨("NoRow", some "__init__"), "__init__", "NoRow.__init__", defArgs s_NoRow_init, defBody s_NoRow_init, defScope s_NoRow_init, [], []⟩
def d_NoFact_init : He.DefD := ⟨("NoFact", some "__init__"), "__init__", "NoFact.__init__", defArgs s_NoFact_init, defBody s_NoFact_init, defScope s_NoFact_init, [], []⟩
def d_NoThing_init : He.DefD := ⟨("NoThing", some "__init__"), "__init__", "NoThing.__init__", defArgs s_NoThing_init, defBody s_NoThing_init, defScope s_NoThing_init, [], []⟩
def d_Twice_init : He.DefD := ⟨("Twice", some "__init__"), "__init__", "Twice.__init__", defArgs s_Twice_init, defBody s_Twice_init, defScope s_Twice_init, [], []⟩
def d_NoGroup_init : He.DefD := ⟨("NoGroup", some "__init__"), "__init__", "NoGroup.__init__", defArgs s_NoGroup_init, defBody s_NoGroup_init, defScope s_NoGroup_init, [], []⟩
def d_NoMeasure_init : He.DefD := ⟨("NoMeasure", some "__init__"), "__init__", "NoMeasure.__init__", defArgs s_NoMeasure_init, defBody s_NoMeasure_init, defScope s_NoMeasure_init, [], []⟩
def d_NoWatch_init : He.DefD := ⟨("NoWatch", some "__init__"), "__init__", "NoWatch.__init__", defArgs s_NoWatch_init, defBody s_NoWatch_init, defScope s_NoWatch_init, [], []⟩
def d_NoTime_init : He.DefD := ⟨("NoTime", some "__init__"), "__init__", "NoTime.__init__", defArgs s_NoTime_init, defBody s_NoTime_init, defScope s_NoTime_init, [], []⟩
def d_NoText_init : He.DefD := ⟨("NoText", some "__init__"), "__init__", "NoText.__init__", defArgs s_NoText_init, defBody s_NoText_init, defScope s_NoText_init, [], []⟩
def d_NoDeskRow_init : He.DefD := ⟨("NoDeskRow", some "__init__"), "__init__", "NoDeskRow.__init__", defArgs s_NoDeskRow_init, defBody s_NoDeskRow_init, defScope s_NoDeskRow_init, [], []⟩
def d_is_name : He.DefD := ⟨("is_name", none), "is_name", "is_name", defArgs s_is_name, defBody s_is_name, defScope s_is_name, [], []⟩
def d_is_made_of : He.DefD := ⟨("is_made_of", none), "is_made_of", "is_made_of", defArgs s_is_made_of, defBody s_is_made_of, defScope s_is_made_of, [], []⟩
def d_Plan_init : He.DefD := ⟨("Plan", some "__init__"), "__init__", "Plan.__init__", defArgs s_Plan_init, defBody s_Plan_init, defScope s_Plan_init, [.adr (He.dflAt ("Plan", some "__init__") 0)], []⟩
def d_Plan_dimensions : He.DefD := ⟨("Plan", some "dimensions"), "dimensions", "Plan.dimensions", defArgs s_Plan_dimensions, defBody s_Plan_dimensions, defScope s_Plan_dimensions, [], []⟩
def d_Plan_measures : He.DefD := ⟨("Plan", some "measures"), "measures", "Plan.measures", defArgs s_Plan_measures, defBody s_Plan_measures, defScope s_Plan_measures, [], []⟩
def d_Plan_eq : He.DefD := ⟨("Plan", some "__eq__"), "__eq__", "Plan.__eq__", defArgs s_Plan_eq, defBody s_Plan_eq, defScope s_Plan_eq, [], []⟩
def d_Plan_ne : He.DefD := ⟨("Plan", some "__ne__"), "__ne__", "Plan.__ne__", defArgs s_Plan_ne, defBody s_Plan_ne, defScope s_Plan_ne, [], []⟩
def d_first_fault : He.DefD := ⟨("first_fault", none), "first_fault", "first_fault", defArgs s_first_fault, defBody s_first_fault, defScope s_first_fault, [], []⟩
def d_are_faulty : He.DefD := ⟨("are_faulty", none), "are_faulty", "are_faulty", defArgs s_are_faulty, defBody s_are_faulty, defScope s_are_faulty, [], []⟩
def d_attributes_of : He.DefD := ⟨("attributes_of", none), "attributes_of", "attributes_of", defArgs s_attributes_of, defBody s_attributes_of, defScope s_attributes_of, [], []⟩
def d_look : He.DefD := ⟨("look", none), "look", "look", defArgs s_look, defBody s_look, defScope s_look, [], []⟩
def d_has_form : He.DefD := ⟨("has_form", none), "has_form", "has_form", defArgs s_has_form, defBody s_has_form, defScope s_has_form, [], []⟩
def d_kind_fits : He.DefD := ⟨("kind_fits", none), "kind_fits", "kind_fits", defArgs s_kind_fits, defBody s_kind_fits, defScope s_kind_fits, [], []⟩
def d_fact_fits : He.DefD := ⟨("fact_fits", none), "fact_fits", "fact_fits", defArgs s_fact_fits, defBody s_fact_fits, defScope s_fact_fits, [], []⟩
def d_l_tray : He.DefD := ⟨("_law_tray", none), "_law_tray", "_law_tray", defArgs s_l_tray, defBody s_l_tray, defScope s_l_tray, [], []⟩
def d_l_draw : He.DefD := ⟨("_law_draw", none), "_law_draw", "_law_draw", defArgs s_l_draw, defBody s_l_draw, defScope s_l_draw, [], []⟩
def d_l_great : He.DefD := ⟨("_law_great", none), "_law_great", "_law_great", defArgs s_l_great, defBody s_l_great, defScope s_l_great, [], []⟩
def d_l_name : He.DefD := ⟨("_law_name", none), "_law_name", "_law_name", defArgs s_l_name, defBody s_l_name, defScope s_l_name, [], []⟩
def d_l_names : He.DefD := ⟨("_law_names", none), "_law_names", "_law_names", defArgs s_l_names, defBody s_l_names, defScope s_l_names, [], []⟩
def d_l_lists : He.DefD := ⟨("_law_lists", none), "_law_lists", "_law_lists", defArgs s_l_lists, defBody s_l_lists, defScope s_l_lists, [], []⟩
def d_l_text : He.DefD := ⟨("_law_text", none), "_law_text", "_law_text", defArgs s_l_text, defBody s_l_text, defScope s_l_text, [], []⟩
def d_l_whole : He.DefD := ⟨("_law_whole", none), "_law_whole", "_law_whole", defArgs s_l_whole, defBody s_l_whole, defScope s_l_whole, [], []⟩
def d_l_value : He.DefD := ⟨("_law_value", none), "_law_value", "_law_value", defArgs s_l_value, defBody s_l_value, defScope s_l_value, [], []⟩
def d_l_row : He.DefD := ⟨("_law_row", none), "_law_row", "_law_row", defArgs s_l_row, defBody s_l_row, defScope s_l_row, [], []⟩
def d_l_many_otherwise : He.DefD := ⟨("_law_many_otherwise", none), "_law_many_otherwise", "_law_many_otherwise", defArgs s_l_many_otherwise, defBody s_l_many_otherwise, defScope s_l_many_otherwise, [], []⟩
def d_l_row_spoilt : He.DefD := ⟨("_law_row_spoilt", none), "_law_row_spoilt", "_law_row_spoilt", defArgs s_l_row_spoilt, defBody s_l_row_spoilt, defScope s_l_row_spoilt, [], []⟩
def d_l_good : He.DefD := ⟨("_law_good", none), "_law_good", "_law_good", defArgs s_l_good, defBody s_l_good, defScope s_l_good, [], []⟩
def d_l_refused : He.DefD := ⟨("_law_refused", none), "_law_refused", "_law_refused", defArgs s_l_refused, defBody s_l_refused, defScope s_l_refused, [], []⟩
def d_l_errors_right : He.DefD := ⟨("_law_errors_right", none), "_law_errors_right", "_law_errors_right", defArgs s_l_errors_right, defBody s_l_errors_right, defScope s_l_errors_right, [], []⟩
def d_law : He.DefD := ⟨("law", none), "law", "law", defArgs s_law, defBody s_law, defScope s_law, [], []⟩
def fn : List He.DefD := [d_DayError_init, d_NoPlan_init, d_NoRow_init, d_NoFact_init, d_NoThing_init, d_Twice_init, d_NoGroup_init, d_NoMeasure_init, d_NoWatch_init, d_NoTime_init, d_NoText_init, d_NoDeskRow_init, d_is_name, d_is_made_of, d_Plan_init, d_Plan_dimensions, d_Plan_measures, d_Plan_eq, d_Plan_ne, d_first_fault, d_are_faulty, d_attributes_of, d_look, d_has_form, d_kind_fits, d_fact_fits, d_l_tray, d_l_draw, d_l_great, d_l_name, d_l_names, d_l_lists, d_l_text, d_l_whole, d_l_value, d_l_row, d_l_many_otherwise, d_l_row_spoilt, d_l_good, d_l_refused, d_l_errors_right, d_law]
def fa : List He.Fa := [(.glo "DayError" : He.Fa), (.glo "NoPlan" : He.Fa), (.glo "NoRow" : He.Fa), (.glo "NoFact" : He.Fa), (.glo "NoThing" : He.Fa), (.glo "Twice" : He.Fa), (.glo "NoGroup" : He.Fa), (.glo "NoMeasure" : He.Fa), (.glo "NoWatch" : He.Fa), (.glo "NoTime" : He.Fa), (.glo "NoText" : He.Fa), (.glo "NoDeskRow" : He.Fa), (.glo "Plan" : He.Fa), (.glo "is_name" : He.Fa), (.glo "is_made_of" : He.Fa), (.glo "first_fault" : He.Fa), (.glo "are_faulty" : He.Fa), (.glo "attributes_of" : He.Fa), (.glo "look" : He.Fa), (.glo "has_form" : He.Fa), (.glo "kind_fits" : He.Fa), (.glo "fact_fits" : He.Fa), (.glo "_law_tray" : He.Fa), (.glo "_law_draw" : He.Fa), (.glo "_law_great" : He.Fa), (.glo "_law_name" : He.Fa), (.glo "_law_names" : He.Fa), (.glo "_law_lists" : He.Fa), (.glo "_law_text" : He.Fa), (.glo "_law_whole" : He.Fa), (.glo "_law_value" : He.Fa), (.glo "_law_row" : He.Fa), (.glo "_law_many_otherwise" : He.Fa), (.glo "_law_row_spoilt" : He.Fa), (.glo "_law_good" : He.Fa), (.glo "_law_refused" : He.Fa), (.glo "_law_errors_right" : He.Fa), (.glo "law" : He.Fa), (.str "SMALL_LETTERS" "abcdefghijklmnopqrstuvwxyz" : He.Fa), (.int "LONGEST_NAME" 8 : He.Fa), (.int "MOST_DIMENSIONS" 4 : He.Fa), (.int "MOST_ATTRIBUTES" 5 : He.Fa), (.int "MOST_MEASURES" 4 : He.Fa), (.free "ValueError" : He.Fa), (.free "all" : He.Fa), (.free "int" : He.Fa), (.free "isinstance" : He.Fa), (.free "len" : He.Fa), (.free "list" : He.Fa), (.free "max" : He.Fa), (.free "range" : He.Fa), (.free "repr" : He.Fa), (.free "set" : He.Fa), (.free "tuple" : He.Fa), (.cls "Plan" : He.Fa), (.mkr "Plan" : He.Fa), (.noat "Plan" "dimension_list" : He.Fa), (.noat "Plan" "measure_list" : He.Fa), (.meth "Plan" "dimensions" : He.Fa), (.meth "Plan" "measures" : He.Fa), (.meth "Plan" "__eq__" : He.Fa), (.meth "Plan" "__ne__" : He.Fa)]
def loose : List PySem.Str := [("DayError" : PySem.Str), ("NoPlan" : PySem.Str), ("NoRow" : PySem.Str), ("NoFact" : PySem.Str), ("NoThing" : PySem.Str), ("Twice" : PySem.Str), ("NoGroup" : PySem.Str), ("NoMeasure" : PySem.Str), ("NoWatch" : PySem.Str), ("NoTime" : PySem.Str), ("NoText" : PySem.Str), ("NoDeskRow" : PySem.Str), ("SMALL_LETTERS" : PySem.Str), ("LONGEST_NAME" : PySem.Str), ("is_name" : PySem.Str), ("is_made_of" : PySem.Str), ("MOST_DIMENSIONS" : PySem.Str), ("MOST_ATTRIBUTES" : PySem.Str), ("MOST_MEASURES" : PySem.Str), ("Plan" : PySem.Str), ("first_fault" : PySem.Str), ("are_faulty" : PySem.Str), ("attributes_of" : PySem.Str), ("look" : PySem.Str), ("has_form" : PySem.Str), ("kind_fits" : PySem.Str), ("fact_fits" : PySem.Str), ("_law_tray" : PySem.Str), ("_law_draw" : PySem.Str), ("_law_great" : PySem.Str), ("_law_name" : PySem.Str), ("_law_names" : PySem.Str), ("_law_lists" : PySem.Str), ("_law_text" : PySem.Str), ("_law_whole" : PySem.Str), ("_law_value" : PySem.Str), ("_law_row" : PySem.Str), ("_law_many_otherwise" : PySem.Str), ("_law_row_spoilt" : PySem.Str), ("_law_good" : PySem.Str), ("_law_refused" : PySem.Str), ("_law_errors_right" : PySem.Str)]
/-! ### the head: the facts, and that a def's default is the empty tuple -/
def exB0 (K : PySem.W.Frag) : Bool := match K.lookup (He.dflAt ("Plan", some "__init__") 0 K) with
  | some ⟨.type c, _, .seq its _, _⟩ => decide (c = "tuple") && decide (its.toList = [])
  | _ => false
theorem exB0_ok {K : PySem.W.Frag} (h : exB0 K = true) (H : Hp) : SqT K H (He.dflAt ("Plan", some "__init__") 0 K) [] := by
  unfold exB0 at h
  cases q : K.lookup (He.dflAt ("Plan", some "__init__") 0 K) with
  | none => rw [q] at h; cases h
  | some o =>
    obtain ⟨oc, od, dt, sl⟩ := o
    rw [q] at h
    cases oc with
    | type c =>
      cases dt with
      | seq its n =>
        obtain ⟨h1, h2⟩ := He.ba (show (decide (c = "tuple") && decide (its.toList = [])) = true from h)
        have h3 : its.toList = [] := of_decide_eq_true h2
        refine .inr ⟨_, its, n, q, congrArg Value.type (of_decide_eq_true h1), rfl, ?_, by rw [h3]; exact .nil⟩
        have h4 : its.size = 0 := by rw [← Array.length_toList, h3]; rfl
        rw [h4]
        exact Nat.zero_le _
      | _ => cases h
    | _ => cases dt <;> cases h
def exO (K : PySem.W.Frag) : List Addr := [He.ga K "NoDeskRow", He.ga K "NoFact", He.ga K "NoGroup", He.ga K "NoMeasure", He.ga K "NoPlan", He.ga K "NoText", He.ga K "NoThing", He.ga K "NoTime"]
def exU (K : PySem.W.Frag) : List Addr := [He.ga K "NoWatch", He.ga K "Twice"]
def exX (K : PySem.W.Frag) : Bool := clsB K (He.ga K "Plan") && (decide (PySem.W.kitOne K (.ref (He.ga K "NoRow")) (.ref (He.ga K "DayError")) = some true) && (decide (PySem.W.kitOne K (.ref (He.ga K "NoRow")) (.type "ValueError") = some true) && (decide (PySem.W.kitAny K (.ref (He.ga K "NoRow")) ((exO K).map Value.ref) = some false) && (decide (PySem.W.kitAny K (.ref (He.ga K "NoRow")) ((exU K).map Value.ref) = some false) && (KdXc.cfnB K (He.ga K "DayError") (He.fAd K ("DayError", some "__init__")) "__init__" && (KdXc.veB K && (KdXc.errB K (He.ga K "DayError") (He.fAd K ("DayError", some "__init__")) && (KdXc.errB K (He.ga K "NoPlan") (He.fAd K ("NoPlan", some "__init__")) && (KdXc.errB K (He.ga K "NoFact") (He.fAd K ("NoFact", some "__init__")) && (KdXc.errB K (He.ga K "NoTime") (He.fAd K ("NoTime", some "__init__")) && (KdXc.errB K (He.ga K "NoThing") (He.fAd K ("NoThing", some "__init__")) && (KdXc.errB K (He.ga K "Twice") (He.fAd K ("Twice", some "__init__")) && (KdXc.errB K (He.ga K "NoGroup") (He.fAd K ("NoGroup", some "__init__")) && (KdXc.errB K (He.ga K "NoMeasure") (He.fAd K ("NoMeasure", some "__init__")) && (KdXc.errB K (He.ga K "NoWatch") (He.fAd K ("NoWatch", some "__init__")) && (KdXc.errB K (He.ga K "NoText") (He.fAd K ("NoText", some "__init__")) && (KdXc.errB K (He.ga K "NoDeskRow") (He.fAd K ("NoDeskRow", some "__init__")) && (KdXc.errB K (He.ga K "NoRow") (He.fAd K ("NoRow", some "__init__"))))))))))))))))))))
def exB (K : PySem.W.Frag) : Bool := exB0 K && exX K
theorem exB_ok {K : PySem.W.Frag} (h : exB K = true) (H : Hp) : SqT K H (He.dflAt ("Plan", some "__init__") 0 K) [] := exB0_ok (He.ba h).1 H
def asC (g : Addr → Option Obj) : List Addr := He.asD g 6 ++ [cStatics]
def hkE : PySem.W.Hook where
  α := He.AlD × Bool
  obs := fun s => (He.obsD fa fn (He.frG s.heap.get? (asC s.heap.get?)), exB (He.frG s.heap.get? (asC s.heap.get?)))
  val := fun _ => (He.valD fn, true)
  says := fun _ h => ∃ K : PySem.W.Frag, K.In h ∧ He.SaysD fa fn K ∧ exB K = true
  of := fun _ s e => ⟨He.frG s.heap.get? (asC s.heap.get?), He.frG_in, congrArg (fun z : He.AlD × Bool => z.1) e, congrArg (fun z : He.AlD × Bool => z.2) e⟩
  keeps := fun _ _ _ ⟨K, hK, c⟩ k => ⟨K, PySem.W.Frag.In.keeps hK k, c⟩
abbrev R : PySem.W.OpenRow := PySem.W.OpenLaw.row PySem.Challenge.rw_kindsofday_k04_rows_of_a_plan
def ob (s : PySem.W.SharedT) : He.AlD × Bool := (He.obsD fa fn (He.frG (HandSHeadRun.getT s) (asC (HandSHeadRun.getT s))), exB (He.frG (HandSHeadRun.getT s) (asC (HandSHeadRun.getT s))))
theorem ob_eq (s : PySem.W.SharedT) : ob s = hkE.obs s.abs := by
  have e : HandSHeadRun.getT s = s.abs.heap.get? := funext (HandSHeadRun.getT_eq s)
  unfold ob
  rw [e]
  rfl
theorem run (w : World) : HandSHeadRun.RunEq R (PySem.W.view R.prog [46]) hkE ob 9000 loose w := by
  intro os
  kernel_rfl
theorem code_at {K : PySem.W.Frag} {x qual : Str} {ps : Arguments} {bd : List Stmt} {sc : Scope} {dv : List V} {kw : List (Str × V)} {p : Str × Option Str} {fd : FuncData} (F : FunD K x qual ps bd sc dv kw (He.fAd K p) fd) : fd.code = .ref (He.cT K p).1 := by
  obtain ⟨oc, od, dV, kV, doc, pm, an, cdv, ct, osl, rfl, lk, hcd, _, _⟩ := F.ex
  obtain ⟨c, e⟩ := He.codeIn_ref hcd
  subst e
  have q := He.codeOf_eq (c := c) lk rfl
  show Value.ref c = Value.ref (He.codeOf K p)
  rw [q]
theorem facts {P : Program} {w : World} {K : PySem.W.Frag} {h : Heap} {mg : Str → Option Value} {f : Addr} (X : K.In h) (G : h.Ns mainGlobals mg) (hfa : mg ("law" : Str) = some (.ref f)) (c : He.SaysD fa fn K) (ce : exB K = true) :
    ∃ fd : FuncData, (∀ (s : Shared) (v : Value), BindsTo s fd ⟨[v], []⟩ [("script", v)]) ∧ ∀ base : Heap, K.In base → base.Ns mainGlobals mg → FnOk P w K mg base CX0 8 f fd ["script"] (spLaw K) := by
  obtain ⟨fd_DayError_init, F_DayError_init⟩ := c.def_ 0 (d := d_DayError_init) rfl
  obtain ⟨fd_NoPlan_init, F_NoPlan_init⟩ := c.def_ 1 (d := d_NoPlan_init) rfl
  obtain ⟨fd_NoRow_init, F_NoRow_init⟩ := c.def_ 2 (d := d_NoRow_init) rfl
  obtain ⟨fd_NoFact_init, F_NoFact_init⟩ := c.def_ 3 (d := d_NoFact_init) rfl
  obtain ⟨fd_NoThing_init, F_NoThing_init⟩ := c.def_ 4 (d := d_NoThing_init) rfl
  obtain ⟨fd_Twice_init, F_Twice_init⟩ := c.def_ 5 (d := d_Twice_init) rfl
  obtain ⟨fd_NoGroup_init, F_NoGroup_init⟩ := c.def_ 6 (d := d_NoGroup_init) rfl
  obtain ⟨fd_NoMeasure_init, F_NoMeasure_init⟩ := c.def_ 7 (d := d_NoMeasure_init) rfl
  obtain ⟨fd_NoWatch_init, F_NoWatch_init⟩ := c.def_ 8 (d := d_NoWatch_init) rfl
  obtain ⟨fd_NoTime_init, F_NoTime_init⟩ := c.def_ 9 (d := d_NoTime_init) rfl
  obtain ⟨fd_NoText_init, F_NoText_init⟩ := c.def_ 10 (d := d_NoText_init) rfl
  obtain ⟨fd_NoDeskRow_init, F_NoDeskRow_init⟩ := c.def_ 11 (d := d_NoDeskRow_init) rfl
  obtain ⟨fd_is_name, F_is_name⟩ := c.def_ 12 (d := d_is_name) rfl
  obtain ⟨fd_is_made_of, F_is_made_of⟩ := c.def_ 13 (d := d_is_made_of) rfl
  obtain ⟨fd_Plan_init, F_Plan_init⟩ := c.def_ 14 (d := d_Plan_init) rfl
  obtain ⟨fd_Plan_dimensions, F_Plan_dimensions⟩ := c.def_ 15 (d := d_Plan_dimensions) rfl
  obtain ⟨fd_Plan_measures, F_Plan_measures⟩ := c.def_ 16 (d := d_Plan_measures) rfl
  obtain ⟨fd_Plan_eq, F_Plan_eq⟩ := c.def_ 17 (d := d_Plan_eq) rfl
  obtain ⟨fd_Plan_ne, F_Plan_ne⟩ := c.def_ 18 (d := d_Plan_ne) rfl
  obtain ⟨fd_first_fault, F_first_fault⟩ := c.def_ 19 (d := d_first_fault) rfl
  obtain ⟨fd_are_faulty, F_are_faulty⟩ := c.def_ 20 (d := d_are_faulty) rfl
  obtain ⟨fd_attributes_of, F_attributes_of⟩ := c.def_ 21 (d := d_attributes_of) rfl
  obtain ⟨fd_look, F_look⟩ := c.def_ 22 (d := d_look) rfl
  obtain ⟨fd_has_form, F_has_form⟩ := c.def_ 23 (d := d_has_form) rfl
  obtain ⟨fd_kind_fits, F_kind_fits⟩ := c.def_ 24 (d := d_kind_fits) rfl
  obtain ⟨fd_fact_fits, F_fact_fits⟩ := c.def_ 25 (d := d_fact_fits) rfl
  obtain ⟨fd_l_tray, F_l_tray⟩ := c.def_ 26 (d := d_l_tray) rfl
  obtain ⟨fd_l_draw, F_l_draw⟩ := c.def_ 27 (d := d_l_draw) rfl
  obtain ⟨fd_l_great, F_l_great⟩ := c.def_ 28 (d := d_l_great) rfl
  obtain ⟨fd_l_name, F_l_name⟩ := c.def_ 29 (d := d_l_name) rfl
  obtain ⟨fd_l_names, F_l_names⟩ := c.def_ 30 (d := d_l_names) rfl
  obtain ⟨fd_l_lists, F_l_lists⟩ := c.def_ 31 (d := d_l_lists) rfl
  obtain ⟨fd_l_text, F_l_text⟩ := c.def_ 32 (d := d_l_text) rfl
  obtain ⟨fd_l_whole, F_l_whole⟩ := c.def_ 33 (d := d_l_whole) rfl
  obtain ⟨fd_l_value, F_l_value⟩ := c.def_ 34 (d := d_l_value) rfl
  obtain ⟨fd_l_row, F_l_row⟩ := c.def_ 35 (d := d_l_row) rfl
  obtain ⟨fd_l_many_otherwise, F_l_many_otherwise⟩ := c.def_ 36 (d := d_l_many_otherwise) rfl
  obtain ⟨fd_l_row_spoilt, F_l_row_spoilt⟩ := c.def_ 37 (d := d_l_row_spoilt) rfl
  obtain ⟨fd_l_good, F_l_good⟩ := c.def_ 38 (d := d_l_good) rfl
  obtain ⟨fd_l_refused, F_l_refused⟩ := c.def_ 39 (d := d_l_refused) rfl
  obtain ⟨fd_l_errors_right, F_l_errors_right⟩ := c.def_ 40 (d := d_l_errors_right) rfl
  obtain ⟨fd_law, F_law⟩ := c.def_ 41 (d := d_law) rfl
  have e := hfa.symm.trans (He.glo_ok X G (c.fact 37 (f := .glo "law") rfl))
  cases e
  have b := FunD.bindsA (ps := ["script"]) F_law fun _ _ _ _ _ _ us hl => match us, hl with | [_], _ => rfl
  have b_DayError_init : Binds K fd_DayError_init ["self", "what"] [] := FunD.bindsN F_DayError_init fun _ _ _ _ _ _ us hl => match us, hl with | [_, _], _ => rfl
  have b_NoPlan_init : Binds K fd_NoPlan_init ["self", "what"] [] := FunD.bindsN F_NoPlan_init fun _ _ _ _ _ _ us hl => match us, hl with | [_, _], _ => rfl
  have b_NoRow_init : Binds K fd_NoRow_init ["self", "what"] [] := FunD.bindsN F_NoRow_init fun _ _ _ _ _ _ us hl => match us, hl with | [_, _], _ => rfl
  have b_NoFact_init : Binds K fd_NoFact_init ["self", "what"] [] := FunD.bindsN F_NoFact_init fun _ _ _ _ _ _ us hl => match us, hl with | [_, _], _ => rfl
  have b_NoThing_init : Binds K fd_NoThing_init ["self", "what"] [] := FunD.bindsN F_NoThing_init fun _ _ _ _ _ _ us hl => match us, hl with | [_, _], _ => rfl
  have b_Twice_init : Binds K fd_Twice_init ["self", "what"] [] := FunD.bindsN F_Twice_init fun _ _ _ _ _ _ us hl => match us, hl with | [_, _], _ => rfl
  have b_NoGroup_init : Binds K fd_NoGroup_init ["self", "what"] [] := FunD.bindsN F_NoGroup_init fun _ _ _ _ _ _ us hl => match us, hl with | [_, _], _ => rfl
  have b_NoMeasure_init : Binds K fd_NoMeasure_init ["self", "what"] [] := FunD.bindsN F_NoMeasure_init fun _ _ _ _ _ _ us hl => match us, hl with | [_, _], _ => rfl
  have b_NoWatch_init : Binds K fd_NoWatch_init ["self", "what"] [] := FunD.bindsN F_NoWatch_init fun _ _ _ _ _ _ us hl => match us, hl with | [_, _], _ => rfl
  have b_NoTime_init : Binds K fd_NoTime_init ["self", "what"] [] := FunD.bindsN F_NoTime_init fun _ _ _ _ _ _ us hl => match us, hl with | [_, _], _ => rfl
  have b_NoText_init : Binds K fd_NoText_init ["self", "what"] [] := FunD.bindsN F_NoText_init fun _ _ _ _ _ _ us hl => match us, hl with | [_, _], _ => rfl
  have b_NoDeskRow_init : Binds K fd_NoDeskRow_init ["self", "what"] [] := FunD.bindsN F_NoDeskRow_init fun _ _ _ _ _ _ us hl => match us, hl with | [_, _], _ => rfl
  have b_is_name : Binds K fd_is_name ["text"] [] := FunD.bindsN F_is_name fun _ _ _ _ _ _ us hl => match us, hl with | [_], _ => rfl
  have b_is_made_of : Binds K fd_is_made_of ["text", "signs"] [] := FunD.bindsN F_is_made_of fun _ _ _ _ _ _ us hl => match us, hl with | [_, _], _ => rfl
  have b_Plan_dimensions : Binds K fd_Plan_dimensions ["self"] [] := FunD.bindsN F_Plan_dimensions fun _ _ _ _ _ _ us hl => match us, hl with | [_], _ => rfl
  have b_Plan_measures : Binds K fd_Plan_measures ["self"] [] := FunD.bindsN F_Plan_measures fun _ _ _ _ _ _ us hl => match us, hl with | [_], _ => rfl
  have b_Plan_eq : Binds K fd_Plan_eq ["self", "other"] [] := FunD.bindsN F_Plan_eq fun _ _ _ _ _ _ us hl => match us, hl with | [_, _], _ => rfl
  have b_Plan_ne : Binds K fd_Plan_ne ["self", "other"] [] := FunD.bindsN F_Plan_ne fun _ _ _ _ _ _ us hl => match us, hl with | [_, _], _ => rfl
  have b_first_fault : Binds K fd_first_fault ["dimensions", "measures"] [] := FunD.bindsN F_first_fault fun _ _ _ _ _ _ us hl => match us, hl with | [_, _], _ => rfl
  have b_are_faulty : Binds K fd_are_faulty ["names", "most"] [] := FunD.bindsN F_are_faulty fun _ _ _ _ _ _ us hl => match us, hl with | [_, _], _ => rfl
  have b_attributes_of : Binds K fd_attributes_of ["plan", "dimension"] [] := FunD.bindsN F_attributes_of fun _ _ _ _ _ _ us hl => match us, hl with | [_, _], _ => rfl
  have b_look : Binds K fd_look ["plan", "row"] [] := FunD.bindsN F_look fun _ _ _ _ _ _ us hl => match us, hl with | [_, _], _ => rfl
  have b_has_form : Binds K fd_has_form ["plan", "row"] [] := FunD.bindsN F_has_form fun _ _ _ _ _ _ us hl => match us, hl with | [_, _], _ => rfl
  have b_kind_fits : Binds K fd_kind_fits ["plan", "dimension", "values"] [] := FunD.bindsN F_kind_fits fun _ _ _ _ _ _ us hl => match us, hl with | [_, _, _], _ => rfl
  have b_fact_fits : Binds K fd_fact_fits ["plan", "keys", "numbers"] [] := FunD.bindsN F_fact_fits fun _ _ _ _ _ _ us hl => match us, hl with | [_, _, _], _ => rfl
  have b_l_tray : Binds K fd_l_tray ["script"] [] := FunD.bindsN F_l_tray fun _ _ _ _ _ _ us hl => match us, hl with | [_], _ => rfl
  have b_l_draw : Binds K fd_l_draw ["tray", "many"] [] := FunD.bindsN F_l_draw fun _ _ _ _ _ _ us hl => match us, hl with | [_, _], _ => rfl
  have b_l_great : Binds K fd_l_great ["tray"] [] := FunD.bindsN F_l_great fun _ _ _ _ _ _ us hl => match us, hl with | [_], _ => rfl
  have b_l_name : Binds K fd_l_name ["tray", "used"] [] := FunD.bindsN F_l_name fun _ _ _ _ _ _ us hl => match us, hl with | [_, _], _ => rfl
  have b_l_names : Binds K fd_l_names ["tray", "many"] [] := FunD.bindsN F_l_names fun _ _ _ _ _ _ us hl => match us, hl with | [_, _], _ => rfl
  have b_l_lists : Binds K fd_l_lists ["tray", "most", "wide"] [] := FunD.bindsN F_l_lists fun _ _ _ _ _ _ us hl => match us, hl with | [_, _, _], _ => rfl
  have b_l_text : Binds K fd_l_text ["tray"] [] := FunD.bindsN F_l_text fun _ _ _ _ _ _ us hl => match us, hl with | [_], _ => rfl
  have b_l_whole : Binds K fd_l_whole ["tray"] [] := FunD.bindsN F_l_whole fun _ _ _ _ _ _ us hl => match us, hl with | [_], _ => rfl
  have b_l_value : Binds K fd_l_value ["tray"] [] := FunD.bindsN F_l_value fun _ _ _ _ _ _ us hl => match us, hl with | [_], _ => rfl
  have b_l_row : Binds K fd_l_row ["tray", "some", "sums"] [] := FunD.bindsN F_l_row fun _ _ _ _ _ _ us hl => match us, hl with | [_, _, _], _ => rfl
  have b_l_many_otherwise : Binds K fd_l_many_otherwise ["tray", "things", "more"] [] := FunD.bindsN F_l_many_otherwise fun _ _ _ _ _ _ us hl => match us, hl with | [_, _, _], _ => rfl
  have b_l_row_spoilt : Binds K fd_l_row_spoilt ["tray", "line", "some"] [] := FunD.bindsN F_l_row_spoilt fun _ _ _ _ _ _ us hl => match us, hl with | [_, _, _], _ => rfl
  have b_l_good : Binds K fd_l_good ["some", "sums", "line"] [] := FunD.bindsN F_l_good fun _ _ _ _ _ _ us hl => match us, hl with | [_, _, _], _ => rfl
  have b_l_refused : Binds K fd_l_refused ["made", "line", "named"] [] := FunD.bindsN F_l_refused fun _ _ _ _ _ _ us hl => match us, hl with | [_, _, _], _ => rfl
  have b_l_errors_right : Binds K fd_l_errors_right ["many"] [] := FunD.bindsN F_l_errors_right fun _ _ _ _ _ _ us hl => match us, hl with | [_], _ => rfl
  have g_DayError := He.glo_ok X G (c.fact 0 (f := .glo "DayError") rfl)
  have g_NoPlan := He.glo_ok X G (c.fact 1 (f := .glo "NoPlan") rfl)
  have g_NoRow := He.glo_ok X G (c.fact 2 (f := .glo "NoRow") rfl)
  have g_NoFact := He.glo_ok X G (c.fact 3 (f := .glo "NoFact") rfl)
  have g_NoThing := He.glo_ok X G (c.fact 4 (f := .glo "NoThing") rfl)
  have g_Twice := He.glo_ok X G (c.fact 5 (f := .glo "Twice") rfl)
  have g_NoGroup := He.glo_ok X G (c.fact 6 (f := .glo "NoGroup") rfl)
  have g_NoMeasure := He.glo_ok X G (c.fact 7 (f := .glo "NoMeasure") rfl)
  have g_NoWatch := He.glo_ok X G (c.fact 8 (f := .glo "NoWatch") rfl)
  have g_NoTime := He.glo_ok X G (c.fact 9 (f := .glo "NoTime") rfl)
  have g_NoText := He.glo_ok X G (c.fact 10 (f := .glo "NoText") rfl)
  have g_NoDeskRow := He.glo_ok X G (c.fact 11 (f := .glo "NoDeskRow") rfl)
  have g_Plan := He.glo_ok X G (c.fact 12 (f := .glo "Plan") rfl)
  have g_is_name := He.glo_ok X G (c.fact 13 (f := .glo "is_name") rfl)
  have g_is_made_of := He.glo_ok X G (c.fact 14 (f := .glo "is_made_of") rfl)
  have g_first_fault := He.glo_ok X G (c.fact 15 (f := .glo "first_fault") rfl)
  have g_are_faulty := He.glo_ok X G (c.fact 16 (f := .glo "are_faulty") rfl)
  have g_attributes_of := He.glo_ok X G (c.fact 17 (f := .glo "attributes_of") rfl)
  have g_look := He.glo_ok X G (c.fact 18 (f := .glo "look") rfl)
  have g_has_form := He.glo_ok X G (c.fact 19 (f := .glo "has_form") rfl)
  have g_kind_fits := He.glo_ok X G (c.fact 20 (f := .glo "kind_fits") rfl)
  have g_fact_fits := He.glo_ok X G (c.fact 21 (f := .glo "fact_fits") rfl)
  have g_l_tray := He.glo_ok X G (c.fact 22 (f := .glo "_law_tray") rfl)
  have g_l_draw := He.glo_ok X G (c.fact 23 (f := .glo "_law_draw") rfl)
  have g_l_great := He.glo_ok X G (c.fact 24 (f := .glo "_law_great") rfl)
  have g_l_name := He.glo_ok X G (c.fact 25 (f := .glo "_law_name") rfl)
  have g_l_names := He.glo_ok X G (c.fact 26 (f := .glo "_law_names") rfl)
  have g_l_lists := He.glo_ok X G (c.fact 27 (f := .glo "_law_lists") rfl)
  have g_l_text := He.glo_ok X G (c.fact 28 (f := .glo "_law_text") rfl)
  have g_l_whole := He.glo_ok X G (c.fact 29 (f := .glo "_law_whole") rfl)
  have g_l_value := He.glo_ok X G (c.fact 30 (f := .glo "_law_value") rfl)
  have g_l_row := He.glo_ok X G (c.fact 31 (f := .glo "_law_row") rfl)
  have g_l_many_otherwise := He.glo_ok X G (c.fact 32 (f := .glo "_law_many_otherwise") rfl)
  have g_l_row_spoilt := He.glo_ok X G (c.fact 33 (f := .glo "_law_row_spoilt") rfl)
  have g_l_good := He.glo_ok X G (c.fact 34 (f := .glo "_law_good") rfl)
  have g_l_refused := He.glo_ok X G (c.fact 35 (f := .glo "_law_refused") rfl)
  have g_l_errors_right := He.glo_ok X G (c.fact 36 (f := .glo "_law_errors_right") rfl)
  obtain ⟨t_SMALL_LETTERS, g_SMALL_LETTERS⟩ := He.str_ok X G (c.fact 38 (f := .str "SMALL_LETTERS" "abcdefghijklmnopqrstuvwxyz") rfl)
  obtain ⟨t_LONGEST_NAME, g_LONGEST_NAME⟩ := He.int_ok X G (c.fact 39 (f := .int "LONGEST_NAME" 8) rfl)
  obtain ⟨t_MOST_DIMENSIONS, g_MOST_DIMENSIONS⟩ := He.int_ok X G (c.fact 40 (f := .int "MOST_DIMENSIONS" 4) rfl)
  obtain ⟨t_MOST_ATTRIBUTES, g_MOST_ATTRIBUTES⟩ := He.int_ok X G (c.fact 41 (f := .int "MOST_ATTRIBUTES" 5) rfl)
  obtain ⟨t_MOST_MEASURES, g_MOST_MEASURES⟩ := He.int_ok X G (c.fact 42 (f := .int "MOST_MEASURES" 4) rfl)
  have z_ValueError := He.free_ok X G (c.fact 43 (f := .free "ValueError") rfl)
  have z_all := He.free_ok X G (c.fact 44 (f := .free "all") rfl)
  have z_int := He.free_ok X G (c.fact 45 (f := .free "int") rfl)
  have z_isinstance := He.free_ok X G (c.fact 46 (f := .free "isinstance") rfl)
  have z_len := He.free_ok X G (c.fact 47 (f := .free "len") rfl)
  have z_list := He.free_ok X G (c.fact 48 (f := .free "list") rfl)
  have z_max := He.free_ok X G (c.fact 49 (f := .free "max") rfl)
  have z_range := He.free_ok X G (c.fact 50 (f := .free "range") rfl)
  have z_repr := He.free_ok X G (c.fact 51 (f := .free "repr") rfl)
  have z_set := He.free_ok X G (c.fact 52 (f := .free "set") rfl)
  have z_tuple := He.free_ok X G (c.fact 53 (f := .free "tuple") rfl)
  have cls_Plan := He.cls_ok (c.fact 54 (f := .cls "Plan") rfl)
  have mk_Plan := He.mkr_ok (c.fact 55 (f := .mkr "Plan") rfl)
  have no_Plan_dimension_list := He.noat_ok (c.fact 56 (f := .noat "Plan" "dimension_list") rfl)
  have no_Plan_measure_list := He.noat_ok (c.fact 57 (f := .noat "Plan" "measure_list") rfl)
  have me_Plan_dimensions := He.meth_ok (c.fact 58 (f := .meth "Plan" "dimensions") rfl)
  have me_Plan_measures := He.meth_ok (c.fact 59 (f := .meth "Plan" "measures") rfl)
  have me_Plan_eq := He.meth_ok (c.fact 60 (f := .meth "Plan" "__eq__") rfl)
  have me_Plan_ne := He.meth_ok (c.fact 61 (f := .meth "Plan" "__ne__") rfl)
  refine ⟨fd_law, fun s v => b s [v] rfl, fun base _ _ => ?_⟩
  have T : PlTxt K (He.ga K "Plan") := ⟨cls_Plan, no_Plan_dimension_list, no_Plan_measure_list⟩
  have G_md := ok_made (P := P) (w := w) (base := base) F_is_made_of z_all
  have G_is := ok_is_name (P := P) (w := w) (base := base) F_is_name G_md F_is_made_of.kp b_is_made_of g_is_made_of z_len g_SMALL_LETTERS g_LONGEST_NAME
  have G_af := ok_are_faulty (P := P) (w := w) (base := base) F_are_faulty G_is F_is_name.kp b_is_name g_is_name z_len z_set z_all
  have G_ff := ok_first (P := P) (w := w) (base := base) F_first_fault G_af F_are_faulty.kp b_are_faulty g_are_faulty g_MOST_DIMENSIONS g_MOST_ATTRIBUTES g_MOST_MEASURES
  have G_in := ok_init (P := P) (w := w) (base := base) F_Plan_init T G_ff F_first_fault.kp b_first_fault g_first_fault z_tuple z_list
  have hx := (He.ba ce).2
  obtain ⟨hP, hx⟩ := He.ba hx
  obtain ⟨hK1, hx⟩ := He.ba hx
  obtain ⟨hK2, hx⟩ := He.ba hx
  obtain ⟨hK3, hx⟩ := He.ba hx
  obtain ⟨hK4, hx⟩ := He.ba hx
  obtain ⟨hD, hx⟩ := He.ba hx
  obtain ⟨hV, hx⟩ := He.ba hx
  obtain ⟨h_DayError, hx⟩ := He.ba hx
  obtain ⟨h_NoPlan, hx⟩ := He.ba hx
  obtain ⟨h_NoFact, hx⟩ := He.ba hx
  obtain ⟨h_NoTime, hx⟩ := He.ba hx
  obtain ⟨h_NoThing, hx⟩ := He.ba hx
  obtain ⟨h_Twice, hx⟩ := He.ba hx
  obtain ⟨h_NoGroup, hx⟩ := He.ba hx
  obtain ⟨h_NoMeasure, hx⟩ := He.ba hx
  obtain ⟨h_NoWatch, hx⟩ := He.ba hx
  obtain ⟨h_NoText, hx⟩ := He.ba hx
  obtain ⟨h_NoDeskRow, hx⟩ := He.ba hx
  have h_NoRow := hx
  obtain ⟨hI, kC⟩ := clsB_ok hP cls_Plan
  have EK : ErrK K (He.ga K "NoRow") (He.ga K "DayError") (exO K) (exU K) := ⟨of_decide_eq_true hK1, of_decide_eq_true hK2, of_decide_eq_true hK3, of_decide_eq_true hK4⟩
  have T_DayError := KdXc.errB_ok h_DayError
  have T_NoPlan := KdXc.errB_ok h_NoPlan
  have T_NoFact := KdXc.errB_ok h_NoFact
  have T_NoTime := KdXc.errB_ok h_NoTime
  have T_NoThing := KdXc.errB_ok h_NoThing
  have T_Twice := KdXc.errB_ok h_Twice
  have T_NoGroup := KdXc.errB_ok h_NoGroup
  have T_NoMeasure := KdXc.errB_ok h_NoMeasure
  have T_NoWatch := KdXc.errB_ok h_NoWatch
  have T_NoText := KdXc.errB_ok h_NoText
  have T_NoDeskRow := KdXc.errB_ok h_NoDeskRow
  have T_NoRow := KdXc.errB_ok h_NoRow
  have D_DayError := ok_DayError (P := P) (w := w) (mg := mg) (base := base) F_DayError_init T_DayError z_ValueError (KdXc.valB_ok hV) z_repr
  have E_DayError : ErrD P w K mg base _ _ fd_DayError_init := ⟨T_DayError, D_DayError, b_DayError_init, g_DayError⟩
  have D_NoPlan := ok_DayError (P := P) (w := w) (mg := mg) (base := base) F_DayError_init T_NoPlan z_ValueError (KdXc.valB_ok hV) z_repr
  have E_NoPlan : ErrM P w K mg base "NoPlan" _ _ fd_NoPlan_init := ⟨T_NoPlan, ok_NoPlan F_NoPlan_init T_NoPlan D_NoPlan (KdXc.cfnB_ok hD) b_DayError_init g_DayError, b_NoPlan_init, g_NoPlan⟩
  have D_NoFact := ok_DayError (P := P) (w := w) (mg := mg) (base := base) F_DayError_init T_NoFact z_ValueError (KdXc.valB_ok hV) z_repr
  have E_NoFact : ErrM P w K mg base "NoFact" _ _ fd_NoFact_init := ⟨T_NoFact, ok_NoFact F_NoFact_init T_NoFact D_NoFact (KdXc.cfnB_ok hD) b_DayError_init g_DayError, b_NoFact_init, g_NoFact⟩
  have D_NoTime := ok_DayError (P := P) (w := w) (mg := mg) (base := base) F_DayError_init T_NoTime z_ValueError (KdXc.valB_ok hV) z_repr
  have E_NoTime : ErrM P w K mg base "NoTime" _ _ fd_NoTime_init := ⟨T_NoTime, ok_NoTime F_NoTime_init T_NoTime D_NoTime (KdXc.cfnB_ok hD) b_DayError_init g_DayError, b_NoTime_init, g_NoTime⟩
  have D_NoThing := ok_DayError (P := P) (w := w) (mg := mg) (base := base) F_DayError_init T_NoThing z_ValueError (KdXc.valB_ok hV) z_repr
  have E_NoThing : ErrM P w K mg base "NoThing" _ _ fd_NoThing_init := ⟨T_NoThing, ok_NoThing F_NoThing_init T_NoThing D_NoThing (KdXc.cfnB_ok hD) b_DayError_init g_DayError, b_NoThing_init, g_NoThing⟩
  have D_Twice := ok_DayError (P := P) (w := w) (mg := mg) (base := base) F_DayError_init T_Twice z_ValueError (KdXc.valB_ok hV) z_repr
  have E_Twice : ErrM P w K mg base "Twice" _ _ fd_Twice_init := ⟨T_Twice, ok_Twice F_Twice_init T_Twice D_Twice (KdXc.cfnB_ok hD) b_DayError_init g_DayError, b_Twice_init, g_Twice⟩
  have D_NoGroup := ok_DayError (P := P) (w := w) (mg := mg) (base := base) F_DayError_init T_NoGroup z_ValueError (KdXc.valB_ok hV) z_repr
  have E_NoGroup : ErrM P w K mg base "NoGroup" _ _ fd_NoGroup_init := ⟨T_NoGroup, ok_NoGroup F_NoGroup_init T_NoGroup D_NoGroup (KdXc.cfnB_ok hD) b_DayError_init g_DayError, b_NoGroup_init, g_NoGroup⟩
  have D_NoMeasure := ok_DayError (P := P) (w := w) (mg := mg) (base := base) F_DayError_init T_NoMeasure z_ValueError (KdXc.valB_ok hV) z_repr
  have E_NoMeasure : ErrM P w K mg base "NoMeasure" _ _ fd_NoMeasure_init := ⟨T_NoMeasure, ok_NoMeasure F_NoMeasure_init T_NoMeasure D_NoMeasure (KdXc.cfnB_ok hD) b_DayError_init g_DayError, b_NoMeasure_init, g_NoMeasure⟩
  have D_NoWatch := ok_DayError (P := P) (w := w) (mg := mg) (base := base) F_DayError_init T_NoWatch z_ValueError (KdXc.valB_ok hV) z_repr
  have E_NoWatch : ErrM P w K mg base "NoWatch" _ _ fd_NoWatch_init := ⟨T_NoWatch, ok_NoWatch F_NoWatch_init T_NoWatch D_NoWatch (KdXc.cfnB_ok hD) b_DayError_init g_DayError, b_NoWatch_init, g_NoWatch⟩
  have D_NoText := ok_DayError (P := P) (w := w) (mg := mg) (base := base) F_DayError_init T_NoText z_ValueError (KdXc.valB_ok hV) z_repr
  have E_NoText : ErrM P w K mg base "NoText" _ _ fd_NoText_init := ⟨T_NoText, ok_NoText F_NoText_init T_NoText D_NoText (KdXc.cfnB_ok hD) b_DayError_init g_DayError, b_NoText_init, g_NoText⟩
  have D_NoDeskRow := ok_DayError (P := P) (w := w) (mg := mg) (base := base) F_DayError_init T_NoDeskRow z_ValueError (KdXc.valB_ok hV) z_repr
  have E_NoDeskRow : ErrM P w K mg base "NoDeskRow" _ _ fd_NoDeskRow_init := ⟨T_NoDeskRow, ok_NoDeskRow F_NoDeskRow_init T_NoDeskRow D_NoDeskRow (KdXc.cfnB_ok hD) b_DayError_init g_DayError, b_NoDeskRow_init, g_NoDeskRow⟩
  have D_NoRow := ok_DayError (P := P) (w := w) (mg := mg) (base := base) F_DayError_init T_NoRow z_ValueError (KdXc.valB_ok hV) z_repr
  have E_NoRow : ErrM P w K mg base "NoRow" _ _ fd_NoRow_init := ⟨T_NoRow, ok_NoRow F_NoRow_init T_NoRow D_NoRow (KdXc.cfnB_ok hD) b_DayError_init g_DayError, b_NoRow_init, g_NoRow⟩
  have G_fl := ok_fail (P := P) (w := w) (base := base) F_Plan_init G_ff F_first_fault.kp b_first_fault g_first_fault E_NoPlan
  have PX : PlanX P w K mg base (He.ga K "Plan") _ _ fd_Plan_init _ _ fd_NoPlan_init := ⟨T, mk_Plan, G_in, ok_initX G_in G_fl, g_Plan, F_Plan_init, E_NoPlan⟩
  have G8 := ok_tray (P := P) (w := w) (base := base) F_l_tray z_max
  have G9 := ok_draw (P := P) (w := w) (mg := mg) (base := base) F_l_draw
  have G11 := ok_name (P := P) (w := w) (base := base) F_l_name G9 F_l_draw.kp b_l_draw g_l_draw z_range z_len
  have G12 := ok_names (P := P) (w := w) (base := base) F_l_names G11 F_l_name.kp b_l_name g_l_name z_range
  have G13 := ok_lists (P := P) (w := w) (base := base) F_l_lists G9 F_l_draw.kp b_l_draw g_l_draw G12 F_l_names.kp b_l_names g_l_names z_range z_len z_tuple
  have GE := ok_eq2 (P := P) (w := w) (base := base) F_Plan_eq T g_Plan hI kC z_isinstance
  have GN := ok_ne2 (P := P) (w := w) (mg := mg) (base := base) F_Plan_ne GE me_Plan_eq.at_ me_Plan_eq.fn b_Plan_eq
  have c_draw : Fun P w K mg base "_law_draw" 1 _ _ _ _ := ⟨G9, F_l_draw.kp, b_l_draw, g_l_draw⟩
  have c_name : Fun P w K mg base "_law_name" 2 _ _ _ _ := ⟨G11, F_l_name.kp, b_l_name, g_l_name⟩
  have G_dm := ok_dims (P := P) (w := w) (mg := mg) (base := base) F_Plan_dimensions T z_list
  have G3 := ok_meas (P := P) (w := w) (mg := mg) (base := base) F_Plan_measures T z_list
  have c_at : Fun P w K mg base "attributes_of" 2 _ _ _ _ := ⟨ok_attr F_attributes_of T G_dm b_Plan_dimensions me_Plan_dimensions, F_attributes_of.kp, b_attributes_of, g_attributes_of⟩
  have c_kf : Fun P w K mg base "kind_fits" 3 _ _ _ _ := ⟨ok_kf F_kind_fits c_at z_len, F_kind_fits.kp, b_kind_fits, g_kind_fits⟩
  have c_ff : Fun P w K mg base "fact_fits" 2 _ _ _ _ := ⟨ok_ff F_fact_fits T G_dm b_Plan_dimensions me_Plan_dimensions G3 b_Plan_measures me_Plan_measures z_len, F_fact_fits.kp, b_fact_fits, g_fact_fits⟩
  have c_form : Fun P w K mg base "has_form" 4 _ _ _ _ := ⟨ok_form F_has_form c_kf c_ff, F_has_form.kp, b_has_form, g_has_form⟩
  have GL := ok_look F_look c_form E_NoRow
  have c_great : Fun P w K mg base "_law_great" 2 _ _ _ _ := ⟨ok_great F_l_great c_draw z_range, F_l_great.kp, b_l_great, g_l_great⟩
  have c_text : Fun P w K mg base "_law_text" 2 _ _ _ _ := ⟨ok_text F_l_text c_draw z_range, F_l_text.kp, b_l_text, g_l_text⟩
  have c_whole : Fun P w K mg base "_law_whole" 3 _ _ _ _ := ⟨ok_whole F_l_whole c_draw c_great, F_l_whole.kp, b_l_whole, g_l_whole⟩
  have c_value : Fun P w K mg base "_law_value" 4 _ _ _ _ := ⟨ok_value F_l_value c_draw c_text c_whole, F_l_value.kp, b_l_value, g_l_value⟩
  have c_row : Fun P w K mg base "_law_row" 5 _ _ _ _ := ⟨ok_rowG F_l_row c_draw c_text c_whole c_value z_len z_tuple, F_l_row.kp, b_l_row, g_l_row⟩
  have c_many : Fun P w K mg base "_law_many_otherwise" 2 _ _ _ _ := ⟨ok_many F_l_many_otherwise c_draw, F_l_many_otherwise.kp, b_l_many_otherwise, g_l_many_otherwise⟩
  have c_spo : Fun P w K mg base "_law_row_spoilt" 3 _ _ _ _ := ⟨ok_spoG F_l_row_spoilt c_draw c_name c_many, F_l_row_spoilt.kp, b_l_row_spoilt, g_l_row_spoilt⟩
  have c_good : Fun P w K mg base "_law_good" 1 _ _ _ _ := ⟨ok_goodL F_l_good z_len, F_l_good.kp, b_l_good, g_l_good⟩
  have c_err : Fun P w K mg base "_law_errors_right" 4 _ _ _ _ := ⟨ok_errs F_l_errors_right E_DayError E_NoPlan E_NoFact E_NoTime E_NoThing E_Twice E_NoGroup E_NoMeasure E_NoWatch E_NoText E_NoDeskRow E_NoRow (kw_NoTime F_NoTime_init) (kw_DayError F_DayError_init) (kw_NoThing F_NoThing_init), F_l_errors_right.kp, b_l_errors_right, g_l_errors_right⟩
  have c_ref : Fun P w K mg base "_law_refused" 6 _ _ _ _ := ⟨ok_refused F_l_refused GL g_look F_look.kp b_look (kw_look F_look) E_NoRow EK g_DayError z_ValueError z_isinstance g_NoDeskRow g_NoFact g_NoGroup g_NoMeasure g_NoPlan g_NoText g_NoThing g_NoTime g_NoWatch g_Twice, F_l_refused.kp, b_l_refused, g_l_refused⟩
  exact ok_law F_law PX ⟨⟨G8, F_l_tray.kp, b_l_tray, g_l_tray⟩, c_draw, ⟨G13, F_l_lists.kp, b_l_lists, g_l_lists⟩, c_err, c_row, c_spo, c_good, c_ref, GN, me_Plan_ne.at_, me_Plan_ne.fn, b_Plan_ne, z_len, z_range, z_list, z_int⟩
end Kd
open PySem PySem.W PySem.Calls PyProof.Rows
theorem PySem.Challenge.cw_kindsofday_k04_rows_of_a_plan_holds : PySem.Challenge.rw_kindsofday_k04_rows_of_a_plan.Holds := by
  w_on; o_law
  refine HandSHeadRun.head_any (r := OpenLaw.row PySem.Challenge.rw_kindsofday_k04_rows_of_a_plan) (q := view (OpenLaw.row PySem.Challenge.rw_kindsofday_k04_rows_of_a_plan).prog [46]) (H := Kd.hkE) (ob := Kd.ob) (M := 9000) (loose := Kd.loose) (d := HandSHeadRun.topDef (OpenLaw.row PySem.Challenge.rw_kindsofday_k04_rows_of_a_plan).prog 46) (kwd := []) Kd.ob_eq
    (by kernel_rfl) (fun s => by kernel_rfl) Kd.run (by kernel_rfl) (by kernel_rfl) (by kernel_rfl) (by rfl) (by first | assumption | decide +kernel) (by decide +kernel) ⟨rfl, rfl, rfl, rfl, rfl, by decide +kernel⟩ ?hw ?hc
  case hw => w_witness2
  case hc =>
    refine L2.walk_ofE (l := PySem.Challenge.rw_kindsofday_k04_rows_of_a_plan) (n := 63) (k := 8) (x := "script") (CX := L2.CX0) rfl (by decide) (by kernel_rfl) ⟨rfl, by decide, by decide⟩ ?F (fun _ _ _ _ z => z)
    intro w mg fa h Y G hmg0
    obtain ⟨K, KX, c, ce⟩ := Y
    have hmg : mg ("law" : PySem.Str) = some (.ref fa) := by
      have e : (HandSHeadRun.topDef (OpenLaw.row PySem.Challenge.rw_kindsofday_k04_rows_of_a_plan).prog 46).name = ("law" : PySem.Str) := by kernel_rfl
      rw [← e]
      exact hmg0
    obtain ⟨fd, hb, hF⟩ := Kd.facts (P := (PySem.Challenge.rw_kindsofday_k04_rows_of_a_plan).prog) (w := w) KX G hmg c ce
    exact ⟨K, fd, Kd.spLaw K, KX, hb, fun H a ns hl _ hS => ⟨a, ns, rfl, hS, hl, fun _ => rfl⟩, hF⟩
