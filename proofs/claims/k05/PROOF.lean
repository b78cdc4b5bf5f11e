import PyProof.Rows.All
import Wide.All
import OpenK.AllK
import Wide.FinOn
import HandS.ForMost
import HandS.Strs
import HandS.Zip
import HandS.IsInst
import HandS.Walk
import HandS.Text
import HandS.FStr
import HandS.Defaults
import HandS.MakeKw
import HandS.Wide
import HandS.WideBits
import HandS.More
import HandS.HeadHook2
import HandS.MakeKwOnly
import HandS.NoneIn
import HandS.FStrTup
import HandS.ExcInit
import HandS.RaiseMore
import HandS.OwnEq
import HandS.ForExc
import HandS.ExcField
import HandS.HeadHook1
import KE.KExcIs
import PyProof.ReprNest
import HandS.Style
import HandS.TupAny
import HandS.SetFor
import HandS.Replace
import HandS.Exc
import HandS.ExcOwn
import HandS.Deep
import HandS.Head0
import KE.KStateDown
import HandS.Head1
import HandS.Head2
import HandS.HeadEnd
import HandS.HeadHook3
import HandS.HeadHook4
import HandS.HeadWalk
import PySem.Challenge.RW_kindsofday_k05_whole_rows_by_counts_alon
set_option Elab.async false
set_option linter.all false
set_option maxRecDepth 100000
set_option maxHeartbeats 0
/-! len(set(xs)) where xs is a list or a tuple of texts of any number -/
namespace KdS
open PySem PySem.Spec PyProof.Rows
/-- how many unlike ones the first i have -/
def dcn (xs : List Str) : Nat → Nat
  | 0 => 0
  | i + 1 => if (xs.take i).any (· == xs.getD i Str.empty) = true then dcn xs i else dcn xs i + 1
theorem dcn_le (xs : List Str) : ∀ i, dcn xs i ≤ i
  | 0 => Nat.le_refl _
  | i + 1 => by
    have h := dcn_le xs i
    unfold dcn
    split <;> omega
theorem take_any (xs : List Str) {i : Nat} (h : i < xs.length) (k : Str) : (xs.take (i + 1)).any (· == k) = ((xs.take i).any (· == k) || decide (k = xs.getD i Str.empty)) := by
  have e : xs.getD i Str.empty = xs[i] := by simp [h]
  rw [List.take_succ_eq_append_getElem h, List.any_append, e]
  have e2 : ([xs[i]].any fun x => x == k) = decide (k = xs[i]) := by
    by_cases q : k = xs[i]
    · simp [q]
    · have q2 : ¬ xs[i] = k := fun z => q z.symm
      simp [q, q2]
  rw [e2]
theorem dcn_nodup {xs : List Str} (hn : xs.Nodup) : ∀ i, i ≤ xs.length → dcn xs i = i
  | 0, _ => rfl
  | i + 1, h => by
    have ih := dcn_nodup hn i (by omega)
    unfold dcn
    rw [if_neg, ih]
    intro hc
    obtain ⟨y, hy, e⟩ := List.any_eq_true.mp hc
    have hi : i < xs.length := h
    have eg : xs.getD i Str.empty = xs[i] := by simp [hi]
    rw [eg] at e
    have e1 : y = xs[i] := by simpa using e
    obtain ⟨j, hj, ej⟩ := List.getElem_of_mem hy
    rw [List.length_take] at hj
    rw [List.getElem_take] at ej
    have e3 : xs[j]'(by omega) = xs[i] := ej.trans e1
    have := (List.getElem_inj hn).mp e3
    omega
/-- unlike ones are fewer where one stands twice -/
theorem dcn_dup {xs : List Str} {j i : Nat} (hji : j < i) (hi : i < xs.length) (e : xs[j]'(by omega) = xs[i]) : ∀ n, i < n → dcn xs n < n
  | 0, h => by omega
  | n + 1, h => by
    by_cases q : n = i
    · subst q
      have h1 := dcn_le xs n
      unfold dcn
      rw [if_pos]
      · omega
      · refine List.any_eq_true.mpr ⟨xs[j]'(by omega), ?_, by simp [hi, e]⟩
        exact List.mem_iff_getElem.mpr ⟨j, by rw [List.length_take]; omega, by rw [List.getElem_take]⟩
    · have h1 := dcn_dup hji hi e n (by omega)
      unfold dcn
      split <;> omega
section
variable {prog : Program} {w : World} {A : Around} {R : Result → Shared → Prop} {I : Addr} {fp wr : List Addr} {G : Array GenState → Array GenState → Prop} {n : Nat} {P : Nat → Value → Prop} {St : Nat → Shared → Prop}
/-- what the set at S holds behind i items -/
abbrev Held (prog : Program) (w : World) (S : Addr) (xs : List Str) (i : Nat) (h : Heap) : Prop := h.SetOf (PySem.strKind prog w) S (fun k => (xs.take i).any (· == k)) (dcn xs i)
theorem Held.kept {S : Addr} {xs : List Str} {i : Nat} {h h' : Heap} (q : Held prog w S xs i h) (k : ∀ o, h.get? S = some o → h'.get? S = some o) : Held prog w S xs i h' := by
  obtain ⟨o, es, ep, t, ho, rest⟩ := q
  exact ⟨o, es, ep, t, k o ho, rest⟩
theorem grow (W : WalksS prog w A.in1 I fp wr G n P St) (S : Addr) (nS : S ∉ fp) (xs : List Str) (hx : xs.length = n) (hb : n + 1 < scanBound) (hv : ∀ i v, P i v → ∃ t, v = .str (xs.getD i Str.empty) t) :
    ∀ (k i : Nat) (s : Shared), n - i = k → i ≤ n → St i s → Held prog w S xs i s.heap → (∀ s', Moved (S :: wr) G s s' → Held prog w S xs n s'.heap → R (.ok (.ret .none)) s') →
      codeAny (model prog w) A (.builtin "set.update.loop" ⟨[.ref S, .ref I], []⟩) R s := by
  have nW : S ∉ wr := fun z => nS (W.sub _ z)
  have up : ∀ b ∈ wr, b ∈ S :: wr := fun b z => List.mem_cons_of_mem _ z
  intro k
  induction k with
  | zero =>
    intro i s hk hi st hS out
    obtain rfl : i = n := by omega
    refine codeAny_builtin PyProof.Rows.F.entry_set_update_loop (by
      rw [Around.under_plainId PyProof.Rows.F.plain_set_update_loop _]
      show wpAny _ A.in1 (pyNext (.ref I) >>= _) _ _ s
      exact wpAny_bind (W.done s _ _ st fun s1 mv => wpAny_pure (out s1 (mv.mono up) (hS.kept fun o q => mv.heap S _ nW q))))
  | succ k ih =>
    intro i s hk hi st hS out
    have hlt : i < n := by omega
    refine codeAny_builtin PyProof.Rows.F.entry_set_update_loop (by
      rw [Around.under_plainId PyProof.Rows.F.plain_set_update_loop _]
      show wpAny _ A.in1 (pyNext (.ref I) >>= _) _ _ s
      refine wpAny_bind (W.item i s _ _ hlt st fun v s1 hP st1 mv => ?_)
      obtain ⟨t, rfl⟩ := hv i v hP
      have hS1 : Held prog w S xs i s1.heap := hS.kept fun o q => mv.heap S _ nW q
      show wpAny _ A.in1 (holding [Value.str (xs.getD i Str.empty) t] (setAdd S (.str (xs.getD i Str.empty) t)) >>= _) _ _ s1
      refine wpAny_bind (wpAny_holding ?_)
      unfold setAdd
      refine wpAny_holding (wpAny_bind ((PySem.strKind prog w).pyHash (k := xs.getD i Str.empty) (strKind_is _ _ _ _) ?_))
      refine wpAny_setAddHashed_of (knd := PySem.strKind prog w) (s := { s1 with toks := s1.toks + 1 }) (strKind_is _ _ _ _) rfl hS1 (by have := dcn_le xs i; omega) fun h2 sb hS2 => ?_
      have hS3 : Held prog w S xs (i + 1) h2 := SetOf_congr hS2 (fun k => (take_any xs (by omega) k).symm) rfl
      refine wpAny_pure ⟨plainId_quiet PyProof.Rows.F.plain_set_update_loop _, ih (i + 1) _ (by omega) hlt (W.frame _ s1 _ _ st1 (Nat.le_succ _) fun b z o q => ?_) hS3 fun s4 mv4 hS4 => ?_⟩
      · rw [sb.2 b (fun z2 : b = S => nS (z2 ▸ z))]
        exact q
      · refine out s4 (Moved.trans W.gtrans ((mv.mono up).then_heap (Nat.le_succ _) fun b o z q => ?_) mv4) hS4
        rw [sb.2 b (fun z2 : b = S => z (by rw [z2]; exact List.mem_cons_self))]
        exact q)
end
section
variable {prog : Program} {w : World} {A : Around} {E : Value → Shared → Prop} {s : Shared}
abbrev setObj (led : Bool) : Obj := { cls := .type "set", dict := none, data := .set #[] 0 (.fresh 0 0 led) }
set_option maxHeartbeats 3200000 in
/-- set(v), by what __init__ does with the new empty set -/
theorem set_by {v : Value} {Q : Value → Shared → Prop} {P : Shared → Prop} (hi : ∀ led : Bool, wpAny (model prog w) A.in1.in1 (Builtin.«set.__init__» ⟨[.ref s.heap.objs.size, v], []⟩) (fun r s2 => r = .done (.ret .none) ∧ P s2) E { s with heap := s.heap.push (setObj led) })
    (h : ∀ s2, P s2 → Q (.ref s.heap.objs.size) s2) : wpAny (model prog w) A (call (.type "set") [v]) Q E s := by
  obtain ⟨c, tl, hmro⟩ := PySem.F.called_set.mro
  have f1 := PySem.F.called_set.made
  have f2 := PySem.F.called_set.sub
  have f3 := PySem.F.called_set.notType
  have f4 := PySem.F.called_set.canCreate
  have f5 := PySem.F.typeCall_set_1 v
  refine wpAny_call (codeAny_of_tree (show wpAny _ _ (callAny (.type "set") _) _ _ _ from wpAny_pure ⟨Code.quiet_builtin _ (by decide +kernel), codeAny_builtin PySem.F.entry_type_call (by
    rw [Around.under_plain (weight_type_call_type "set" [v] []) rfl]
    repeat (any_goals (first | assumption | wp_step))
    refine codeAny_mono (code_set_new_1 v (E := E) (Q₁ := fun ob s1 => ∃ led : Bool, ob = .ref s.heap.objs.size ∧ s1 = { s with heap := s.heap.push (setObj led) }) fun led => ⟨led, rfl, rfl⟩) fun r s1 hr => ?_
    cases r with
    | error e => exact hr
    | ok fl =>
      cases fl with
      | ret ob =>
        obtain ⟨led, rfl, rfl⟩ := hr
        have g0 : (s.heap.push (setObj led)).get? s.heap.objs.size = some (setObj led) := Heap.get?_push_size _ rfl
        have gT : Shared.TypeIs { s with heap := s.heap.push (setObj led) } (.ref s.heap.objs.size) "set" := ⟨_, g0, rfl⟩
        have f6 := PySem.F.called_set.init.lookup
        have f7 := PySem.F.called_set.init.bind (.ref s.heap.objs.size)
        repeat (any_goals (first | assumption | wp_step))
        refine codeAny_mono (codeAny_call_builtin (R := wants (fun r s2 => r = .none ∧ P s2) E) PySem.F.called_set.init.plain PySem.F.entry_set_init (check_set_init_1 gT (wpAny_mono (hi led) (fun r s2 q => ?_) fun _ _ q => q))) fun r2 s2 q2 => ?_
        · obtain ⟨rfl, q⟩ := q
          exact ⟨rfl, q⟩
        · cases r2 with
          | error e => exact q2
          | ok fl2 =>
            cases fl2 with
            | ret r3 =>
              obtain ⟨rfl, q⟩ := q2
              repeat (any_goals (first | assumption | wp_step))
              exact h _ q
            | _ => exact q2.elim
      | _ => exact hr.elim)⟩))
/-- the list's way and the tuple's way of __init__: what is held behind it -/
def After (prog : Program) (w : World) (s : Shared) (xs : List Str) (s2 : Shared) : Prop := ∃ h2 tk, s2 = { s with heap := h2, toks := tk } ∧ Held prog w s.heap.objs.size xs xs.length h2 ∧ ∀ b o, b < s.heap.objs.size → s.heap.get? b = some o → h2.get? b = some o
theorem fresh_held {led : Bool} {it : Obj} {xs : List Str} : Held prog w s.heap.objs.size xs 0 ((s.heap.push (setObj led)).push it) :=
  SetOf_congr ((PyProof.Rows.setObjOf_fresh (knd := PySem.strKind prog w) led).setOf (Heap.get?_push_of_some _ (Heap.get?_push_size _ rfl)) (by unfold scanBound; omega)) (fun _ => rfl) rfl
theorem after_moved {G : Array GenState → Array GenState → Prop} {led : Bool} {it : Obj} {xs : List Str} {s2 : Shared} (hG : ∀ a b, G a b → b = a)
    (mv : Moved (s.heap.objs.size :: [(s.heap.push (setObj led)).objs.size]) G { s with heap := (s.heap.push (setObj led)).push it } s2) (q : Held prog w s.heap.objs.size xs xs.length s2.heap) : After prog w s xs s2 := by
  obtain ⟨h2, g2, d2, t2, o2⟩ := s2
  obtain rfl : g2 = s.gens := hG _ _ mv.gens
  obtain rfl : d2 = s.drawn := mv.drawn
  obtain rfl : o2 = s.os := mv.os
  refine ⟨h2, t2, rfl, q, fun b o hb e => mv.heap b o (fun z => ?_) (Heap.get?_push_of_some _ (Heap.get?_push_of_some _ e))⟩
  rw [Heap.size_push] at z
  rcases List.mem_cons.mp z with z | z
  · exact absurd z (Nat.ne_of_lt hb)
  · exact absurd (List.mem_singleton.mp z) (Nat.ne_of_lt (Nat.lt_succ_of_lt hb))
theorem strAt {items : Array Value} {xs : List Str} (hi : StrsAre items.toList xs) (i : Nat) (v : Value) (hv : items[i]? = some v) : ∃ t, v = .str (xs.getD i Str.empty) t := SS.strs_at hi i v (by rw [Array.getElem?_toList]; exact hv)
set_option maxHeartbeats 3200000 in
theorem init_list {l : Addr} {items : Array Value} {xs : List Str} {led : Bool} (hh : A.in1.in1.in1.handled = none) (hl : s.heap.IsList l items) (hi : StrsAre items.toList xs) (hb : xs.length + 1 < scanBound) :
    wpAny (model prog w) A.in1.in1 (Builtin.«set.__init__» ⟨[.ref s.heap.objs.size, .ref l], []⟩) (fun r s2 => r = .done (.ret .none) ∧ After prog w s xs s2) E { s with heap := s.heap.push (setObj led) } := by
  have hsz : xs.length = items.size := by rw [← StrsAre.len_eq hi, Array.length_toList]
  obtain ⟨⟨oc, od, dt, sl⟩, ho, hc, m, hd⟩ := hl
  simp only at hc hd
  subst hc hd
  have ho1 := Heap.get?_push_of_some (setObj led) ho
  have hl1 : (s.heap.push (setObj led)).IsList l items := ⟨_, ho1, rfl, m, rfl⟩
  have f1 := PySem.F.sub_list_set
  have f2 := PySem.F.sub_list_frozenset
  have f3 : (Value.type "list" == Value.type "dict") = false := by decide
  unfold Builtin.«set.__init__» noKeywords Builtin.Frozenset.updateFrom
  generalize hPI : pyIter = PI
  wp_walk
  subst hPI
  refine wpAny_pyIter_list hl1 (wpAny_bind (wpAny_runValue ?_))
  have hS : l < s.heap.objs.size := Heap.lt_size ho
  have n1 : l ≠ (s.heap.push (setObj led)).objs.size := by rw [Heap.size_push]; exact Nat.ne_of_lt (Nat.lt_succ_of_lt hS)
  have n2 : s.heap.objs.size ∉ [(s.heap.push (setObj led)).objs.size, l] := by
    rw [Heap.size_push]
    intro z
    rcases List.mem_cons.mp z with z | z
    · exact absurd z (Nat.ne_of_lt (Nat.lt_succ_self _))
    · exact absurd (List.mem_singleton.mp z) (Nat.ne_of_gt hS)
  refine grow ((Walks.list hh _ l n1 items).toS) s.heap.objs.size n2 xs hsz (by omega) (strAt hi) (items.size - 0) 0 _ (by omega) (Nat.zero_le _) ⟨⟨_, Heap.get?_push_size _ rfl, rfl, rfl⟩, hl1.push _⟩ fresh_held fun s2 mv q => ?_
  rw [← hsz] at q
  exact wpAny_pure (wpAny_pure ⟨rfl, after_moved (fun _ _ z => z) mv q⟩)
set_option maxHeartbeats 3200000 in
theorem init_tup {l : Addr} {items : Array Value} {xs : List Str} {led : Bool} (hh : A.in1.in1.in1.handled = none) (hl : s.heap.IsTuple l items) (hi : StrsAre items.toList xs) (hb : xs.length + 1 < scanBound) :
    wpAny (model prog w) A.in1.in1 (Builtin.«set.__init__» ⟨[.ref s.heap.objs.size, .ref l], []⟩) (fun r s2 => r = .done (.ret .none) ∧ After prog w s xs s2) E { s with heap := s.heap.push (setObj led) } := by
  have hsz : xs.length = items.size := by rw [← StrsAre.len_eq hi, Array.length_toList]
  obtain ⟨⟨oc, od, dt, sl⟩, ho, hc, m, hd⟩ := hl
  simp only at hc hd
  subst hc hd
  have ho1 := Heap.get?_push_of_some (setObj led) ho
  have hl1 : (s.heap.push (setObj led)).IsTuple l items := ⟨_, ho1, rfl, m, rfl⟩
  have f1 := PySem.F.sub_tuple_set
  have f2 := PySem.F.sub_tuple_frozenset
  have f3 : (Value.type "tuple" == Value.type "dict") = false := by decide
  unfold Builtin.«set.__init__» noKeywords Builtin.Frozenset.updateFrom
  generalize hPI : pyIter = PI
  wp_walk
  subst hPI
  refine wpAny_pyIter_tuple hl1 (wpAny_bind (wpAny_runValue ?_))
  have hS : l < s.heap.objs.size := Heap.lt_size ho
  have n1 : l ≠ (s.heap.push (setObj led)).objs.size := by rw [Heap.size_push]; exact Nat.ne_of_lt (Nat.lt_succ_of_lt hS)
  have n2 : s.heap.objs.size ∉ [(s.heap.push (setObj led)).objs.size, l] := by
    rw [Heap.size_push]
    intro z
    rcases List.mem_cons.mp z with z | z
    · exact absurd z (Nat.ne_of_lt (Nat.lt_succ_self _))
    · exact absurd (List.mem_singleton.mp z) (Nat.ne_of_gt hS)
  refine grow ((Walks.tuple hh _ l n1 items).toS) s.heap.objs.size n2 xs hsz (by omega) (strAt hi) (items.size - 0) 0 _ (by omega) (Nat.zero_le _) ⟨⟨_, Heap.get?_push_size _ rfl, rfl, rfl⟩, hl1.push _⟩ fresh_held fun s2 mv q => ?_
  rw [← hsz] at q
  exact wpAny_pure (wpAny_pure ⟨rfl, after_moved (fun _ _ z => z) mv q⟩)
end
end KdS
namespace Kd
open PySem PySem.Spec PyProof.Rows L2
theorem strs_vals : ∀ {xs : List Str} {us : List Value}, Vals (xs.map V.str) us → StrsAre us xs
  | [], _, .nil => .nil
  | x :: xs, _, .cons r t => by
    obtain ⟨k, rfl⟩ := r
    exact .cons x k (strs_vals t)
/-- a list or a tuple of texts -/
def Txs (K : PySem.W.Frag) (H : Hp) (l : Addr) (xs : List Str) : Prop := SqL K H l (xs.map V.str) ∨ SqT K H l (xs.map V.str)
def tLenSetS (K : PySem.W.Frag) (ta : TE) : TE := fun σ H Q => ta σ H fun x H1 => ∃ (l : Addr) (xs : List Str), x = .ref l ∧ Txs K H1 l xs ∧ xs.length ≤ 4000 ∧ Q (.int (KdS.dcn xs xs.length : Nat)) H1
theorem pe_lenSetS {X : Cx} {a : Expr} {ta : TE} {p p2 q pos : Pos} (hg : Gl X "len") (hm : X.mg "len" = none) (hg2 : Gl X "set") (hm2 : X.mg "set" = none) (ha : PE X a ta) (hc : X.calm = true := by rfl)
    (na : starEach [a] X.env = (false, eval a X.env) :: starEach [] X.env := by rfl) : PE X (.Call (.Name "len" p) [.Call (.Name "set" p2) [a] [] q] [] pos) (tLenSetS X.K ta) := by
  refine ⟨fun pins s σ H Q I h => Call_ (ld_blt I hg hm boot_len (PyProof.Rows.callWith_builtin1 (PyProof.Rows.args_cons ?_ rfl) rfl rfl))⟩
  refine Call_ (ld_blt I hg2 hm2 boot_set (PyProof.Rows.callWith_type1 (PyProof.Rows.args_cons (thn (ha.run pins s σ H _ I h) fun v s1 ⟨x, H1, I1, r1, q1⟩ => PyProof.Rows.args_nil ?_) na) na rfl))
  obtain ⟨l, xs, rfl, hq, hl, q1⟩ := q1
  cases r1
  have hh := I1.ok.hd hc
  have hb : xs.length + 1 < scanBound := by unfold scanBound; omega
  refine KdS.set_by (P := KdS.After X.prog X.w s1 xs) (fun led => ?_) fun s2 af => ?_
  · rcases hq with hq | hq
    · obtain ⟨its, r, pl, hz⟩ := I1.list hq
      exact KdS.init_list (by simp [hh]) pl.isList (by simpa using strs_vals r) hb
    · obtain ⟨its, r, pl, hz⟩ := I1.tuple hq
      exact KdS.init_tup (by simp [hh]) pl (by simpa using strs_vals r) hb
  · obtain ⟨h2, tk, rfl, hS, hk⟩ := af
    obtain ⟨o, es, ep, t, ho, hex, hd, _, _, _, hf, hn⟩ := hS
    have I2 : Inv X pins σ H1 { s1 with heap := h2, toks := tk } := I1.kept fun b o e => hk b o (Heap.lt_size e) e
    have hle := KdS.dcn_le xs xs.length
    exact PyProof.Rows.args_nil (call_len_set ho hex hd hf (by rw [hn] <;> omega) ⟨.int (KdS.dcn xs xs.length : Nat), H1, I2.tok _, ⟨_, by rw [hn]⟩, q1⟩)
end Kd

namespace Kd
open PySem PySem.Spec PyProof.Rows L2
/-! ### heaps -/
section
variable {K : PySem.W.Frag} {H H' : Hp} {a g b p l : Addr} {o : HO}
theorem same_new (h : H p = Option.none) : Same H (upd H p o) := fun b u e => by rw [upd_ne (ne_of_none e h)]; exact e
theorem Same.to_new {H1 : Hp} (s : Same H H1) (h : H1 p = Option.none) : Same H (upd H1 p o) := s.trans (same_new h)
theorem Same.seqT {xs : List V} (e : Same H H') (h : SqT K H a xs) : SqT K H' a xs := by
  rcases h with (h | ⟨o, h⟩) | h
  · exact .inl (.inl (e _ _ h))
  · exact .inl (.inr ⟨o, e _ _ h⟩)
  · exact .inr h
theorem Same.txs {xs : List Str} (e : Same H H') (h : Txs K H l xs) : Txs K H' l xs := h.elim (fun q => .inl (e.seq q)) fun q => .inr (Same.seqT e q)
/-- the two objects of a tray cut out -/
def ct (a g : Addr) (H : Hp) : Hp := fun b => if b = a ∨ b = g then Option.none else H b
theorem ct_sub : Same (ct a g H) H := fun b o e => by
  unfold ct at e
  split at e
  · cases e
  · exact e
theorem ct_ne (e : ct a g H b = some o) : b ≠ a ∧ b ≠ g := by
  unfold ct at e
  split at e
  · cases e
  · rename_i h
    exact ⟨fun z => h (.inl z), fun z => h (.inr z)⟩
theorem ct_of (e : H b = some o) (ha : b ≠ a) (hg : b ≠ g) : ct a g H b = some o := by
  unfold ct
  rw [if_neg (fun z => z.elim ha hg)]
  exact e
theorem ct_upd (ha : p ≠ a) (hg : p ≠ g) : ct a g (upd H p o) = upd (ct a g H) p o := by
  funext b
  unfold ct upd
  by_cases e : b = p
  · subst e
    rw [if_neg (fun z => z.elim ha hg), if_pos rfl, if_pos rfl]
  · rw [if_neg e, if_neg e]
theorem ct_upda : ct a g (upd H a o) = ct a g H := by
  funext b
  unfold ct upd
  by_cases e : b = a
  · rw [if_pos (.inl e), if_pos (.inl e)]
  · rw [if_neg e]
theorem ct_updg : ct a g (upd H g o) = ct a g H := by
  funext b
  unfold ct upd
  by_cases e : b = g
  · rw [if_pos (.inr e), if_pos (.inr e)]
  · rw [if_neg e]
theorem ct_same (s : Same H H') : Same (ct a g H) (ct a g H') := fun b o e => ct_of (s b o (ct_sub b o e)) (ct_ne e).1 (ct_ne e).2
theorem ct_none (h : H p = Option.none) : ct a g H p = Option.none := by
  unfold ct
  split
  · rfl
  · exact h
end
/-! ### data -/
section
variable {K : PySem.W.Frag} {H H' : Hp}
mutual
theorem Dp.same (e : Same H H') : ∀ (d : PyData) (v : V), Dp K H v d → Dp K H' v d
  | .none, _, h => by cases h; exact .non
  | .bool b, _, h => by cases h; exact .bl b
  | .int i, _, h => by cases h; exact .int i
  | .str x, _, h => by cases h; exact .str x
  | .list ds, _, h => by
    cases h with
    | lst q r => exact .lst (e.seq q) (DpAll.same e ds _ r)
  | .tuple ds, _, h => by
    cases h with
    | tup q r => exact .tup (Same.seqT e q) (DpAll.same e ds _ r)
  | .dict _, _, h => by cases h
theorem DpAll.same (e : Same H H') : ∀ (ds : List PyData) (vs : List V), DpAll K H vs ds → DpAll K H' vs ds
  | [], _, h => by cases h; exact .nil
  | d :: ds, _, h => by
    cases h with
    | cons q r => exact .cons (Dp.same e d _ q) (DpAll.same e ds _ r)
end
theorem DpAll.len : ∀ {vs : List V} {ds : List PyData}, DpAll K H vs ds → vs.length = ds.length
  | _, _, .nil => rfl
  | _, _, .cons _ r => congrArg Nat.succ (DpAll.len r)
theorem DpAll.at_ : ∀ {vs : List V} {ds : List PyData} {i : Nat} {v : V}, DpAll K H vs ds → vs[i]? = some v → ∃ d, ds[i]? = some d ∧ Dp K H v d
  | _, _, i, v, .nil, e => by simp at e
  | _, _, 0, v, .cons q _, e => ⟨_, rfl, by have e2 : _ = v := Option.some.inj e; rw [← e2]; exact q⟩
  | _, _, i + 1, v, .cons _ r, e => DpAll.at_ (i := i) r e
theorem DpAll.strs : ∀ (xs : List Str), DpAll K H (xs.map V.str) (xs.map PyData.str)
  | [] => .nil
  | x :: xs => .cons (.str x) (DpAll.strs xs)
theorem tyL {a : Addr} {xs : List V} (h : SqL K H a xs) : TyX K H (.ref a) (.type "list") := by
  rcases h with (h | ⟨o, h⟩) | ⟨o, its, n, h1, h2, _⟩
  · exact .base (.lst h)
  · exact .base (.frz h)
  · exact .kList h1 h2
theorem tyT {a : Addr} {xs : List V} (h : SqT K H a xs) : TyX K H (.ref a) (.type "tuple") := by
  rcases h with (h | ⟨o, h⟩) | ⟨o, its, n, h1, h2, _⟩
  · exact .base (.tup h)
  · exact .fTuple h
  · exact .kTuple h1 h2
end
/-! ### texts of small letters -/
def Low (z : Str) : Prop := ∀ c ∈ z.cps.toList, 97 ≤ c ∧ c ≤ 122
structure IsNm (z : Str) : Prop where
  low : Low z
  pos : 1 ≤ z.length
  le8 : z.length ≤ 8
theorem Low.append {x y : Str} (h1 : Low x) (h2 : Low y) : Low (x ++ y) := fun c hc => by
  have e : (x ++ y).cps.toList = x.cps.toList ++ y.cps.toList := TL.tl_append x y
  rw [e] at hc
  exact (List.mem_append.mp hc).elim (h1 c) (h2 c)
theorem len_append (x y : Str) : (x ++ y).length = x.length + y.length := by
  show (x.cps ++ y.cps).size = x.cps.size + y.cps.size
  exact Array.size_append
theorem Low.cut {z : Str} (h : Low z) (lo hi : Option Int) : Low (cutS z lo hi) := fun c hc => by
  unfold cutS at hc
  exact h c (List.mem_of_mem_drop (List.mem_of_mem_take hc))
theorem Low.one {c : Nat} (h : 97 ≤ c ∧ c ≤ 122) : Low ⟨#[c]⟩ := fun d hd => by
  have e : d = c := by simpa using hd
  rw [e]
  exact h
theorem Low.empty : Low Str.empty := fun c hc => by
  have : c ∈ ([] : List Nat) := hc
  cases this
/-- the written letters -/
abbrev abc : Str := "abcdefghijklmnopqrstuvwxyz"
theorem abc_list : abc.cps.toList = List.range' 97 26 := by decide +kernel
theorem abc_len : abc.length = 26 := by decide +kernel
theorem mem_abc {c : Nat} : c ∈ abc.cps.toList ↔ 97 ≤ c ∧ c ≤ 122 := by
  rw [abc_list, List.mem_range'_1]
  omega
theorem abc_at {i : Nat} (h : i < 26) : abc.cps.toList[i]? = some (97 + i) := by
  rw [abc_list, List.getElem?_range' h]
  congr 1
  omega
theorem Low.abc : Low abc := fun c hc => mem_abc.mp hc
theorem IsNm.one {c : Nat} (h : 97 ≤ c ∧ c ≤ 122) : IsNm ⟨#[c]⟩ := ⟨.one h, by show 1 ≤ 1; decide, by show 1 ≤ 8; decide⟩
theorem join_list_eq (y : Str) (h : y.cps.toList = []) (parts : List Str) : (Txt.join y parts).cps.toList = (parts.map fun z => z.cps.toList).flatten := by
  rw [TL.join_eq]
  have e := TL.tl_join y parts
  have e2 : ∀ l : List (List Nat), TL.joinL [] l = l.flatten := fun l => by
    induction l with
    | nil => rfl
    | cons p r ih =>
      cases r with
      | nil => simp [TL.joinL]
      | cons q r2 =>
        show p ++ ([] ++ TL.joinL [] (q :: r2)) = _
        rw [ih]
        simp
  have e3 : TL.tl y = [] := h
  rw [e3, e2] at e
  exact e
/-! ### a comprehension, by what it has made and the heap without it -/
/-- the heap without the object at D -/
def cd (D : Addr) (H : Hp) : Hp := ct D D H
theorem cd_sub {D : Addr} {H : Hp} : Same (cd D H) H := ct_sub
theorem cd_upd {D : Addr} {H : Hp} {o : HO} : cd D (upd H D o) = cd D H := ct_upda
theorem cd_free {D : Addr} {H : Hp} (h : H D = Option.none) : cd D H = H := by
  funext b
  unfold cd ct
  by_cases e : b = D
  · subst e
    rw [if_pos (.inl rfl), h]
  · rw [if_neg (fun z => z.elim e e)]
theorem cd_at {D : Addr} {H : Hp} : cd D H D = Option.none := by
  unfold cd ct
  rw [if_pos (.inl rfl)]
theorem cd_of {D b : Addr} {H : Hp} {o : HO} (e : H b = some o) (n : b ≠ D) : cd D H b = some o := ct_of e n n
theorem cd_same {D : Addr} {H H' : Hp} (s : Same H H') : Same (cd D H) (cd D H') := ct_same s
/-- what was there ahead of D is in the rest -/
theorem Same.cd {H0 H : Hp} {D : Addr} (s : Same H0 H) (h : H0 D = Option.none) : Same H0 (cd D H) := fun b o e => cd_of (s b o e) (ne_of_none e h)
theorem Same.upd {H0 H : Hp} {D : Addr} {o : HO} (s : Same H0 H) (h : H0 D = Option.none) : Same H0 (upd H D o) := fun b u e => by rw [upd_ne (ne_of_none e h)]; exact s b u e
/-- between two turns: the list at D is ys, no longer than the turns, and Pv of the heap without it -/
def LcNx (D : Addr) (Pv : Nat → List V → Hp → Prop) (i : Nat) (H : Hp) : Prop := ∃ ys, H D = some (.lst ys) ∧ ys.length ≤ i ∧ Pv i ys (cd D H)
theorem LcNx.add {D : Addr} {Pv : Nat → List V → Hp → Prop} {i : Nat} {ys : List V} {y : V} {H : Hp} (e : H D = some (.lst ys)) (l : ys.length ≤ i) (hi : i < 4000) (p : Pv (i + 1) (ys ++ [y]) (cd D H)) :
    ∃ acc, H D = some (.lst acc) ∧ acc.length < sizeLine ∧ LcNx D Pv (i + 1) (upd H D (.lst (acc ++ [y]))) :=
  ⟨ys, e, Nat.lt_of_le_of_lt (by omega : ys.length ≤ 4000) (by decide), ys ++ [y], upd_same, by rw [List.length_append]; show ys.length + 1 ≤ i + 1; omega, by rw [cd_upd]; exact p⟩
theorem LcNx.skip {D : Addr} {Pv : Nat → List V → Hp → Prop} {i : Nat} {ys : List V} {H : Hp} (e : H D = some (.lst ys)) (l : ys.length ≤ i) (p : Pv (i + 1) ys (cd D H)) : LcNx D Pv (i + 1) H := ⟨ys, e, by omega, p⟩
theorem lc_build {J : It} {n : Nat} {G : Hp → Prop} {Y : Nat → Hp → V → Hp → Prop} (w : Walk J n G Y) {g : TG} {tt : TT} {te : TE} {vs : List Nat} {σ : L2.St} {H1 : Hp} {D : Addr} {Qd : Hp → Prop} (hD : H1 D = Option.none)
    (Pv : Nat → List V → Hp → Prop) (h0 : Pv 0 [] H1) (hG : ∀ i ys H, i ≤ n → Pv i ys (cd D H) → G H)
    (hs : ∀ i ys x H H', i < n → H D = some (.lst ys) → ys.length ≤ i → Pv i ys (cd D H) → Y i H x H' → g x (wipe σ vs) H' fun σ2 H2 => wipe σ2 vs = wipe σ vs ∧ tt σ2 H2 fun b H3 =>
      if b = true then te σ2 H3 fun y H4 => ∃ acc, H4 D = some (.lst acc) ∧ acc.length < sizeLine ∧ LcNx D Pv (i + 1) (L2.upd H4 D (.lst (acc ++ [y]))) else LcNx D Pv (i + 1) H3) (hd : ∀ ys H, H D = some (.lst ys) → ys.length ≤ n → Pv n ys (cd D H) → Qd H) :
    ∃ W : Nat → Nat → Hp → Prop, (∃ m, W 0 m (L2.upd H1 D (.lst []))) ∧ ∀ i m H, W i m H →
      (J.stop i H ∧ Qd H) ∨ (J.go i H ∧ ∃ Nx : Hp → Prop, (∀ H', Nx H' → ∃ m', m' < m ∧ W (i + 1) m' H') ∧ ∀ x H', J.yld i H x H' → g x (wipe σ vs) H' fun σ2 H2 => wipe σ2 vs = wipe σ vs ∧ tt σ2 H2 fun b H3 =>
        if b = true then te σ2 H3 fun y H4 => ∃ acc, H4 D = some (.lst acc) ∧ acc.length < sizeLine ∧ Nx (L2.upd H4 D (.lst (acc ++ [y]))) else Nx H3) :=
  lc_it w (LcNx D Pv) ⟨[], upd_same, Nat.le_refl _, by rw [cd_upd, cd_free hD]; exact h0⟩ (fun i H hi ⟨ys, _, _, p⟩ => hG i ys H hi p) (fun i x H H' hi ⟨ys, e, l, p⟩ hY => hs i ys x H H' hi e l p hY) (fun H ⟨ys, e, l, p⟩ => hd ys H e l p)
theorem yes {σ : L2.St} {H : Hp} {A B : Hp → Prop} (h : A H) : tYes σ H fun b H3 => if b = true then A H3 else B H3 := by
  show if true = true then A H else B H
  rw [if_pos rfl]
  exact h
theorem le_line {n : Nat} (h : n ≤ 4000) : n ≤ sizeLine := Nat.le_trans h (by decide)
theorem cd_is0 {D : Addr} {H H0 : Hp} (e : cd D H = H0) : Same H0 H := by rw [← e]; exact cd_sub
theorem seqT_list0 {K : PySem.W.Frag} {H : Hp} {l r : Addr} {L xs : List V} (hl : H l = some (.lst L)) (h : SqT K H r xs) : SqT K (cd l H) r xs := by
  rcases h with (q | ⟨o, q⟩) | q
  · exact .inl (.inl (cd_of q (ne_of q hl (fun z => nomatch z))))
  · exact .inl (.inr ⟨o, cd_of q (ne_of q hl (fun z => nomatch z))⟩)
  · exact .inr q
end Kd

namespace Kd
open PySem PySem.Spec PyProof.Rows L2
/-- f'..', its reading under a name -/
def tFs (ts : List TE) : TE := fun σ H Q => tJs ts Str.empty σ H fun out H1 => Q (.str out) H1
def rSplit : V → List V → Hp → VK → Prop := fun x xs H Q => ∃ a b, x = .str a ∧ xs = [.str b] ∧ (b.length == 0) = false ∧ a.length + 2 ≤ sizeLine ∧ rNewStrs (Txt.split a b) H Q
/-! ### the writing of a plan, as a mirror -/
abbrev Dm := Str × List (Str × Str)
def attT (a : Str × Str) : Str := a.1 ++ (":" : Str) ++ a.2
def dimW (d : Dm) : List Str := [("dim" : Str), d.1] ++ d.2.map attT
def dimT (d : Dm) : Str := Txt.join " " (dimW d)
def sumW (ms : List Str) : List Str := [("sum" : Str)] ++ ms
def sumT (ms : List Str) : List Str := if ms.isEmpty = true then [] else [Txt.join " " (sumW ms)]
def planW (ds : List Dm) (ms : List Str) : List Str := ds.map dimT ++ sumT ms
def planT (ds : List Dm) (ms : List Str) : Str := Txt.join "; " (planW ds ms)
/-- a way of the four -/
def IsWay (z : Str) : Prop := z ∈ (["first", "last", "day", "before"] : List Str)
theorem IsWay.nm {z : Str} (h : IsWay z) : Low z ∧ z.length ≤ 8 := by
  have h1 : ∀ z ∈ (["first", "last", "day", "before"] : List Str), (z.cps.toList.all fun c => decide (97 ≤ c ∧ c ≤ 122)) = true ∧ z.length ≤ 8 := by decide +kernel
  obtain ⟨a, b⟩ := h1 z h
  exact ⟨fun c hc => of_decide_eq_true (List.all_eq_true.mp a c hc), b⟩
theorem tl_joinL (y : Str) (ps : List Str) : TL.tl (Txt.join y ps) = TL.joinL (TL.tl y) (ps.map TL.tl) := by rw [TL.join_eq, TL.tl_join]
theorem mem_joinL {S : List Nat} {c : Nat} : ∀ {ps : List (List Nat)}, c ∈ TL.joinL S ps → c ∈ S ∨ ∃ p ∈ ps, c ∈ p
  | [], h => by cases h
  | [p], h => .inr ⟨p, List.mem_singleton.mpr rfl, h⟩
  | p :: q :: r, h => by
    have h : c ∈ p ++ (S ++ TL.joinL S (q :: r)) := h
    rcases List.mem_append.mp h with h | h
    · exact .inr ⟨p, List.mem_cons_self .., h⟩
    · rcases List.mem_append.mp h with h | h
      · exact .inl h
      · rcases mem_joinL h with h | ⟨z, hz, h⟩
        · exact .inl h
        · exact .inr ⟨z, List.mem_cons_of_mem _ hz, h⟩
theorem free_join {y : Str} {c : Nat} {ps : List Str} (hy : c ∉ TL.tl y) (h : ∀ p ∈ ps, c ∉ TL.tl p) : c ∉ TL.tl (Txt.join y ps) := fun hc => by
  rw [tl_joinL] at hc
  rcases mem_joinL hc with hc | ⟨p, hp, hc⟩
  · exact hy hc
  · obtain ⟨z, hz, rfl⟩ := List.mem_map.mp hp
    exact h z hz hc
theorem Low.free {z : Str} (h : Low z) {c : Nat} (hc : c < 97) : c ∉ TL.tl z := fun e => by
  have := (h c e).1
  omega
/-- dimensions whose names are names and whose ways are ways -/
def WOk (d : Dm) : Prop := Low d.1 ∧ ∀ a ∈ d.2, Low a.1 ∧ IsWay a.2
theorem tl_colon : TL.tl (":" : Str) = [58] := by decide +kernel
theorem tl_blank : TL.tl (" " : Str) = [32] := by decide +kernel
theorem tl_semi : TL.tl ("; " : Str) = [59, 32] := by decide +kernel
theorem attT_free {a : Str × Str} (h1 : Low a.1) (h2 : Low a.2) {c : Nat} (hc : c < 97) (n : c ≠ 58) : c ∉ TL.tl (attT a) := fun e => by
  unfold attT at e
  rw [TL.tl_append, TL.tl_append, tl_colon] at e
  rcases List.mem_append.mp e with e | e
  · rcases List.mem_append.mp e with e | e
    · exact h1.free hc e
    · exact n (List.mem_singleton.mp e)
  · exact h2.free hc e
theorem dimW_free {d : Dm} (h : WOk d) {c : Nat} (hc : c < 97) (n : c ≠ 58) : ∀ p ∈ dimW d, c ∉ TL.tl p := fun p hp => by
  have hd : Low ("dim" : Str) := fun c hc => by
    have : ∀ c ∈ ("dim" : Str).cps.toList, 97 ≤ c ∧ c ≤ 122 := by decide +kernel
    exact this c hc
  unfold dimW at hp
  rcases List.mem_append.mp hp with hp | hp
  · rcases List.mem_cons.mp hp with rfl | hp
    · exact hd.free hc
    · rw [List.mem_singleton.mp hp]
      exact h.1.free hc
  · obtain ⟨a, ha, rfl⟩ := List.mem_map.mp hp
    exact attT_free (h.2 a ha).1 (h.2 a ha).2.nm.1 hc n
theorem split_dim {d : Dm} (h : WOk d) : Txt.split (dimT d) " " = dimW d := TL.split_join tl_blank (by decide +kernel) (by unfold dimW; simp) (dimW_free h (by decide) (by decide))
theorem split_att {a : Str × Str} (h1 : Low a.1) (h2 : Low a.2) : Txt.split (attT a) ":" = [a.1, a.2] := by
  have e : attT a = Txt.join ":" [a.1, a.2] := by rw [TL.join_eq]; rfl
  rw [e]
  refine TL.split_join tl_colon (by decide +kernel) (by simp) fun p hp => ?_
  rcases List.mem_cons.mp hp with rfl | hp
  · exact h1.free (by decide)
  · rw [List.mem_singleton.mp hp]
    exact h2.free (by decide)
theorem low_sum : Low ("sum" : Str) := fun c hc => by
  have : ∀ c ∈ ("sum" : Str).cps.toList, 97 ≤ c ∧ c ≤ 122 := by decide +kernel
  exact this c hc
theorem split_sum {ms : List Str} (h : ∀ z ∈ ms, Low z) : Txt.split (Txt.join " " (sumW ms)) " " = sumW ms := by
  refine TL.split_join tl_blank (by decide +kernel) (by unfold sumW; simp) fun p hp => ?_
  unfold sumW at hp
  rcases List.mem_append.mp hp with hp | hp
  · rw [List.mem_singleton.mp hp]
    exact low_sum.free (by decide)
  · exact (h p hp).free (by decide)
theorem dimT_free {d : Dm} (h : WOk d) : 59 ∉ TL.tl (dimT d) := free_join (by rw [tl_blank]; decide) (dimW_free h (by decide) (by decide))
theorem sum_free {ms : List Str} (h : ∀ z ∈ ms, Low z) : 59 ∉ TL.tl (Txt.join " " (sumW ms)) := free_join (by rw [tl_blank]; decide) fun p hp => by
  unfold sumW at hp
  rcases List.mem_append.mp hp with hp | hp
  · rw [List.mem_singleton.mp hp]
    exact low_sum.free (by decide)
  · exact (h p hp).free (by decide)
theorem split_plan {ds : List Dm} {ms : List Str} (hn : ds ≠ []) (h : ∀ d ∈ ds, WOk d) (hm : ∀ z ∈ ms, Low z) : Txt.split (planT ds ms) "; " = planW ds ms := by
  refine TL.split_join tl_semi (by decide +kernel) (by unfold planW; simp [hn]) fun p hp => ?_
  unfold planW at hp
  rcases List.mem_append.mp hp with hp | hp
  · obtain ⟨d, hd, rfl⟩ := List.mem_map.mp hp
    exact dimT_free (h d hd)
  · unfold sumT at hp
    split at hp
    · cases hp
    · rw [List.mem_singleton.mp hp]
      exact sum_free hm
/-! ### lengths -/
theorem joinL_len {S : List Nat} : ∀ ps : List (List Nat), (TL.joinL S ps).length ≤ (ps.map (·.length)).sum + ps.length * S.length
  | [] => Nat.zero_le _
  | [p] => by show p.length ≤ p.length + 0 + 1 * S.length; omega
  | p :: q :: r => by
    have := joinL_len (S := S) (q :: r)
    show (p ++ (S ++ TL.joinL S (q :: r))).length ≤ p.length + ((q :: r).map (·.length)).sum + ((q :: r).length + 1) * S.length
    rw [List.length_append, List.length_append, Nat.add_mul]
    omega
theorem sum_le {b : Nat} : ∀ {xs : List Str}, (∀ x ∈ xs, x.length ≤ b) → (xs.map (·.length)).sum ≤ xs.length * b
  | [], _ => Nat.zero_le _
  | x :: xs, h => by
    have h1 := h x (List.mem_cons_self ..)
    have h2 := sum_le fun z hz => h z (List.mem_cons_of_mem _ hz)
    show x.length + (xs.map (·.length)).sum ≤ (xs.length + 1) * b
    rw [Nat.add_mul]
    omega
theorem join_len {y : Str} {xs : List Str} {b : Nat} (h : ∀ x ∈ xs, x.length ≤ b) : (Txt.join y xs).length ≤ xs.length * (b + y.length) := by
  rw [TL.len_tl, tl_joinL]
  refine Nat.le_trans (joinL_len _) ?_
  have e : ((xs.map TL.tl).map (·.length)).sum = (xs.map (·.length)).sum := by
    rw [List.map_map]
    refine congrArg List.sum (List.map_congr_left fun z _ => (TL.len_tl z).symm)
  have := sum_le h
  rw [e, List.length_map, ← TL.len_tl, Nat.mul_add]
  omega
theorem attT_len {a : Str × Str} (h1 : a.1.length ≤ 8) (h2 : a.2.length ≤ 8) : (attT a).length ≤ 17 := by
  unfold attT
  rw [len_append, len_append]
  have : (":" : Str).length = 1 := by decide +kernel
  omega
end Kd

namespace Kd
open PySem PySem.Spec PyProof.Rows L2
def top (i : Nat) : Stmt := PySem.Challenge.pw_kindsofday_k05_whole_rows_by_counts_alon.main.body.getD i (.Pass ⟨0, 0, 0, 0⟩)
abbrev s_DayError_init : Stmt := inClass (top 1) 0
abbrev s_NoPlan_init : Stmt := inClass (top 2) 0
abbrev s_NoRow_init : Stmt := inClass (top 3) 0
abbrev s_is_name : Stmt := top 7
abbrev s_is_made_of : Stmt := top 8
abbrev s_Plan_init : Stmt := inClass (top 13) 0
abbrev s_Plan_dimensions : Stmt := inClass (top 13) 1
abbrev s_Plan_measures : Stmt := inClass (top 13) 2
abbrev s_Plan_eq : Stmt := inClass (top 13) 3
abbrev s_Plan_ne : Stmt := inClass (top 13) 4
abbrev s_first_fault : Stmt := top 14
abbrev s_are_faulty : Stmt := top 15
abbrev s_attributes_of : Stmt := top 16
abbrev s_look : Stmt := top 17
abbrev s_has_form : Stmt := top 18
abbrev s_kind_fits : Stmt := top 19
abbrev s_fact_fits : Stmt := top 20
abbrev s_l_tray : Stmt := top 22
abbrev s_l_draw : Stmt := top 23
abbrev s_l_great : Stmt := top 24
abbrev s_l_name : Stmt := top 25
abbrev s_l_names : Stmt := top 26
abbrev s_l_lists : Stmt := top 27
abbrev s_l_text : Stmt := top 28
abbrev s_l_whole : Stmt := top 29
abbrev s_l_value : Stmt := top 30
abbrev s_l_row : Stmt := top 31
abbrev s_l_turned : Stmt := top 32
abbrev s_l_other : Stmt := top 33
abbrev s_l_free_row : Stmt := top 34
abbrev s_l_refused : Stmt := top 35
abbrev s_law : Stmt := top 36
abbrev FnP (K : PySem.W.Frag) (x qual : Str) (st : Stmt) (f : Addr) (fd : FuncData) : Prop := FunD K x qual (defArgs st) (defBody st) (defScope st) [] [] f fd
section
variable {P : Program} {w : World} {K : PySem.W.Frag} {mg : Str → Option Value} {base : Heap} {f : Addr} {fd : FuncData}
/-! ### is_name -/
def nmB (z : Str) : Bool := decide (1 ≤ z.length) && (decide (z.length ≤ 8) && z.cps.toList.all fun c => decide (97 ≤ c ∧ c ≤ 122))
def spIsName : Sp := fun vs H Q _ => ∃ z : Str, vs = [.str z] ∧ z.length ≤ 4000 ∧ ∀ H', Same H H' → Q (.bl (nmB z)) H'
/-! ### is_made_of -/
def madeB (z s : Str) : Bool := z.cps.toList.all fun c => decide (c ∈ s.cps.toList)
theorem made_abc (z : Str) : madeB z abc = z.cps.toList.all fun c => decide (97 ≤ c ∧ c ≤ 122) := by
  unfold madeB
  congr 1
  funext c
  simp only [mem_abc]
def spMade : Sp := fun vs H Q _ => ∃ z s : Str, vs = [.str z, .str s] ∧ z.length ≤ 4000 ∧ ∀ H', Same H H' → Q (.bl (madeB z s)) H'
theorem sc_made : FnScope ["text", "signs", "sign"] ["text", "signs"] (defScope s_is_made_of) := ⟨rfl, rfl, rfl, by decide +kernel, rfl, by decide +kernel, by decide +kernel⟩
theorem ok_made (F : FnP K "is_made_of" "is_made_of" s_is_made_of f fd) (ga : mg "all" = none) : FnOk P w K mg base CX0 1 f fd ["text", "signs"] spMade := by
  refine F.ok sc_made (fun vs H Q E h => ?_) (fun cdv A outer s H vs Q E hr h => ?_)
  · obtain ⟨z, s, rfl, _⟩ := h
    rfl
  · obtain ⟨z, s2, rfl, hz, k⟩ := h
    refine ⟨_, PSs.nox (pss_one (ps_ret (pe_callB (cr_all rfl) (by rfl) ga (by decide +kernel) (pa_cons (pe_lc (own := [("sign", 2)]) (g := gName 2) (tt := tYes) rfl sc_made.nd (pi_str (pv 0)) (blkOk_by (own := [("sign", 2)]) (N := ["text", "signs", "sign"]) (sc := defScope s_is_made_of) (by decide +kernel))
        (fun _ _ _ _ _ => pg_name (i := 2) sc_made.nd rfl (Or.inl rfl)) (fun _ _ _ _ _ => pts_nil) (fun _ _ _ _ _ => pe_cmpR op_in_sign (pv 2) (pv 1) (by rfl))) pa_nil)))), ?_⟩
    have ez : z.length = z.cps.toList.length := by rw [Array.length_toList]; rfl
    refine ⟨_, rfl, z, rfl, fun D hD => lc_build walk_str hD (fun i ys R => Same H R ∧ ys = (z.cps.toList.take i).map fun c => V.bl (decide (c ∈ s2.cps.toList))) ⟨Same.refl H, rfl⟩ (fun _ _ _ _ _ => trivial) ?_ ?_⟩
    · rintro i ys x H2 H2' hi e l ⟨sm, rfl⟩ ⟨rfl, c, hc, rfl⟩
      refine ⟨rfl, yes ?_⟩
      refine ⟨_, rfl, _, rfl, c, s2, rfl, rfl, LcNx.add e l (by have : z.length = z.cps.size := rfl; omega) ⟨sm, ?_⟩⟩
      have hc2 : z.cps.toList[i]? = some c := by rw [Array.getElem?_toList]; exact hc
      obtain ⟨h1, h2⟩ := List.getElem?_eq_some_iff.mp hc2
      rw [List.take_succ_eq_append_getElem h1, List.map_append, h2]
      rfl
    · rintro ys H2 e l ⟨sm, rfl⟩
      refine ⟨D, (z.cps.toList.take z.cps.size).map fun c => decide (c ∈ s2.cps.toList), rfl, SqL.of (by rw [List.map_map]; exact e), ?_⟩
      have e1 : madeB z s2 = (((z.cps.toList.take z.cps.size).map fun c => decide (c ∈ s2.cps.toList)).all id) := by
        have et : z.cps.toList.take z.cps.size = z.cps.toList := List.take_of_length_le (by rw [Array.length_toList]; exact Nat.le_refl _)
        unfold madeB
        rw [et, List.all_map]
        rfl
      rw [← e1]
      exact k H2 (sm.trans cd_sub)
theorem sc_is_name : FnScope ["text"] ["text"] (defScope s_is_name) := ⟨rfl, rfl, rfl, by decide +kernel, rfl, by decide +kernel, by decide +kernel⟩
theorem ok_is_name {fM : Addr} {fdM : FuncData} (F : FnP K "is_name" "is_name" s_is_name f fd) (GM : FnOk P w K mg base CX0 1 fM fdM ["text", "signs"] spMade) (kM : PySem.W.keepIn K (.ref fM) = true) (bM : Binds K fdM ["text", "signs"] []) (gM : mg "is_made_of" = some (.ref fM)) (gl : mg "len" = none) {t1 t2 : Nat} (gS : mg "SMALL_LETTERS" = some (.str abc t1)) (gL : mg "LONGEST_NAME" = some (.int 8 t2)) : FnOk P w K mg base CX0 2 f fd ["text"] spIsName := by
  refine F.ok sc_is_name (fun vs H Q E h => ?_) (fun cdv A outer s H vs Q E hr h => ?_)
  · obtain ⟨z, rfl, _⟩ := h
    rfl
  · obtain ⟨z, rfl, hz, k⟩ := h
    refine ⟨_, PSs.nox (pss_one (ps_ret (pe_and (pe_chain op_le op_le pe_int (pe_callB call_len_str (by rfl) gl boot_len (pa_cons (pv 0) pa_nil)) (pe_glob (v := .int 8) rfl gL ⟨_, rfl⟩))
      (pe_one (pe_call GM hr rfl gM kM bM .nil pass0 (pa_cons (pv 0) (pa_cons (pe_glob (v := .str abc) rfl gS ⟨_, rfl⟩) pa_nil))))))), ?_⟩
    refine ⟨_, rfl, z, rfl, le_line hz, _, _, rfl, rfl, _, rfl, ?_⟩
    refine ite2 (fun c1 => ?_) (fun c1 => ?_)
    · have c1 : (1 : Int) ≤ (z.length : Int) := of_decide_eq_true c1
      refine ⟨_, _, rfl, rfl, _, rfl, ?_⟩
      refine ite2 (fun c2 => ?_) (fun c2 => ?_)
      · have c2 : (z.length : Int) ≤ 8 := of_decide_eq_true c2
        refine ⟨_, rfl, z, abc, rfl, hz, fun H2 s2 => ?_⟩
        have e1 : nmB z = madeB z abc := by
          unfold nmB
          rw [made_abc, decide_eq_true (by omega : 1 ≤ z.length), decide_eq_true (by omega : z.length ≤ 8)]
          simp only [Bool.true_and]
        rw [← e1]
        exact k H2 s2
      · have c2 : ¬ (z.length : Int) ≤ 8 := fun q => c2 (decide_eq_true q)
        have e1 : nmB z = false := by
          unfold nmB
          rw [decide_eq_false (by omega : ¬ z.length ≤ 8), Bool.false_and, Bool.and_false]
        rw [e1] at k
        exact k H (Same.refl H)
    · have c1 : ¬ (1 : Int) ≤ (z.length : Int) := fun q => c1 (decide_eq_true q)
      have e1 : nmB z = false := by
        unfold nmB
        rw [decide_eq_false (by omega : ¬ 1 ≤ z.length), Bool.false_and]
      rw [e1] at k
      exact ⟨_, rfl, iteF (k H (Same.refl H))⟩
/-! ### are_faulty -/
def fltB (xs : List Str) (m : Int) : Bool := decide (m < (xs.length : Int)) || (decide (((KdS.dcn xs xs.length : Nat) : Int) < (xs.length : Int)) || !(xs.all nmB))
def spFaulty (K : PySem.W.Frag) : Sp := fun vs H Q _ => ∃ (l : Addr) (xs : List Str) (m : Int), vs = [.ref l, .int m] ∧ Txs K H l xs ∧ xs.length ≤ 4000 ∧ (∀ z ∈ xs, z.length ≤ 4000) ∧ ∀ H', Same H H' → Q (.bl (fltB xs m)) H'
theorem sc_are_faulty : FnScope ["names", "most", "name"] ["names", "most"] (defScope s_are_faulty) := ⟨rfl, rfl, rfl, by decide +kernel, rfl, by decide +kernel, by decide +kernel⟩
theorem flt_end {xs : List Str} {m : Int} (h1 : ¬ m < (xs.length : Int)) (h2 : ¬ ((KdS.dcn xs xs.length : Nat) : Int) < (xs.length : Int)) : fltB xs m = !((xs.take xs.length).map nmB).all id := by
  unfold fltB
  rw [decide_eq_false h1, decide_eq_false h2, List.take_length, List.all_map, Bool.false_or, Bool.false_or]
  rfl
theorem strs_at {xs : List Str} {i : Nat} {x : V} (h : (xs.map V.str)[i]? = some x) : ∃ z, x = .str z ∧ xs[i]? = some z := by
  rw [List.getElem?_map] at h
  cases e : xs[i]? with
  | none => rw [e] at h; cases h
  | some z => rw [e] at h; exact ⟨z, (Option.some.inj h).symm, rfl⟩
theorem take_nm {xs : List Str} {i : Nat} {z : Str} (h : xs[i]? = some z) : ((xs.take i).map fun z => V.bl (nmB z)) ++ [V.bl (nmB z)] = (xs.take (i + 1)).map fun z => V.bl (nmB z) := by
  obtain ⟨h1, h2⟩ := List.getElem?_eq_some_iff.mp h
  rw [List.take_succ_eq_append_getElem h1, List.map_append, h2]
  rfl
theorem ok_are_faulty {fI : Addr} {fdI : FuncData} (F : FnP K "are_faulty" "are_faulty" s_are_faulty f fd) (GI : FnOk P w K mg base CX0 2 fI fdI ["text"] spIsName) (kI : PySem.W.keepIn K (.ref fI) = true) (bI : Binds K fdI ["text"] []) (gI : mg "is_name" = some (.ref fI))
    (gl : mg "len" = none) (gs : mg "set" = none) (ga : mg "all" = none) : FnOk P w K mg base CX0 3 f fd ["names", "most"] (spFaulty K) := by
  refine F.ok sc_are_faulty (fun vs H Q E h => ?_) (fun cdv A outer s H vs Q E hr h => ?_)
  · obtain ⟨l, xs, m, rfl, _⟩ := h
    rfl
  · obtain ⟨l, xs, m, rfl, hx, hn, hz, k⟩ := h
    rcases hx with hx | hx
    · refine ⟨_, PSs.nox (pss_cons (ps_if (PW.pt (pw_or (pt_cmpR op_gt (pe_callB call_len_seq (by rfl) gl boot_len (pa_cons (pv 0) pa_nil)) (pv 1) (nomark _)) (pw_or1 (pt_cmpR op_lt (pe_lenSetS rfl gl rfl gs (pv 0)) (pe_callB call_len_seq (by rfl) gl boot_len (pa_cons (pv 0) pa_nil)) (nomark _))))) (pss_one (ps_ret pe_bl)) pss_nil)
        (pss_one (ps_ret (pe_not (pe_callB (cr_all rfl) (by rfl) ga (by decide +kernel) (pa_cons (pe_lc (own := [("name", 2)]) (g := gName 2) (tt := tYes) rfl sc_are_faulty.nd (pi_list (pv 0)) (blkOk_by (own := [("name", 2)]) (N := ["names", "most", "name"]) (sc := defScope s_are_faulty) (by decide +kernel))
          (fun _ _ _ _ _ => pg_name (i := 2) sc_are_faulty.nd rfl (Or.inl rfl)) (fun _ _ _ _ _ => pts_nil) (fun _ _ _ _ _ => pe_call GI hr rfl gI kI bI .nil pass0 (pa_cons (pv 2) pa_nil))) pa_nil)))))), ?_⟩
      refine ⟨_, rfl, l, _, rfl, .inl hx, _, rfl, _, _, rfl, rfl, _, rfl, ?_⟩
      refine ite2 (fun c1 => ?_) (fun c1 => ?_)
      · have c1 : m < ((xs.map V.str).length : Int) := of_decide_eq_true c1
        rw [List.length_map] at c1
        have e1 : fltB xs m = true := by unfold fltB; rw [decide_eq_true c1, Bool.true_or]
        rw [e1] at k
        exact iteT (k H (Same.refl H))
      · have c1 : ¬ m < ((xs.map V.str).length : Int) := fun q => c1 (decide_eq_true q)
        rw [List.length_map] at c1
        refine ⟨_, rfl, l, xs, rfl, .inl hx, hn, _, rfl, l, _, rfl, .inl hx, _, _, rfl, rfl, _, rfl, ?_⟩
        refine ite2 (fun c2 => ?_) (fun c2 => ?_)
        · have c2 : ((KdS.dcn xs xs.length : Nat) : Int) < ((xs.map V.str).length : Int) := of_decide_eq_true c2
          rw [List.length_map] at c2
          have e1 : fltB xs m = true := by unfold fltB; rw [decide_eq_true c2, Bool.true_or, Bool.or_true]
          rw [e1] at k
          exact k H (Same.refl H)
        · have c2 : ¬ ((KdS.dcn xs xs.length : Nat) : Int) < ((xs.map V.str).length : Int) := fun q => c2 (decide_eq_true q)
          rw [List.length_map] at c2
          refine ⟨_, rfl, l, rfl, ⟨_, hx⟩, fun D hD => lc_build (walk_list (K := K) (a := l)) hD (fun i ys R => Same H R ∧ ys = (xs.take i).map fun z => V.bl (nmB z)) ⟨Same.refl H, rfl⟩ (fun _ _ _ _ p => Same.seq (p.1.trans cd_sub) hx) ?_ ?_⟩
          · rintro i ys x H2 H2' hi e ly ⟨sm, rfl⟩ ⟨rfl, hy⟩
            obtain ⟨z, rfl, hy2⟩ := strs_at hy
            refine ⟨rfl, yes ?_⟩
            refine ⟨_, rfl, z, rfl, hz z (List.mem_of_getElem? hy2), fun H3 s3 => LcNx.add (s3 _ _ e) ly (by rw [List.length_map] at hi; omega) ⟨sm.trans (cd_same s3), ?_⟩⟩
            exact take_nm hy2
          · rintro ys H2 e ly ⟨sm, rfl⟩
            rw [List.length_map] at e
            refine ⟨D, (xs.take xs.length).map nmB, rfl, SqL.of (by rw [List.map_map]; exact e), _, rfl, ?_⟩
            have e2 := flt_end c1 c2
            rw [e2] at k
            exact k H2 (sm.trans cd_sub)
    · refine ⟨_, PSs.nox (pss_cons (ps_if (PW.pt (pw_or (pt_cmpR op_gt (pe_callB call_len_seq (by rfl) gl boot_len (pa_cons (pv 0) pa_nil)) (pv 1) (nomark _)) (pw_or1 (pt_cmpR op_lt (pe_lenSetS rfl gl rfl gs (pv 0)) (pe_callB call_len_seq (by rfl) gl boot_len (pa_cons (pv 0) pa_nil)) (nomark _))))) (pss_one (ps_ret pe_bl)) pss_nil)
        (pss_one (ps_ret (pe_not (pe_callB (cr_all rfl) (by rfl) ga (by decide +kernel) (pa_cons (pe_lc (own := [("name", 2)]) (g := gName 2) (tt := tYes) rfl sc_are_faulty.nd (pi_tup (pv 0)) (blkOk_by (own := [("name", 2)]) (N := ["names", "most", "name"]) (sc := defScope s_are_faulty) (by decide +kernel))
          (fun _ _ _ _ _ => pg_name (i := 2) sc_are_faulty.nd rfl (Or.inl rfl)) (fun _ _ _ _ _ => pts_nil) (fun _ _ _ _ _ => pe_call GI hr rfl gI kI bI .nil pass0 (pa_cons (pv 2) pa_nil))) pa_nil)))))), ?_⟩
      refine ⟨_, rfl, l, _, rfl, .inr hx, _, rfl, _, _, rfl, rfl, _, rfl, ?_⟩
      refine ite2 (fun c1 => ?_) (fun c1 => ?_)
      · have c1 : m < ((xs.map V.str).length : Int) := of_decide_eq_true c1
        rw [List.length_map] at c1
        have e1 : fltB xs m = true := by unfold fltB; rw [decide_eq_true c1, Bool.true_or]
        rw [e1] at k
        exact iteT (k H (Same.refl H))
      · have c1 : ¬ m < ((xs.map V.str).length : Int) := fun q => c1 (decide_eq_true q)
        rw [List.length_map] at c1
        refine ⟨_, rfl, l, xs, rfl, .inr hx, hn, _, rfl, l, _, rfl, .inr hx, _, _, rfl, rfl, _, rfl, ?_⟩
        refine ite2 (fun c2 => ?_) (fun c2 => ?_)
        · have c2 : ((KdS.dcn xs xs.length : Nat) : Int) < ((xs.map V.str).length : Int) := of_decide_eq_true c2
          rw [List.length_map] at c2
          have e1 : fltB xs m = true := by unfold fltB; rw [decide_eq_true c2, Bool.true_or, Bool.or_true]
          rw [e1] at k
          exact k H (Same.refl H)
        · have c2 : ¬ ((KdS.dcn xs xs.length : Nat) : Int) < ((xs.map V.str).length : Int) := fun q => c2 (decide_eq_true q)
          rw [List.length_map] at c2
          refine ⟨_, rfl, l, rfl, ⟨_, hx⟩, fun D hD => lc_build (walk_tup (K := K) (a := l)) hD (fun i ys R => Same H R ∧ ys = (xs.take i).map fun z => V.bl (nmB z)) ⟨Same.refl H, rfl⟩ (fun _ _ _ _ p => Same.seqT (p.1.trans cd_sub) hx) ?_ ?_⟩
          · rintro i ys x H2 H2' hi e ly ⟨sm, rfl⟩ ⟨rfl, hy⟩
            obtain ⟨z, rfl, hy2⟩ := strs_at hy
            refine ⟨rfl, yes ?_⟩
            refine ⟨_, rfl, z, rfl, hz z (List.mem_of_getElem? hy2), fun H3 s3 => LcNx.add (s3 _ _ e) ly (by rw [List.length_map] at hi; omega) ⟨sm.trans (cd_same s3), ?_⟩⟩
            exact take_nm hy2
          · rintro ys H2 e ly ⟨sm, rfl⟩
            rw [List.length_map] at e
            refine ⟨D, (xs.take xs.length).map nmB, rfl, SqL.of (by rw [List.map_map]; exact e), _, rfl, ?_⟩
            have e2 := flt_end c1 c2
            rw [e2] at k
            exact k H2 (sm.trans cd_sub)
/-! ### a plan's lists in the heap -/
def AttAt (K : PySem.W.Frag) (H : Hp) (y : V) (a : Str × Str) : Prop := ∃ r, y = .ref r ∧ SqT K H r [.str a.1, .str a.2]
def AttsAt (K : PySem.W.Frag) (H : Hp) (q : Addr) (as : List (Str × Str)) : Prop := ∃ ys, SqT K H q ys ∧ Paired (AttAt K H) ys as
def DimAt (K : PySem.W.Frag) (H : Hp) (x : V) (d : Str × List (Str × Str)) : Prop := ∃ p q, x = .ref p ∧ SqT K H p [.str d.1, .ref q] ∧ AttsAt K H q d.2
def DimsAt (K : PySem.W.Frag) (H : Hp) (l : Addr) (ds : List (Str × List (Str × Str))) : Prop := ∃ xs, SqL K H l xs ∧ Paired (DimAt K H) xs ds
theorem AttAt.same {H H' : Hp} {y : V} {a : Str × Str} (e : Same H H') : AttAt K H y a → AttAt K H' y a := fun ⟨r, h1, h2⟩ => ⟨r, h1, Same.seqT e h2⟩
theorem AttsAt.same {H H' : Hp} {q : Addr} {as : List (Str × Str)} (e : Same H H') : AttsAt K H q as → AttsAt K H' q as := fun ⟨ys, h1, h2⟩ => ⟨ys, Same.seqT e h1, PySem.Paired.mono (fun _ _ => AttAt.same e) h2⟩
theorem DimAt.same {H H' : Hp} {x : V} {d : Str × List (Str × Str)} (e : Same H H') : DimAt K H x d → DimAt K H' x d := fun ⟨p, q, h1, h2, h3⟩ => ⟨p, q, h1, Same.seqT e h2, h3.same e⟩
theorem DimsAt.same {H H' : Hp} {l : Addr} {ds : List (Str × List (Str × Str))} (e : Same H H') : DimsAt K H l ds → DimsAt K H' l ds := fun ⟨xs, h1, h2⟩ => ⟨xs, e.seq h1, PySem.Paired.mono (fun _ _ => DimAt.same e) h2⟩
theorem paired_at {α β : Type} {R : α → β → Prop} : ∀ {l : List α} {m : List β} {i : Nat} {a : α}, Paired R l m → l[i]? = some a → ∃ b, m[i]? = some b ∧ R a b
  | _, _, i, a, .nil, e => by simp at e
  | _, _, 0, a, .cons h _, e => ⟨_, rfl, by have e2 : _ = a := Option.some.inj e; rw [← e2]; exact h⟩
  | _, _, i + 1, a, .cons _ r, e => paired_at (i := i) r e
theorem take_snoc {α β : Type} {g : α → β} {l : List α} {i : Nat} {a : α} (h : l[i]? = some a) : (l.take i).map g ++ [g a] = (l.take (i + 1)).map g := by
  obtain ⟨h1, h2⟩ := List.getElem?_eq_some_iff.mp h
  rw [List.take_succ_eq_append_getElem h1, List.map_append, h2]
  rfl
structure Szd (ds : List (Str × List (Str × Str))) (ms : List Str) : Prop where
  dl : ds.length ≤ 4000
  dn : ∀ d ∈ ds, d.1.length ≤ 4000 ∧ d.2.length ≤ 4000 ∧ ∀ a ∈ d.2, a.1.length ≤ 4000
  ml : ms.length ≤ 4000
  mn : ∀ m ∈ ms, m.length ≤ 4000
/-! ### first_fault -/
def ffV (ds : List (Str × List (Str × Str))) (ms : List Str) : V := if (ds.isEmpty || fltB (ds.map (·.1)) 4) = true then .str "dimensions" else if ds.any (fun d => fltB (d.2.map (·.1)) 5) = true then .str "attributes" else if fltB ms 4 = true then .str "measures" else .non
def spFirst (K : PySem.W.Frag) : Sp := fun vs H Q _ => ∃ (l m : Addr) (ds : List (Str × List (Str × Str))) (ms : List Str), vs = [.ref l, .ref m] ∧ DimsAt K H l ds ∧ Txs K H m ms ∧ Szd ds ms ∧ ∀ H', Same H H' → Q (ffV ds ms) H'
theorem sc_first : FnScope ["dimensions", "measures", "name", "attributes", "names", "attribute", "way"] ["dimensions", "measures"] (defScope s_first_fault) := ⟨rfl, rfl, rfl, by decide +kernel, rfl, by decide +kernel, by decide +kernel⟩
theorem ok_first {fF : Addr} {fdF : FuncData} (F : FnP K "first_fault" "first_fault" s_first_fault f fd) (GF : FnOk P w K mg base CX0 3 fF fdF ["names", "most"] (spFaulty K)) (kF : PySem.W.keepIn K (.ref fF) = true) (bF : Binds K fdF ["names", "most"] []) (gF : mg "are_faulty" = some (.ref fF))
    {t1 t2 t3 : Nat} (g1 : mg "MOST_DIMENSIONS" = some (.int 4 t1)) (g2 : mg "MOST_ATTRIBUTES" = some (.int 5 t2)) (g3 : mg "MOST_MEASURES" = some (.int 4 t3)) : FnOk P w K mg base CX0 4 f fd ["dimensions", "measures"] (spFirst K) := by
  refine F.ok sc_first (fun vs H Q E h => ?_) (fun cdv A outer s H vs Q E hr h => ?_)
  · obtain ⟨l, m, ds, ms, rfl, _⟩ := h
    rfl
  · obtain ⟨l, m, ds, ms, rfl, ⟨xs, hl, hp⟩, hm, sz, k⟩ := h
    have nd := sc_first.nd
    refine ⟨_, PSs.nox (pss_cons (ps_setLc (i := 4) (own := [("name", 2), ("attributes", 3)]) (g := gTup K 2 (gCons (gName 2) (gCons (gName 3) gNil))) (tt := tYes) rfl nd rfl rfl (sw_true rfl rfl rfl (by decide +kernel)) (pi_list (pv 0)) (blkOk_by (own := [("name", 2), ("attributes", 3)]) (N := ["dimensions", "measures", "name", "attributes", "names", "attribute", "way"]) (sc := defScope s_first_fault) (by decide +kernel))
        (fun _ _ _ _ _ => pg_tup rfl (pgs_cons (pg_name (i := 2) nd rfl (Or.inl rfl)) (pgs_cons (pg_name (i := 3) nd rfl (Or.inl rfl)) pgs_nil))) (fun _ _ _ _ _ => pts_nil) (fun _ _ _ _ _ => pv 2))
      (pss_cons (ps_if (PW.pt (pw_or (pt_not (pt_truth (pv 4) (by intro _; rfl))) (pw_or1 (pt_val (pe_call GF hr rfl gF kF bF .nil pass0 (pa_cons (pv 4) (pa_cons (pe_glob (v := .int 4) rfl g1 ⟨_, rfl⟩) pa_nil))))))) (pss_one (ps_ret pe_str)) pss_nil)
      (pss_cons (ps_for PassesOwn.never rfl (pi_list (pv 0)) (pg_tup rfl (pgs_cons (pg_name (i := 2) nd rfl (Or.inl rfl)) (pgs_cons (pg_name (i := 3) nd rfl (Or.inl rfl)) pgs_nil)))
        (pss_one (ps_if (pt_val (pe_call GF hr rfl gF kF bF .nil pass0 (pa_cons (pe_lc (own := [("attribute", 5), ("way", 6)]) (g := gTup K 2 (gCons (gName 5) (gCons (gName 6) gNil))) (tt := tYes) rfl nd (pi_tup (pv 3)) (blkOk_by (own := [("attribute", 5), ("way", 6)]) (N := ["dimensions", "measures", "name", "attributes", "names", "attribute", "way"]) (sc := defScope s_first_fault) (by decide +kernel))
          (fun _ _ _ _ _ => pg_tup rfl (pgs_cons (pg_name (i := 5) nd rfl (Or.inl rfl)) (pgs_cons (pg_name (i := 6) nd rfl (Or.inl rfl)) pgs_nil))) (fun _ _ _ _ _ => pts_nil) (fun _ _ _ _ _ => pv 5)) (pa_cons (pe_glob (v := .int 5) rfl g2 ⟨_, rfl⟩) pa_nil)))) (pss_one (ps_ret pe_str)) pss_nil)))
      (pss_cons (ps_if (pt_val (pe_call GF hr rfl gF kF bF .nil pass0 (pa_cons (pv 1) (pa_cons (pe_glob (v := .int 4) rfl g3 ⟨_, rfl⟩) pa_nil)))) (pss_one (ps_ret pe_str)) pss_nil)
      (pss_one (ps_ret pe_non)))))), ?_⟩
    refine ⟨_, rfl, l, rfl, ⟨_, hl⟩, fun D hD => lc_build (walk_list (K := K) (a := l)) hD (fun i ys R => Same H R ∧ ys = (ds.take i).map fun d => V.str d.1) ⟨Same.refl H, rfl⟩ (fun _ _ _ _ p => Same.seq (p.1.trans cd_sub) hl) ?_ ?_⟩
    · rintro i ys x H2 H2' hi e ly ⟨sm, rfl⟩ ⟨rfl, hy⟩
      obtain ⟨d, hd, p, q, rfl, h1, h2⟩ := paired_at hp hy
      have sz1 := sz.dl
      have hlen := hp.length
      refine ⟨p, _, rfl, Same.seqT (sm.trans cd_sub) h1, rfl, _, _, rfl, _, _, rfl, rfl, rfl, yes ?_⟩
      refine ⟨_, rfl, LcNx.add e ly (by omega) ⟨sm, take_snoc hd⟩⟩
    · rintro ys H2 e ly ⟨sm, rfl⟩
      have hlen := hp.length
      have eN : (ds.take xs.length).map (fun d => V.str d.1) = (ds.map (·.1)).map V.str := by
        rw [hlen, List.take_length, List.map_map]
        rfl
      rw [eN] at e
      have s2 : Same H H2 := sm.trans cd_sub
      have l1 := sz.dl
      have hnm : ∀ z ∈ ds.map (·.1), z.length ≤ 4000 := fun z hz => by
        obtain ⟨d, hd, rfl⟩ := List.mem_map.mp hz
        exact (sz.dn d hd).1
      refine ⟨_, rfl, _, .inl ⟨_, SqL.of e, rfl⟩, ?_⟩
      by_cases e0 : ds = []
      · subst e0
        exact iteT (iteT (k H2 s2))
      · have ne : (!((ds.map (·.1)).map V.str).isEmpty) = true := by
          cases ds with
          | nil => exact absurd rfl e0
          | cons d r => rfl
        rw [ne]
        refine iteF ⟨_, rfl, D, ds.map (·.1), 4, rfl, .inl (SqL.of e), by rw [List.length_map]; exact l1, hnm, fun H3 s3 => ⟨_, rfl, ?_⟩⟩
        have ie : ds.isEmpty = false := by
          cases ds with
          | nil => exact absurd rfl e0
          | cons d r => rfl
        have s03 : Same H H3 := s2.trans s3
        by_cases c1 : fltB (ds.map (·.1)) 4 = true
        · rw [c1]
          have ev : ffV ds ms = .str "dimensions" := by unfold ffV; rw [ie, c1]; rfl
          rw [ev] at k
          exact iteT (k H3 s03)
        · have c1 : fltB (ds.map (·.1)) 4 = false := by simpa using c1
          rw [c1]
          refine iteF ?_
          refine ⟨_, rfl, l, rfl, ⟨_, s03.seq hl⟩, for_list (K := K) (a := l) (xs := xs) (fun i σ H4 => ∃ u v, σ = [some (.ref l), some (.ref m), u, v, some (.ref D), none, none] ∧ Same H H4 ∧ (ds.take i).any (fun d => fltB (d.2.map (·.1)) 5) = false) ⟨_, _, rfl, s03, rfl⟩ (fun i σ H4 _ ⟨_, _, _, s4, _⟩ => s4.seq hl) ?_ ?_⟩
          · rintro i x σ H4 hi ⟨u, v, rfl, s4, na⟩
            obtain ⟨d, hd, p, q, rfl, h1, ys, h2, h3⟩ := paired_at hp hi
            have hdm := List.mem_of_getElem? hd
            obtain ⟨_, la, lz⟩ := sz.dn d hdm
            have hyl := h3.length
            refine ⟨p, _, rfl, Same.seqT s4 h1, rfl, _, _, rfl, _, _, rfl, rfl, ?_⟩
            refine ⟨_, rfl, q, rfl, ⟨_, Same.seqT s4 h2⟩, fun B hB => lc_build (walk_tup (K := K) (a := q)) hB (fun i ys R => Same H4 R ∧ ys = (d.2.take i).map fun d => V.str d.1) ⟨Same.refl H4, rfl⟩ (fun _ _ _ _ p => Same.seqT (s4.trans (p.1.trans cd_sub)) h2) ?_ ?_⟩
            · rintro j zs x H5 H5' hj e5 lz5 ⟨s5, rfl⟩ ⟨rfl, hy⟩
              obtain ⟨a, ha, r, rfl, h4⟩ := paired_at h3 hy
              refine ⟨r, _, rfl, Same.seqT (s4.trans (s5.trans cd_sub)) h4, rfl, _, _, rfl, _, _, rfl, rfl, rfl, yes ?_⟩
              refine ⟨_, rfl, LcNx.add e5 lz5 (by omega) ⟨s5, take_snoc ha⟩⟩
            · rintro zs H5 e5 lz5 ⟨s5, rfl⟩
              have eA : (d.2.take ys.length).map (fun d => V.str d.1) = (d.2.map (·.1)).map V.str := by
                rw [hyl, List.take_length, List.map_map]
                rfl
              rw [eA] at e5
              refine ⟨B, d.2.map (·.1), 5, rfl, .inl (SqL.of e5), by rw [List.length_map]; exact la, fun z hz => ?_, fun H6 s6 => ⟨_, rfl, ?_⟩⟩
              · obtain ⟨a, ha, rfl⟩ := List.mem_map.mp hz
                exact lz a ha
              · have s06 : Same H H6 := (s4.trans (s5.trans cd_sub)).trans s6
                by_cases c2 : fltB (d.2.map (·.1)) 5 = true
                · rw [c2]
                  have ea : ds.any (fun d => fltB (d.2.map (·.1)) 5) = true := List.any_eq_true.mpr ⟨d, hdm, c2⟩
                  have ev : ffV ds ms = .str "attributes" := by unfold ffV; rw [ie, c1, ea]; rfl
                  rw [ev] at k
                  exact iteT (k H6 s06)
                · have c2 : fltB (d.2.map (·.1)) 5 = false := by simpa using c2
                  rw [c2]
                  refine iteF ⟨_, _, rfl, s06, ?_⟩
                  obtain ⟨g1, g2⟩ := List.getElem?_eq_some_iff.mp hd
                  rw [List.take_succ_eq_append_getElem g1, List.any_append, na, g2]
                  simp [c2]
          · rintro σ H4 ⟨u, v, rfl, s4, na⟩
            rw [hlen, List.take_length] at na
            refine ⟨_, rfl, m, ms, 4, rfl, Same.txs s4 hm, sz.ml, sz.mn, fun H5 s5 => ⟨_, rfl, ?_⟩⟩
            have s05 : Same H H5 := s4.trans s5
            by_cases c3 : fltB ms 4 = true
            · rw [c3]
              have ev : ffV ds ms = .str "measures" := by unfold ffV; rw [ie, c1, na, c3]; rfl
              rw [ev] at k
              exact iteT (k H5 s05)
            · have c3 : fltB ms 4 = false := by simpa using c3
              rw [c3]
              have ev : ffV ds ms = .non := by unfold ffV; rw [ie, c1, na, c3]; rfl
              rw [ev] at k
              exact iteF (k H5 s05)
end
end Kd

namespace Kd
open PySem PySem.Spec PyProof.Rows L2
section
variable {P : Program} {w : World} {K : PySem.W.Frag} {mg : Str → Option Value} {base : Heap} {f : Addr} {fd : FuncData}
/-! ### the plan as an object -/
def plF (a b : Addr) : List (Str × V) := [("dimension_list", .ref a), ("measure_list", .ref b)]
theorem pl_ne : ¬ (("dimension_list" : Str) = "measure_list") := by decide +kernel
theorem pl_put (a b : Addr) : putF "measure_list" (.ref b) (putF "dimension_list" (.ref a) []) = plF a b := by
  show (if ("dimension_list" : Str) = "measure_list" then [(("dimension_list" : Str), V.ref b)] else (("dimension_list" : Str), V.ref a) :: putF "measure_list" (.ref b) []) = plF a b
  rw [if_neg pl_ne]
  rfl
theorem pl_dim (a b : Addr) : (plF a b).lookup ("dimension_list" : Str) = some (.ref a) := by
  unfold plF
  rw [List.lookup_cons]
  rw [show (("dimension_list" : Str) == "dimension_list") = true by decide +kernel]
theorem pl_mea (a b : Addr) : (plF a b).lookup ("measure_list" : Str) = some (.ref b) := by
  unfold plF
  rw [List.lookup_cons, show (("measure_list" : Str) == "dimension_list") = false by decide +kernel, List.lookup_cons, show (("measure_list" : Str) == "measure_list") = true by decide +kernel]
theorem pl_no0 {a b : Addr} {m : Str} (h1 : (m == ("dimension_list" : Str)) = false) (h2 : (m == ("measure_list" : Str)) = false) : (plF a b).lookup m = none := by
  unfold plF
  rw [List.lookup_cons, h1, List.lookup_cons, h2]
  rfl
/-- a Plan of ds and ms stands at x -/
structure PlanAt (K : PySem.W.Frag) (C : Addr) (H : Hp) (x : Addr) (ds : List (Str × List (Str × Str))) (ms : List Str) : Prop where
  ex : ∃ dx a b xs, H x = some (.ins C dx (plF a b)) ∧ H a = some (.lst xs) ∧ Paired (DimAt K H) xs ds ∧ H b = some (.lst (ms.map V.str))
theorem PlanAt.same {C x : Addr} {H H' : Hp} {ds : List (Str × List (Str × Str))} {ms : List Str} (e : Same H H') (h : PlanAt K C H x ds ms) : PlanAt K C H' x ds ms := by
  obtain ⟨dx, a, b, xs, h1, h2, h3, h4⟩ := h.ex
  exact ⟨dx, a, b, xs, e _ _ h1, e _ _ h2, PySem.Paired.mono (fun _ _ => DimAt.same e) h3, e _ _ h4⟩
/-! data do not lean on an instance -/
theorem seqL_cd {x C dx a : Addr} {H : Hp} {fs : List (Str × V)} {xs : List V} (hx : H x = some (.ins C dx fs)) (h : SqL K H a xs) : SqL K (cd x H) a xs := by
  rcases h with (q | ⟨o, q⟩) | q
  · exact .inl (.inl (cd_of q (ne_of q hx (fun z => nomatch z))))
  · exact .inl (.inr ⟨o, cd_of q (ne_of q hx (fun z => nomatch z))⟩)
  · exact .inr q
theorem seqT_cd {x C dx a : Addr} {H : Hp} {fs : List (Str × V)} {xs : List V} (hx : H x = some (.ins C dx fs)) (h : SqT K H a xs) : SqT K (cd x H) a xs := by
  rcases h with (q | ⟨o, q⟩) | q
  · exact .inl (.inl (cd_of q (ne_of q hx (fun z => nomatch z))))
  · exact .inl (.inr ⟨o, cd_of q (ne_of q hx (fun z => nomatch z))⟩)
  · exact .inr q
theorem txs_cd {x C dx a : Addr} {H : Hp} {fs : List (Str × V)} {xs : List Str} (hx : H x = some (.ins C dx fs)) (h : Txs K H a xs) : Txs K (cd x H) a xs := h.elim (fun q => .inl (seqL_cd hx q)) fun q => .inr (seqT_cd hx q)
theorem dim_cd {x C dx : Addr} {H : Hp} {fs : List (Str × V)} {y : V} {d : Str × List (Str × Str)} (hx : H x = some (.ins C dx fs)) : DimAt K H y d → DimAt K (cd x H) y d :=
  fun ⟨p, q, h1, h2, zs, h3, h4⟩ => ⟨p, q, h1, seqT_cd hx h2, zs, seqT_cd hx h3, PySem.Paired.mono (fun _ _ ⟨r, e1, e2⟩ => ⟨r, e1, seqT_cd hx e2⟩) h4⟩
structure PlTxt (K : PySem.W.Frag) (C : Addr) : Prop where
  cl : Cls K C
  nD : NoAttr K C "dimension_list"
  nM : NoAttr K C "measure_list"
def rTupOf (K : PySem.W.Frag) : List V → Hp → VK → Prop := fun xs H Q => ∃ p ys, xs = [.ref p] ∧ ((SqL K H p ys ∧ ∀ l, H l = none → Q (.ref l) (upd H l (.tup ys))) ∨ (SqT K H p ys ∧ Q (.ref p) H))
def spInit (K : PySem.W.Frag) (C : Addr) : Sp := fun vs H Q _ => ∃ (x dx l m : Addr) (ds : List (Str × List (Str × Str))) (ms : List Str), vs = [.ref x, .ref l, .ref m] ∧ H x = some (.ins C dx []) ∧ DimsAt K H l ds ∧ Txs K H m ms ∧ Szd ds ms ∧ ffV ds ms = .non ∧
  ∀ (H' : Hp) (a b : Addr) (xs : List V), H a = none → H b = none → H' x = some (.ins C dx (plF a b)) → H' a = some (.lst xs) → Paired (DimAt K H') xs ds → H' b = some (.lst (ms.map V.str)) → Same (cd x H) (cd x H') → Q .non H'
theorem sc_init : FnScope ["self", "dimensions", "measures", "fault", "name", "attributes"] ["self", "dimensions", "measures"] (defScope s_Plan_init) := ⟨rfl, rfl, rfl, by decide +kernel, rfl, by decide +kernel, by decide +kernel⟩
theorem ok_init {fF C : Addr} {fdF : FuncData} {dvs : List V} (F : FunD K "__init__" "Plan.__init__" (defArgs s_Plan_init) (defBody s_Plan_init) (defScope s_Plan_init) dvs [] f fd) (T : PlTxt K C) (GF : FnOk P w K mg base CX0 4 fF fdF ["dimensions", "measures"] (spFirst K)) (kF : PySem.W.keepIn K (.ref fF) = true) (bF : Binds K fdF ["dimensions", "measures"] []) (gF : mg "first_fault" = some (.ref fF))
    (gt : mg "tuple" = none) (gl : mg "list" = none) : FnOk P w K mg base CX0 5 f fd ["self", "dimensions", "measures"] (spInit K C) := by
  refine F.ok sc_init (fun vs H Q E h => ?_) (fun cdv A outer s H vs Q E hr h => ?_)
  · obtain ⟨x, dx, l, m, ds, ms, rfl, _⟩ := h
    rfl
  · obtain ⟨x, dx, l, m, ds, ms, rfl, hx, hl, hm, sz, ev, k⟩ := h
    have nd := sc_init.nd
    refine ⟨_, PSs.nox (pss_cons (ps_set (i := 3) nd rfl (Or.inl rfl) (pe_call GF hr rfl gF kF bF .nil pass0 (pa_cons (pv 1) (pa_cons (pv 2) pa_nil))))
      (pss_cons (ps_if (pt_cmp (pc_notN (pv 3))) (pss_one ps_never) pss_nil)
      (pss_cons (ps_fld (pv 0) (pe_lc (own := [("name", 4), ("attributes", 5)]) (g := gTup K 2 (gCons (gName 4) (gCons (gName 5) gNil))) (tt := tYes) (te := tTup (tCons (tVar 4) (tCons (tCB (rTupOf K) (tCons (tVar 5) tNil)) tNil))) rfl nd (pi_list (pv 1)) (blkOk_by (own := [("name", 4), ("attributes", 5)]) (N := ["self", "dimensions", "measures", "fault", "name", "attributes"]) (sc := defScope s_Plan_init) (by decide +kernel))
        (fun _ _ _ _ _ => pg_tup rfl (pgs_cons (pg_name (i := 4) nd rfl (Or.inl rfl)) (pgs_cons (pg_name (i := 5) nd rfl (Or.inl rfl)) pgs_nil))) (fun _ _ _ _ _ => pts_nil) (fun _ _ _ _ _ => pe_tup (pa_cons (pv 4) (pa_cons (pe_callTy call_tuple_of (by rfl) gt (by decide +kernel) (pa_cons (pv 5) pa_nil)) pa_nil)))) rfl)
      (pss_one (ps_fld (pv 0) (pe_callTy call_list_of (by rfl) gl (by decide +kernel) (pa_cons (pv 2) pa_nil)) rfl))))), ?_⟩
    refine ⟨_, rfl, _, rfl, l, m, ds, ms, rfl, hl, hm, sz, fun H1 s1 => ?_⟩
    rw [ev]
    refine ⟨_, rfl, _, rfl, ?_⟩
    refine iteF ?_
    obtain ⟨xs, hl1, hp⟩ := DimsAt.same s1 hl
    have hlen := hp.length
    have l1 := sz.dl
    refine ⟨_, rfl, l, rfl, ⟨_, hl1⟩, fun D hD => lc_build (walk_list (K := K) (a := l)) hD (fun i ys R => Same H1 R ∧ Paired (DimAt K R) ys (ds.take i)) ⟨Same.refl H1, .nil⟩ (fun _ _ _ _ p => Same.seq (p.1.trans cd_sub) hl1) ?_ ?_⟩
    · rintro i ys y H2 H2' hi e ly ⟨sm, py⟩ ⟨rfl, hy⟩
      obtain ⟨d, hd, p, q, rfl, h1, h2⟩ := paired_at hp hy
      refine ⟨p, _, rfl, Same.seqT (sm.trans cd_sub) h1, rfl, _, _, rfl, _, _, rfl, rfl, rfl, yes ?_⟩
      obtain ⟨zs, h3, h4⟩ := id h2
      refine ⟨_, rfl, _, rfl, q, zs, rfl, .inr ⟨Same.seqT (sm.trans cd_sub) h3, by show 2 ≤ sizeLine; decide, fun t ht => ?_⟩⟩
      have nDt : D ≠ t := ne_of_none e ht
      have s3 : Same (cd D H2') (cd D (upd H2' t (.tup [.str d.1, .ref q]))) := cd_same (same_new ht)
      refine LcNx.add (by rw [upd_ne nDt]; exact e) ly (by omega) ⟨sm.trans s3, ?_⟩
      obtain ⟨g1, g2⟩ := List.getElem?_eq_some_iff.mp hd
      rw [List.take_succ_eq_append_getElem g1, g2]
      exact PySem.Paired.snoc (PySem.Paired.mono (fun _ _ => DimAt.same s3) py) ⟨t, q, rfl, SqT.of (cd_of upd_same nDt.symm), AttsAt.same (sm.trans s3) h2⟩
    · rintro ys H2 e ly ⟨sm, py⟩
      rw [hlen, List.take_length] at py
      have s2 : Same H1 H2 := sm.trans cd_sub
      have hx2 : H2 x = some (.ins C dx []) := s2 _ _ (s1 _ _ hx)
      have nDx : D ≠ x := (ne_of_none (s1 _ _ hx) hD).symm
      refine ⟨_, rfl, x, C, dx, _, rfl, hx2, T.cl, T.nD, (by show 0 < 1000; decide), ?_⟩
      have s3 : Same (cd x H2) (upd H2 x (.ins C dx (putF "dimension_list" (.ref D) []))) := fun c o q => by rw [upd_ne (ct_ne q).1]; exact cd_sub _ _ q
      have hm3 : Txs K (upd H2 x (.ins C dx (putF "dimension_list" (.ref D) []))) m ms := Same.txs s3 (txs_cd hx2 (Same.txs (s1.trans s2) hm))
      refine ⟨_, rfl, m, ms.map V.str, rfl, hm3, fun b hb => ?_⟩
      have nxb : x ≠ b := ne_of_none upd_same hb
      have hDb : D ≠ b := fun z => by
        rw [← z, upd_ne nDx] at hb
        rw [e] at hb
        cases hb
      refine ⟨_, rfl, x, C, dx, _, rfl, (by rw [upd_ne nxb]; exact upd_same), T.cl, T.nM, (by show 1 < 1000; decide), ?_⟩
      have e1 : putF "measure_list" (V.ref b) (putF "dimension_list" (V.ref D) []) = plF D b := pl_put D b
      have s4 : Same (cd x H2) (upd (upd (upd H2 x (.ins C dx (putF "dimension_list" (.ref D) []))) b (.lst (ms.map V.str))) x (.ins C dx (putF "measure_list" (V.ref b) (putF "dimension_list" (V.ref D) [])))) := fun c o q => by
        have nc := (ct_ne q).1
        have qc := cd_sub _ _ q
        have ncb : c ≠ b := ne_of_none (show upd H2 x (.ins C dx (putF "dimension_list" (.ref D) [])) c = some o by rw [upd_ne nc]; exact qc) hb
        rw [upd_ne nc, upd_ne ncb, upd_ne nc]
        exact qc
      have py2 : Paired (DimAt K (cd x H2)) ys ds := PySem.Paired.mono (fun y d q => dim_cd hx2 (DimAt.same cd_sub q)) py
      refine k _ D b ys (s1.free hD) ?_ (Eq.trans upd_same (congrArg (fun z => some (HO.ins C dx z)) e1)) (s4 _ _ (cd_of e nDx)) (PySem.Paired.mono (fun _ _ => DimAt.same s4) py2) ?_ ?_
      · have hb2 : H2 b = none := by
          rw [upd_ne nxb.symm] at hb
          exact hb
        exact (s1.trans s2).free hb2
      · rw [upd_ne nxb.symm, upd_same]
      · have s5 : Same (cd x H) (cd x H2) := cd_same (s1.trans s2)
        have s6 := cd_same (D := x) s4
        exact s5.trans (fun c o q => s6 c o (cd_of q (ct_ne q).1))
end
end Kd
namespace Kd
open PySem PySem.Spec PyProof.Rows L2
section
variable {P : Program} {w : World} {K : PySem.W.Frag} {mg : Str → Option Value} {base : Heap} {f : Addr} {fd : FuncData}
def spDims (K : PySem.W.Frag) (C : Addr) : Sp := fun vs H Q _ => ∃ (x : Addr) (ds : List (Str × List (Str × Str))) (ms : List Str), vs = [.ref x] ∧ PlanAt K C H x ds ms ∧ ∀ l xs, H l = none → Paired (DimAt K H) xs ds → Q (.ref l) (upd H l (.lst xs))
def spMeas (K : PySem.W.Frag) (C : Addr) : Sp := fun vs H Q _ => ∃ (x : Addr) (ds : List (Str × List (Str × Str))) (ms : List Str), vs = [.ref x] ∧ PlanAt K C H x ds ms ∧ ∀ l, H l = none → Q (.ref l) (upd H l (.lst (ms.map V.str)))
theorem sc_dims : FnScope ["self"] ["self"] (defScope s_Plan_dimensions) := ⟨rfl, rfl, rfl, by decide +kernel, rfl, by decide +kernel, by decide +kernel⟩
theorem ok_dims {C : Addr} (F : FnP K "dimensions" "Plan.dimensions" s_Plan_dimensions f fd) (T : PlTxt K C) (gl : mg "list" = none) : FnOk P w K mg base CX0 1 f fd ["self"] (spDims K C) := by
  refine F.ok sc_dims (fun vs H Q E h => ?_) (fun cdv A outer s H vs Q E hr h => ?_)
  · obtain ⟨x, ds, ms, rfl, _⟩ := h
    rfl
  · obtain ⟨x, ds, ms, rfl, ⟨dx, a, b, xs, h1, h2, h3, h4⟩, k⟩ := h
    refine ⟨_, PSs.nox (pss_one (ps_ret (pe_callTy call_list_of (by rfl) gl (by decide +kernel) (pa_cons (pe_fld (pv 0) rfl) pa_nil)))), ?_⟩
    exact ⟨_, rfl, x, C, dx, _, _, rfl, h1, T.cl, T.nD, pl_dim a b, a, xs, rfl, .inl (SqL.of h2), fun l hl => k l xs hl h3⟩
theorem sc_meas : FnScope ["self"] ["self"] (defScope s_Plan_measures) := ⟨rfl, rfl, rfl, by decide +kernel, rfl, by decide +kernel, by decide +kernel⟩
theorem ok_meas {C : Addr} (F : FnP K "measures" "Plan.measures" s_Plan_measures f fd) (T : PlTxt K C) (gl : mg "list" = none) : FnOk P w K mg base CX0 1 f fd ["self"] (spMeas K C) := by
  refine F.ok sc_meas (fun vs H Q E h => ?_) (fun cdv A outer s H vs Q E hr h => ?_)
  · obtain ⟨x, ds, ms, rfl, _⟩ := h
    rfl
  · obtain ⟨x, ds, ms, rfl, ⟨dx, a, b, xs, h1, h2, h3, h4⟩, k⟩ := h
    refine ⟨_, PSs.nox (pss_one (ps_ret (pe_callTy call_list_of (by rfl) gl (by decide +kernel) (pa_cons (pe_fld (pv 0) rfl) pa_nil)))), ?_⟩
    exact ⟨_, rfl, x, C, dx, _, _, rfl, h1, T.cl, T.nM, pl_mea a b, b, _, rfl, .inl (SqL.of h4), fun l hl => k l hl⟩
end
end Kd

namespace Kd
open PySem PySem.Spec PyProof.Rows L2
/-- a tray of at most n draws stands at a, its list of great ones at g -/
structure Tray (H : Hp) (a g : Addr) (n : Nat) : Prop where
  ex : ∃ (c f m : Int) (gs : List Int), H a = some (.lst [.ref g, .int c, .int f, .int m]) ∧ H g = some (.lst (gs.map V.int)) ∧ (0 ≤ f ∧ f < 2305843009213693951) ∧ 0 ≤ m ∧ m ≤ n
section
variable {P : Program} {w : World} {K : PySem.W.Frag} {mg : Str → Option Value} {base : Heap} {f : Addr} {fd : FuncData}
def spTray (K : PySem.W.Frag) : Sp := fun vs H Q _ => ∃ (l : Addr) (ns : List Int), vs = [.ref l] ∧ SqL K H l (ns.map V.int) ∧ ns.length ≤ 63 ∧ ∀ a g H', H a = none → H g = none → Tray H' a g 0 → Same H H' → Q (.ref a) H'
theorem sc_tray : FnScope ["script", "fold", "great", "cell", "much"] ["script"] (defScope s_l_tray) := ⟨rfl, rfl, rfl, by decide +kernel, rfl, by decide +kernel, by decide +kernel⟩
theorem ints_at {xs : List Int} {i : Nat} {x : V} (h : (xs.map V.int)[i]? = some x) : ∃ z, x = .int z ∧ xs[i]? = some z := by
  rw [List.getElem?_map] at h
  cases e : xs[i]? with
  | none => rw [e] at h; cases h
  | some z => rw [e] at h; exact ⟨z, (Option.some.inj h).symm, rfl⟩
theorem ok_tray (F : FnP K "_law_tray" "_law_tray" s_l_tray f fd) (gm : mg "max" = none) : FnOk P w K mg base CX0 1 f fd ["script"] (spTray K) := by
  refine F.ok sc_tray (fun vs H Q E h => ?_) (fun cdv A outer s H vs Q E hr h => ?_)
  · obtain ⟨l, ns, rfl, _⟩ := h
    rfl
  · obtain ⟨l, ns, rfl, hS, hn, k⟩ := h
    have nd := sc_tray.nd
    refine ⟨_, PSs.nox (pss_cons (ps_set (i := 1) nd rfl (Or.inl rfl) pe_int)
      (pss_cons (ps_set (i := 2) nd rfl (Or.inl rfl) (pe_lst pa_nil))
      (pss_cons (ps_for PassesOwn.never rfl (pi_list (pv 0)) (pg_name (i := 3) nd rfl (Or.inl rfl))
        (pss_cons (ps_set (i := 1) nd rfl (Or.inl rfl) (pe_op op_mod (pe_op op_add (pe_op op_mul (pv 1) pe_int) (pv 3)) (pe_op op_sub (pe_op op_pow pe_int pe_int) pe_int)))
        (pss_cons (ps_set (i := 4) nd rfl (Or.inl rfl) (pe_callB (call_max2 rfl) (by rfl) gm (by decide +kernel) (pa_cons (pv 3) (pa_cons (pe_op op_sub pe_int (pv 3)) pa_nil))))
        (pss_one (ps_if (pt_cmpR op_ge (pv 4) (pe_op op_pow pe_int pe_int) (nomark _)) (pss_one (ps_expr (pe_bm PySem.F.plainAttrs_list PySem.F.slot_list_append PySem.F.type_list_append mt_append (pv 2) (pa_cons (pe_op op_sub (pv 4) (pe_op op_pow pe_int pe_int)) pa_nil)))) pss_nil)))))
      (pss_one (ps_ret (pe_lst (pa_cons (pv 2) (pa_cons pe_int (pa_cons (pv 1) (pa_cons pe_int pa_nil)))))))))), ?_⟩
    refine ⟨by show 0 ≤ sizeLine; decide, fun g hg => ?_⟩
    refine ⟨_, rfl, l, rfl, ⟨_, (same_new hg).seq hS⟩, for_list (K := K) (a := l) (xs := ns.map V.int) (fun i σ H2 => ∃ (fo : Int) (gs : List Int) (u v : Option V), σ = [some (.ref l), some (.int fo), some (.ref g), u, v] ∧ Same H H2 ∧ H2 g = some (.lst (gs.map V.int)) ∧ gs.length ≤ i ∧ 0 ≤ fo ∧ fo < 2305843009213693951)
      ⟨_, [], _, _, rfl, same_new hg, upd_same, Nat.le_refl _, by decide, by decide⟩ (fun i σ H2 _ ⟨_, _, _, _, _, s2, _⟩ => s2.seq hS) ?_ ?_⟩
    · rintro i x σ H2 hi ⟨fo, gs, u, v, rfl, s2, h2, l2, f0, f1⟩
      have hil : i < (ns.map V.int).length := (List.getElem?_eq_some_iff.mp hi).1
      rw [List.length_map] at hil
      obtain ⟨z, rfl, hz⟩ := ints_at hi
      refine ⟨_, rfl, _, _, rfl, rfl, .inl ⟨by omega, by omega⟩, _, rfl, _, _, rfl, rfl, _, _, rfl, rfl, ⟨by decide, by decide, by decide⟩, _, _, rfl, rfl, _, _, rfl, rfl, ?_, ?_⟩
      · show (0 : Int) < 2 ^ 61 - 1
        decide
      · have fb : 0 ≤ (fo * 1000003 + z) % (2 ^ Int.toNat 61 - 1) ∧ (fo * 1000003 + z) % (2 ^ Int.toNat 61 - 1) < 2305843009213693951 :=
          ⟨Int.emod_nonneg _ (by decide), Int.lt_of_lt_of_le (Int.emod_lt_of_pos _ (by decide)) (by decide)⟩
        refine ⟨_, rfl, _, rfl, _, _, rfl, rfl, _, _, rfl, ?_⟩
        refine ⟨_, rfl, _, _, rfl, rfl, ⟨by decide, by decide, by decide⟩, _, _, rfl, rfl, _, rfl, ?_⟩
        refine ite2 (fun _ => ?_) (fun _ => ?_)
        · refine ⟨_, rfl, .inl ⟨rfl, _, SqL.of h2⟩, _, rfl, _, _, rfl, rfl, ⟨by decide, by decide, by decide⟩, _, _, rfl, rfl, g, _, _, rfl, rfl, h2, small1000 (by rw [List.length_map]; omega), ?_⟩
          exact ⟨_, gs ++ [_], _, _, rfl, Same.upd s2 hg, by rw [upd_same, List.map_append]; rfl, by rw [List.length_append]; show gs.length + 1 ≤ i + 1; omega, fb.1, fb.2⟩
        · exact ⟨_, gs, _, _, rfl, s2, h2, by omega, fb.1, fb.2⟩
    · rintro σ H2 ⟨fo, gs, u, v, rfl, s2, h2, l2, f0, f1⟩
      refine ⟨_, rfl, _, rfl, by show 4 ≤ sizeLine; decide, fun a ha => ?_⟩
      refine k a g _ (s2.free ha) hg ⟨0, fo, 0, gs, upd_same, by rw [upd_ne (ne_of_none h2 ha)]; exact h2, ⟨f0, f1⟩, by decide, by decide⟩ (Same.to_new s2 ha)
def spDraw : Sp := fun vs H Q _ => ∃ (a g : Addr) (n : Nat) (many : Int), vs = [.ref a, .int many] ∧ Tray H a g n ∧ n ≤ 1000000 ∧ 0 < many ∧ many < 2 ^ 60 ∧ ∀ (r : Int) H', 0 ≤ r → r < many → Tray H' a g (n + 1) → Same (ct a g H) (ct a g H') → Q (.int r) H'
theorem sc_draw : FnScope ["tray", "many", "found", "mixed"] ["tray", "many"] (defScope s_l_draw) := ⟨rfl, rfl, rfl, by decide +kernel, rfl, by decide +kernel, by decide +kernel⟩
theorem DpAll.ints {K : PySem.W.Frag} {H : Hp} : ∀ (xs : List Int), DpAll K H (xs.map V.int) (xs.map PyData.int)
  | [] => .nil
  | x :: xs => .cons (.int x) (DpAll.ints xs)
theorem lay_ints : ∀ xs : List Int, PyData.canLayAll0 (xs.map PyData.int) = true ∧ PyData.depthAll (xs.map PyData.int) = 0
  | [] => ⟨rfl, rfl⟩
  | x :: xs => by
    obtain ⟨h1, h2⟩ := lay_ints xs
    constructor
    · simp only [List.map_cons, PyData.canLayAll0, PyData.canLay0, h1, Bool.and_self]
    · simp only [List.map_cons, PyData.depthAll, PyData.depth, h2, Nat.max_self]
theorem shaped_ints (xs : List Int) : SeqAt.shaped (.list (xs.map PyData.int)) = true := by
  obtain ⟨h1, h2⟩ := lay_ints xs
  simp [SeqAt.shaped, PyData.canLay0, PyData.depth, h1, h2]
theorem mix_lt {x : Int} : (x % (2 ^ Int.toNat 61 - 1)).natAbs < 2 ^ 64 := by
  have h0 : 0 ≤ x % (2 ^ Int.toNat 61 - 1) := Int.emod_nonneg _ (by decide)
  have h1 : x % (2 ^ Int.toNat 61 - 1) < 2 ^ Int.toNat 61 - 1 := Int.emod_lt_of_pos _ (by decide)
  have h2 : (2 : Int) ^ Int.toNat 61 - 1 = 2305843009213693951 := by decide
  rw [h2] at *
  omega
def lenAt (g : Addr) (H : Hp) : Nat := match H g with
  | some (.lst xs) => xs.length
  | _ => 0
theorem lenAt_of {g : Addr} {H : Hp} {xs : List V} (h : H g = some (.lst xs)) : lenAt g H = xs.length := by unfold lenAt; rw [h]
theorem tray_ne {H : Hp} {a g : Addr} {c f m : Int} {gs : List Int} (h1 : H a = some (.lst [.ref g, .int c, .int f, .int m])) (h2 : H g = some (.lst (gs.map V.int))) : a ≠ g := ne_of h1 h2 (fun z => by
  have e : [V.ref g, V.int c, V.int f, V.int m] = gs.map V.int := by injection z
  cases gs with
  | nil => cases e
  | cons x r => cases e)
theorem ok_draw (F : FnP K "_law_draw" "_law_draw" s_l_draw f fd) : FnOk P w K mg base CX0 1 f fd ["tray", "many"] spDraw := by
  refine F.ok sc_draw (fun vs H Q E h => ?_) (fun cdv A outer s H vs Q E hr h => ?_)
  · obtain ⟨a, g, n, many, rfl, _⟩ := h
    rfl
  · obtain ⟨a, g, n, many, rfl, hT, hn, m0, m1, k⟩ := h
    have nd := sc_draw.nd
    refine ⟨_, PSs.nox (pss_cons (ps_while PassesOwn.never (PW.pt (pw_and (pt_cmpR op_lt (pe_ix ix_list (pv 0) pe_int (fun _ _ => rfl)) pe_int (nomark _)) (pw_and1 (pt_cmpR (op_neD hr.units) (pe_ix ix_list (pv 0) pe_int (fun _ _ => rfl)) (pe_lst pa_nil) (nomark _)))))
        (pss_one (ps_asg (pe_bm PySem.F.plainAttrs_list PySem.F.slot_list_pop PySem.F.type_list_pop mt_popAt (pe_ix ix_list (pv 0) pe_int (fun _ _ => rfl)) (pa_cons pe_int pa_nil)) (pg_sub (pv 0) pe_int set_list))))
      (pss_cons (ps_if (pt_cmpR op_ge (pe_ix ix_list (pv 0) pe_int (fun _ _ => rfl)) pe_int (nomark _))
        (pss_cons (ps_set (i := 2) nd rfl (Or.inl rfl) (pe_op op_mod (pe_ix ix_list (pv 0) pe_int (fun _ _ => rfl)) (pv 1)))
        (pss_cons (ps_asg (pe_op op_fdivW (pe_ix ix_list (pv 0) pe_int (fun _ _ => rfl)) (pv 1)) (pg_sub (pv 0) pe_int set_list))
        (pss_one (ps_ret (pv 2))))) pss_nil)
      (pss_cons (ps_asg (pe_op op_add (pe_ix ix_list (pv 0) pe_int (fun _ _ => rfl)) pe_int) (pg_sub (pv 0) pe_int set_list))
      (pss_cons (ps_set (i := 3) nd rfl (Or.inl rfl) (pe_op op_mod (pe_op op_add (pe_op op_mul (pe_op op_add (pe_ix ix_list (pv 0) pe_int (fun _ _ => rfl)) pe_int) (pe_op op_pow (pe_op op_add (pe_ix ix_list (pv 0) pe_int (fun _ _ => rfl)) pe_int) pe_int)) (pe_op op_mul pe_int (pe_ix ix_list (pv 0) pe_int (fun _ _ => rfl)))) (pe_op op_sub (pe_op op_pow pe_int pe_int) pe_int)))
      (pss_one (ps_ret (pe_op op_mod (pe_op op_fdiv (pe_op op_mod (pe_op op_pow (pv 3) pe_int) (pe_op op_add (pe_op op_pow pe_int pe_int) pe_int)) pe_int) (pv 1)))))))), ?_⟩
    refine while_by (fun σ H2 => σ = [some (.ref a), some (.int many), none, none] ∧ Tray H2 a g n ∧ Same (ct a g H) (ct a g H2)) (fun _ H2 => lenAt g H2) ⟨rfl, hT, Same.refl _⟩ ?_ ?_
    · rintro σ H2 ⟨rfl, ⟨c, fo, m, gs, h1, h2, hf, hm⟩, s2⟩
      have nag := tray_ne h1 h2
      have eT : ∀ H3, H3 a = some (.lst [.ref g, .int c, .int fo, .int m]) → H3 g = some (.lst (gs.map V.int)) → Same (ct a g H) (ct a g H3) → Tray H3 a g n := fun H3 q1 q2 _ => ⟨c, fo, m, gs, q1, q2, hf, hm⟩
      refine ⟨_, rfl, a, _, _, _, rfl, rfl, SqL.of h1, atI_nat (j := 1) rfl, _, _, rfl, rfl, _, rfl, ?_⟩
      refine ite2 (fun c1 => ?_) (fun c1 => ?_)
      · refine ⟨_, rfl, a, _, _, _, rfl, rfl, SqL.of h1, atI_nat (j := 0) rfl, by show 0 ≤ sizeLine; decide, fun p hp => ?_⟩
        have npa : a ≠ p := ne_of_none h1 hp
        have npg : g ≠ p := ne_of_none h2 hp
        have h1p : upd H2 p (.lst []) a = some (.lst [.ref g, .int c, .int fo, .int m]) := by rw [upd_ne npa]; exact h1
        have h2p : upd H2 p (.lst []) g = some (.lst (gs.map V.int)) := by rw [upd_ne npg]; exact h2
        have s3 : Same (ct a g H) (ct a g (upd H2 p (.lst []))) := s2.trans (ct_same (same_new hp))
        refine ⟨.list (gs.map PyData.int), .list [], .lst (SqL.of h2p) (DpAll.ints gs), .lst (SqL.of upd_same) .nil, shaped_ints gs, by decide, _, rfl, ?_⟩
        cases gs with
        | nil =>
          refine iteF ?_
          refine ⟨_, rfl, a, _, _, _, rfl, rfl, SqL.of h1p, atI_nat (j := 1) rfl, _, _, rfl, rfl, _, rfl, ?_⟩
          refine ite2 (fun c2 => ?_) (fun c2 => ?_)
          · refine ⟨_, rfl, a, _, _, _, rfl, rfl, SqL.of h1p, atI_nat (j := 1) rfl, _, rfl, _, _, rfl, rfl, m0, ?_⟩
            refine ⟨_, rfl, a, _, _, _, rfl, rfl, SqL.of h1p, atI_nat (j := 1) rfl, _, rfl, _, _, rfl, rfl, wide_div (b := 60) m0 (by omega) (by decide) (by decide), _, rfl, a, _, _, 1, rfl, rfl, h1p, rfl, ?_⟩
            exact ⟨_, rfl, k _ _ (Int.emod_nonneg _ (by omega)) (Int.emod_lt_of_pos _ m0) ⟨_, fo, m, _, upd_same, by rw [upd_ne nag.symm]; exact h2p, hf, hm.1, by omega⟩ (by rw [ct_upda]; exact s3)⟩
          · refine ⟨_, rfl, a, _, _, _, rfl, rfl, SqL.of h1p, atI_nat (j := 3) rfl, _, _, rfl, rfl, _, rfl, a, _, _, 3, rfl, rfl, h1p, rfl, ?_⟩
            have q0 := hf.1
            have q1 := hf.2
            have q2 := hm.1
            have q3 := hm.2
            refine ⟨_, rfl, a, _, _, _, rfl, rfl, SqL.of upd_same, atI_nat (j := 2) rfl, _, _, rfl, rfl, _, rfl, a, _, _, _, rfl, rfl, SqL.of upd_same, atI_nat (j := 3) rfl, _, _, rfl, rfl, _, _, rfl, rfl, ⟨by decide, by decide, by omega⟩, _, _, rfl, rfl, .inl ⟨by omega, by omega⟩,
              _, rfl, a, _, _, _, rfl, rfl, SqL.of upd_same, atI_nat (j := 3) rfl, _, _, rfl, rfl, .inl ⟨by decide, by decide⟩, _, _, rfl, rfl, _, _, rfl, rfl, ⟨by decide, by decide, by decide⟩, _, _, rfl, rfl, _, _, rfl, rfl, (by show (0 : Int) < 2 ^ 61 - 1; decide), ?_⟩
            refine ⟨_, rfl, _, _, rfl, rfl, ⟨by decide, by decide, mix_lt⟩, _, _, rfl, rfl, ⟨by decide, by decide, by decide⟩, _, _, rfl, rfl, _, _, rfl, rfl, (by show (0 : Int) < 10 ^ 18 + 9; decide), _, _, rfl, rfl, ⟨by decide, by decide⟩, _, rfl, _, _, rfl, rfl, m0, ?_⟩
            exact k _ _ (Int.emod_nonneg _ (by omega)) (Int.emod_lt_of_pos _ m0) ⟨c, fo, m + 1, _, upd_same, by rw [upd_ne nag.symm]; exact h2p, hf, by omega, by omega⟩ (by rw [ct_upda]; exact s3)
        | cons z zs =>
          refine iteT ?_
          refine ⟨_, rfl, a, _, _, _, rfl, rfl, SqL.of h1p, atI_nat (j := 0) rfl, .inl ⟨rfl, _, SqL.of h2p⟩, g, _, 0, 0, _, rfl, rfl, h2p, by decide, by decide, by simp [seqIndex?], rfl, ?_⟩
          refine ⟨_, rfl, a, _, _, 1, rfl, rfl, (by rw [upd_ne nag]; exact h1p), rfl, ?_⟩
          refine ⟨⟨rfl, ⟨z, fo, m, zs, upd_same, by rw [upd_ne nag.symm, upd_same]; rfl, hf, hm⟩, by rw [ct_upda, ct_updg]; exact s3⟩, ?_⟩
          show lenAt g _ < lenAt g H2
          rw [lenAt_of h2, lenAt_of (g := g) (xs := zs.map V.int) (by rw [upd_ne nag.symm, upd_same]; rfl), List.length_map, List.length_map]
          exact Nat.lt_succ_self _
      · have h1p := h1
        have h2p := h2
        have s3 := s2
        refine iteF ?_
        refine ⟨_, rfl, a, _, _, _, rfl, rfl, SqL.of h1p, atI_nat (j := 1) rfl, _, _, rfl, rfl, _, rfl, ?_⟩
        refine ite2 (fun c2 => ?_) (fun c2 => ?_)
        · refine ⟨_, rfl, a, _, _, _, rfl, rfl, SqL.of h1p, atI_nat (j := 1) rfl, _, rfl, _, _, rfl, rfl, m0, ?_⟩
          refine ⟨_, rfl, a, _, _, _, rfl, rfl, SqL.of h1p, atI_nat (j := 1) rfl, _, rfl, _, _, rfl, rfl, wide_div (b := 60) m0 (by omega) (by decide) (by decide), _, rfl, a, _, _, 1, rfl, rfl, h1p, rfl, ?_⟩
          exact ⟨_, rfl, k _ _ (Int.emod_nonneg _ (by omega)) (Int.emod_lt_of_pos _ m0) ⟨_, fo, m, _, upd_same, by rw [upd_ne nag.symm]; exact h2p, hf, hm.1, by omega⟩ (by rw [ct_upda]; exact s3)⟩
        · have a1 : ¬ c < 2 := fun q => c1 (decide_eq_true q)
          have a2 : ¬ (2 : Int) ≤ c := fun q => c2 (decide_eq_true q)
          exfalso
          omega
    · rintro σ H2 Q1 Q2 hQ ⟨v, e0, p, xs, i, x, e1, e2, hs, ha, i2, j2, e3, e4, b, e5, q⟩
      refine ⟨v, e0, p, xs, i, x, e1, e2, hs, ha, i2, j2, e3, e4, b, e5, ?_⟩
      cases b with
      | false => exact iteF (hQ _ _ (by simpa using q))
      | true =>
        have q := (if_pos rfl : (if true = true then _ else _) = _).mp q
        obtain ⟨v, e0, p, xs, i, x, e1, e2, hs, ha, hl, hp⟩ := q
        refine iteT ⟨v, e0, p, xs, i, x, e1, e2, hs, ha, hl, fun p np => ?_⟩
        obtain ⟨d, e, d1, d2, d3, d4, b, e6, q⟩ := hp p np
        exact ⟨d, e, d1, d2, d3, d4, b, e6, hQ _ _ q⟩
end
end Kd

namespace Kd
open PySem PySem.Spec PyProof.Rows L2
/-! ### text * number -/
theorem op_rep_str {X : Cx} : OpR X (binaryOp .Mult) (fun x y H Q => ∃ z n, x = .str z ∧ y = .int n ∧ MulOk z n ∧ Q (.str (Txt.mul z n)) H) := by
  intro pins s σ H x y v u Q I rx ry h
  obtain ⟨z, n, rfl, rfl, hz, q⟩ := h
  obtain ⟨t, rfl⟩ := rx
  obtain ⟨t2, rfl⟩ := ry
  exact SB.mul hz fun t3 k => ⟨.str (Txt.mul z n), H, I.tok _, ⟨_, rfl⟩, q⟩
/-! ### trays -/
section
variable {H H' H1 H2 H3 : Hp} {a g p D b : Addr} {n m : Nat} {o : HO}
theorem Tray.same (s : Same H H') (t : Tray H a g n) : Tray H' a g n := by
  obtain ⟨c, f, k, gs, h1, h2, h3⟩ := t.ex
  exact ⟨c, f, k, gs, s _ _ h1, s _ _ h2, h3⟩
theorem Tray.new (t : Tray H a g n) (h : H p = Option.none) : Tray (upd H p o) a g n := t.same (same_new h)
theorem Tray.mono (t : Tray H a g n) (h : n ≤ m) : Tray H a g m := by
  obtain ⟨c, f, k, gs, h1, h2, h3, h4, h5⟩ := t.ex
  exact ⟨c, f, k, gs, h1, h2, h3, h4, by omega⟩
theorem Tray.na (t : Tray H a g n) (h : H p = Option.none) : p ≠ a ∧ p ≠ g := by
  obtain ⟨c, f, k, gs, h1, h2, _⟩ := t.ex
  exact ⟨(ne_of_none h1 h).symm, (ne_of_none h2 h).symm⟩
theorem Tray.cd (t : Tray H a g n) (ha : D ≠ a) (hg : D ≠ g) : Tray (cd D H) a g n := by
  obtain ⟨c, f, k, gs, h1, h2, h3⟩ := t.ex
  exact ⟨c, f, k, gs, cd_of h1 ha.symm, cd_of h2 hg.symm, h3⟩
theorem ctnew (h : H p = Option.none) : Same (ct a g H) (ct a g (upd H p o)) := ct_same (same_new h)
theorem ctcd (hD : H1 D = Option.none) (s1 : Same (ct a g H1) (ct a g (cd D H2))) (s2 : Same (ct a g H2) (ct a g H3)) : Same (ct a g H1) (ct a g (cd D H3)) := fun b o e => by
  obtain ⟨na, ng⟩ := ct_ne e
  have nD : b ≠ D := ne_of_none (ct_sub _ _ e) hD
  have e2 := ct_sub _ _ (s1 b o e)
  exact ct_of (cd_of (ct_sub _ _ (s2 b o (ct_of (cd_sub _ _ e2) na ng))) nD) na ng
/-- an object that is no part of the tray stays over a draw -/
theorem ctkeep (s : Same (ct a g H) (ct a g H')) (e : H b = some o) (ha : b ≠ a) (hg : b ≠ g) : H' b = some o := ct_sub _ _ (s b o (ct_of e ha hg))
end
/-! ### names -/
theorem nm_iff {z : Str} : nmB z = true ↔ IsNm z := by
  unfold nmB
  rw [Bool.and_eq_true, Bool.and_eq_true, decide_eq_true_iff, decide_eq_true_iff, List.all_eq_true]
  constructor
  · rintro ⟨h1, h2, h3⟩
    exact ⟨fun c hc => of_decide_eq_true (h3 c hc), h1, h2⟩
  · rintro ⟨h1, h2, h3⟩
    exact ⟨h2, h3, fun c hc => decide_eq_true (h1 c hc)⟩
/-- a name, or the empty text -/
structure Nm0 (z : Str) : Prop where
  low : Low z
  le8 : z.length ≤ 8
theorem IsNm.nm0 {z : Str} (h : IsNm z) : Nm0 z := ⟨h.low, h.le8⟩
theorem Nm0.nm {z : Str} (h : Nm0 z) (ne : z ≠ Str.empty) : IsNm z := ⟨h.low, by
  rcases Nat.eq_zero_or_pos z.length with e | e
  · refine absurd (Str.ext' (Array.eq_empty_of_size_eq_zero e)) ne
  · exact e, h.le8⟩
theorem cut8 (z : Str) : (cutS z none (some 8)).length ≤ 8 := by
  show (((z.cps.toList.drop (HT.sIx z.length 0 none)).take (HT.sIx z.length z.length (some 8) - HT.sIx z.length 0 none)).toArray).size ≤ 8
  rw [List.size_toArray, List.length_take, HT.sIx_none]
  have e : HT.sIx z.length z.length (some ((8 : Nat) : Int)) = min 8 z.length := HT.sIx_nat _ _ _
  have e2 : HT.sIx z.length z.length (some 8) = min 8 z.length := e
  rw [e2]
  omega
theorem flat_len : ∀ (parts : List Str), (∀ z ∈ parts, z.length = 1) → ((parts.map fun z => z.cps.toList).flatten).length = parts.length
  | [], _ => rfl
  | z :: r, h => by
    have ih := flat_len r fun y hy => h y (List.mem_cons_of_mem _ hy)
    have h1 := h z (List.mem_cons_self ..)
    have h2 : z.cps.toList.length = 1 := by rw [Array.length_toList]; exact h1
    rw [List.map_cons, List.flatten_cons, List.length_append, ih, h2, List.length_cons]
    omega
theorem joined {y : Str} (hy : y.cps.toList = []) (parts : List Str) (h1 : ∀ z ∈ parts, z.length = 1) (h2 : ∀ z ∈ parts, Low z) : Low (Txt.join y parts) ∧ (Txt.join y parts).length = parts.length := by
  have e := join_list_eq y hy parts
  constructor
  · intro c hc
    rw [e] at hc
    obtain ⟨l, hl, hcl⟩ := List.mem_flatten.mp hc
    obtain ⟨z, hz, rfl⟩ := List.mem_map.mp hl
    exact h2 z hz c hcl
  · have e2 : (Txt.join y parts).length = (Txt.join y parts).cps.toList.length := by rw [Array.length_toList]; rfl
    rw [e2, e]
    exact flat_len parts h1
theorem sum_ones : ∀ (parts : List Str), (∀ z ∈ parts, z.length = 1) → (parts.map (·.length)).sum = parts.length
  | [], _ => rfl
  | z :: r, h => by
    have ih := sum_ones r fun y hy => h y (List.mem_cons_of_mem _ hy)
    rw [List.map_cons, List.sum_cons, ih, h z (List.mem_cons_self ..), List.length_cons]
    omega
/-- one sign so many times -/
theorem mul_one (c : Nat) (n : Nat) (hn : 2 ≤ n) : Txt.mul ⟨#[c]⟩ (n : Int) = ⟨(List.replicate n c).toArray⟩ := by
  unfold Txt.mul
  have e : ((n : Int) == 1 || (⟨#[c]⟩ : Str).length == 0) = false := by
    have h1 : ((n : Int) == 1) = false := by simp; omega
    have h2 : ((⟨#[c]⟩ : Str).length == 0) = false := rfl
    rw [h1, h2]
    rfl
  rw [if_neg (by omega), e, if_neg Bool.false_ne_true, Int.toNat_natCast]
  have h : ∀ (k : Nat) (acc : List Nat), (List.replicate k #[c]).foldl (· ++ ·) acc.toArray = (acc ++ List.replicate k c).toArray := fun k => by
    induction k with
    | zero => intro acc; simp
    | succ k ih =>
      intro acc
      rw [List.replicate_succ, List.foldl_cons]
      have e2 : acc.toArray ++ #[c] = (acc ++ [c]).toArray := by simp
      rw [e2, ih, List.replicate_succ, List.append_assoc]
      rfl
  have h2 := h n []
  congr 1
theorem mul_nm0 {c : Nat} (hc : 97 ≤ c ∧ c ≤ 122) {n : Nat} (h1 : 2 ≤ n) (h2 : n ≤ 8) : Nm0 (Txt.mul ⟨#[c]⟩ (n : Int)) := by
  rw [mul_one c n h1]
  refine ⟨fun d hd => ?_, ?_⟩
  · have e : d = c := List.eq_of_mem_replicate hd
    rw [e]
    exact hc
  · show (List.replicate n c).toArray.size ≤ 8
    rw [List.size_toArray, List.length_replicate]
    exact h2
theorem mulOk_one (c : Nat) {n : Nat} (h : n ≤ 8) : MulOk ⟨#[c]⟩ (n : Int) := by
  refine ⟨?_, fun h1 _ => ?_, fun _ _ => ?_⟩
  · rw [Bool.or_eq_false_iff]
    exact ⟨decide_eq_false (by omega), decide_eq_false (by omega)⟩
  · show ¬ ((1 : Int) > (2 ^ 63 - 1) / (n : Int))
    have : (1 : Int) ≤ (2 ^ 63 - 1) / (n : Int) := by
      rw [Int.le_ediv_iff_mul_le (by omega)]
      omega
    omega
  · show Builtin.Str.tooLong (1 * (n : Int).toNat) = false
    rw [Int.toNat_natCast, Nat.one_mul]
    have : ∀ k, k ≤ 8 → Builtin.Str.tooLong k = false := by decide
    exact this n h
end Kd

namespace Kd
open PySem PySem.Spec PyProof.Rows L2
section
variable {P : Program} {w : World} {K : PySem.W.Frag} {mg : Str → Option Value} {base : Heap} {f : Addr} {fd : FuncData}
def spName (K : PySem.W.Frag) : Sp := fun vs H Q _ => ∃ (a g u : Addr) (n : Nat) (us : List Str), vs = [.ref a, .ref u] ∧ Tray H a g n ∧ n ≤ 900000 ∧ SqL K (ct a g H) u (us.map V.str) ∧ us.length ≤ 20 ∧ (∀ z ∈ us, IsNm z) ∧
  ∀ z H', IsNm z → z ∉ us → Tray H' a g (n + 13) → Same (ct a g H) (ct a g H') → Q (.str z) H'
abbrev nmN : List Str := ["tray", "used", "letters", "lot", "letter", "k", "name", "words", "old", "at", "one", "some"]
theorem sc_name : FnScope nmN ["tray", "used"] (defScope s_l_name) := ⟨rfl, rfl, rfl, by decide +kernel, rfl, by decide +kernel, by decide +kernel⟩
abbrev rMulS : R2 := fun x y H Q => ∃ z n, x = .str z ∧ y = .int n ∧ MulOk z n ∧ Q (.str (Txt.mul z n)) H
abbrev tDraw (i : Int) : TE := tCall spDraw [] E0 (tCons (tVar 0) (tCons (tC (.int i)) tNil))
/-! #### the last two statements -/
def tTail (K : PySem.W.Frag) : TS := tSeq (tAsg (tOp rCat (tOp rCat (tOp rCat (tLst (tCons (tVar 6) tNil)) (tLc (iStr (tVar 2)) (gName 10) tYes (tVar 10) [10])) (tLc (iStr (tVar 2)) (gName 10) tYes (tOp rMulS (tVar 10) (tC (.int 3))) [10])) (tLc (iStr (tVar 2)) (gName 10) tYes (tOp rMulS (tVar 10) (tC (.int 5))) [10])) (gName 11))
  (tRet (tOp (rIxL K) (tLc (iList K (tVar 11)) (gName 10) (tAnd (tTest (tOp rNe (tVar 10) (tC (.str Str.empty)))) (tTest (tOp (rIn K true) (tVar 10) (tVar 1)))) (tVar 10) [10]) (tC (.int 0))))
theorem cd_is {D : Addr} {H H0 : Hp} (e : cd D H = H0) : Same H0 H := by rw [← e]; exact cd_sub
def tens (F : Nat → Str) (i : Nat) : List V := ((abc.cps.toList.take i).map F).map V.str
theorem tens_add {F : Nat → Str} {i c : Nat} (h : abc.cps[i]? = some c) : tens F i ++ [.str (F c)] = tens F (i + 1) := by
  have h2 : abc.cps.toList[i]? = some c := by rw [Array.getElem?_toList]; exact h
  obtain ⟨h3, h4⟩ := List.getElem?_eq_some_iff.mp h2
  unfold tens
  rw [List.take_succ_eq_append_getElem h3, List.map_append, List.map_append, h4]
  rfl
theorem tens_all (F : Nat → Str) : tens F abc.cps.size = ((List.range' 97 26).map F).map V.str := by
  unfold tens
  rw [List.take_of_length_le (by rw [Array.length_toList]; exact Nat.le_refl _), abc_list]
/-- a comprehension over the letters that makes nothing but texts -/
theorem lc_abc {te : TE} {σ : L2.St} {H1 : Hp} {D : Addr} {Qd : Hp → Prop} (F : Nat → Str) (hD : H1 D = none) (h10 : wipe ((wipe σ [10]).set 10 none) [10] = wipe σ [10])
    (hw : ∀ v, wipe ((wipe σ [10]).set 10 v) [10] = wipe σ [10]) (hte : ∀ (c : Nat) (H2 : Hp) (Q : VK), 97 ≤ c ∧ c ≤ 122 → Q (.str (F c)) H2 → te ((wipe σ [10]).set 10 (some (.str ⟨#[c]⟩))) H2 Q)
    (hd : ∀ H2, H2 D = some (.lst (((List.range' 97 26).map F).map V.str)) → cd D H2 = H1 → Qd H2) :
    ∃ W : Nat → Nat → Hp → Prop, (∃ m, W 0 m (upd H1 D (.lst []))) ∧ ∀ i m H, W i m H →
      ((Its abc).stop i H ∧ Qd H) ∨ ((Its abc).go i H ∧ ∃ Nx : Hp → Prop, (∀ H', Nx H' → ∃ m', m' < m ∧ W (i + 1) m' H') ∧ ∀ x H', (Its abc).yld i H x H' → gName 10 x (wipe σ [10]) H' fun σ2 H2 => wipe σ2 [10] = wipe σ [10] ∧ tYes σ2 H2 fun b H3 =>
        if b = true then te σ2 H3 fun y H4 => ∃ acc, H4 D = some (.lst acc) ∧ acc.length < sizeLine ∧ Nx (upd H4 D (.lst (acc ++ [y]))) else Nx H3) := by
  refine lc_build walk_str hD (fun i ys R => R = H1 ∧ ys = tens F i) ⟨rfl, rfl⟩ (fun _ _ _ _ _ => trivial) ?_ ?_
  · rintro i ys x H2 H2' hi e l ⟨e1, rfl⟩ ⟨rfl, c, hc, rfl⟩
    have hc2 : c ∈ abc.cps.toList := by
      have h2 : abc.cps.toList[i]? = some c := by rw [Array.getElem?_toList]; exact hc
      exact List.mem_of_getElem? h2
    refine ⟨hw _, yes (hte c _ _ (mem_abc.mp hc2) (LcNx.add e l ?_ ⟨e1, tens_add hc⟩))⟩
    have h3 : abc.cps.size = 26 := abc_len
    omega
  · rintro ys H2 e l ⟨e1, rfl⟩
    rw [tens_all] at e
    exact hd H2 e e1
theorem inV_strs (z : Str) : ∀ us : List Str, inV (.str z) (us.map V.str) = decide (z ∈ us)
  | [] => by simp [inV]
  | y :: us => by
    have ih := inV_strs z us
    unfold inV at ih ⊢
    rw [List.map_cons, List.any_cons, ih]
    have e : eqV (.str y) (.str z) = decide (z = y) := by
      show (y == z) = decide (z = y)
      by_cases q : z = y
      · simp [q]
      · have q2 : ¬ y = z := fun h => q h.symm
        simp [q, q2]
    rw [e]
    simp [List.mem_cons]
theorem flat_strs : ∀ us : List Str, (us.map V.str).all flatV = true
  | [] => rfl
  | _ :: us => by
    rw [List.map_cons, List.all_cons, flat_strs us]
    rfl
def keepB (us : List Str) (z : Str) : Bool := !decide (z = Str.empty) && !decide (z ∈ us)
theorem free_letter {us : List Str} (h : us.length ≤ 20) : ∃ c, 97 ≤ c ∧ c ≤ 122 ∧ (⟨#[c]⟩ : Str) ∉ us := by
  apply Classical.byContradiction
  intro hn
  have h1 : ∀ z ∈ (List.range' 97 26).map (fun c => (⟨#[c]⟩ : Str)), z ∈ us := fun z hz => by
    obtain ⟨c, hc, rfl⟩ := List.mem_map.mp hz
    rw [List.mem_range'_1] at hc
    apply Classical.byContradiction
    intro hq
    exact hn ⟨c, by omega, by omega, hq⟩
  have h2 : ((List.range' 97 26).map (fun c => (⟨#[c]⟩ : Str))).Nodup := by decide +kernel
  have h3 := List.Nodup.length_le_of_subset h2 h1
  rw [List.length_map, List.length_range'] at h3
  omega
theorem tail_ok {a g u : Addr} {n m : Nat} {us : List Str} {z : Str} {x3 x4 x5 x7 x8 x9 x10 x11 : Option V} {H Hx : Hp} {Q : VK} {nx : L2.St → Hp → Prop} (hT : Tray Hx a g m) (hm : m ≤ n + 13) (hu : SqL K (ct a g H) u (us.map V.str)) (hs : Same (ct a g H) (ct a g Hx)) (hul : us.length ≤ 20) (hz : Nm0 z)
    (k : ∀ z H', IsNm z → z ∉ us → Tray H' a g (n + 13) → Same (ct a g H) (ct a g H') → Q (.str z) H') :
    tTail K { nx := nx, rt := Q } [some (.ref a), some (.ref u), some (.str abc), x3, x4, x5, some (.str z), x7, x8, x9, x10, x11] Hx := by
  refine ⟨_, rfl, by show 1 ≤ sizeLine; decide, fun p1 n1 => ?_⟩
  refine ⟨_, rfl, abc, rfl, fun D1 d1 => lc_abc (fun c => ⟨#[c]⟩) d1 rfl (fun _ => rfl) (fun c H2 Q2 _ q => ⟨_, rfl, q⟩) fun H2 e2 c2 => ?_⟩
  have s2 := cd_is c2
  have h2 : H2 p1 = some (.lst [.str z]) := s2 _ _ upd_same
  refine ⟨p1, D1, _, _, rfl, rfl, h2, e2, le_line (by simp), fun p3 n3 => ?_⟩
  refine ⟨_, rfl, abc, rfl, fun D4 d4 => lc_abc (fun c => Txt.mul ⟨#[c]⟩ 3) d4 rfl (fun _ => rfl) (fun c H2 Q2 _ q => ⟨_, rfl, _, _, rfl, rfl, mulOk_one c (n := 3) (by decide), q⟩) fun H4 e4 c4 => ?_⟩
  have s4 := cd_is c4
  refine ⟨p3, D4, _, _, rfl, rfl, s4 _ _ upd_same, e4, le_line (by simp), fun p5 n5 => ?_⟩
  refine ⟨_, rfl, abc, rfl, fun D6 d6 => lc_abc (fun c => Txt.mul ⟨#[c]⟩ 5) d6 rfl (fun _ => rfl) (fun c H2 Q2 _ q => ⟨_, rfl, _, _, rfl, rfl, mulOk_one c (n := 5) (by decide), q⟩) fun H6 e6 c6 => ?_⟩
  have s6 := cd_is c6
  refine ⟨p5, D6, _, _, rfl, rfl, s6 _ _ upd_same, e6, le_line (by simp), fun p7 n7 => ?_⟩
  have sx : Same Hx (upd H6 p7 (.lst ([.str z] ++ ((List.range' 97 26).map fun c => (⟨#[c]⟩ : Str)).map V.str ++ ((List.range' 97 26).map fun c => Txt.mul ⟨#[c]⟩ 3).map V.str ++ ((List.range' 97 26).map fun c => Txt.mul ⟨#[c]⟩ 5).map V.str))) :=
    (((((same_new n1).trans s2).trans (same_new n3)).trans s4).trans (same_new n5)).trans (s6.trans (same_new n7))
  have eS : ([V.str z] ++ ((List.range' 97 26).map fun c => (⟨#[c]⟩ : Str)).map V.str ++ ((List.range' 97 26).map fun c => Txt.mul ⟨#[c]⟩ 3).map V.str ++ ((List.range' 97 26).map fun c => Txt.mul ⟨#[c]⟩ 5).map V.str) =
      (z :: ((List.range' 97 26).map (fun c => (⟨#[c]⟩ : Str)) ++ (List.range' 97 26).map (fun c => Txt.mul ⟨#[c]⟩ 3) ++ (List.range' 97 26).map (fun c => Txt.mul ⟨#[c]⟩ 5))).map V.str := by
    simp only [List.map_cons, List.map_append, List.singleton_append, List.cons_append, List.nil_append]
  rw [eS] at sx ⊢
  generalize hSd : z :: ((List.range' 97 26).map (fun c => (⟨#[c]⟩ : Str)) ++ (List.range' 97 26).map (fun c => Txt.mul ⟨#[c]⟩ 3) ++ (List.range' 97 26).map (fun c => Txt.mul ⟨#[c]⟩ 5)) = S at sx ⊢
  have hSl : S.length ≤ 4000 := by rw [← hSd]; simp
  have hS0 : ∀ y ∈ S, Nm0 y := fun y hy => by
    rw [← hSd] at hy
    rcases List.mem_cons.mp hy with rfl | hy
    · exact hz
    · rcases List.mem_append.mp hy with hy | hy
      · rcases List.mem_append.mp hy with hy | hy
        · obtain ⟨c, hc, rfl⟩ := List.mem_map.mp hy
          rw [List.mem_range'_1] at hc
          exact (IsNm.one (by omega)).nm0
        · obtain ⟨c, hc, rfl⟩ := List.mem_map.mp hy
          rw [List.mem_range'_1] at hc
          exact mul_nm0 (n := 3) (by omega) (by decide) (by decide)
      · obtain ⟨c, hc, rfl⟩ := List.mem_map.mp hy
        rw [List.mem_range'_1] at hc
        exact mul_nm0 (n := 5) (by omega) (by decide) (by decide)
  have hS1 : ∀ c, 97 ≤ c ∧ c ≤ 122 → (⟨#[c]⟩ : Str) ∈ S := fun c hc => by
    rw [← hSd]
    refine List.mem_cons_of_mem _ (List.mem_append_left _ (List.mem_append_left _ (List.mem_map.mpr ⟨c, ?_, rfl⟩)))
    rw [List.mem_range'_1]
    omega
  refine ⟨_, rfl, p7, rfl, ⟨_, SqL.of upd_same⟩, fun D hD => lc_build (walk_list (K := K) (a := p7) (xs := S.map V.str)) hD (fun i ys R => R = upd H6 p7 (.lst (S.map V.str)) ∧ ys = ((S.take i).filter (keepB us)).map V.str) ⟨rfl, rfl⟩ (fun i ys H2 _ p => SqL.of (cd_is p.1 _ _ upd_same)) ?_ ?_⟩
  · rintro i ys x H2 H2' hi e l ⟨c, rfl⟩ ⟨rfl, hy⟩
    obtain ⟨y, rfl, hy2⟩ := strs_at hy
    rw [List.length_map] at hi
    have hu2 : SqL K H2' u (us.map V.str) := (((hs.trans (ct_same sx)).trans ct_sub).trans (cd_is c)).seq hu
    refine ⟨rfl, _, rfl, rfl, _, rfl, ?_⟩
    obtain ⟨g1, g2⟩ := List.getElem?_eq_some_iff.mp hy2
    have et : (S.take (i + 1)).filter (keepB us) = (S.take i).filter (keepB us) ++ [y].filter (keepB us) := by
      rw [List.take_succ_eq_append_getElem g1, List.filter_append, g2]
    by_cases c1 : y = Str.empty
    · have e1 : keepB us y = false := by unfold keepB; rw [decide_eq_true c1]; rfl
      rw [c1]
      refine iteNS rfl ?_
      refine iteF (LcNx.skip e l ⟨c, ?_⟩)
      rw [et, List.filter_cons_of_neg (by rw [e1]; decide), List.filter_nil, List.append_nil]
    · have e0 : (!decide (V.str y = V.str Str.empty)) = true := by
        rw [decide_eq_false (fun q => c1 (by injection q))]
        rfl
      rw [e0]
      refine iteT ⟨_, rfl, _, rfl, u, _, rfl, .inl hu2, rfl, flat_strs us, _, rfl, ?_⟩
      rw [inV_strs]
      by_cases c2 : y ∈ us
      · have e1 : keepB us y = false := by unfold keepB; rw [decide_eq_true c2, Bool.not_true, Bool.and_false]
        rw [decide_eq_true c2]
        refine iteF (LcNx.skip e l ⟨c, ?_⟩)
        rw [et, List.filter_cons_of_neg (by rw [e1]; decide), List.filter_nil, List.append_nil]
      · have e1 : keepB us y = true := by unfold keepB; rw [decide_eq_false c2, decide_eq_false c1]; rfl
        rw [decide_eq_false c2]
        refine iteT ⟨_, rfl, LcNx.add e l (by omega) ⟨c, ?_⟩⟩
        rw [et, List.filter_cons_of_pos e1, List.filter_nil, List.map_append]
        rfl
  · rintro ys H2 e l ⟨c, rfl⟩
    rw [List.length_map, List.take_length] at e
    obtain ⟨c1, c2, c3, c4⟩ := free_letter hul
    have hmem : (⟨#[c1]⟩ : Str) ∈ S.filter (keepB us) := List.mem_filter.mpr ⟨hS1 c1 ⟨c2, c3⟩, by
      unfold keepB
      rw [decide_eq_false c4, decide_eq_false (fun q => by
        have q2 : (#[c1] : Array Nat) = #[] := congrArg Str.cps q
        exact absurd (congrArg Array.size q2) (show ¬ (1 : Nat) = 0 by decide))]
      rfl⟩
    cases hf : S.filter (keepB us) with
    | nil => rw [hf] at hmem; cases hmem
    | cons y r =>
      rw [hf] at e
      have hy : y ∈ S.filter (keepB us) := by rw [hf]; exact List.mem_cons_self ..
      obtain ⟨hy1, hy2⟩ := List.mem_filter.mp hy
      unfold keepB at hy2
      rw [Bool.and_eq_true, Bool.not_eq_true', Bool.not_eq_true', decide_eq_false_iff_not, decide_eq_false_iff_not] at hy2
      have s9 : Same Hx H2 := sx.trans (cd_is c)
      refine ⟨D, _, _, _, rfl, rfl, SqL.of e, atI_nat (j := 0) rfl, ?_⟩
      exact k y H2 ((hS0 y hy1).nm hy2.1) hy2.2 ((hT.same s9).mono hm) (hs.trans (ct_same s9))
theorem words_at {j : Nat} (h : j < 12) : ∃ z, (([V.str "dim", V.str "sum", V.str "kind", V.str "fact", V.str "forget", V.str "first", V.str "last", V.str "day", V.str "before", V.str "none", V.str "known", V.str "ok"] : List V)[j]? = some (.str z)) ∧ IsNm z := by
  have h1 : ∀ z ∈ (["dim", "sum", "kind", "fact", "forget", "first", "last", "day", "before", "none", "known", "ok"] : List Str), nmB z = true := by decide +kernel
  have h2 : (["dim", "sum", "kind", "fact", "forget", "first", "last", "day", "before", "none", "known", "ok"] : List Str)[j]? = some ((["dim", "sum", "kind", "fact", "forget", "first", "last", "day", "before", "none", "known", "ok"] : List Str)[j]'h) := List.getElem?_eq_getElem h
  refine ⟨_, ?_, nm_iff.mp (h1 _ (List.getElem_mem h))⟩
  have h3 := congrArg (Option.map V.str) h2
  rw [← List.getElem?_map] at h3
  exact h3
theorem Low.ok {z : Str} (h : Low z) : PyData.strOk z = true := by
  unfold PyData.strOk
  rw [Array.all_eq_true']
  intro c hc
  have := h c (Array.mem_toList_iff.mpr hc)
  exact decide_eq_true (by omega)
theorem lay_strs : ∀ xs : List Str, (∀ z ∈ xs, Low z) → PyData.canLayAll0 (xs.map PyData.str) = true ∧ PyData.depthAll (xs.map PyData.str) = 0
  | [], _ => ⟨rfl, rfl⟩
  | x :: xs, h => by
    obtain ⟨h1, h2⟩ := lay_strs xs fun z hz => h z (List.mem_cons_of_mem _ hz)
    have h3 := (h x (List.mem_cons_self ..)).ok
    constructor
    · simp only [List.map_cons, PyData.canLayAll0, PyData.canLay0, h1, h3, Bool.and_self]
    · simp only [List.map_cons, PyData.depthAll, PyData.depth, h2, Nat.max_self]
theorem shaped_strs (xs : List Str) (h : ∀ z ∈ xs, Low z) : SeqAt.shaped (.list (xs.map PyData.str)) = true := by
  obtain ⟨h1, h2⟩ := lay_strs xs h
  simp [SeqAt.shaped, PyData.canLay0, PyData.depth, h1, h2]
theorem ok_name {fD : Addr} {fdD : FuncData} (F : FnP K "_law_name" "_law_name" s_l_name f fd) (GD : FnOk P w K mg base CX0 1 fD fdD ["tray", "many"] spDraw) (kD : PySem.W.keepIn K (.ref fD) = true) (bD : Binds K fdD ["tray", "many"] []) (gD : mg "_law_draw" = some (.ref fD)) (gr : mg "range" = none) (ge : mg "len" = none) :
    FnOk P w K mg base CX0 2 f fd ["tray", "used"] (spName K) := by
  refine F.ok sc_name (fun vs H Q E h => ?_) (fun cdv A outer s H vs Q E hr h => ?_)
  · obtain ⟨a, g, u, n, us, rfl, _⟩ := h
    rfl
  · obtain ⟨a, g, u, n, us, rfl, hT, hn, hu, hul, hus, k⟩ := h
    have nd := sc_name.nd
    refine ⟨_, PSs.nox (pss_cons (ps_set (i := 2) nd rfl (Or.inr rfl) pe_str)
      (pss_cons (ps_set (i := 3) nd rfl (Or.inl rfl) (pe_call GD hr rfl gD kD bD .nil pass0 (pa_cons (pv 0) (pa_cons pe_int pa_nil))))
      (pss_cons (ps_set (i := 4) nd rfl (Or.inl rfl) (pe_ix ix_str (pv 2) (pe_call GD hr rfl gD kD bD .nil pass0 (pa_cons (pv 0) (pa_cons pe_int pa_nil))) (fun _ _ => rfl)))
      (pss_cons (ps_set (i := 6) nd rfl (Or.inl rfl) (pe_join pe_str (pe_lc (own := [("k", 5)]) (g := gName 5) (tt := tYes) (te := tOp rIxS (tVar 2) (tDraw 26)) rfl nd (pi_range1 rfl gr (pa_cons (pe_op op_add pe_int (pe_call GD hr rfl gD kD bD .nil pass0 (pa_cons (pv 0) (pa_cons pe_int pa_nil)))) pa_nil)) (blkOk_by (own := [("k", 5)]) (N := nmN) (sc := defScope s_l_name) (by decide +kernel))
        (fun _ _ _ _ _ => pg_name (i := 5) nd rfl (Or.inl rfl)) (fun _ _ _ _ _ => pts_nil) (fun _ _ _ _ _ => pe_ix ix_str (pv 2) (pe_call GD hr rfl gD kD bD .nil pass0 (pa_cons (pv 0) (pa_cons pe_int pa_nil))) (fun _ _ => rfl)))))
      (pss_cons (ps_if (pt_cmpR op_eq (pv 3) pe_int (nomark _))
        (pss_cons (ps_set (i := 7) nd rfl (Or.inl rfl) (pe_lst (pa_cons pe_str (pa_cons pe_str (pa_cons pe_str (pa_cons pe_str (pa_cons pe_str (pa_cons pe_str (pa_cons pe_str (pa_cons pe_str (pa_cons pe_str (pa_cons pe_str (pa_cons pe_str (pa_cons pe_str pa_nil))))))))))))))
        (pss_one (ps_set (i := 6) nd rfl (Or.inl rfl) (pe_ix ix_list (pv 7) (pe_call GD hr rfl gD kD bD .nil pass0 (pa_cons (pv 0) (pa_cons pe_int pa_nil))) (fun _ _ => rfl)))))
        (pss_one (ps_if (PW.pt (pw_and (pt_cmpR op_gt (pv 3) pe_int (nomark _)) (pw_and1 (pt_cmpR (op_neD hr.units) (pv 1) (pe_lst pa_nil) (nomark _)))))
          (pss_cons (ps_set (i := 8) nd rfl (Or.inl rfl) (pe_ix ix_list (pv 1) (pe_call GD hr rfl gD kD bD .nil pass0 (pa_cons (pv 0) (pa_cons (pe_callB call_len_seq (by rfl) ge boot_len (pa_cons (pv 1) pa_nil)) pa_nil))) (fun _ _ => rfl)))
          (pss_cons (ps_set (i := 9) nd rfl (Or.inl rfl) (pe_call GD hr rfl gD kD bD .nil pass0 (pa_cons (pv 0) (pa_cons (pe_op op_add (pe_callB call_len_str (by rfl) ge boot_len (pa_cons (pv 8) pa_nil)) pe_int) pa_nil))))
          (pss_one (ps_set (i := 6) nd rfl (Or.inl rfl) (pe_slice sl_str (pe_op op_add_str (pe_op op_add_str (pe_slice sl_str (pv 8) po_none (po_some (pv 9))) (pe_ix ix_list (pe_lst (pa_cons (pv 4) (pa_cons (pv 4) (pa_cons pe_str pa_nil)))) (pe_op op_sub (pv 3) pe_int) (fun _ _ => rfl)))
            (pe_slice sl_str (pv 8) (po_some (pe_op op_add (pv 9) (pe_ix ix_list (pe_lst (pa_cons pe_int (pa_cons pe_int (pa_cons pe_int pa_nil)))) (pe_op op_sub (pv 3) pe_int) (fun _ _ => rfl)))) po_none)) po_none (po_some pe_int)))))) pss_nil)))
      (pss_cons (ps_set (i := 11) nd rfl (Or.inl rfl) (pe_op op_cat (pe_op op_cat (pe_op op_cat (pe_lst (pa_cons (pv 6) pa_nil))
          (pe_lc (own := [("one", 10)]) (g := gName 10) (tt := tYes) rfl nd (pi_str (pv 2)) (blkOk_by (own := [("one", 10)]) (N := nmN) (sc := defScope s_l_name) (by decide +kernel)) (fun _ _ _ _ _ => pg_name (i := 10) nd rfl (Or.inl rfl)) (fun _ _ _ _ _ => pts_nil) (fun _ _ _ _ _ => pv 10)))
          (pe_lc (own := [("one", 10)]) (g := gName 10) (tt := tYes) (te := tOp rMulS (tVar 10) (tC (.int 3))) rfl nd (pi_str (pv 2)) (blkOk_by (own := [("one", 10)]) (N := nmN) (sc := defScope s_l_name) (by decide +kernel)) (fun _ _ _ _ _ => pg_name (i := 10) nd rfl (Or.inl rfl)) (fun _ _ _ _ _ => pts_nil) (fun _ _ _ _ _ => pe_op op_rep_str (pv 10) pe_int)))
          (pe_lc (own := [("one", 10)]) (g := gName 10) (tt := tYes) (te := tOp rMulS (tVar 10) (tC (.int 5))) rfl nd (pi_str (pv 2)) (blkOk_by (own := [("one", 10)]) (N := nmN) (sc := defScope s_l_name) (by decide +kernel)) (fun _ _ _ _ _ => pg_name (i := 10) nd rfl (Or.inl rfl)) (fun _ _ _ _ _ => pts_nil) (fun _ _ _ _ _ => pe_op op_rep_str (pv 10) pe_int))))
      (pss_one (ps_ret (pe_ix ix_list (pe_lc (own := [("one", 10)]) (g := gName 10) (tt := tAnd (tTest (tOp rNe (tVar 10) (tC (.str Str.empty)))) (tTest (tOp (rIn K true) (tVar 10) (tVar 1)))) rfl nd (pi_list (pv 11)) (blkOk_by (own := [("one", 10)]) (N := nmN) (sc := defScope s_l_name) (by decide +kernel)) (fun _ _ _ _ _ => pg_name (i := 10) nd rfl (Or.inl rfl))
          (fun _ _ _ _ _ => pts_one (PW.pt (pw_and (pt_cmpR op_ne (pv 10) pe_str (nomark _)) (pw_and1 (pt_cmpR op_notIn_seq (pv 10) (pv 1) (by rfl)))))) (fun _ _ _ _ _ => pv 10)) pe_int (fun _ _ => rfl)))))))))), ?_⟩
    refine ⟨_, rfl, a, g, n, 5, rfl, hT, by omega, by decide, by decide, fun lot H1 l0 l1 T1 s1 => ?_⟩
    refine ⟨_, rfl, _, rfl, a, g, n + 1, 26, rfl, T1, by omega, by decide, by decide, fun cl H2 c0 c1 T2 s2 => ?_⟩
    obtain ⟨jl, rfl⟩ : ∃ j : Nat, cl = (j : Int) := ⟨cl.toNat, by omega⟩
    refine ⟨abc, _, _, rfl, rfl, le_line (by rw [abc_len]; decide), atI_nat (abc_at (by omega)), ?_⟩
    refine ⟨⟨_, rfl⟩, _, rfl, a, g, n + 1 + 1, 8, rfl, T2, by omega, by decide, by decide, fun r H3 r0 r1 T3 s3 => ?_⟩
    obtain ⟨jr, rfl⟩ : ∃ j : Nat, r = (j : Int) := ⟨r.toNat, by omega⟩
    refine ⟨_, _, rfl, rfl, _, rfl, by omega, by omega, fun D hD => ?_⟩
    have eN : ((1 : Int) + (jr : Int)).toNat = 1 + jr := by omega
    rw [eN]
    obtain ⟨nDa, nDg⟩ := T3.na hD
    refine lc_build (walk_range (lo := 0)) hD (fun i ys R => ∃ parts : List Str, ys = parts.map V.str ∧ parts.length = i ∧ (∀ z ∈ parts, z.length = 1 ∧ Low z) ∧ Tray R a g (n + 3 + i) ∧ Same (ct a g H3) (ct a g R)) ⟨[], rfl, rfl, fun _ h => (nomatch h), T3.mono (by omega), Same.refl _⟩ (fun _ _ _ _ _ => trivial) ?_ ?_
    · rintro i ys x Ha Hb hi e l ⟨parts, rfl, lp, pz, Tp, sp⟩ ⟨rfl, rfl⟩
      refine ⟨rfl, yes ?_⟩
      refine ⟨_, rfl, _, rfl, a, g, n + 3 + i, 26, rfl, Tp.same cd_sub, by omega, by decide, by decide, fun ch Hc h0 h1 Tc sc => ?_⟩
      obtain ⟨jc, rfl⟩ : ∃ j : Nat, ch = (j : Int) := ⟨ch.toNat, by omega⟩
      refine ⟨abc, _, _, rfl, rfl, le_line (by rw [abc_len]; decide), atI_nat (abc_at (by omega)), LcNx.add (ctkeep sc e nDa nDg) l (by omega) ⟨parts ++ [⟨#[97 + jc]⟩], by rw [List.map_append]; rfl, by rw [List.length_append]; show parts.length + 1 = i + 1; omega, fun z hz => ?_, (Tc.cd nDa nDg).mono (by omega), ctcd hD sp sc⟩⟩
      rcases List.mem_append.mp hz with hz | hz
      · exact pz z hz
      · rw [List.mem_singleton.mp hz]
        exact ⟨rfl, Low.one (by omega)⟩
    · rintro ys H4 e l ⟨parts, rfl, lp, pz, Tp, sp⟩
      obtain ⟨jlow, jlen⟩ := joined (y := Str.ofString "") (by decide +kernel) parts (fun z hz => (pz z hz).1) fun z hz => (pz z hz).2
      refine ⟨_, D, parts, rfl, rfl, .inl (SqL.of e), ?_, ?_⟩
      · rw [sum_ones parts fun z hz => (pz z hz).1]
        have e0 : (Str.ofString "").length = 0 := by decide +kernel
        rw [e0]
        omega
      have T4 : Tray H4 a g (n + 11) := (Tp.same cd_sub).mono (by omega)
      have s4 : Same (ct a g H) (ct a g H4) := ((s1.trans s2).trans s3).trans (sp.trans (ct_same cd_sub))
      have hu4 : SqL K H4 u (us.map V.str) := (s4.trans ct_sub).seq hu
      have hu4' : ∀ {p o}, H4 p = none → SqL K (upd H4 p o) u (us.map V.str) := fun h => (same_new h).seq hu4
      have hz4 : Nm0 (Txt.join (Str.ofString "") parts) := ⟨jlow, by omega⟩
      refine ⟨_, rfl, rfl, _, rfl, ?_⟩
      refine ite2 (fun c4 => ?_) (fun c4 => ?_)
      · refine ⟨by show 12 ≤ sizeLine; decide, fun pw nw => ?_⟩
        obtain ⟨nwa, nwg⟩ := T4.na nw
        refine ⟨_, rfl, _, rfl, a, g, n + 11, 12, rfl, T4.new nw, by omega, by decide, by decide, fun q H5 q0 q1 T5 s5 => ?_⟩
        obtain ⟨jq, rfl⟩ : ∃ j : Nat, q = (j : Int) := ⟨q.toNat, by omega⟩
        obtain ⟨wz, w1, w2⟩ := words_at (j := jq) (by omega)
        refine ⟨pw, _, _, _, rfl, rfl, SqL.of (ctkeep s5 upd_same nwa nwg), atI_nat w1, ?_⟩
        exact tail_ok (T5) (by omega) hu ((s4.trans (ctnew nw)).trans s5) hul w2.nm0 k
      · refine ⟨_, rfl, _, _, rfl, rfl, _, rfl, ?_⟩
        have c4 : ¬ lot = 4 := fun q => c4 (decide_eq_true (congrArg V.int q))
        refine ite2 (fun c5 => ?_) (fun c5 => ?_)
        · have c5 : 0 < lot := of_decide_eq_true c5
          refine ⟨_, rfl, by show 0 ≤ sizeLine; decide, fun pe ne => ?_⟩
          refine ⟨.list (us.map PyData.str), .list [], .lst ((hu4' ne)) (DpAll.strs us), .lst (SqL.of upd_same) .nil, shaped_strs us (fun z hz => (hus z hz).low), by decide, _, rfl, ?_⟩
          cases us with
          | nil =>
            refine iteF ?_
            exact tail_ok (T4.new ne) (by omega) hu (s4.trans (ctnew ne)) hul hz4 k
          | cons y0 yr =>
            refine iteT ?_
            have l1 : ((y0 :: yr).map V.str).length = (y0 :: yr).length := List.length_map ..
            refine ⟨_, rfl, _, rfl, _, rfl, u, _, rfl, .inl (hu4' ne), a, g, n + 11, _, rfl, T4.new ne, by omega, by rw [l1]; show (0 : Int) < ((yr.length + 1 : Nat) : Int); omega, by rw [l1]; omega, fun q H5 q0 q1 T5 s5 => ?_⟩
            obtain ⟨jq, rfl⟩ : ∃ j : Nat, q = (j : Int) := ⟨q.toNat, by omega⟩
            have hjq : jq < (y0 :: yr).length := by rw [l1] at q1; omega
            have s45 : Same (ct a g H) (ct a g H5) := (s4.trans (ctnew ne)).trans s5
            have hold := hus _ (List.getElem_mem hjq)
            generalize ho : (y0 :: yr)[jq] = old at hold
            have go : ((y0 :: yr).map V.str)[jq]? = some (.str old) := by rw [List.getElem?_map, List.getElem?_eq_getElem hjq, ho]; rfl
            refine ⟨u, _, _, _, rfl, rfl, (s45.trans ct_sub).seq hu, atI_nat go, ?_⟩
            have lo8 := hold.le8
            refine ⟨_, rfl, _, rfl, old, rfl, le_line (by omega), _, _, rfl, rfl, a, g, n + 11 + 1, _, rfl, T5, by omega, by omega, by omega, fun at_ H6 a0 a1 T6 s6 => ?_⟩
            have l31 : lot = 1 ∨ lot = 2 ∨ lot = 3 := by omega
            have sz0 : ∀ lo hi, (cutS old lo hi).length ≤ 8 := fun lo hi => Nat.le_trans (cutS_length old lo hi) lo8
            have fin : ∀ (t : Str) (lo : Int), Low t → Nm0 (cutS (cutS old none (some at_) ++ t ++ cutS old (some lo) none) none (some 8)) := fun t lo ht => ⟨(((hold.low.cut _ _).append ht).append (hold.low.cut _ _)).cut _ _, cut8 _⟩
            have ll : Low (⟨#[97 + jl]⟩ : Str) := Low.one (by omega)
            have le0 : Low (Str.ofString "") := fun c hc => by
              have e0 : (Str.ofString "").cps.toList = [] := by decide +kernel
              rw [e0] at hc
              cases hc
            have lz0 : (Str.ofString "").length = 0 := by decide +kernel
            have sz1 := sz0 none (some at_)
            rcases l31 with rfl | rfl | rfl
            all_goals
              refine ⟨_, rfl, _, rfl, _, rfl, old, rfl, le_line (by omega), _, rfl, _, rfl, by show 3 ≤ sizeLine; decide, fun p8 n8 => ?_⟩
              refine ⟨_, rfl, _, _, rfl, rfl, p8, _, _, _, rfl, rfl, SqL.of upd_same, rfl, _, _, rfl, rfl, le_line (by first | (show (cutS old none (some at_)).length + 1 ≤ 4000; omega) | (rw [lz0]; omega)), ?_⟩
              refine ⟨_, rfl, _, rfl, by show 3 ≤ sizeLine; decide, fun p9 n9 => ?_⟩
              refine ⟨_, rfl, _, _, rfl, rfl, p9, _, _, _, rfl, rfl, SqL.of upd_same, rfl, _, _, rfl, rfl, _, rfl, old, rfl, le_line (by omega), _, _, rfl, rfl, ?_, ?_⟩
              · refine le_line ?_
                have := sz0 (some (at_ + 0)) none
                have := sz0 (some (at_ + 1)) none
                rw [len_append]
                first | (show (cutS old none (some at_)).length + 1 + _ ≤ 4000; omega) | (rw [lz0]; omega)
              · refine ⟨_, rfl, _, rfl, ?_, ?_⟩
                · refine le_line ?_
                  have := sz0 (some (at_ + 0)) none
                  have := sz0 (some (at_ + 1)) none
                  rw [len_append, len_append]
                  first | (show (cutS old none (some at_)).length + 1 + _ ≤ 4000; omega) | (rw [lz0]; omega)
                · exact tail_ok ((T6.new n8).new n9) (by omega) hu (((s45.trans s6).trans (ctnew n8)).trans (ctnew n9)) hul (fin _ _ (by first | exact ll | exact le0)) k
        · exact tail_ok T4 (by omega) hu s4 hul hz4 k
end
end Kd

namespace Kd
open PySem PySem.Spec PyProof.Rows L2
section
variable {P : Program} {w : World} {K : PySem.W.Frag} {mg : Str → Option Value} {base : Heap} {f : Addr} {fd : FuncData}
/-- a change at an object that was not there ahead -/
theorem ctupd {a g l : Addr} {H0 H : Hp} {o : HO} (s : Same (ct a g H0) (ct a g H)) (hl : H0 l = none) (ha : l ≠ a) (hg : l ≠ g) : Same (ct a g H0) (ct a g (upd H l o)) := by
  rw [ct_upd ha hg]
  exact Same.upd s (ct_none hl)
theorem Tray.updo {a g l : Addr} {H : Hp} {o : HO} {n : Nat} (t : Tray H a g n) (ha : l ≠ a) (hg : l ≠ g) : Tray (upd H l o) a g n := by
  obtain ⟨c, f, k, gs, h1, h2, h3⟩ := t.ex
  exact ⟨c, f, k, gs, by rw [upd_ne ha.symm]; exact h1, by rw [upd_ne hg.symm]; exact h2, h3⟩
def spNames (K : PySem.W.Frag) : Sp := fun vs H Q _ => ∃ (a g : Addr) (n : Nat) (many : Nat), vs = [.ref a, .int (many : Int)] ∧ Tray H a g n ∧ n ≤ 800000 ∧ many ≤ 10 ∧
  ∀ (l : Addr) (xs : List Str) (H' : Hp), H l = none → H' l = some (.lst (xs.map V.str)) → xs.length = many → (∀ z ∈ xs, IsNm z) → xs.Nodup → Tray H' a g (n + 13 * many) → Same (ct a g H) (ct a g H') → Q (.ref l) H'
theorem sc_names : FnScope ["tray", "many", "found", "k"] ["tray", "many"] (defScope s_l_names) := ⟨rfl, rfl, rfl, by decide +kernel, rfl, by decide +kernel, by decide +kernel⟩
theorem ok_names {fN : Addr} {fdN : FuncData} (F : FnP K "_law_names" "_law_names" s_l_names f fd) (GN : FnOk P w K mg base CX0 2 fN fdN ["tray", "used"] (spName K)) (kN : PySem.W.keepIn K (.ref fN) = true) (bN : Binds K fdN ["tray", "used"] []) (gN : mg "_law_name" = some (.ref fN)) (gr : mg "range" = none) :
    FnOk P w K mg base CX0 3 f fd ["tray", "many"] (spNames K) := by
  refine F.ok sc_names (fun vs H Q E h => ?_) (fun cdv A outer s H vs Q E hr h => ?_)
  · obtain ⟨a, g, n, many, rfl, _⟩ := h
    rfl
  · obtain ⟨a, g, n, many, rfl, hT, hn, hm, k⟩ := h
    have nd := sc_names.nd
    refine ⟨_, PSs.nox (pss_cons (ps_set (i := 2) nd rfl (Or.inl rfl) (pe_lst pa_nil))
      (pss_cons (ps_for PassesOwn.never rfl (pi_range1 rfl gr (pa_cons (pv 1) pa_nil)) (pg_name (i := 3) nd rfl (Or.inl rfl))
        (pss_one (ps_expr (pe_bm PySem.F.plainAttrs_list PySem.F.slot_list_append PySem.F.type_list_append mt_append (pv 2) (pa_cons (pe_call GN hr rfl gN kN bN .nil pass0 (pa_cons (pv 0) (pa_cons (pv 2) pa_nil))) pa_nil)))))
      (pss_one (ps_ret (pv 2))))), ?_⟩
    refine ⟨by show 0 ≤ sizeLine; decide, fun l hl => ?_⟩
    obtain ⟨nla, nlg⟩ := hT.na hl
    refine ⟨_, rfl, _, rfl, by omega, by omega, ?_⟩
    rw [Int.toNat_natCast]
    refine for_range (lo := 0) (n := many) (fun i σ H2 => ∃ (xs : List Str) (u : Option V), σ = [some (.ref a), some (.int many), some (.ref l), u] ∧ H2 l = some (.lst (xs.map V.str)) ∧ xs.length = i ∧ (∀ z ∈ xs, IsNm z) ∧ xs.Nodup ∧ Tray H2 a g (n + 13 * i) ∧ Same (ct a g H) (ct a g H2))
      ⟨[], _, rfl, upd_same, rfl, fun _ h => (nomatch h), List.nodup_nil, hT.new hl, ctnew hl⟩ ?_ ?_
    · rintro i σ H2 hi ⟨xs, u, rfl, h2, lx, hx, hd, T2, s2⟩
      refine ⟨_, rfl, .inl ⟨rfl, _, SqL.of h2⟩, _, rfl, _, rfl, a, g, l, n + 13 * i, xs, rfl, T2, by omega, SqL.of (ct_of h2 nla nlg), by omega, hx, fun z H3 hz hz2 T3 s3 => ?_⟩
      have h3 := ctkeep s3 h2 nla nlg
      refine ⟨l, _, _, rfl, rfl, h3, small1000 (by rw [List.length_map]; omega), ?_⟩
      refine ⟨xs ++ [z], _, rfl, by rw [upd_same, List.map_append]; rfl, by rw [List.length_append]; show xs.length + 1 = i + 1; omega, fun y hy => ?_, ?_, (T3.updo nla nlg).mono (by omega), ctupd (s2.trans s3) hl nla nlg⟩
      · rcases List.mem_append.mp hy with hy | hy
        · exact hx y hy
        · rw [List.mem_singleton.mp hy]
          exact hz
      · refine List.nodup_append.mpr ⟨hd, List.nodup_cons.mpr ⟨List.not_mem_nil, List.nodup_nil⟩, fun y hy q hq e => hz2 ?_⟩
        rw [List.mem_singleton.mp hq] at e
        rw [← e]
        exact hy
    · rintro σ H2 ⟨xs, u, rfl, h2, lx, hx, hd, T2, s2⟩
      exact ⟨_, rfl, k l xs H2 hl h2 lx hx hd T2 s2⟩
/-! ### what is drawn is a plan -/
structure Good (ds : List (Str × List (Str × Str))) (ms : List Str) : Prop where
  d1 : 1 ≤ ds.length
  d4 : ds.length ≤ 4
  dn : ∀ d ∈ ds, IsNm d.1
  du : (ds.map (·.1)).Nodup
  al : ∀ d ∈ ds, d.2.length ≤ 5
  an : ∀ d ∈ ds, ∀ a ∈ d.2, IsNm a.1 ∧ IsWay a.2
  au : ∀ d ∈ ds, (d.2.map (·.1)).Nodup
  m4 : ms.length ≤ 4
  mn : ∀ m ∈ ms, IsNm m
  mu : ms.Nodup
theorem flt_false {xs : List Str} {m : Int} (h1 : (xs.length : Int) ≤ m) (h2 : ∀ z ∈ xs, IsNm z) (h3 : xs.Nodup) : fltB xs m = false := by
  unfold fltB
  rw [KdS.dcn_nodup h3 xs.length (Nat.le_refl _), decide_eq_false (by omega), decide_eq_false (by omega), List.all_eq_true.mpr (fun z hz => nm_iff.mpr (h2 z hz))]
  rfl
theorem Good.ff {ds : List (Str × List (Str × Str))} {ms : List Str} (h : Good ds ms) : ffV ds ms = .non := by
  have e1 : ds.isEmpty = false := by
    cases ds with
    | nil => exact absurd h.d1 (by decide)
    | cons _ _ => rfl
  have e2 : fltB (ds.map (·.1)) 4 = false := flt_false (by rw [List.length_map]; have := h.d4; omega) (fun z hz => by
    obtain ⟨d, hd, rfl⟩ := List.mem_map.mp hz
    exact h.dn d hd) h.du
  have e3 : ds.any (fun d => fltB (d.2.map (·.1)) 5) = false := by
    rw [List.any_eq_false]
    intro d hd
    rw [flt_false (by rw [List.length_map]; have := h.al d hd; omega) (fun z hz => by
      obtain ⟨a, ha, rfl⟩ := List.mem_map.mp hz
      exact (h.an d hd a ha).1) (h.au d hd)]
    decide
  have e4 : fltB ms 4 = false := flt_false (by have := h.m4; omega) h.mn h.mu
  unfold ffV
  rw [e1, e2, e3, e4]
  rfl
theorem Good.szd {ds : List (Str × List (Str × Str))} {ms : List Str} (h : Good ds ms) : Szd ds ms where
  dl := by have := h.d4; omega
  dn := fun d hd => ⟨by have := (h.dn d hd).le8; omega, by have := h.al d hd; omega, fun a ha => by have := (h.an d hd a ha).1.le8; omega⟩
  ml := by have := h.m4; omega
  mn := fun m hm => by have := (h.mn m hm).le8; omega
end
end Kd

namespace Kd
open PySem PySem.Spec PyProof.Rows L2
section
variable {P : Program} {w : World} {K : PySem.W.Frag} {mg : Str → Option Value} {base : Heap} {f : Addr} {fd : FuncData}
/-- a tracked list of dimensions -/
def DimsTr (K : PySem.W.Frag) (H : Hp) (l : Addr) (ds : List (Str × List (Str × Str))) : Prop := ∃ xs, H l = some (.lst xs) ∧ Paired (DimAt K H) xs ds
/-- what lists hands back: l a list of ds, m one of ms, no part of the tray -/
structure Lsts (K : PySem.W.Frag) (H : Hp) (a g l m : Addr) (ds : List (Str × List (Str × Str))) (ms : List Str) : Prop where
  dl : DimsTr K (ct a g H) l ds
  ml : ct a g H m = some (.lst (ms.map V.str))
  ok : Good ds ms
/-! tuples do not lean on lists -/
theorem seqT_list {H : Hp} {l r : Addr} {L xs : List V} (hl : H l = some (.lst L)) (h : SqT K H r xs) : SqT K (cd l H) r xs := by
  rcases h with (q | ⟨o, q⟩) | q
  · exact .inl (.inl (cd_of q (ne_of q hl (fun z => nomatch z))))
  · exact .inl (.inr ⟨o, cd_of q (ne_of q hl (fun z => nomatch z))⟩)
  · exact .inr q
theorem seqT_ct {H : Hp} {a g r : Addr} {n : Nat} {xs : List V} (t : Tray H a g n) (h : SqT K H r xs) : SqT K (ct a g H) r xs := by
  obtain ⟨c, f, k, gs, h1, h2, _⟩ := t.ex
  rcases h with (q | ⟨o, q⟩) | q
  · exact .inl (.inl (ct_of q (ne_of q h1 (fun z => nomatch z)) (ne_of q h2 (fun z => nomatch z))))
  · exact .inl (.inr ⟨o, ct_of q (ne_of q h1 (fun z => nomatch z)) (ne_of q h2 (fun z => nomatch z))⟩)
  · exact .inr q
theorem att_list {H : Hp} {l : Addr} {L : List V} {y : V} {d : Str × Str} (hl : H l = some (.lst L)) : AttAt K H y d → AttAt K (cd l H) y d := fun ⟨r, e1, e2⟩ => ⟨r, e1, seqT_list hl e2⟩
theorem dim_list {H : Hp} {l : Addr} {L : List V} {y : V} {d : Str × List (Str × Str)} (hl : H l = some (.lst L)) : DimAt K H y d → DimAt K (cd l H) y d :=
  fun ⟨p, q, h1, h2, zs, h3, h4⟩ => ⟨p, q, h1, seqT_list hl h2, zs, seqT_list hl h3, PySem.Paired.mono (fun _ _ => att_list hl) h4⟩
theorem att_ct {H : Hp} {a g : Addr} {n : Nat} {y : V} {d : Str × Str} (t : Tray H a g n) : AttAt K H y d → AttAt K (ct a g H) y d := fun ⟨r, e1, e2⟩ => ⟨r, e1, seqT_ct t e2⟩
theorem dim_ct {H : Hp} {a g : Addr} {n : Nat} {y : V} {d : Str × List (Str × Str)} (t : Tray H a g n) : DimAt K H y d → DimAt K (ct a g H) y d :=
  fun ⟨p, q, h1, h2, zs, h3, h4⟩ => ⟨p, q, h1, seqT_ct t h2, zs, seqT_ct t h3, PySem.Paired.mono (fun _ _ => att_ct t) h4⟩
/-- over a draw -/
theorem dim_draw {H H' : Hp} {a g : Addr} {n : Nat} {y : V} {d : Str × List (Str × Str)} (t : Tray H a g n) (s : Same (ct a g H) (ct a g H')) (h : DimAt K H y d) : DimAt K H' y d := (dim_ct t h).same (s.trans ct_sub)
/-- over a store to a list -/
theorem dim_store {H : Hp} {l : Addr} {L : List V} {o : HO} {y : V} {d : Str × List (Str × Str)} (hl : H l = some (.lst L)) (h : DimAt K H y d) : DimAt K (upd H l o) y d :=
  (dim_list hl h).same fun b u e => by rw [upd_ne (ct_ne e).1]; exact cd_sub _ _ e
theorem ctcd2 {a g l : Addr} {H H' : Hp} (s : Same (ct a g H) (ct a g H')) : Same (ct a g (cd l H)) (ct a g (cd l H')) := fun b o e => by
  obtain ⟨na, ng⟩ := ct_ne e
  have e2 := ct_sub _ _ e
  exact ct_of (cd_of (ct_sub _ _ (s b o (ct_of (cd_sub _ _ e2) na ng))) (ct_ne e2).1) na ng
def AttOk (wide : Nat) (ds : List (Str × List (Str × Str))) : Prop := ∀ d ∈ ds, d.2.length ≤ 3 + 2 * wide ∧ (∀ a ∈ d.2, IsNm a.1 ∧ IsWay a.2) ∧ (d.2.map (·.1)).Nodup
theorem ways_at {j : Nat} (h : j < 5) : ∃ z, (([V.str "first", V.str "last", V.str "day", V.str "day", V.str "before"] : List V)[j]? = some (.str z)) ∧ IsWay z := by
  have h1 : ∀ z ∈ (["first", "last", "day", "day", "before"] : List Str), z ∈ (["first", "last", "day", "before"] : List Str) := by decide +kernel
  have h2 : (["first", "last", "day", "day", "before"] : List Str)[j]? = some ((["first", "last", "day", "day", "before"] : List Str)[j]'h) := List.getElem?_eq_getElem h
  refine ⟨_, ?_, h1 _ (List.getElem_mem h)⟩
  have h3 := congrArg (Option.map V.str) h2
  rw [← List.getElem?_map] at h3
  exact h3
theorem two_at {wide : Nat} (hw : wide ≤ 1) (x y : Nat) : ∃ v : Nat, atI [V.int (x : Int), V.int (y : Int)] (wide : Int) = some (.int (v : Int)) ∧ (v = x ∧ wide = 0 ∨ v = y ∧ wide = 1) := by
  have : wide = 0 ∨ wide = 1 := by omega
  rcases this with rfl | rfl
  · exact ⟨x, atI_nat (j := 0) rfl, .inl ⟨rfl, rfl⟩⟩
  · exact ⟨y, atI_nat (j := 1) rfl, .inr ⟨rfl, rfl⟩⟩
/-- how much was asked for -/
def Tight (ds : List (Str × List (Str × Str))) (ms : List Str) (most wide : Nat) : Prop := ds.length ≤ most ∧ (∀ d ∈ ds, d.2.length ≤ 3 + 2 * wide) ∧ ms.length ≤ 3 + wide
def spLists (K : PySem.W.Frag) : Sp := fun vs H Q _ => ∃ (a g : Addr) (n most : Nat) (wide : Nat), vs = [.ref a, .int (most : Int), .int (wide : Int)] ∧ Tray H a g n ∧ n ≤ 700000 ∧ 1 ≤ most ∧ most ≤ 4 ∧ wide ≤ 1 ∧
  ∀ (r l m : Addr) (ds : List (Str × List (Str × Str))) (ms : List Str) (H' : Hp), ct a g H' r = some (.lst [.ref l, .ref m]) → Lsts K H' a g l m ds ms → Tight ds ms most wide → Tray H' a g (n + 420) → Same (ct a g H) (ct a g H') → Q (.ref r) H'
abbrev liN : List Str := ["tray", "most", "wide", "found", "name", "some", "one", "ways", "k"]
theorem sc_lists : FnScope liN ["tray", "most", "wide"] (defScope s_l_lists) := ⟨rfl, rfl, rfl, by decide +kernel, rfl, by decide +kernel, by decide +kernel⟩
theorem ok_lists {fD fN : Addr} {fdD fdN : FuncData} (F : FnP K "_law_lists" "_law_lists" s_l_lists f fd) (GD : FnOk P w K mg base CX0 1 fD fdD ["tray", "many"] spDraw) (kD : PySem.W.keepIn K (.ref fD) = true) (bD : Binds K fdD ["tray", "many"] []) (gD : mg "_law_draw" = some (.ref fD))
    (GN : FnOk P w K mg base CX0 3 fN fdN ["tray", "many"] (spNames K)) (kN : PySem.W.keepIn K (.ref fN) = true) (bN : Binds K fdN ["tray", "many"] []) (gN : mg "_law_names" = some (.ref fN)) (gr : mg "range" = none) (ge : mg "len" = none) (gt : mg "tuple" = none) :
    FnOk P w K mg base CX0 4 f fd ["tray", "most", "wide"] (spLists K) := by
  refine F.ok sc_lists (fun vs H Q E h => ?_) (fun cdv A outer s H vs Q E hr h => ?_)
  · obtain ⟨a, g, n, most, wide, rfl, _⟩ := h
    rfl
  · obtain ⟨a, g, n, most, wide, rfl, hT, hn, m1, m4, hw, k⟩ := h
    have nd := sc_lists.nd
    have hr1 : Room 1 _ := hr.mono (by decide)
    refine ⟨_, PSs.nox (pss_cons (ps_set (i := 3) nd rfl (Or.inl rfl) (pe_lst pa_nil))
      (pss_cons (ps_for PassesOwn.never rfl (pi_list (pe_call GN hr rfl gN kN bN .nil pass0 (pa_cons (pv 0) (pa_cons (pe_op op_add pe_int (pe_call GD hr1 rfl gD kD bD .nil pass0 (pa_cons (pv 0) (pa_cons (pv 1) pa_nil)))) pa_nil)))) (pg_name (i := 4) nd rfl (Or.inl rfl))
        (pss_cons (ps_set (i := 5) nd rfl (Or.inr rfl) (pe_call GN hr rfl gN kN bN .nil pass0 (pa_cons (pv 0) (pa_cons (pe_call GD hr1 rfl gD kD bD .nil pass0 (pa_cons (pv 0) (pa_cons (pe_ix ix_list (pe_lst (pa_cons pe_int (pa_cons pe_int pa_nil))) (pv 2) (fun _ _ => rfl)) pa_nil))) pa_nil))))
        (pss_cons (ps_set (i := 7) nd rfl (Or.inr rfl) (pe_lc (own := [("one", 6)]) (g := gName 6) (tt := tYes) (te := tOp (rIxL K) (tLst (tCons (tC (.str "first")) (tCons (tC (.str "last")) (tCons (tC (.str "day")) (tCons (tC (.str "day")) (tCons (tC (.str "before")) tNil)))))) (tDraw 5)) rfl nd (pi_list (pv 5)) (blkOk_by (own := [("one", 6)]) (N := liN) (sc := defScope s_l_lists) (by decide +kernel))
          (fun _ _ _ _ _ => pg_name (i := 6) nd rfl (Or.inl rfl)) (fun _ _ _ _ _ => pts_nil) (fun _ _ _ _ _ => pe_ix ix_list (pe_lst (pa_cons pe_str (pa_cons pe_str (pa_cons pe_str (pa_cons pe_str (pa_cons pe_str pa_nil)))))) (pe_call GD hr1 rfl gD kD bD .nil pass0 (pa_cons (pv 0) (pa_cons pe_int pa_nil))) (fun _ _ => rfl))))
        (pss_one (ps_expr (pe_bm PySem.F.plainAttrs_list PySem.F.slot_list_append PySem.F.type_list_append mt_append (pv 3) (pa_cons (pe_tup (pa_cons (pv 4) (pa_cons (pe_callTy call_tuple_of (by rfl) gt (by decide +kernel) (pa_cons
            (pe_lc (own := [("k", 8)]) (g := gName 8) (tt := tYes) (te := tTup (tCons (tOp (rIxL K) (tVar 5) (tVar 8)) (tCons (tOp (rIxL K) (tVar 7) (tVar 8)) tNil))) rfl nd (pi_range1 rfl gr (pa_cons (pe_callB call_len_seq (by rfl) ge boot_len (pa_cons (pv 5) pa_nil)) pa_nil)) (blkOk_by (own := [("k", 8)]) (N := liN) (sc := defScope s_l_lists) (by decide +kernel))
              (fun _ _ _ _ _ => pg_name (i := 8) nd rfl (Or.inl rfl)) (fun _ _ _ _ _ => pts_nil) (fun _ _ _ _ _ => pe_tup (pa_cons (pe_ix ix_list (pv 5) (pv 8) (fun _ _ => rfl)) (pa_cons (pe_ix ix_list (pv 7) (pv 8) (fun _ _ => rfl)) pa_nil)))) pa_nil)) pa_nil))) pa_nil)))))))
      (pss_one (ps_ret (pe_lst (pa_cons (pv 3) (pa_cons (pe_call GN hr rfl gN kN bN .nil pass0 (pa_cons (pv 0) (pa_cons (pe_call GD hr1 rfl gD kD bD .nil pass0 (pa_cons (pv 0) (pa_cons (pe_ix ix_list (pe_lst (pa_cons pe_int (pa_cons pe_int pa_nil))) (pv 2) (fun _ _ => rfl)) pa_nil))) pa_nil))) pa_nil))))))), ?_⟩
    obtain ⟨w1, hw1, hw1b⟩ := two_at hw 4 6
    obtain ⟨w2, hw2, hw2b⟩ := two_at hw 4 5
    refine ⟨by show 0 ≤ sizeLine; decide, fun lf hf => ?_⟩
    obtain ⟨nfa, nfg⟩ := hT.na hf
    have T1 : Tray (upd H lf (.lst [])) a g n := hT.new hf
    refine ⟨_, rfl, _, rfl, _, rfl, a, g, n, most, rfl, T1, by omega, by omega, by omega, fun r H2 r0 r1 T2 s2 => ?_⟩
    obtain ⟨jr, rfl⟩ : ∃ j : Nat, r = (j : Int) := ⟨r.toNat, by omega⟩
    have f2 : H2 lf = some (.lst []) := ctkeep s2 upd_same nfa nfg
    refine ⟨_, _, rfl, rfl, a, g, n + 1, 1 + jr, by show [V.ref a, V.int (1 + (jr : Int))] = [V.ref a, V.int ((1 + jr : Nat) : Int)]; rw [Int.natCast_add]; rfl, T2, by omega, by omega, fun nl ns H3 hnl h3 l3 hz3 hd3 T3 s3 => ?_⟩
    obtain ⟨nna, nng⟩ := T2.na hnl
    have nnf : nl ≠ lf := (ne_of_none f2 hnl).symm
    have f3 : H3 lf = some (.lst []) := ctkeep s3 f2 nfa nfg
    have hB : ct a g (cd lf H3) nl = some (.lst (ns.map V.str)) := ct_of (cd_of h3 nnf) nna nng
    have s0B : Same (ct a g H) (ct a g (cd lf H3)) := fun b o e => by
      obtain ⟨na, ng⟩ := ct_ne e
      have nl : b ≠ lf := ne_of_none (ct_sub _ _ e) hf
      have e3 := s3 b o (s2 b o (ctnew hf b o e))
      exact ct_of (cd_of (ct_sub _ _ e3) nl) na ng
    refine ⟨nl, rfl, ⟨_, SqL.of h3⟩, for_list (K := K) (a := nl) (xs := ns.map V.str) (fun i σ H4 => ∃ (ds : List (Str × List (Str × Str))) (xs : List V) (x4 x5 x6 x7 x8 : Option V), σ = [some (.ref a), some (.int most), some (.int wide), some (.ref lf), x4, x5, x6, x7, x8] ∧ H4 lf = some (.lst xs) ∧ Paired (DimAt K H4) xs ds ∧ ds.map (·.1) = ns.take i ∧ AttOk wide ds ∧ Tray H4 a g (n + 60 + 75 * i) ∧ Same (ct a g (cd lf H3)) (ct a g (cd lf H4)) ∧ xs.length = i)
      ⟨[], [], _, _, _, _, _, rfl, f3, .nil, rfl, fun _ h => (nomatch h), T3.mono (by omega), Same.refl _, rfl⟩ (fun i σ H4 _ ⟨_, _, _, _, _, _, _, _, _, _, _, _, _, s4, _⟩ => SqL.of (cd_sub _ _ (ct_sub _ _ (s4 _ _ hB)))) ?_ ?_⟩
    · rintro i x σ H4 hi ⟨ds, xs, x4, x5, x6, x7, x8, rfl, f4, p4, e4, a4, T4, s4, l4⟩
      have hil : i < (ns.map V.str).length := (List.getElem?_eq_some_iff.mp hi).1
      rw [List.length_map] at hil
      obtain ⟨z, rfl, hz⟩ := strs_at hi
      have hzn := hz3 z (List.mem_of_getElem? hz)
      refine ⟨_, rfl, _, rfl, by show 2 ≤ sizeLine; decide, fun p5 n5 => ?_⟩
      refine ⟨_, rfl, p5, _, _, _, rfl, rfl, SqL.of upd_same, hw1, a, g, n + 60 + 75 * i, w1, rfl, T4.new n5, by omega, by omega, by omega, fun c H5 c0 c1 T5 s5 => ?_⟩
      obtain ⟨jc, rfl⟩ : ∃ j : Nat, c = (j : Int) := ⟨c.toNat, by omega⟩
      refine ⟨a, g, n + 60 + 75 * i + 1, jc, rfl, T5, by omega, by omega, fun sl ss H6 hsl h6 l6 hz6 hd6 T6 s6 => ?_⟩
      obtain ⟨nsa, nsg⟩ := T5.na hsl
      have s46 : Same (ct a g H4) (ct a g H6) := ((ctnew n5).trans s5).trans s6
      have f6 : H6 lf = some (.lst xs) := ctkeep s46 f4 nfa nfg
      refine ⟨_, rfl, sl, rfl, ⟨_, SqL.of h6⟩, fun D hD => lc_build (walk_list (K := K) (a := sl) (xs := ss.map V.str)) hD (fun j ys R => ∃ ws : List Str, ys = ws.map V.str ∧ ws.length = j ∧ (∀ z ∈ ws, IsWay z) ∧ Tray R a g (n + 60 + 75 * i + 1 + 13 * jc + j) ∧ Same (ct a g H6) (ct a g R))
        ⟨[], rfl, rfl, fun _ h => (nomatch h), T6, Same.refl _⟩ (fun j ys H7 _ ⟨_, _, _, _, _, s7⟩ => SqL.of (cd_sub _ _ (ct_sub _ _ (s7 _ _ (ct_of h6 nsa nsg))))) ?_ ?_⟩
      · rintro j ys y H7 H7' hj e7 l7 ⟨ws, rfl, lw, hw7, T7, s7⟩ ⟨rfl, hy⟩
        obtain ⟨nDa, nDg⟩ := T6.na hD
        rw [List.length_map] at hj
        refine ⟨rfl, yes ?_⟩
        refine ⟨by show 5 ≤ sizeLine; decide, fun p8 n8 => ?_⟩
        obtain ⟨npa, npg⟩ := (T7.same cd_sub).na n8
        refine ⟨_, rfl, a, g, n + 60 + 75 * i + 1 + 13 * jc + j, 5, rfl, (T7.same cd_sub).new n8, by omega, by decide, by decide, fun q H8 q0 q1 T8 s8 => ?_⟩
        obtain ⟨jq, rfl⟩ : ∃ j : Nat, q = (j : Int) := ⟨q.toNat, by omega⟩
        obtain ⟨wz, v1, v2⟩ := ways_at (j := jq) (by omega)
        have s78 := (ctnew (a := a) (g := g) n8).trans s8
        refine ⟨p8, _, _, _, rfl, rfl, SqL.of (ctkeep s8 upd_same npa npg), atI_nat v1, LcNx.add (ctkeep s78 e7 nDa nDg) l7 (by omega) ⟨ws ++ [wz], by rw [List.map_append]; rfl, by rw [List.length_append]; show ws.length + 1 = j + 1; omega, fun y hy => ?_, (T8.cd nDa nDg).mono (by omega), ctcd hD s7 s78⟩⟩
        rcases List.mem_append.mp hy with hy | hy
        · exact hw7 y hy
        · rw [List.mem_singleton.mp hy]
          exact v2
      · rintro ys H7 e7 l7 ⟨ws, rfl, lw, hw7, T7, s7⟩
        obtain ⟨nDa, nDg⟩ := T6.na hD
        rw [List.length_map] at lw
        have s67 : Same (ct a g H6) (ct a g H7) := s7.trans (ct_same cd_sub)
        have h7 : H7 sl = some (.lst (ss.map V.str)) := ctkeep s67 h6 nsa nsg
        have f7 : H7 lf = some (.lst xs) := ctkeep s67 f6 nfa nfg
        have T7' : Tray H7 a g (n + 60 + 75 * (i + 1)) := (T7.same cd_sub).mono (by rw [List.length_map]; omega)
        refine ⟨_, rfl, .inl ⟨rfl, _, SqL.of f7⟩, _, rfl, _, rfl, sl, _, rfl, .inl (SqL.of h7), _, rfl, by rw [List.length_map]; omega, by rw [List.length_map]; omega, fun D2 hD2 => ?_⟩
        rw [List.length_map, Int.toNat_natCast]
        refine lc_build (walk_range (lo := 0)) hD2 (fun j ys R => Same H7 R ∧ Paired (AttAt K R) ys ((ss.zip ws).take j)) ⟨Same.refl _, .nil⟩ (fun _ _ _ _ _ => trivial) ?_ ?_
        · rintro j ys y H8 H8' hj e8 l8 ⟨s8, p8⟩ ⟨rfl, rfl⟩
          have e0 : (0 : Int) + (j : Int) = (j : Int) := Int.zero_add _
          have hjw : j < ws.length := by omega
          have g1 : (ss.map V.str)[j]? = some (.str ss[j]) := by rw [List.getElem?_map, List.getElem?_eq_getElem hj]; rfl
          have g2 : (ws.map V.str)[j]? = some (.str ws[j]) := by rw [List.getElem?_map, List.getElem?_eq_getElem hjw]; rfl
          have s8' := s8.trans cd_sub
          refine ⟨rfl, yes ?_⟩
          refine ⟨_, rfl, _, rfl, sl, _, _, _, rfl, rfl, SqL.of (s8' _ _ h7), (by rw [e0]; exact atI_nat g1), _, rfl, _, rfl, D, _, _, _, rfl, rfl, SqL.of (s8' _ _ e7), (by rw [e0]; exact atI_nat g2), by show 2 ≤ sizeLine; decide, fun t nt => ?_⟩
          have nDt : D2 ≠ t := ne_of_none e8 nt
          have s9 : Same (cd D2 H8') (cd D2 (upd H8' t (.tup [.str ss[j], .str ws[j]]))) := cd_same (same_new nt)
          refine LcNx.add (by rw [upd_ne nDt]; exact e8) l8 (by omega) ⟨s8.trans s9, ?_⟩
          have hjz : j < (ss.zip ws).length := by rw [List.length_zip]; omega
          rw [List.take_succ_eq_append_getElem hjz, List.getElem_zip]
          exact PySem.Paired.snoc (PySem.Paired.mono (fun _ _ => AttAt.same s9) p8) ⟨t, rfl, SqT.of (cd_of upd_same nDt.symm)⟩
        · rintro ys H8 e8 l8 ⟨s8, p8⟩
          rw [List.take_of_length_le (by rw [List.length_zip]; omega)] at p8
          have s8' := s8.trans cd_sub
          refine ⟨D2, ys, rfl, .inl ⟨SqL.of e8, fun q hq => ?_⟩⟩
          refine ⟨by show 2 ≤ sizeLine; decide, fun t ht => ?_⟩
          have s9 : Same H8 (upd (upd H8 q (.tup ys)) t (.tup [.str z, .ref q])) := (same_new hq).trans (same_new ht)
          have f9 := s9 _ _ (s8' _ _ f7)
          refine ⟨lf, _, _, rfl, rfl, f9, small1000 (by omega), ?_⟩
          have s79 := s8'.trans s9
          have dnew : DimAt K (upd (upd H8 q (.tup ys)) t (.tup [.str z, .ref q])) (.ref t) (z, ss.zip ws) := ⟨t, q, rfl, SqT.of upd_same, ys, SqT.of (same_new ht _ _ upd_same), PySem.Paired.mono (fun _ _ h => (AttAt.same cd_sub h).same s9) p8⟩
          refine ⟨ds ++ [(z, ss.zip ws)], xs ++ [.ref t], _, _, _, _, _, rfl, upd_same, ?_, ?_, ?_, (T7'.same s79).updo nfa nfg, ?_, by rw [List.length_append]; show xs.length + 1 = i + 1; omega⟩
          · refine PySem.Paired.snoc (PySem.Paired.mono (fun y d h => dim_store f9 ((dim_draw T4 (s46.trans s67) h).same s79)) p4) (dim_store f9 dnew)
          · obtain ⟨g1, g2⟩ := List.getElem?_eq_some_iff.mp hz
            rw [List.map_append, e4, List.take_succ_eq_append_getElem g1, g2]
            rfl
          · intro d hd
            rcases List.mem_append.mp hd with hd | hd
            · exact a4 d hd
            · rw [List.mem_singleton.mp hd]
              refine ⟨by show (ss.zip ws).length ≤ 3 + 2 * wide; rw [List.length_zip]; omega, fun y hy => ?_, ?_⟩
              · exact ⟨hz6 y.1 (List.of_mem_zip hy).1, hw7 y.2 (List.of_mem_zip hy).2⟩
              · show ((ss.zip ws).map (·.1)).Nodup
                rw [show (ss.zip ws).map (·.1) = ss from List.map_fst_zip (by omega)]
                exact hd6
          · have e1 : ∀ o, ct a g (cd lf (upd (upd (upd H8 q (.tup ys)) t (.tup [.str z, .ref q])) lf o)) = ct a g (cd lf (upd (upd H8 q (.tup ys)) t (.tup [.str z, .ref q]))) := fun o => by rw [cd_upd]
            rw [e1]
            exact (s4.trans (ctcd2 (s46.trans s67))).trans (ct_same (cd_same s79))
    · rintro σ H4 ⟨ds, xs, x4, x5, x6, x7, x8, rfl, f4, p4, e4, a4, T4, s4, l4⟩
      rw [List.length_map] at e4 T4 l4
      rw [List.take_length] at e4
      refine ⟨_, rfl, _, rfl, _, rfl, by show 2 ≤ sizeLine; decide, fun p5 n5 => ?_⟩
      refine ⟨_, rfl, p5, _, _, _, rfl, rfl, SqL.of upd_same, hw2, a, g, n + 60 + 75 * ns.length, w2, rfl, T4.new n5, by omega, by omega, by omega, fun c H5 c0 c1 T5 s5 => ?_⟩
      obtain ⟨jc, rfl⟩ : ∃ j : Nat, c = (j : Int) := ⟨c.toNat, by omega⟩
      refine ⟨a, g, n + 60 + 75 * ns.length + 1, jc, rfl, T5, by omega, by omega, fun ml ms H6 hml h6 l6 hz6 hd6 T6 s6 => ?_⟩
      obtain ⟨nma, nmg⟩ := T5.na hml
      refine ⟨by show 2 ≤ sizeLine; decide, fun r nr => ?_⟩
      obtain ⟨nra, nrg⟩ := T6.na nr
      have s46 : Same (ct a g H4) (ct a g H6) := ((ctnew n5).trans s5).trans s6
      have f6 : H6 lf = some (.lst xs) := ctkeep s46 f4 nfa nfg
      have T7 := T6.new (o := .lst [.ref lf, .ref ml]) nr
      have hlen : ds.length = ns.length := by
        have := p4.length
        omega
      refine k r lf ml ds ms _ (ct_of upd_same nra nrg) ⟨⟨xs, (ct_of (same_new nr _ _ f6) nfa nfg), PySem.Paired.mono (fun y d h => dim_ct T7 ((dim_draw T4 s46 h).same (same_new nr))) p4⟩, ct_of (same_new nr _ _ h6) nma nmg, ?_⟩ ⟨by omega, fun d hd => (a4 d hd).1, by omega⟩ (T7.mono (by omega)) ?_
      · exact ⟨by omega, by omega, fun d hd => hz3 d.1 (by rw [← e4]; exact List.mem_map_of_mem hd), by rw [e4]; exact hd3, fun d hd => by have := (a4 d hd).1; omega, fun d hd => (a4 d hd).2.1, fun d hd => (a4 d hd).2.2, by omega, hz6, hd6⟩
      · have e1 : Same (ct a g H) (ct a g H4) := (s0B.trans s4).trans (ct_same cd_sub)
        exact (e1.trans s46).trans (ctnew nr)
end
end Kd

namespace Kd
open PySem PySem.Spec PyProof.Rows L2
/-! ### the lists as data -/
def attD (a : Str × Str) : PyData := .tuple [.str a.1, .str a.2]
def dimD (d : Str × List (Str × Str)) : PyData := .tuple [.str d.1, .tuple (d.2.map attD)]
def dimsD (ds : List (Str × List (Str × Str))) : PyData := .list (ds.map dimD)
section
variable {K : PySem.W.Frag} {H : Hp}
theorem atts_dp : ∀ {ys : List V} {as : List (Str × Str)}, Paired (AttAt K H) ys as → DpAll K H ys (as.map attD)
  | _, _, .nil => .nil
  | _, _, .cons ⟨r, e1, e2⟩ t => by
    subst e1
    exact .cons (.tup e2 (.cons (.str _) (.cons (.str _) .nil))) (atts_dp t)
theorem dims_dp : ∀ {xs : List V} {ds : List (Str × List (Str × Str))}, Paired (DimAt K H) xs ds → DpAll K H xs (ds.map dimD)
  | _, _, .nil => .nil
  | _, _, .cons ⟨p, q, e1, e2, zs, e3, e4⟩ t => by
    subst e1
    exact .cons (.tup e2 (.cons (.str _) (.cons (.tup e3 (atts_dp e4)) .nil))) (dims_dp t)
theorem DimsAt.dp {l : Addr} {ds : List (Str × List (Str × Str))} (h : DimsAt K H l ds) : Dp K H (.ref l) (dimsD ds) := by
  obtain ⟨xs, h1, h2⟩ := h
  exact .lst h1 (dims_dp h2)
theorem strs_dp {l : Addr} {xs : List Str} (h : SqL K H l (xs.map V.str)) : Dp K H (.ref l) (.list (xs.map PyData.str)) := .lst h (DpAll.strs xs)
end
theorem lay_atts : ∀ as : List (Str × Str), (∀ a ∈ as, Low a.1 ∧ Low a.2) → PyData.canLayAll0 (as.map attD) = true ∧ PyData.depthAll (as.map attD) ≤ 1
  | [], _ => ⟨rfl, by decide⟩
  | a :: as, h => by
    obtain ⟨h1, h2⟩ := lay_atts as fun z hz => h z (List.mem_cons_of_mem _ hz)
    obtain ⟨h3, h4⟩ := h a (List.mem_cons_self ..)
    constructor
    · simp only [List.map_cons, attD, PyData.canLayAll0, PyData.canLay0, h1, h3.ok, h4.ok, Bool.and_self]
    · simp only [List.map_cons, attD, PyData.depthAll, PyData.depth]
      omega
theorem lay_dims : ∀ ds : List (Str × List (Str × Str)), (∀ d ∈ ds, Low d.1 ∧ ∀ a ∈ d.2, Low a.1 ∧ Low a.2) → PyData.canLayAll0 (ds.map dimD) = true ∧ PyData.depthAll (ds.map dimD) ≤ 3
  | [], _ => ⟨rfl, by decide⟩
  | d :: ds, h => by
    obtain ⟨h1, h2⟩ := lay_dims ds fun z hz => h z (List.mem_cons_of_mem _ hz)
    obtain ⟨h3, h4⟩ := h d (List.mem_cons_self ..)
    obtain ⟨h5, h6⟩ := lay_atts d.2 h4
    constructor
    · simp only [List.map_cons, dimD, PyData.canLayAll0, PyData.canLay0, h1, h3.ok, h5, Bool.and_self]
    · simp only [List.map_cons, dimD, PyData.depthAll, PyData.depth]
      omega
theorem shaped_dims {ds : List (Str × List (Str × Str))} {ms : List Str} (h : Good ds ms) : SeqAt.shaped (dimsD ds) = true := by
  obtain ⟨h1, h2⟩ := lay_dims ds fun d hd => ⟨(h.dn d hd).low, fun a ha => ⟨(h.an d hd a ha).1.low, (h.an d hd a ha).2.nm.1⟩⟩
  unfold SeqAt.shaped
  rw [Bool.and_eq_true]
  refine ⟨by unfold dimsD; rw [PyData.canLay0]; exact h1, decide_eq_true ?_⟩
  unfold dimsD
  rw [PyData.depth]
  omega
theorem eqv_self {d : PyData} (h : SeqAt.shaped d = true) : PyData.eqv d d = true := SeqAt.eqv_refl d (SeqAt.canLay_of_shaped h)
end Kd

namespace KdEx
open PySem PySem.Spec PyProof.Rows L2
section
variable {prog : Program} {w : World} {A : Around} {E : Value → Shared → Prop} {s : Shared}
/-- repr of a tuple, whatever is under way: some text -/
theorem repr_tuple {a : Addr} {o : Obj} {items : Array Value} {n : Nat} {ts : List Str} {Q : Value → Shared → Prop} (hu : A.units + 8 < cLine) (ha : s.heap.get? a = some o) (hc : o.cls = .type "tuple") (hd : o.data = .seq items n) (hT : ReprAll prog w items.toList ts) (hsz : (tupleText ts).length ≤ sizeLine)
    (h : ∀ (m : Str) (u tk : Tok), m.length ≤ (tupleText ts).length + 5 → Q (.str m u) { s with toks := tk }) : wpAny (model prog w) A (call (.builtin "repr") [.ref a]) Q E s :=
  call_repr_slot (by omega) ⟨o, ha, hc⟩ F.slot_tuple_repr (fmt_tuple_repr ha hc hd hT hsz fun m u tk hm => ⟨m, u, rfl, h m u tk hm⟩)
end
section
variable {X : Cx}
/-- a value of which repr is known whatever is under way, and its text -/
def flatT : V → Str
  | .str z => reprText z
  | .non => "None"
  | .int i => toString i
  | _ => ""
def Flat1 : V → Prop
  | .str z => (∀ c ∈ z.cps.toList, c < 16 ^ 8) ∧ z.length ≤ 4000
  | .non => True
  | _ => False
theorem flat_len {v : V} (h : Flat1 v) : (flatT v).length ≤ 50000 := by
  cases v with
  | str z =>
    have := StrLaws.reprText_len z h.1
    show (reprText z).length ≤ 50000
    have h2 := h.2
    omega
  | non => show ("None" : Str).length ≤ 50000; decide +kernel
  | _ => exact h.elim
theorem reprs {prog : Program} {w : World} : ∀ {ys : List V} {its : List Value}, Vals ys its → (∀ y ∈ ys, Flat1 y) → ReprAll prog w its (ys.map flatT)
  | [], _, r, _ => by
    cases r
    exact .nil
  | y :: l, _, r, h => by
    cases r with
    | cons r1 r2 =>
      have ih := reprs (prog := prog) (w := w) r2 fun z hz => h z (List.mem_cons_of_mem _ hz)
      have hy := h y (List.mem_cons_self ..)
      have hl := flat_len hy
      cases y with
      | str z =>
        obtain ⟨t, rfl⟩ := r1
        exact .cons (ReprIs.str z t (Nat.le_trans hl (by decide))) ih
      | non =>
        cases r1
        exact .cons ReprIs.none ih
      | _ => exact hy.elim
theorem piled_le : ∀ (ts : List Str), (∀ t ∈ ts, t.length ≤ 50000) → piled ts ≤ 60000 * ts.length
  | [], _ => Nat.zero_le _
  | t :: ts, h => by
    have ih := piled_le ts fun z hz => h z (List.mem_cons_of_mem _ hz)
    have h1 := h t (List.mem_cons_self ..)
    have e : piled (t :: ts) ≤ t.length + 2 + piled ts := by
      unfold piled
      simp
      try omega
    rw [List.length_cons]
    omega
/-- repr of a text, or of a short tuple of texts and None: some text -/
def rRepr (K : PySem.W.Frag) : List V → Hp → VK → Prop := fun xs H Q => ∃ x, xs = [x] ∧ ((∃ z : Str, x = .str z ∧ Flat1 x) ∨ ∃ (a : Addr) (ys : List V), x = .ref a ∧ SqT K H a ys ∧ ys.length ≤ 8 ∧ ∀ y ∈ ys, Flat1 y) ∧ ∀ m : Str, Q (.str m) H
theorem cr_repr (hu : X.A.units + 64 < cLine) : CallR X (.builtin "repr") (rRepr X.K) := by
  intro pins s σ H xs us Q I r h
  obtain ⟨x, rfl, hx, q⟩ := h
  obtain ⟨u, rfl, rx⟩ := vals1 r
  rcases hx with ⟨z, rfl, hz⟩ | ⟨a, ys, rfl, ht, hl, hy⟩
  · obtain ⟨t, rfl⟩ := rx
    refine PySem.P.repr_of_str ⟨.str _, H, I.tok _, ⟨_, rfl⟩, q _⟩ (Nat.le_trans (flat_len (v := .str z) hz) (by decide))
  · cases rx
    obtain ⟨its, rv, ⟨o, ho, hcl, n, hd⟩, _⟩ := I.tuple ht
    have htx := fmt_text (ys.map flatT)
    have hp := piled_le (ys.map flatT) fun t ht => by
      obtain ⟨y, hym, rfl⟩ := List.mem_map.mp ht
      exact flat_len (hy y hym)
    rw [List.length_map] at hp
    have hsl : sizeLine = sizeLine := rfl
    refine repr_tuple (ts := ys.map flatT) (by omega) ho hcl hd (reprs rv hy) (Nat.le_trans (show _ ≤ 500000 by omega) (by decide)) fun m u tk hm => ⟨.str m, H, I.tok _, ⟨u, rfl⟩, q m⟩
end
section
variable {X : Cx} {CX : CXT} {k : Nat} {f C : Addr} {fd : FuncData} {ps : List Str} {sp : Sp} {dvs : List V} {ds : List Value} {E : XK} {x m : Str} {p1 p2 pos : Pos} {e : Expr} {es : List Expr} {t : TA}
/-- C.m(e, ..), C a class of the program, m a def of it -/
structure ClsFn (K : PySem.W.Frag) (C f : Addr) (m : Str) : Prop where
  sp : PySem.W.specialIn K (.ref C) "__getattribute__" = some (some (.builtin "type.__getattribute__"))
  rd : PySem.W.readsIn K C (.type "type") = true
  fi : PySem.W.findCls K (.ref C) (.type "type") m = some (.val (.ref f))
  kp : PySem.W.keepIn K (.ref f) = true
theorem pe_clsfn {pl : Sem Bool} (hg : Gl X x) (hm : X.mg x = some (.ref C)) (T : ClsFn X.K C f m) (F : FnOk X.prog X.w X.K X.mg X.base CX k f fd ps sp) (hr : Room k X.A) (hb : Binds X.K fd ps ds) (hd : Vals dvs ds) (hx : Passes CX X E) (ha : PA X (e :: es) t)
    (hdb : (x == ("__debug__" : Str)) = false := by decide)
    (hc : eval (.Call (.Attribute (.Name x p1) m p2) (e :: es) [] pos) X.env = (do
      let ov ← eval (.Name x p1) X.env
      standAt p2.atName
      let (f, first) ← holding [ov] (getMethod ov m pl)
      callWith pos f first (backTo pos (starEach (e :: es) X.env)) (backToKw pos (keywordEach [] X.env))) := by rfl)
    (he : starEach (e :: es) X.env = (false, eval e X.env) :: starEach es X.env := by rfl) (hpl : (backTo pos (starEach es X.env)).any (·.1) = false := by rfl) :
    PE X (.Call (.Attribute (.Name x p1) m p2) (e :: es) [] pos) (tCall sp dvs E t) := by
  refine ⟨fun pins s σ H Q I h => ?_⟩
  refine PySem.W.methodCall_KW (ld_glob I hg hm ?_ hdb) hc
  refine PySem.W.method_cls I.kIn T.sp ?_
  refine PySem.W.cls_value I.kIn T.rd T.fi rfl ?_
  show wpAny _ _ (callWith pos (Value.ref f) [] (backTo pos (starEach (e :: es) X.env)) []) _ _ _
  refine PySem.W.callWith_K (h₀ := X.base) I.ok.mod.kin T.kp (thn (ha.run pos pins _ σ H _ (I.tok _) h) fun us s1 ⟨vs, H1, I1, r, q⟩ => ⟨I1.kIn, ?_⟩) he hpl
  exact run_fn F hr hb hd hx I1 r q
end
/-! ### == and != by an own def -/
section
variable {X : Cx} {CX : CXT} {n : Nat} {C f : Addr} {fd : FuncData} {ps : List Str} {sp : Sp} {E : XK} {op : CmpOp}
def rOwn (C : Addr) (sp : Sp) (E : XK) : R2 := fun x y H Q => ∃ a b dx dy fs gs, x = .ref a ∧ y = .ref b ∧ H a = some (.ins C dx fs) ∧ H b = some (.ins C dy gs) ∧ sp [.ref a, .ref b] H (fun v H' => ∃ r, v = .bl r ∧ Q (.bl r) H') E
theorem rich_own (F : FnOk X.prog X.w X.K X.mg X.base CX n f fd ps sp) (hs : PySem.W.findIn X.K (.ref C) (cmpInfo op).2.1 = some (some (.ref f))) (hf : PySem.W.isFn X.K (.ref f) = true) (hb : Binds X.K fd ps []) (hx : Passes CX X E) (hr : Room n X.A)
    {pins : List (Addr × Obj)} {s : Shared} {σ : L2.St} {H : Hp} {x y : V} {v u : Value} {Q : VK} (I : Inv X pins σ H s) (rx : RelV x v) (ry : RelV y u) (h : rOwn C sp E x y H Q) : wpAny (model X.prog X.w) X.A (richCompare op v u) (EP X pins σ Q) X.xe s := by
  obtain ⟨a, b, dx, dy, fs, gs, rfl, rfl, ha, hb', hsp⟩ := h
  cases rx
  cases ry
  obtain ⟨mA, J, _⟩ := ins_get I.hok ha
  obtain ⟨mB, J', _⟩ := ins_get I.hok hb'
  obtain ⟨od, J, _⟩ := J.look
  obtain ⟨od', J', _⟩ := J'.look
  obtain ⟨m, hF⟩ := I.fr
  refine PySem.W.cmp_K (op := op) (tb := .ref C) hr.units0 hF I.ok.mod.kin J J'.type (by simp [PySem.W.notFirst]) hs hf ?_
  have hl := F.len _ _ _ _ hsp
  have r2 : Vals [V.ref a, V.ref b] [Value.ref a, Value.ref b] := .cons rfl (.cons rfl .nil)
  refine wpAny_call (codeAny_mono (F.run X.A X.stack s H ⟨[.ref a, .ref b], []⟩ [.ref a, .ref b] [.ref a, .ref b] _ E hr I.env0 (by
    have := hb s [.ref a, .ref b] I.kIn (by simpa using hl)
    simpa using this) r2 hsp) fun r s' hq => ?_)
  cases r with
  | error e => exact hx pins σ H s e s' I hq
  | ok fl =>
    cases fl with
    | ret w =>
      obtain ⟨z, H', I', rz, r, ez, q⟩ := I.after hq
      subst ez
      cases rz
      exact ⟨.bl r, H', I', rfl, q⟩
    | next => exact False.elim hq
    | brk => exact False.elim hq
    | cont => exact False.elim hq
theorem op_eqOwn (F : FnOk X.prog X.w X.K X.mg X.base CX n f fd ps sp) (hs : PySem.W.findIn X.K (.ref C) "__eq__" = some (some (.ref f))) (hf : PySem.W.isFn X.K (.ref f) = true) (hb : Binds X.K fd ps []) (hx : Passes CX X E) (hr : Room n X.A) : OpR X (compareOp .Eq) (rOwn C sp E) := by
  intro pins s σ H x y v u Q I rx ry h
  exact rich_own (op := .Eq) F hs hf hb hx hr I rx ry h
theorem op_neOwn (F : FnOk X.prog X.w X.K X.mg X.base CX n f fd ps sp) (hs : PySem.W.findIn X.K (.ref C) "__ne__" = some (some (.ref f))) (hf : PySem.W.isFn X.K (.ref f) = true) (hb : Binds X.K fd ps []) (hx : Passes CX X E) (hr : Room n X.A) : OpR X (compareOp .NotEq) (rOwn C sp E) := by
  intro pins s σ H x y v u Q I rx ry h
  exact rich_own (op := .NotEq) F hs hf hb hx hr I rx ry h
end
end KdEx

namespace KdXc
open PySem PySem.Spec PyProof.Rows L2
/-! ### C(e, ..) in a try's body, where C's __init__ may raise -/
section
variable {X : Cx} {CX : CXT} {k : Nat} {f C : Addr} {fd : FuncData} {ps : List Str} {sp : Sp} {dvs : List V} {ds : List Value} {E : L2.St → XK} {x : Str} {p pos : Pos} {e : Expr} {es : List Expr} {t : TA}
def tMakeS (C : Addr) (sp : Sp) (dvs : List V) (E : L2.St → XK) (t : TA) : TE := fun σ H Q => t σ H fun vs H1 => ∀ x dx, H1 x = none → H1 dx = none → dx ≠ x →
  sp (.ref x :: (vs ++ dvs)) (upd (upd H1 dx (.own x)) x (.ins C dx [])) (fun v H2 => v = .non ∧ Q (.ref x) H2) (E σ)
theorem run_makeS {pins : List (Addr × Obj)} {σ : L2.St} {H : Hp} {s : Shared} {Q : VK} {us : List Value} {vs : List V} (M : Mk X.K C f) (G : FnOk X.prog X.w X.K X.mg X.base CX k f fd ps sp) (hr : Room (k + 1) X.A) (hb : Binds X.K fd ps ds) (hd : Vals dvs ds)
    (hx : PassesAt CX X σ (E σ)) (I : Inv X pins σ H s) (r : Vals vs us)
    (h : ∀ x dx, H x = none → H dx = none → dx ≠ x → sp (.ref x :: (vs ++ dvs)) (upd (upd H dx (.own x)) x (.ins C dx [])) (fun v H2 => v = .non ∧ Q (.ref x) H2) (E σ)) :
    wpAny (model X.prog X.w) X.A (call (.ref C) us) (EP X pins σ Q) X.xe s := by
  have want := h (s.heap.objs.size + 1) s.heap.objs.size (I.hok.fresh (Nat.le_succ _)) (I.hok.fresh (Nat.le_refl _)) (Nat.ne_of_lt (Nat.lt_succ_self _))
  have J := Inv.made (C := C) I
  have rr : Vals (V.ref (s.heap.objs.size + 1) :: (vs ++ dvs)) (Value.ref (s.heap.objs.size + 1) :: (us ++ ds)) := .cons rfl (r.append hd)
  have hlen : (Value.ref (s.heap.objs.size + 1) :: us ++ ds).length = ps.length := by
    have z := rr.length
    rw [G.len _ _ _ _ want] at z
    exact z.symm
  have go := G.run _ X.stack _ _ ⟨Value.ref (s.heap.objs.size + 1) :: us, []⟩ (Value.ref (s.heap.objs.size + 1) :: (us ++ ds)) _ _ (E σ) (hr.make C us []) (J.env0.make C us []) (hb _ (Value.ref (s.heap.objs.size + 1) :: us) J.kIn hlen) rr want
  refine wpAny_call (make_map (f := f) I.kIn M.makes M.init (beq_iff_eq.mp M.fn) (codeAny_mono go fun r s' back => ?_))
  cases r with
  | error er => exact hx pins _ _ er s' J back
  | ok fl =>
    cases fl with
    | ret u =>
      obtain ⟨v, H', J3, rv, ev, q3⟩ := J.after back
      subst ev
      exact ⟨rv, ⟨V.ref (s.heap.objs.size + 1), H', J3, rfl, q3⟩⟩
    | next => exact False.elim back
    | brk => exact False.elim back
    | cont => exact False.elim back
theorem pe_makeS (M : Mk X.K C f) (G : FnOk X.prog X.w X.K X.mg X.base CX k f fd ps sp) (hr : Room (k + 1) X.A) (hg : Gl X x) (hm : X.mg x = some (.ref C)) (hb : Binds X.K fd ps ds) (hd : Vals dvs ds) (hx : ∀ σ, PassesAt CX X σ (E σ))
    (ha : PA X (e :: es) t) (hdb : (x == ("__debug__" : Str)) = false := by decide) (he : starEach (e :: es) X.env = (false, eval e X.env) :: starEach es X.env := by rfl) (hpl : (backTo pos (starEach es X.env)).any (·.1) = false := by rfl) :
    PE X (.Call (.Name x p) (e :: es) [] pos) (tMakeS C sp dvs E t) := by
  refine ⟨fun pins s σ H Q I h => wpAny_Call_Name_kw (ld_glob I hg hm ?_ hdb)⟩
  refine PySem.W.callWith_K (h₀ := X.base) I.ok.mod.kin M.kp (thn (ha.run pos pins s σ H _ I h) fun us s1 ⟨vs, H1, I1, r, q⟩ => ⟨I1.kIn, run_makeS M G hr hb hd (hx σ) I1 r q⟩) he hpl
end
/-! ### what the head says of a refusal's class -/
def oexB (K : PySem.W.Frag) (C : Addr) : Bool := match K.lookup C with
  | some ⟨.type c, _, .cls cd, sl⟩ => decide (c = "type") && (match cd.mro, sl.toList with
    | .ref D :: bm, [_, _, _, _, some (.builtin n), _] => decide (D = C) && (decide (n = "ValueError.__new__") && (!cd.hasDel && (cd.hasDict && PySem.HandSPX.refsVE bm)))
    | _, _ => false)
  | _ => false
theorem oexB_ok {K : PySem.W.Frag} {C : Addr} (h : oexB K C = true) : ∃ nm q N bs bm sn sub ab col dd k0 k1 k2 k3 k5, K.lookup C = some (excClassObj nm q C N bs bm true sn sub ab col dd k0 k1 k2 k3 k5 "ValueError.__new__") ∧ PySem.HandSPX.refsVE bm = true := by
  unfold oexB at h
  split at h
  · rename_i c dd cd sl ho
    obtain ⟨hc, h⟩ := He.ba h
    have hc : c = "type" := of_decide_eq_true hc
    split at h
    · rename_i D bm k0 k1 k2 k3 n k5 hm hs
      obtain ⟨h1, h⟩ := He.ba h
      obtain ⟨h2, h⟩ := He.ba h
      obtain ⟨h3, h⟩ := He.ba h
      obtain ⟨h4, h5⟩ := He.ba h
      have e1 : D = C := of_decide_eq_true h1
      have e2 : n = "ValueError.__new__" := of_decide_eq_true h2
      have e3 : cd.hasDel = false := by simpa using h3
      obtain ⟨nm, bs, mro, ns, qn, hd, sn, sub, ab, col, del⟩ := cd
      dsimp only at hm e3 h4
      subst hc e1 e2 e3 h4 hm
      have hsl : sl = #[k0, k1, k2, k3, some (.builtin "ValueError.__new__"), k5] := by
        obtain ⟨l⟩ := sl
        simp only at hs
        rw [hs]
      subst hsl
      exact ⟨nm, qn, ns, bs, bm, sn, sub, ab, col, dd, k0, k1, k2, k3, k5, ho, h5⟩
    · cases h
  · cases h
structure ErrC (K : PySem.W.Frag) (C fI : Addr) : Prop where
  o : OexC K C
  iC : PySem.W.findIn K (.ref C) "__init__" = some (some (.ref fI))
  tI : PySem.W.typeIn K (.ref fI) = some (.type "function")
  nW : PySem.W.findIn K (.ref C) "what" = some none
  nN : PySem.W.findIn K (.ref C) "name" = some none
  x : XfC K C
  em : PySem.W.exmOne K (.ref C) (.ref C) = some true
  ca : PySem.W.findIn K (.ref C) "__class__" = some (some (.builtin "object.__class__"))
  cn : PySem.W.specialIn K (.builtin "object.__class__") "__get__" = some (some (.builtin "getset_descriptor.__get__"))
  ct : PySem.W.takesIn K (.builtin "object.__class__") = some true
  cm : PySem.W.mroIn K C (.type "object") = some true
  cs : (PySem.W.clsIn K C).isSome = true
def errB (K : PySem.W.Frag) (C fI : Addr) : Bool := oexB K C && (He.eqO (PySem.W.findIn K (.ref C) "__setattr__") (some (some (.builtin "object.__setattr__"))) && (decide (PySem.W.subIn K (.ref C) (.type "BaseException") = some true) && (decide (PySem.W.typeIn K (.ref C) = some (.type "type")) &&
  (PySem.W.keepIn K (.ref C) && (He.eqO (PySem.W.findIn K (.ref C) "__init__") (some (some (.ref fI))) && (decide (PySem.W.typeIn K (.ref fI) = some (.type "function")) && (He.eqO (PySem.W.findIn K (.ref C) "what") (some none) && (He.eqO (PySem.W.findIn K (.ref C) "name") (some none) &&
  (xfB K C && (decide (PySem.W.exmOne K (.ref C) (.ref C) = some true) && (He.eqO (PySem.W.findIn K (.ref C) "__class__") (some (some (.builtin "object.__class__"))) && (He.eqO (PySem.W.specialIn K (.builtin "object.__class__") "__get__") (some (some (.builtin "getset_descriptor.__get__"))) &&
  (decide (PySem.W.takesIn K (.builtin "object.__class__") = some true) && (decide (PySem.W.mroIn K C (.type "object") = some true) && (PySem.W.clsIn K C).isSome))))))))))))))
theorem errB_ok {K : PySem.W.Frag} {C fI : Addr} (h : errB K C fI = true) : ErrC K C fI := by
  obtain ⟨h1, h⟩ := He.ba h
  obtain ⟨h2, h⟩ := He.ba h
  obtain ⟨h3, h⟩ := He.ba h
  obtain ⟨h4, h⟩ := He.ba h
  obtain ⟨h5, h⟩ := He.ba h
  obtain ⟨h6, h⟩ := He.ba h
  obtain ⟨h7, h⟩ := He.ba h
  obtain ⟨h8, h⟩ := He.ba h
  obtain ⟨h9, h⟩ := He.ba h
  obtain ⟨h10, h⟩ := He.ba h
  obtain ⟨h11, h⟩ := He.ba h
  obtain ⟨h12, h⟩ := He.ba h
  obtain ⟨h13, h⟩ := He.ba h
  obtain ⟨h14, h⟩ := He.ba h
  obtain ⟨h15, h16⟩ := He.ba h
  exact ⟨⟨oexB_ok h1, He.eqO_ok h2, of_decide_eq_true h3, of_decide_eq_true h4, h5⟩, He.eqO_ok h6, of_decide_eq_true h7, He.eqO_ok h8, He.eqO_ok h9, xfB_ok h10, of_decide_eq_true h11, He.eqO_ok h12, He.eqO_ok h13, of_decide_eq_true h14, of_decide_eq_true h15, h16⟩
/-- DayError.__init__ as an attribute of its class, and ValueError's -/
def valB (o : Option PySem.W.CFound) (v : Value) : Bool := match o with
  | some (.val u) => decide (u = v)
  | _ => false
theorem valB_ok {o : Option PySem.W.CFound} {v : Value} (h : valB o v = true) : o = some (.val v) := by
  unfold valB at h
  split at h
  · rw [of_decide_eq_true h]
  · cases h
def cfnB (K : PySem.W.Frag) (C f : Addr) (m : Str) : Bool := He.eqO (PySem.W.specialIn K (.ref C) "__getattribute__") (some (some (.builtin "type.__getattribute__"))) && (PySem.W.readsIn K C (.type "type") && (valB (PySem.W.findCls K (.ref C) (.type "type") m) (.ref f) && PySem.W.keepIn K (.ref f)))
theorem cfnB_ok {K : PySem.W.Frag} {C f : Addr} {m : Str} (h : cfnB K C f m = true) : KdEx.ClsFn K C f m := by
  obtain ⟨h1, h⟩ := He.ba h
  obtain ⟨h2, h⟩ := He.ba h
  obtain ⟨h3, h4⟩ := He.ba h
  exact ⟨He.eqO_ok h1, h2, valB_ok h3, h4⟩
def veB (K : PySem.W.Frag) : Bool := valB (PySem.W.findCls K (.type "ValueError") (.type "type") "__init__") (.builtin "ValueError.__init__")
/-! ### isinstance of a caught refusal -/
theorem refs_vals : ∀ {cs : List Addr} {us : List Value}, Vals (cs.map V.ref) us → us = cs.map Value.ref
  | [], _, r => by cases r; rfl
  | c :: cs, _, r => by
    cases r with
    | cons r1 r2 =>
      cases r1
      rw [refs_vals r2]
      rfl
def rIsX (K : PySem.W.Frag) (D a : Addr) : List V → Hp → VK → Prop := fun xs H Q => ∃ c, xs = [.ref a, c] ∧ ((∃ (cv : Value) (b : Bool), (∀ u, RelV c u → u = cv) ∧ PySem.W.kitOne K (.ref D) cv = some b ∧ Q (.bl b) H) ∨
  ∃ (tp : Addr) (cs : List Addr) (b : Bool), c = .ref tp ∧ SqT K H tp (cs.map V.ref) ∧ PySem.W.kitAny K (.ref D) (cs.map Value.ref) = some b ∧ Q (.bl b) H)
/-- isinstance(e, ..) of what the suite holds -/
def rIsC (K : PySem.W.Frag) (D a : Addr) (cls : Value) (d : Option Addr) : List V → Hp → VK → Prop := fun xs H Q => cls = .ref D ∧ ∃ (dd : Addr) (fs : List (Str × V)), d = some dd ∧ H dd = some (.xd fs) ∧ rIsX K D a xs H Q
theorem call_isX {X : Cx} {a D fI : Addr} {oe : Obj} {cls : Value} {d : Option Addr} {pn : List (Addr × Obj)} (T : ErrC X.K D fI) (hz : Zc cls d oe) (hf : ∃ vs, oe.data = .fields vs) : CallR (X.suite a ((a, oe) :: pn)) (.builtin "isinstance") (rIsC X.K D a cls d) := by
  intro pins s σ H xs us Q I r h
  obtain ⟨rfl, dd, fs, rfl, hdd, c, rfl, hc⟩ := h
  have hx : ObjOk X.prog X.w H s.heap dd (.xd fs) := I.hok dd _ hdd
  obtain ⟨mA, hns, _⟩ := hx
  obtain ⟨od, ho, _⟩ := lookIn_ns hns
  obtain ⟨hget, _⟩ := I.pin (a, oe) (List.mem_append.mpr (.inl List.mem_cons_self))
  obtain ⟨vs, hv⟩ := hf
  have J : PySem.W.InstAt s.heap a oe D (some od) := ⟨hget, hz.1, by unfold PySem.W.notCls; rw [hv] <;> rfl, by rw [hz.2]; exact ho⟩
  have Z : PySem.W.KitX X.K (.ref a) (.ref D) (fun h => PySem.W.InstAt h a oe D (some od)) := PySem.W.kitx_exc T.cs T.x.ga T.x.gg T.x.exC T.ca T.cn T.ct T.cm
  cases r with
  | cons rx rr =>
    cases rr with
    | cons rt rr =>
      cases rr
      cases rx
      rcases hc with ⟨cv, b, hcv, e, q⟩ | ⟨tp, cs, b, rfl, ht, e, q⟩
      · have ec := hcv _ rt
        subst ec
        exact PySem.W.kia_one Z I.kIn J e (fun z => nomatch z) fun tk => ⟨.bl b, H, I.kept (t' := tk) fun _ _ z => z, rfl, q⟩
      · cases rt
        obtain ⟨its, rv, ⟨o, ho, hcl, n, hd⟩, _⟩ := I.tuple ht
        have ei := refs_vals rv
        subst ei
        obtain ⟨ocl, odd, oda, osl⟩ := o
        dsimp only at hcl hd
        subst hcl hd
        exact PySem.W.kia_tup Z I.kIn J ho e (fun z => nomatch z) fun tk => ⟨.bl b, H, I.kept (t' := tk) fun _ _ z => z, rfl, q⟩
/-! ### a refusal is made -/
/-- C(e), C's own __init__ keeping the promise of a refusal: its dict is new and holds fs -/
def spErr (K : PySem.W.Frag) (C : Addr) (fs : V → List (Str × V)) (Ok : V → Hp → Prop) : Sp := fun vs H Q _ => ∃ (a : Addr) (v : V), vs = [.ref a, v] ∧ H a = some (exo a C none) ∧ Ok v H ∧
  ∀ (d : Addr) (H' : Hp), H d = none → d ≠ a → H' a = some (exo a C (some d)) → H' d = some (exd d (fs v)) → (∀ b, b ≠ a → b ≠ d → H' b = H b) → Q .non H'
theorem err_ok {K : PySem.W.Frag} {C : Addr} {fs : V → List (Str × V)} {Ok : V → Hp → Prop} {H1 : Hp} {v : V} {Q : XK} (ok : ∀ a, H1 a = none → Ok v (upd H1 a (exo a C none))) (k : ∀ d, H1 d = none → Q (.ref C) (some d) (upd H1 d (.xd (fs v)))) :
    [v].length ≤ 1000 ∧ ∀ a, H1 a = none → spErr K C fs Ok (.ref a :: ([v] ++ [])) (upd H1 a (exo a C none))
      (fun u H2 => u = .non ∧ ∃ (d : Addr) (gs : List (Str × V)), H2 a = some (exo a C (some d)) ∧ H2 d = some (exd d gs) ∧ H1 d = none ∧ Q (.ref C) (some d) (upd (del H2 a) d (.xd gs))) (fun _ _ _ => False) := by
  refine ⟨by show 1 ≤ 1000; decide, fun a ha => ⟨a, v, rfl, upd_same, ok a ha, fun d H' hd nd e1 e2 rest => ⟨rfl, d, fs v, e1, e2, ?_, ?_⟩⟩⟩
  · rw [upd_ne nd] at hd
    exact hd
  · have hd1 : H1 d = none := by
      rw [upd_ne nd] at hd
      exact hd
    have eq : upd (del H' a) d (.xd (fs v)) = upd H1 d (.xd (fs v)) := by
      funext b
      by_cases hb : b = d
      · rw [hb, upd_same, upd_same]
      · rw [upd_ne hb, upd_ne hb]
        by_cases hba : b = a
        · rw [hba, del_same, ha]
        · rw [del_ne hba, rest b hba hb, upd_ne hba]
    rw [eq]
    exact k d hd1
/-- raise C(e): its making -/
theorem pmk_err {X : Cx} {x : Str} {C fI : Addr} {k : Nat} {fd : FuncData} {ps : List Str} {fs : V → List (Str × V)} {Ok : V → Hp → Prop} {e : Expr} {te : TE} {p pos : Pos} (T : ErrC X.K C fI)
    (G : FnOk X.prog X.w X.K X.mg X.base CX0 k fI fd ps (spErr X.K C fs Ok)) (hr : Room (k + 1) X.A) (hb : Binds X.K fd ps []) (hg : Gl X x) (hm : X.mg x = some (.ref C)) (he : PE X e te)
    (hdb : (x == ("__debug__" : Str)) = false := by decide) (hs : starEach [e] X.env = (false, eval e X.env) :: starEach [] X.env := by rfl) (hpl : (backTo pos (starEach [] X.env)).any (·.1) = false := by rfl) :
    PMk X (.Call (.Name x p) [e] [] pos) (tMkO C (spErr X.K C fs Ok) [] (tCons te tNil)) :=
  pmk_oex T.o T.iC T.tI G hr hb .nil pass0 hg hm (pa_cons he pa_nil hs) hdb hs hpl
/-! ### x in [y], by an own == -/
section
variable {X : Cx} {CX : CXT} {n : Nat} {C f : Addr} {fd : FuncData} {ps : List Str} {sp : Sp} {E : XK}
theorem rich_sub (G : FnOk X.prog X.w X.K X.mg X.base CX n f fd ps sp) (hs : PySem.W.findIn X.K (.ref C) "__eq__" = some (some (.ref f))) (hf : PySem.W.isFn X.K (.ref f) = true) (hb : Binds X.K fd ps []) (hx : Passes CX X E) {A : Around} (sb : Sub X n A)
    {pins : List (Addr × Obj)} {s : Shared} {σ : L2.St} {H : Hp} {x y : V} {v u : Value} {Q : VK} (I : Inv X pins σ H s) (rx : RelV x v) (ry : RelV y u) (h : KdEx.rOwn C sp E x y H Q) : wpAny (model X.prog X.w) A (richCompare .Eq v u) (EP X pins σ Q) X.xe s := by
  obtain ⟨a, b, dx, dy, fs, gs, rfl, rfl, ha, hb', hsp⟩ := h
  cases rx
  cases ry
  obtain ⟨mA, J, _⟩ := ins_get I.hok ha
  obtain ⟨mB, J', _⟩ := ins_get I.hok hb'
  obtain ⟨od, J, _⟩ := J.look
  obtain ⟨od', J', _⟩ := J'.look
  obtain ⟨m, hF⟩ := I.fr
  refine PySem.W.cmp_K (op := .Eq) (tb := .ref C) sb.room.units0 hF I.ok.mod.kin J J'.type (by simp [PySem.W.notFirst]) hs hf ?_
  have en : Env0 X.prog X.w X.K X.mg X.base A X.stack s H := by
    have z := I.env0
    exact ⟨by rw [sb.fr]; exact z.frames, z.mod, z.bs, z.bsz, z.funs, z.frf, z.hok, z.bare⟩
  have hlen := G.len _ _ _ _ hsp
  have rr : Vals [V.ref a, V.ref b] [Value.ref a, Value.ref b] := .cons rfl (.cons rfl .nil)
  have bb := hb s [.ref a, .ref b] I.kIn (by simpa using hlen)
  rw [List.append_nil] at bb
  refine wpAny_call (codeAny_mono (G.run A X.stack s H ⟨[.ref a, .ref b], []⟩ [.ref a, .ref b] [.ref a, .ref b] _ E sb.room en bb rr hsp) fun r s' back => ?_)
  cases r with
  | error er => exact hx pins σ H s er s' I back
  | ok fl =>
    cases fl with
    | ret w =>
      obtain ⟨z, H', J3, rz, r, ez, q⟩ := I.after back
      subst ez
      cases rz
      exact ⟨.bl r, H', J3, rfl, q⟩
    | next => exact False.elim back
    | brk => exact False.elim back
    | cont => exact False.elim back
/-- x in a list of one y -/
def rIn1 (C : Addr) (sp : Sp) (E : XK) : R2 := fun x l H Q => ∃ (a b p : Addr), x = .ref a ∧ l = .ref p ∧ H p = some (.lst [.ref b]) ∧ a ≠ b ∧ KdEx.rOwn C sp E (.ref b) (.ref a) H (fun v H' => (∃ r, v = .bl r) ∧ H' = H ∧ Q v H')
open MeetsSeq MeetsSeq2 MeetsSeq3 SeqRoads2 in
/-- list.__contains__ of a list of one -/
theorem contains_1 {prog : Program} {w : World} {A : Around} {R : Result → Shared → Prop} {s : Shared} {p : Addr} {x y : Value} {n : Nat} {items : Array Value} {dd : Option Addr} {sl : Array (Option Value)} (hl : s.heap.get? p = some { cls := .type "list", dict := dd, data := .seq items n, slots := sl })
    (i0 : items[((0 : Nat) : Int).toNat]? = some y) (i1 : items[((1 : Nat) : Int).toNat]? = none)
    (h : wpAny (model prog w) A.in1 (eqBool y x) (fun r s' => (r = true → R (.ok (.ret (.bool true))) s') ∧ (r = false → ∃ n2 dd2 sl2, s'.heap.get? p = some { cls := .type "list", dict := dd2, data := .seq items n2, slots := sl2 } ∧ R (.ok (.ret (.bool false))) s')) (fun e s' => R (.error e) s') s) :
    wpAny (model prog w) A.in1 (Builtin.«list.__contains__» ⟨[.ref p, x], []⟩) (GQ.FinOf prog w A R) (fun e s' => R (.error e) s') s := by
  have loop : ∀ (i : Nat) (s : Shared), (∃ n dd sl, s.heap.get? p = some { cls := .type "list", dict := dd, data := .seq items n, slots := sl }) → (match items[((i : Nat) : Int).toNat]? with
      | none => R (.ok (.ret (.bool false))) s
      | some y => wpAny (model prog w) A.in1 (eqBool y x) (fun r s' => (r = true → R (.ok (.ret (.bool true))) s') ∧ (r = false → codeAny (model prog w) A (.builtin "list.__contains__.loop" ⟨[.ref p, x, rawInt ((i : Int) + 1)], []⟩) R s')) (fun e s' => R (.error e) s') s) →
      wpAny (model prog w) A.in1 (Builtin.«list.__contains__.loop» ⟨[.ref p, x, rawInt i], []⟩) (GQ.FinOf prog w A R) (fun e s' => R (.error e) s') s := by
    intro i s hs hi
    obtain ⟨n, dd, sl, hl⟩ := hs
    obtain ⟨hp, g, d, tk, os⟩ := s
    cases e : items[((i : Nat) : Int).toNat]? with
    | none =>
      rw [e] at hi
      wp_walk using AutoSeq1.wpAny_loadPart' hl
      rw [e]
      wp_walk
      exact hi
    | some y =>
      rw [e] at hi
      wp_walk using AutoSeq1.wpAny_loadPart' hl
      rw [e]
      refine wpAny_bind (wpAny_mono hi (fun r s2 h2 => ?_) fun _ _ z => z)
      cases r with
      | true =>
        have z := h2.1 rfl
        obtain ⟨hp2, g2, d2, tk2, os2⟩ := s2
        wp_walk
        exact z
      | false =>
        have z := h2.2 rfl
        obtain ⟨hp2, g2, d2, tk2, os2⟩ := s2
        wp_walk
        exact ⟨plainId_quiet plain_contains_loop _, z⟩
  have step : ∀ (i : Nat) (s : Shared), wpAny (model prog w) A.in1 (Builtin.«list.__contains__.loop» ⟨[.ref p, x, rawInt i], []⟩) (GQ.FinOf prog w A R) (fun e s' => R (.error e) s') s → codeAny (model prog w) A (.builtin "list.__contains__.loop" ⟨[.ref p, x, rawInt i], []⟩) R s := fun i s q =>
    codeAny_builtin entry_contains_loop (by
      rw [Around.under_plainId plain_contains_loop _]
      exact q)
  have fin := step 0 s (loop 0 s ⟨_, _, _, hl⟩ (by
    rw [i0]
    refine wpAny_mono h (fun r s' z => ⟨z.1, fun er => ?_⟩) fun _ _ z => z
    obtain ⟨n2, dd2, sl2, hl2, q⟩ := z.2 er
    have e1 : ((0 : Nat) : Int) + 1 = ((1 : Nat) : Int) := by decide
    rw [e1]
    refine step 1 s' (loop 1 s' ⟨_, _, _, hl2⟩ ?_)
    rw [i1]
    exact q))
  obtain ⟨hp, g, d, tk, os⟩ := s
  wp_walk using AutoSeq1.wpAny_loadPart' hl
  exact ⟨plainId_quiet plain_contains_loop _, fin⟩
theorem op_in1 (G : FnOk X.prog X.w X.K X.mg X.base CX n f fd ps sp) (hs : PySem.W.findIn X.K (.ref C) "__eq__" = some (some (.ref f))) (hf : PySem.W.isFn X.K (.ref f) = true) (hb : Binds X.K fd ps []) (hx : Passes CX X E) (hr : Room (n + 1) X.A) : OpR X (compareOp .In) (rIn1 C sp E) := by
  intro pins s σ H x l v u Q I rx rl h
  obtain ⟨a, b, p, rfl, rfl, hp, nab, hown⟩ := h
  cases rx
  cases rl
  have list1 : ∀ {s' : Shared}, Inv X pins σ H s' → ∃ n dd sl, s'.heap.get? p = some { cls := .type "list", dict := dd, data := .seq #[Value.ref b] n, slots := sl } := fun {s'} J => by
    obtain ⟨its, rv, ⟨o, m, e1, e2, e3, e4⟩, _⟩ := J.list (SqL.of hp)
    have ei : its = [Value.ref b] := by
      cases rv with
      | cons r1 r2 =>
        cases r1
        cases r2
        rfl
    subst ei
    obtain ⟨oc, od, oda, osl⟩ := o
    dsimp only at e2 e4
    subst e2 e4
    exact ⟨_, _, _, e1⟩
  obtain ⟨n0, dd, sl, hl⟩ := list1 I
  show wpAny _ _ (do return Value.bool (← contains (.ref p) (.ref a))) _ _ _
  refine wpAny_bind (wpAny_contains_slot ⟨_, hl, rfl⟩ F.slot_list_contains (wpAny_mono (GQ.call_here (Q := fun v s' => ∃ b, v = .bool b ∧ EP X pins σ Q (.bool b) s') F.slot_list_contains ⟨_, hl, rfl⟩ F.entry_list_contains (F.args_list_contains_2 _ _) (contains_1 hl rfl rfl ?_)) (fun v s' hv => ?_) fun _ _ z => z))
  · refine GQ.eqBool_refG (Ne.symm nab) (wpAny_mono (rich_sub G hs hf hb hx (Sub.in1 (X := X) ⟨hr, rfl⟩) (x := .ref b) (y := .ref a) I rfl rfl hown) (fun z s' hz => ?_) fun _ _ q => q)
    obtain ⟨y, H', J, ry, ⟨r, ey⟩, eH, q⟩ := hz
    subst eH ey
    cases ry
    refine ⟨r, rfl, fun e => ?_, fun e => ?_⟩
    · subst e
      exact ⟨true, rfl, .bl true, _, J, rfl, q⟩
    · subst e
      obtain ⟨n2, dd2, sl2, hl2⟩ := list1 J
      exact ⟨n2, dd2, sl2, hl2, false, rfl, .bl false, _, J, rfl, q⟩
  · obtain ⟨r, rfl, hq⟩ := hv
    exact wpAny_truthy_bool (wpAny_pure hq)
end
end KdXc

namespace KdRp
open PySem PySem.Spec PyProof.Rows L2
section
variable {prog : Program} {w : World}
/-- what repr makes of x in this heap is some text of at most L signs -/
def RepW (prog : Program) (w : World) (h : Heap) (d : Nat) (x : Value) (L : Nat) : Prop :=
  ∀ (A : Around) (s : Shared), A.units + d < cLine → s.heap = h → ∀ b, b + L ≤ sizeLine → ∀ (E : Value → Shared → Prop) (Q : Str → Shared → Prop), (∀ t tk, t.length ≤ L → Q t { s with toks := tk }) → wpAny (model prog w) A (pyReprUnder b x) Q E s
theorem RepW.flat {h : Heap} {d L : Nat} {x : Value} {t : Str} (r : ReprIs prog w x t) (hl : t.length ≤ L) : RepW prog w h d x L := fun A s _ _ b hb E Q q => r b (by omega) A E s Q fun tk => q t tk hl
theorem fold_w {h : Heap} {d L : Nat} {A : Around} {E : Value → Shared → Prop} (hu : A.units + d < cLine) : ∀ (l : List Value) (acc : Array Str) (n : Nat) (s : Shared) (Q : (Array Str × Nat) → Shared → Prop), s.heap = h → (∀ x ∈ l, RepW prog w h d x L) → n + 1 + (L + 2) * l.length ≤ sizeLine →
    (∀ (ts : List Str) (m : Nat) (tk : Nat), ts.length = l.length → (∀ t ∈ ts, t.length ≤ L) → Q ⟨acc ++ ts.toArray, m⟩ { s with toks := tk }) → wpAny (model prog w) A (forIn l (⟨acc, n⟩ : (Array Str × Nat)) tupBody) Q E s := by
  intro l
  induction l with
  | nil =>
    intro acc n s Q _ _ _ q
    have q0 := q [] n s.toks rfl (fun _ z => (nomatch z))
    simp only [List.forIn_nil]
    exact wpAny_pure (by simpa using q0)
  | cons x l ih =>
    intro acc n s Q hs hx hn q
    rw [List.length_cons, Nat.mul_succ] at hn
    rw [List.forIn_cons]
    refine wpAny_bind (wpAny_bind (hx x (List.mem_cons_self ..) A s hu hs (n + 1) (by omega) E _ fun t tk ht => wpAny_pure ?_))
    refine ih (acc.push t) (n + (t.length + 2)) { s with toks := tk } Q hs (fun y hy => hx y (List.mem_cons_of_mem _ hy)) (by omega) fun ts m tk' hl hts => ?_
    have q1 := q (t :: ts) m tk' (by rw [List.length_cons, hl, List.length_cons]) fun y hy => by
      rcases List.mem_cons.mp hy with rfl | hy
      · exact ht
      · exact hts y hy
    simpa using q1
theorem piled_of : ∀ (ts : List Str) {L : Nat}, (∀ t ∈ ts, t.length ≤ L) → piled ts ≤ (L + 2) * ts.length
  | [], _, _ => Nat.zero_le _
  | t :: ts, L, h => by
    have ih := piled_of ts fun y hy => h y (List.mem_cons_of_mem _ hy)
    have h1 := h t (List.mem_cons_self ..)
    rw [piled_cons, List.length_cons, Nat.mul_succ]
    omega
theorem join_le (ts : List Str) {L : Nat} (h : ∀ t ∈ ts, t.length ≤ L) : (Str.join ", " ts).length ≤ (L + 2) * ts.length := by
  have p := piled_of ts h
  cases ts with
  | nil => show (Str.join ", " []).length ≤ _; exact Nat.zero_le _
  | cons t ts =>
    have e := join_length_add (t :: ts) (by simp)
    omega
/-- a tuple's signs -/
abbrev tupL (L n : Nat) : Nat := (L + 2) * n + 8
theorem at_w {h : Heap} {d L b : Nat} {A : Around} {E : Value → Shared → Prop} {s : Shared} {a : Addr} {o : Obj} {items : Array Value} {n : Nat} {Q : Fin → Shared → Prop} (hu : A.units + d < cLine) (hs : s.heap = h) (ha : h.get? a = some o) (hd : o.data = .seq items n)
    (hx : ∀ x ∈ items.toList, RepW prog w h d x L) (hb : b + tupL L items.size ≤ sizeLine) (q : ∀ m u tk, m.length ≤ tupL L items.size → Q (.done (.ret (.str m u))) { s with toks := tk }) : wpAny (model prog w) A (Builtin.tupleReprAt b ⟨[.ref a], []⟩) Q E s := by
  have hb' : b + ((L + 2) * items.size + 8) ≤ sizeLine := hb
  rw [tuple_repr_tree]
  refine wpAny_bind (fmt_underWay fun c => ?_)
  cases c with
  | true =>
    refine PySem.W.KFB.if_so rfl ?_
    refine wpAny_bind (wpAny_rule ?_)
    refine wpAny_bind (wpAny_mkStr (wpAny_pure ?_) (by decide +kernel))
    exact q "(...)" _ _ (Nat.le_trans fmt_way (by show 5 ≤ (L + 2) * items.size + 8; omega))
  | false =>
    refine PySem.W.KFB.if_not rfl ?_
    unfold tupleReprRest Builtin.Tuple.tupleItemsOf
    refine wpAny_bind (wpAny_bind (wpAny_seqItems (by rw [hs]; exact ha) hd (wpAny_pure ?_)))
    rw [← Array.forIn_toList]
    have el : items.toList.length = items.size := Array.length_toList
    refine wpAny_bind (fold_w hu _ _ _ _ _ hs hx (by rw [el]; omega) fun ts m tk hl hts => ?_)
    have hj := join_le ts hts
    rw [hl, el] at hj
    have e1 : ((("(" : String) : Str)).length = 1 := rfl
    have e3 : (((if items.size == 1 then ",)" else ")" : String) : Str)).length ≤ 2 := by split <;> decide +kernel
    have e4 : (#[] ++ ts.toArray).toList = ts := by simp
    have hm : ((("(" : Str) ++ Str.join ", " ts ++ ((if items.size == 1 then ",)" else ")" : String) : Str)) : Str).length ≤ tupL L items.size := by
      rw [strLen_append, strLen_append, e1]
      show _ ≤ (L + 2) * items.size + 8
      omega
    have hz := Nat.le_trans hm (Nat.le_trans (Nat.le_add_left _ b) hb)
    refine wpAny_bind (wpAny_mkStr (wpAny_pure ?_) (by simpa using hz))
    have q1 := q _ tk (tk + 1) hm
    simpa using q1
/-- a tuple within -/
theorem RepW.tup {h : Heap} {d L : Nat} {a : Addr} {o : Obj} {items : Array Value} {n : Nat} (ha : h.get? a = some o) (hc : o.cls = .type "tuple") (hd : o.data = .seq items n) (hx : ∀ x ∈ items.toList, RepW prog w h d x L) : RepW prog w h (d + 2) (.ref a) (tupL L items.size) := by
  intro A s hu hs b hb E Q q
  have hT : s.TypeIs (.ref a) "tuple" := ⟨o, by rw [hs]; exact ha, hc⟩
  refine wpAny_pyReprUnder_ref (by omega) (wpAny_pyReprObjUnder_twin (twin := "tuple.__repr__.under") hT F.slot_tuple_repr rfl (by omega) ?_)
  refine call_twin_own (F.quiet_tuple_repr_under _) F.entry_tuple_repr_under F.check_tuple_repr_under hT F.slot_tuple_repr (F.args_tuple_repr_1 _) (wpOwn_of_wpAny ?_)
  refine at_w (by rw [units_under_tuple_repr_under]; omega) hs ha hd hx hb fun m u tk hm => ?_
  exact ⟨⟨m, u, rfl⟩, m, u, rfl, q m tk hm⟩
/-- repr(t) -/
theorem repr_w {h : Heap} {d L : Nat} {A : Around} {E : Value → Shared → Prop} {s : Shared} {a : Addr} {o : Obj} {items : Array Value} {n : Nat} {Q : Value → Shared → Prop} (hu : A.units + (d + 8) < cLine) (hs : s.heap = h) (ha : h.get? a = some o) (hc : o.cls = .type "tuple") (hd : o.data = .seq items n)
    (hx : ∀ x ∈ items.toList, RepW prog w h d x L) (hb : tupL L items.size ≤ sizeLine) (q : ∀ (m : Str) (u tk : Tok), Q (.str m u) { s with toks := tk }) : wpAny (model prog w) A (call (.builtin "repr") [.ref a]) Q E s := by
  have hT : s.TypeIs (.ref a) "tuple" := ⟨o, by rw [hs]; exact ha, hc⟩
  refine call_repr_slot (by omega) hT F.slot_tuple_repr ?_
  refine wpAny_call (codeAny_call_builtin_own (Code.quiet_builtin _ (by decide +kernel)) F.entry_tuple_repr (F.slot_tuple_repr.check _ _ _ _ _ _ _ _ hT (F.args_tuple_repr_1 _) (wpOwn_of_wpAny ?_)))
  refine at_w (b := 0) (by
    have e : A.in1.units ≤ A.units + 1 := by first | exact Nat.le_refl _ | (simp [Around.in1])
    rw [units_under_tuple_repr]
    omega) hs ha hd hx (by omega) fun m u tk _ => ?_
  exact ⟨m, u, rfl, q m u tk⟩
end
/-! ### repr of what a refusal keeps -/
theorem RepW.mono {prog : Program} {w : World} {h : Heap} {d d' L L' : Nat} {x : Value} (r : RepW prog w h d x L) (hd : d ≤ d') (hl : L ≤ L') : RepW prog w h d' x L' :=
  fun A s hu hs b hb E Q q => r A s (by omega) hs b (by omega) E Q fun t tk ht => q t tk (by omega)
/-- a value without parts, of a few signs -/
def FlatS : V → Prop
  | .str z => (∀ c ∈ z.cps.toList, c < 16 ^ 8) ∧ z.length ≤ 100
  | .int i => i.natAbs.log2 < 1920
  | .non => True
  | _ => False
theorem flat_w {prog : Program} {w : World} {h : Heap} {v : V} {u : Value} (r : RelV v u) (f : FlatS v) : RepW prog w h 0 u 2000 := by
  cases v with
  | str z =>
    obtain ⟨t, rfl⟩ := r
    have := StrLaws.reprText_len z f.1
    have f2 := f.2
    have hl : (reprText z).length ≤ 2000 := by omega
    exact .flat (ReprIs.str z t (Nat.le_trans hl (by decide))) hl
  | int i =>
    obtain ⟨t, rfl⟩ := r
    exact .flat (ReprIs.int t f) (Nat.le_trans (int_text_len_1921 f) (by decide))
  | non =>
    cases r
    exact .flat ReprIs.none (by decide +kernel)
  | _ => exact f.elim
theorem flats_w {prog : Program} {w : World} {h : Heap} : ∀ {ys : List V} {us : List Value}, Vals ys us → (∀ y ∈ ys, FlatS y) → ∀ u ∈ us, RepW prog w h 0 u 2000
  | [], _, r, _, u, hu => by
    cases r
    cases hu
  | y :: ys, _, r, hy, u, hu => by
    cases r with
    | cons r1 r2 =>
      rcases List.mem_cons.mp hu with rfl | hu
      · exact flat_w r1 (hy y (List.mem_cons_self ..))
      · exact flats_w r2 (fun z hz => hy z (List.mem_cons_of_mem _ hz)) u hu
/-- a tuple of such -/
def Tup1 (K : PySem.W.Frag) (H : Hp) (y : V) : Prop := ∃ (b : Addr) (zs : List V), y = .ref b ∧ SqT K H b zs ∧ zs.length ≤ 40 ∧ ∀ z ∈ zs, FlatS z
def Rep2 (K : PySem.W.Frag) (x : V) (H : Hp) : Prop := (∃ z : Str, x = .str z ∧ KdEx.Flat1 (.str z)) ∨ (∃ i : Int, x = .int i ∧ i.natAbs.log2 < 1920) ∨ x = .non ∨ ∃ (a : Addr) (ys : List V), x = .ref a ∧ SqT K H a ys ∧ ys.length ≤ 40 ∧ ∀ y ∈ ys, FlatS y ∨ Tup1 K H y
section
variable {X : Cx} {pins : List (Addr × Obj)} {σ : L2.St} {H : Hp} {s : Shared}
theorem parts_w (I : Inv X pins σ H s) : ∀ {ys : List V} {us : List Value}, Vals ys us → (∀ y ∈ ys, FlatS y ∨ Tup1 X.K H y) → ∀ u ∈ us, RepW X.prog X.w s.heap 2 u 80100
  | [], _, r, _, u, hu => by
    cases r
    cases hu
  | y :: ys, _, r, hy, u, hu => by
    cases r with
    | cons r1 r2 =>
      rcases List.mem_cons.mp hu with rfl | hu
      · rcases hy y (List.mem_cons_self ..) with f | ⟨b, zs, rfl, hb, hl, hz⟩
        · exact (flat_w r1 f).mono (by decide) (by decide)
        · cases r1
          obtain ⟨its, rv, ⟨o, ho, hcl, n, hd⟩, _⟩ := I.tuple hb
          have el : its.toArray.size = zs.length := by rw [List.size_toArray, ← rv.length]
          refine RepW.mono (RepW.tup (d := 0) (L := 2000) ho hcl hd (by simpa using flats_w rv hz)) (by decide) ?_
          show (2000 + 2) * its.toArray.size + 8 ≤ 80100
          rw [el]
          omega
      · exact parts_w I r2 (fun z hz => hy z (List.mem_cons_of_mem _ hz)) u hu
def rRep2 (K : PySem.W.Frag) : List V → Hp → VK → Prop := fun xs H Q => ∃ x, xs = [x] ∧ Rep2 K x H ∧ ∀ m : Str, Q (.str m) H
theorem cr_rep2 (hu : X.A.units + 64 < cLine) : CallR X (.builtin "repr") (rRep2 X.K) := by
  intro pins s σ H xs us Q I r h
  obtain ⟨x, rfl, hx, q⟩ := h
  obtain ⟨u, rfl, rx⟩ := vals1 r
  rcases hx with ⟨z, rfl, hz⟩ | ⟨i, rfl, hi⟩ | rfl | ⟨a, ys, rfl, ht, hl, hy⟩
  · obtain ⟨t, rfl⟩ := rx
    exact PySem.P.repr_of_str ⟨.str _, H, I.tok _, ⟨_, rfl⟩, q _⟩ (Nat.le_trans (KdEx.flat_len (v := .str z) hz) (by decide))
  · obtain ⟨t, rfl⟩ := rx
    exact PySem.P.repr_of_int hi ⟨.str _, H, I.tok _, ⟨_, rfl⟩, q _⟩
  · cases rx
    exact PySem.P.repr_of_none ⟨.str _, H, I.tok _, ⟨_, rfl⟩, q _⟩
  · cases rx
    obtain ⟨its, rv, ⟨o, ho, hcl, n, hd⟩, _⟩ := I.tuple ht
    have el : its.toArray.size = ys.length := by rw [List.size_toArray, ← rv.length]
    refine repr_w (d := 2) (L := 80100) (by omega) rfl ho hcl hd (by simpa using parts_w I rv hy) (Nat.le_trans (show (80100 + 2) * its.toArray.size + 8 ≤ 4000000 by rw [el]; omega) (by decide)) fun m u tk => ⟨.str m, H, I.tok _, ⟨u, rfl⟩, q m⟩
end
end KdRp

set_option maxHeartbeats 4000000
namespace KdXv
open PySem PySem.W PySem.Calls PyProof.Rows PySem.HandSPX
open Builtin Builtin.ObjectAttr
/-! ### C(k = v), C an own class over ValueError with an __init__ -/
section
variable {M : Model} {prog : Program} {w : World} {A : Around} {E : Value → Shared → Prop} {R : Result → Shared → Prop} {h : Heap} {g : Array GenState} {d : Drawn} {t : Nat} {os : OsState} {kw : List (Str × Value)}
variable {nm q : Str} {C N : Addr} {bs bm bmB : List Value} {hdct : Bool} {sn : List Str} {sub : List Value} {ab : Bool} {col : Option Bool} {dd : Option Addr} {k0 k1 k2 k3 k5 : Option Value} {B newId initId : String}
theorem check_kw (F : ExcBaseFacts B newId initId bmB) (hT : ∀ X : String, bm.contains (.type X) = bmB.contains (.type X)) {Q : Unit → Shared → Prop} (hC : h.get? C = some (excClassObj nm q C N bs bm hdct sn sub ab col dd k0 k1 k2 k3 k5 newId)) (hq : Q () ⟨h, g, d, t, os⟩) :
    wpAny M A (checkBuiltinCall newId ⟨[.ref C], kw⟩) Q E ⟨h, g, d, t, os⟩ := by
  have has : (Value.ref C :: bm).contains (.type B) = true := by rw [List.contains_cons, hT, F.hasB, Bool.or_true]
  have star := F.noStar
  simp only [checkBuiltinCall, F.newKind, F.newSplit, F.newRow]
  repeat (first | refine wpAny_loadPart_at hC ?_ | (refine wpAny_isSubtype_exc hC ?_; rw [has]) | refine wpAny_staticBase_exc hC ?_ | refine wpAny_madeBy_exc hC ?_ | simp only [bne_self_eq_false, Bool.false_eq_true, if_false] | wp_step)
  exact hq
theorem new_kw (F : ExcBaseFacts B newId initId bmB) (hT : ∀ X : String, bm.contains (.type X) = bmB.contains (.type X)) (hC : h.get? C = some (excClassObj nm q C N bs bm hdct sn sub ab col dd k0 k1 k2 k3 k5 newId))
    (hq : R (.ok (.ret (.ref (h.objs.size + 1)))) ⟨(h.push (W.kdv_tup [])).push (excO C h.objs.size), g, d, t, os⟩) : codeAny (model prog w) A (.builtin newId ⟨[.ref C], kw⟩) R ⟨h, g, d, t, os⟩ := by
  have ends := F.ends
  have c1 : (Value.ref C :: bm).contains (.type B) = true := by rw [List.contains_cons, hT, F.hasB, Bool.or_true]
  have c2 : (Value.ref C :: bm).contains (.type "AttributeError") = false := by rw [List.contains_cons, hT, F.noAttr]; rfl
  have c3 : (Value.ref C :: bm).contains (.type "NameError") = false := by rw [List.contains_cons, hT, F.noName]; rfl
  refine codeAny_builtinAt F.entry ?_
  unfold Builtin.«BaseException.__new__»
  refine _root_.PySem.wpAt_bind ?_
  show _root_.PySem.wpAt _ _ _ (stack >>= _) _ _ _
  refine _root_.PySem.wpAt_bind (_root_.PySem.wpAt_stack fun p below => _root_.PySem.wpAt_of_wpAny ?_)
  wp_walk
  refine _root_.PySem.wpAt_of_wpAny ?_
  rw [F.owner]
  repeat (first | with_reducible refine wpAny_madeHere_exc F.canon hC ?_ | with_reducible refine wpAny_loadPart_at hC ?_ | (with_reducible refine wpAny_isSubtype_exc hC ?_; first | rw [c1] | rw [c2] | rw [c3]) | wp_step)
  show R _ _
  rw [Heap.size_push]
  exact hq
theorem type_kw (F : ExcBaseFacts B newId initId bmB) (hT : ∀ X : String, bm.contains (.type X) = bmB.contains (.type X)) {fI : Addr} {Q : Fin → Shared → Prop} (hC : h.get? C = some (excClassObj nm q C N bs bm hdct sn sub ab col dd k0 k1 k2 k3 k5 newId))
    (hi : W.Looks (model prog w) h (typeLookup (.ref C) "__init__") (some (.ref fI))) (hb : ∀ self, W.Looks (model prog w) h (bindSpecial (.ref fI) self) (.ref fI, [self]))
    (hq : codeAny (model prog w) A (.call (.ref fI) ⟨[.ref (h.objs.size + 1)], kw⟩) (fun r s' => match r with | .ok (.ret v) => v = .none ∧ Q (.done (.ret (.ref (h.objs.size + 1)))) s' | .ok _ => False | .error e => E e s') ⟨(h.push (W.kdv_tup [])).push (excO C h.objs.size), g, d, t, os⟩) :
    wpAny (model prog w) A (Builtin.«type.__call__» ⟨[.ref C], kw⟩) Q E ⟨h, g, d, t, os⟩ := by
  repeat (first | with_reducible refine wpAny_loadPart_at hC ?_ | with_reducible refine wpAny_madeBy_exc hC ?_ | wp_step)
  refine codeAny_call_builtin_code (Code.quiet_builtin _ F.quiet) (check_kw F hT hC ?_)
  refine new_kw F hT hC ?_
  show wpAny _ _ _ _ _ _
  have keep : ∀ b o, h.get? b = some o → ((h.push (W.kdv_tup [])).push (excO C h.objs.size)).get? b = some o := fun b o e => Heap.get?_push_of_some _ (Heap.get?_push_of_some _ e)
  have hC1 := keep _ _ hC
  have here : ((h.push (W.kdv_tup [])).push (excO C h.objs.size)).get? (h.objs.size + 1) = some (excO C h.objs.size) := by heap_get
  have own : (Value.ref C :: bm).contains (.ref C) = true := by simp
  have i1 := hi.keeps keep
  have b1 := (hb (.ref (h.objs.size + 1))).keeps keep
  unfold isInstance
  repeat (first | with_reducible refine wpAny_loadPart_at here ?_ | (with_reducible refine wpAny_isSubtype_exc hC1 ?_; rw [own]) | wp_step)
  show wpAny _ _ (typeLookup (.ref C) _) _ _ _
  refine i1.at ?_
  refine wpAny_holding (wpAny_bind (b1.at ?_))
  refine wpAny_bind (wpAny_call (codeAny_mono hq fun r s' z => ?_))
  rcases r with e | (v | _ | _ | _) <;> first | exact z | exact z.elim | skip
  obtain ⟨rfl, z⟩ := z
  first
    | exact wpAny_pure (wpAny_pure z)
    | (wp_walk; exact z)
theorem call_kw (F : ExcBaseFacts B newId initId bmB) (hT : ∀ X : String, bm.contains (.type X) = bmB.contains (.type X)) {fI : Addr} (hC : h.get? C = some (excClassObj nm q C N bs bm hdct sn sub ab col dd k0 k1 k2 k3 k5 newId))
    (hi : W.Looks (model prog w) h (typeLookup (.ref C) "__init__") (some (.ref fI))) (hb : ∀ self, W.Looks (model prog w) h (bindSpecial (.ref fI) self) (.ref fI, [self]))
    (hq : codeAny (model prog w) (A.under (.builtin "type.__call__" ⟨[.ref C], kw⟩)) (.call (.ref fI) ⟨[.ref (h.objs.size + 1)], kw⟩) (W.InitBack (h.objs.size + 1) R) ⟨(h.push (W.kdv_tup [])).push (excO C h.objs.size), g, d, t, os⟩) :
    codeAny (model prog w) A (.call (.ref C) ⟨[], kw⟩) R ⟨h, g, d, t, os⟩ := by
  have f1 := tc_lookup
  have f2 := tc_bind (.ref C)
  have ty : (⟨h, g, d, t, os⟩ : Shared).TypeIs (.ref C) "type" := ⟨_, hC, rfl⟩
  refine codeAny_of_tree ?_
  show wpAny _ _ (callAny (.ref C) _) _ _ _
  repeat (any_goals (first | assumption | with_reducible refine wpAny_loadPart_at hC ?_ | wp_step))
  refine ⟨rfl, ?_⟩
  have chk : ∀ {Q : Unit → Shared → Prop} {E : Value → Shared → Prop} {A : Around}, Q () ⟨h, g, d, t, os⟩ → wpAny (model prog w) A (checkBuiltinCall "type.__call__" ⟨[.ref C], kw⟩) Q E ⟨h, g, d, t, os⟩ := fun {Q E A} hq' => by
    have f3 := tc_sub
    simp only [checkBuiltinCall, tc_kind, tc_split]
    repeat (any_goals (first | assumption | with_reducible refine wpAny_loadPart_at hC ?_ | with_reducible refine wpAny_onRaise ?_ | with_reducible refine wpAny_map ?_ | wp_step))
  refine codeAny_call_builtin_at (Code.quiet_builtin _ (by decide +kernel)) entry_typeCall (chk (type_kw F hT hC hi hb ?_))
  refine codeAny_mono hq fun r s' z => ?_
  rcases r with e | (v | _ | _ | _) <;> exact z
end
end KdXv
namespace KdXv
open PySem PySem.Spec PyProof.Rows L2 KdXc
/-! ### a refusal's field, as it is made -/
def tMkF (t : L2.St → Hp → XK → Prop) (C : Addr) (f : Str) : TE := fun σ H Q => t σ H fun cls d H2 => cls = .ref C ∧ ∃ (dd : Addr) (fs : List (Str × V)) (v : V), d = some dd ∧ H2 dd = some (.xd fs) ∧ fs.lookup f = some v ∧ Q v H2
theorem pe_mkf {X : Cx} {C : Addr} {e : Expr} {t : L2.St → Hp → XK → Prop} {n : Str} {pos : Pos} (hm : PMk X e t) (T : XfC X.K C) (hno : PySem.W.findIn X.K (.ref C) n = some none) (hb : attributeBase e n X.env (eval e X.env) = eval e X.env := by rfl) : PE X (.Attribute e n pos) (tMkF t C n) := by
  refine ⟨fun pins s σ H Q I h => ?_⟩
  refine attr_of hb (thn (hm pins s σ H _ I h) fun u s1 hu => ?_)
  obtain ⟨a, oe, vs, sI, H', cls, d, rfl, J, k, hne, ha, hz, hd, h1, na, os, ag, r, ec, dd, fs, v, ed, ea, l, q⟩ := hu
  subst ec ed
  have up : sI.heap.UpToSlots s1.heap := fun b o e _ => ⟨o.slots, k b o e⟩
  have J1 : Inv X pins σ H' s1 := J.landed (B := s1.heap) (fun b o e _ => k b o e) (fun _ _ e => e) up os ag
  have hx : ObjOk X.prog X.w H' s1.heap dd (.xd fs) := J1.hok dd _ ea
  obtain ⟨mA, hns, hr⟩ := hx
  obtain ⟨od, ho, hl⟩ := lookIn_ns hns
  obtain ⟨u, hu, ru⟩ := RelO.some_of (v := v) (o := mA n) (by rw [← l]; exact hr n)
  have JJ : PySem.W.InstAt s1.heap a oe C (some od) := ⟨ha, hz.1, by unfold PySem.W.notCls; rw [hd] <;> rfl, by rw [hz.2]; exact ho⟩
  exact HandSPX.exc_get J1.kIn JJ T.ga T.gg T.exC (PySem.W.findObj_own T.hdC hno rfl (by rw [hl, hu])) (handed_of ru) ⟨v, H', J1.tok _, ru, q⟩
/-- C(k = e) -/
def tMkK (C : Addr) (sp : Sp) (te : TE) : L2.St → Hp → XK → Prop := fun σ H Q => tCons te tNil σ H fun zs H1 => ∃ v, zs = [v] ∧ ∀ a, H1 a = none → sp [.ref a, v] (upd H1 a (exo a C none))
  (fun u H2 => u = .non ∧ ∃ (d : Addr) (fs : List (Str × V)), H2 a = some (exo a C (some d)) ∧ H2 d = some (exd d fs) ∧ H1 d = none ∧ Q (.ref C) (some d) (upd (del H2 a) d (.xd fs))) (fun _ _ _ => False)
theorem pmk_kw {X : Cx} {x kn : Str} {C fI : Addr} {k : Nat} {fd : FuncData} {ps : List Str} {sp : Sp} {e : Expr} {te : TE} {p pos kpos : Pos} (T : ErrC X.K C fI) (G : FnOk X.prog X.w X.K X.mg X.base CX0 k fI fd ps sp) (hr : Room (k + 1) X.A)
    (hb : ∀ (s : Shared) (a v : Value), X.K.In s.heap → BindsTo s fd ⟨[a], [(kn, v)]⟩ (ps.zip [a, v])) (hg : Gl X x) (hm : X.mg x = some (.ref C)) (he : PE X e te)
    (hall : (backToKw pos (keywordEach [⟨some kn, e, kpos⟩] X.env)).all (·.1.isSome) = true := by rfl) (hks : (backToKw pos (keywordEach [⟨some kn, e, kpos⟩] X.env)).filterMap (·.1) = [kn] := by rfl) (hdb : (x == ("__debug__" : Str)) = false := by decide)
    (hpl : ((backTo pos (starEach [] X.env)).any (·.1) || (backToKw pos (keywordEach [⟨some kn, e, kpos⟩] X.env)).any (·.1.isNone)) = false := by rfl) : PMk X (.Call (.Name x p) [] [⟨some kn, e, kpos⟩] pos) (tMkK C sp te) := by
  intro pins s σ H Q I h
  obtain ⟨nm, q, N, bs, bm, sn, sub, ab, col, dd, k0, k1, k2, k3, k5, hC, hbm⟩ := T.o.cls
  have hk : PK X [⟨some kn, e, kpos⟩] (tCons te tNil) := pk_cons he pk_nil
  refine wpAny_Call_Name_kw (ld_glob I hg hm ?_ hdb)
  refine PySem.W.callWith_KW0 (h₀ := X.base) I.ok.mod.kin T.o.kC hall ?_ hpl
  refine thn (hk.run pos pins s σ H _ I h) fun ws s1 hh => ?_
  obtain ⟨zs, H1, I1, rz, v, rfl, q1⟩ := hh
  refine ⟨I1.kIn, ?_⟩
  rw [hks]
  cases rz with
  | cons rv rr =>
    cases rr
    rename_i u
    obtain ⟨hp, g, dr, tk, os⟩ := s1
    have hsz : hp.objs.size ≤ hp.objs.size + 1 := Nat.le_succ _
    have hn : H1 (hp.objs.size + 1) = none := I1.hok.fresh hsz
    have want := q1 (hp.objs.size + 1) hn
    have kk : ∀ b o, hp.get? b = some o → ((hp.push (PySem.W.kdv_tup [])).push (PySem.HandSPX.excO C hp.objs.size)).get? b = some o := fun b o e => Heap.get?_push_of_some _ (Heap.get?_push_of_some _ e)
    have here : ((hp.push (PySem.W.kdv_tup [])).push (PySem.HandSPX.excO C hp.objs.size)).get? (hp.objs.size + 1) = some (PySem.HandSPX.excO C hp.objs.size) := by heap_get
    have J : Inv X pins σ (upd H1 (hp.objs.size + 1) (exo (hp.objs.size + 1) C none)) ⟨(hp.push (PySem.W.kdv_tup [])).push (PySem.HandSPX.excO C hp.objs.size), g, dr, tk, os⟩ :=
      I1.laid (t' := tk) (a := hp.objs.size + 1) (o := exo (hp.objs.size + 1) C none) (h' := (hp.push (PySem.W.kdv_tup [])).push (PySem.HandSPX.excO C hp.objs.size)) kk hsz (exo_ok here)
    have r2 : Vals [V.ref (hp.objs.size + 1), v] [Value.ref (hp.objs.size + 1), u] := .cons rfl (.cons rv .nil)
    have go := G.run _ X.stack _ _ ⟨[Value.ref (hp.objs.size + 1)], [(kn, u)]⟩ [Value.ref (hp.objs.size + 1), u] _ _ (fun _ _ _ => False) (hr.make C [] [(kn, u)]) (J.env0.make C [] [(kn, u)]) (hb _ _ _ J.kIn) r2 want
    refine wpAny_call (KdXv.call_kw F.excBase_ValueError (fun Y => PySem.HandSPX.refsVE_contains Y bm hbm) (I1.kIn _ _ hC) (PySem.W.looks_findIn I1.kIn T.iC) (fun self => PySem.W.bind_fn I1.kIn self T.tI) (codeAny_mono go fun r s' back => ?_))
    cases r with
    | error er => exact False.elim back
    | ok fl =>
      cases fl with
      | ret u2 =>
        obtain ⟨v2, H2, os2, bare2, un2, hok2, rv2, ev, d, fs, ea, ed, hd1, q2⟩ := back
        subst ev
        obtain ⟨h2, g2, d2, t2, os'⟩ := s'
        exact ⟨rv2, mk_end (raises_own T.o.exC T.o.tyC) I1 hsz kk un2 hok2 os2 bare2 ea ed hd1 q2⟩
      | next => exact False.elim back
      | brk => exact False.elim back
      | cont => exact False.elim back
/-- what tMkK asks of a refusal -/
theorem err_kw {K : PySem.W.Frag} {C : Addr} {fs : V → List (Str × V)} {Ok : V → Hp → Prop} {H1 : Hp} {v : V} {Q : XK} (ok : ∀ a, H1 a = none → Ok v (upd H1 a (exo a C none))) (k : ∀ d, H1 d = none → Q (.ref C) (some d) (upd H1 d (.xd (fs v)))) :
    ∃ y, [v] = [y] ∧ ∀ a, H1 a = none → spErr K C fs Ok [.ref a, y] (upd H1 a (exo a C none))
      (fun u H2 => u = .non ∧ ∃ (d : Addr) (gs : List (Str × V)), H2 a = some (exo a C (some d)) ∧ H2 d = some (exd d gs) ∧ H1 d = none ∧ Q (.ref C) (some d) (upd (del H2 a) d (.xd gs))) (fun _ _ _ => False) :=
  ⟨v, rfl, (err_ok (K := K) ok k).2⟩
end KdXv

namespace Kd
open PySem PySem.Spec PyProof.Rows L2 KdXc
section
variable {P : Program} {w : World} {K : PySem.W.Frag} {mg : Str → Option Value} {base : Heap} {f : Addr} {fd : FuncData}
/-! ### a refusal's __init__ -/
def dayF (v : V) : List (Str × V) := [("name", .str "DayError"), ("what", v)]
def noF (nm : Str) (v : V) : List (Str × V) := ("name", .str nm) :: dayF v
abbrev RepOk (K : PySem.W.Frag) (v : V) (H : Hp) : Prop := KdRp.Rep2 K v H
theorem what_of (nm : Str) (v : V) : (noF nm v).lookup ("what" : Str) = some v := by
  unfold noF dayF
  rw [List.lookup_cons, show (("what" : Str) == "name") = false by decide +kernel, List.lookup_cons, show (("what" : Str) == "name") = false by decide +kernel, List.lookup_cons, show (("what" : Str) == "what") = true by decide +kernel]
theorem sc_DayError : FnScope ["self", "what"] ["self", "what"] (defScope s_DayError_init) := ⟨rfl, rfl, rfl, by decide +kernel, rfl, by decide +kernel, by decide +kernel⟩
theorem ok_DayError {C fI : Addr} (F : FnP K "__init__" "DayError.__init__" s_DayError_init f fd) (T : ErrC K C fI) (z_ValueError : mg "ValueError" = none) (vV : PySem.W.findCls K (.type "ValueError") (.type "type") "__init__" = some (.val (.builtin "ValueError.__init__"))) (z_repr : mg "repr" = none) :
    FnOk P w K mg base CX0 1 f fd ["self", "what"] (spErr K C dayF (RepOk K)) := by
  refine F.ok sc_DayError (fun vs H Q E h => ?_) (fun cdv A outer s H vs Q E hr h => ?_)
  · obtain ⟨a, v, rfl, _⟩ := h
    rfl
  · obtain ⟨a, v, rfl, ha, hv, k⟩ := h
    have nd := sc_DayError.nd
    refine ⟨_, PSs.nox (pss_cons (ps_expr (pe_veinit rfl z_ValueError vV (pa_cons (pv 0) (pa_cons (pe_callB (KdRp.cr_rep2 hr.units) (by rfl) z_repr (by decide +kernel) (pa_cons (pv 1) pa_nil)) pa_nil))))
      (pss_cons (ps_ost (pv 0) (pv 1)) (pss_one (ps_ost (pv 0) pe_str)))), ?_⟩
    refine ⟨_, rfl, _, rfl, v, rfl, hv, fun m => ⟨a, C, [.str m], rfl, by show 1 ≤ 1000; decide, T.o, ha, ?_⟩⟩
    refine ⟨_, rfl, _, rfl, a, C, rfl, T.o, T.nW, .inl ⟨ha, fun d hd nda => ?_⟩⟩
    refine ⟨_, rfl, a, C, rfl, T.o, T.nN, .inr ⟨d, _, upd_same, by rw [upd_ne nda]; exact upd_same, by show 1 ≤ 900; decide, ?_⟩⟩
    refine k d _ hd nda (by rw [upd_ne nda.symm]; exact upd_same) upd_same fun b hba hbd => ?_
    rw [upd_ne hbd, upd_ne hba, upd_ne hbd]
theorem sc_NoPlan : FnScope ["self", "what"] ["self", "what"] (defScope s_NoPlan_init) := ⟨rfl, rfl, rfl, by decide +kernel, rfl, by decide +kernel, by decide +kernel⟩
theorem ok_NoPlan {C fI D fD : Addr} {fdD : FuncData} (F : FnP K "__init__" "NoPlan.__init__" s_NoPlan_init f fd) (T : ErrC K C fI) (GD : FnOk P w K mg base CX0 1 fD fdD ["self", "what"] (spErr K C dayF (RepOk K))) (cD : KdEx.ClsFn K D fD "__init__") (bD : Binds K fdD ["self", "what"] []) (gD : mg "DayError" = some (.ref D)) :
    FnOk P w K mg base CX0 2 f fd ["self", "what"] (spErr K C (noF "NoPlan") (RepOk K)) := by
  refine F.ok sc_NoPlan (fun vs H Q E h => ?_) (fun cdv A outer s H vs Q E hr h => ?_)
  · obtain ⟨a, v, rfl, _⟩ := h
    rfl
  · obtain ⟨a, v, rfl, ha, hv, k⟩ := h
    refine ⟨_, PSs.nox (pss_cons (ps_expr (KdEx.pe_clsfn rfl gD cD GD hr bD .nil pass0 (pa_cons (pv 0) (pa_cons (pv 1) pa_nil)))) (pss_one (ps_ost (pv 0) pe_str))), ?_⟩
    refine ⟨_, rfl, _, rfl, a, v, rfl, ha, hv, fun d H' hd nda e1 e2 rest => ?_⟩
    refine ⟨_, rfl, a, C, rfl, T.o, T.nN, .inr ⟨d, _, e1, e2, by show 2 ≤ 900; decide, ?_⟩⟩
    refine k d _ hd nda (by rw [upd_ne nda.symm]; exact e1) upd_same fun b hba hbd => ?_
    rw [upd_ne hbd]
    exact rest b hba hbd
theorem sc_NoRow : FnScope ["self", "what"] ["self", "what"] (defScope s_NoRow_init) := ⟨rfl, rfl, rfl, by decide +kernel, rfl, by decide +kernel, by decide +kernel⟩
theorem ok_NoRow {C fI D fD : Addr} {fdD : FuncData} (F : FnP K "__init__" "NoRow.__init__" s_NoRow_init f fd) (T : ErrC K C fI) (GD : FnOk P w K mg base CX0 1 fD fdD ["self", "what"] (spErr K C dayF (RepOk K))) (cD : KdEx.ClsFn K D fD "__init__") (bD : Binds K fdD ["self", "what"] []) (gD : mg "DayError" = some (.ref D)) :
    FnOk P w K mg base CX0 2 f fd ["self", "what"] (spErr K C (noF "NoRow") (RepOk K)) := by
  refine F.ok sc_NoRow (fun vs H Q E h => ?_) (fun cdv A outer s H vs Q E hr h => ?_)
  · obtain ⟨a, v, rfl, _⟩ := h
    rfl
  · obtain ⟨a, v, rfl, ha, hv, k⟩ := h
    refine ⟨_, PSs.nox (pss_cons (ps_expr (KdEx.pe_clsfn rfl gD cD GD hr bD .nil pass0 (pa_cons (pv 0) (pa_cons (pv 1) pa_nil)))) (pss_one (ps_ost (pv 0) pe_str))), ?_⟩
    refine ⟨_, rfl, _, rfl, a, v, rfl, ha, hv, fun d H' hd nda e1 e2 rest => ?_⟩
    refine ⟨_, rfl, a, C, rfl, T.o, T.nN, .inr ⟨d, _, e1, e2, by show 2 ≤ 900; decide, ?_⟩⟩
    refine k d _ hd nda (by rw [upd_ne nda.symm]; exact e1) upd_same fun b hba hbd => ?_
    rw [upd_ne hbd]
    exact rest b hba hbd
end
end Kd

namespace Kd
open PySem PySem.Spec PyProof.Rows L2 KdXc
/-- a def that lets nothing out keeps its promise among those that may -/
theorem fn_calm {P : Program} {w : World} {K : PySem.W.Frag} {mg : Str → Option Value} {base : Heap} {k : Nat} {f : Addr} {fd : FuncData} {ps : List Str} {sp : Sp} (G : FnOk P w K mg base CX0 k f fd ps sp) : FnOk P w K mg base (L2.CX P w) k f fd ps sp :=
  ⟨G.len, fun A outer s H args us vs Q E hr he hb hv hs => codeAny_mono (G.run A outer s H args us vs Q E hr he hb hv hs) fun r s' z => by
    cases r with
    | error e => exact False.elim z
    | ok fl => cases fl <;> exact z⟩
/-- two promises of one def -/
theorem fn_or {P : Program} {w : World} {K : PySem.W.Frag} {mg : Str → Option Value} {base : Heap} {CX : CXT} {k : Nat} {f : Addr} {fd : FuncData} {ps : List Str} {sp sp' : Sp} (G : FnOk P w K mg base CX k f fd ps sp) (G' : FnOk P w K mg base CX k f fd ps sp') : FnOk P w K mg base CX k f fd ps (fun vs H Q E => sp vs H Q E ∨ sp' vs H Q E) :=
  ⟨fun vs H Q E h => h.elim (G.len vs H Q E) (G'.len vs H Q E), fun A outer s H args us vs Q E hr he hb hv hs => hs.elim (fun z => G.run A outer s H args us vs Q E hr he hb hv z) (fun z => G'.run A outer s H args us vs Q E hr he hb hv z)⟩
section
variable {P : Program} {w : World} {K : PySem.W.Frag} {mg : Str → Option Value} {base : Heap} {f : Addr} {fd : FuncData}
theorem ff_cases (ds : List (Str × List (Str × Str))) (ms : List Str) : ffV ds ms = .non ∨ ∃ z : Str, ffV ds ms = .str z ∧ KdEx.Flat1 (.str z) := by
  have w1 : KdEx.Flat1 (.str "dimensions") := ⟨by decide +kernel, by decide +kernel⟩
  have w2 : KdEx.Flat1 (.str "attributes") := ⟨by decide +kernel, by decide +kernel⟩
  have w3 : KdEx.Flat1 (.str "measures") := ⟨by decide +kernel, by decide +kernel⟩
  unfold ffV
  by_cases c1 : (ds.isEmpty || fltB (ds.map (·.1)) 4) = true
  · rw [if_pos c1]
    exact .inr ⟨_, rfl, w1⟩
  · rw [if_neg c1]
    by_cases c2 : ds.any (fun d => fltB (d.2.map (·.1)) 5) = true
    · rw [if_pos c2]
      exact .inr ⟨_, rfl, w2⟩
    · rw [if_neg c2]
      by_cases c3 : fltB ms 4 = true
      · rw [if_pos c3]
        exact .inr ⟨_, rfl, w3⟩
      · rw [if_neg c3]
        exact .inl rfl
/-- a class of refusals, and how one is made -/
structure ErrM (P : Program) (w : World) (K : PySem.W.Frag) (mg : Str → Option Value) (base : Heap) (x : Str) (C fI : Addr) (fdI : FuncData) : Prop where
  T : ErrC K C fI
  G : FnOk P w K mg base CX0 2 fI fdI ["self", "what"] (spErr K C (noF x) (RepOk K))
  b : Binds K fdI ["self", "what"] []
  g : mg x = some (.ref C)
/-! ### Plan.__init__ of faulty lists -/
def spFail (K : PySem.W.Frag) (N : Addr) : Sp := fun vs H _ E => ∃ (x l m : Addr) (ds : List (Str × List (Str × Str))) (ms : List Str) (z : Str), vs = [.ref x, .ref l, .ref m] ∧ DimsAt K H l ds ∧ Txs K H m ms ∧ Szd ds ms ∧ ffV ds ms = .str z ∧
  ∀ H1 d, Same H H1 → H1 d = none → E (.ref N) (some d) (upd H1 d (.xd (noF "NoPlan" (.str z))))
theorem ok_fail {fF N fN : Addr} {fdF fdN : FuncData} {dvs : List V} (F : FunD K "__init__" "Plan.__init__" (defArgs s_Plan_init) (defBody s_Plan_init) (defScope s_Plan_init) dvs [] f fd) (GF : FnOk P w K mg base CX0 4 fF fdF ["dimensions", "measures"] (spFirst K)) (kF : PySem.W.keepIn K (.ref fF) = true) (bF : Binds K fdF ["dimensions", "measures"] []) (gF : mg "first_fault" = some (.ref fF))
    (M : ErrM P w K mg base "NoPlan" N fN fdN) : FnOk P w K mg base (L2.CX P w) 5 f fd ["self", "dimensions", "measures"] (spFail K N) := by
  refine F.ok sc_init (fun vs H Q E h => ?_) (fun cdv A outer s H vs Q E hr h => ?_)
  · obtain ⟨x, l, m, ds, ms, z, rfl, _⟩ := h
    rfl
  · obtain ⟨x, l, m, ds, ms, z, rfl, hl, hm, sz, ev, k⟩ := h
    have nd := sc_init.nd
    refine ⟨_, pss_cons (ps_set (i := 3) nd rfl (Or.inl rfl) (pe_call GF hr rfl gF kF bF .nil pass0 (pa_cons (pv 1) (pa_cons (pv 2) pa_nil))))
      (pss_cons (ps_if (pt_cmp (pc_notN (pv 3))) (pss_one (ps_raise rfl (takes_of rfl rfl rfl rfl) (pmk_err M.T M.G (hr.mono (by decide)) M.b rfl M.g (pv 3)))) pss_nil)
      (pss_cons ps_never (pss_one ps_never))), ?_⟩
    refine ⟨_, rfl, _, rfl, l, m, ds, ms, rfl, hl, hm, sz, fun H1 s1 => ?_⟩
    rw [ev]
    refine ⟨_, rfl, _, rfl, iteT ?_⟩
    refine ⟨_, rfl, err_ok (fun a ha => .inl ⟨z, rfl, ?_⟩) fun d hd => k H1 d s1 hd⟩
    rcases ff_cases ds ms with e | ⟨y, e, hy⟩
    · rw [ev] at e
      cases e
    · rw [ev] at e
      cases e
      exact hy
def spInitX (K : PySem.W.Frag) (C N : Addr) : Sp := fun vs H Q E => spInit K C vs H Q E ∨ spFail K N vs H Q E
theorem ok_initX {C N : Addr} (G : FnOk P w K mg base CX0 5 f fd ["self", "dimensions", "measures"] (spInit K C)) (G' : FnOk P w K mg base (L2.CX P w) 5 f fd ["self", "dimensions", "measures"] (spFail K N)) : FnOk P w K mg base (L2.CX P w) 5 f fd ["self", "dimensions", "measures"] (spInitX K C N) := fn_or (fn_calm G) G'
end
end Kd

namespace Kd
open PySem PySem.Spec PyProof.Rows L2
/-! ### slices by whole numbers that are not below 0 -/
theorem cutTo (xs : List V) (j : Nat) : cutV xs none (some (j : Int)) = xs.take j := by
  unfold cutV
  rw [HT.sIx_none, HT.sIx_nat, List.drop_zero, Nat.sub_zero]
  by_cases h : j ≤ xs.length
  · rw [Nat.min_eq_left h]
  · rw [Nat.min_eq_right (by omega), List.take_of_length_le (by omega), List.take_of_length_le (by omega)]
theorem cutFrom (xs : List V) (i : Nat) : cutV xs (some (i : Int)) none = xs.drop i := by
  unfold cutV
  rw [HT.sIx_none, HT.sIx_nat]
  by_cases h : i ≤ xs.length
  · rw [Nat.min_eq_left h, List.take_of_length_le (by rw [List.length_drop]; omega)]
  · rw [Nat.min_eq_right (by omega), List.drop_of_length_le (by omega), List.drop_of_length_le (by omega), List.take_nil]
theorem cutMid (xs : List V) (i j : Nat) : cutV xs (some (i : Int)) (some (j : Int)) = (xs.drop i).take (j - i) := by
  unfold cutV
  rw [HT.sIx_nat, HT.sIx_nat]
  by_cases h : i ≤ xs.length
  · rw [Nat.min_eq_left h]
    by_cases h2 : j ≤ xs.length
    · rw [Nat.min_eq_left h2]
    · rw [Nat.min_eq_right (by omega), List.take_of_length_le (by rw [List.length_drop]; omega), List.take_of_length_le (by rw [List.length_drop]; omega)]
  · rw [List.drop_of_length_le (show xs.length ≤ min i xs.length by omega), List.drop_of_length_le (show xs.length ≤ i by omega), List.take_nil, List.take_nil]
/-! ### pairs -/
theorem paired_app2 {α β : Type} {R : α → β → Prop} : ∀ {a c : List α} {b d : List β}, Paired R a b → Paired R c d → Paired R (a ++ c) (b ++ d)
  | _, _, _, _, .nil, h => h
  | _, _, _, _, .cons x t, h => .cons x (paired_app2 t h)
theorem paired_rev2 {α β : Type} {R : α → β → Prop} : ∀ {a : List α} {b : List β}, Paired R a b → Paired R a.reverse b.reverse
  | _, _, .nil => .nil
  | _, _, .cons x t => by
    rw [List.reverse_cons, List.reverse_cons]
    exact paired_app2 (paired_rev2 t) (.cons x .nil)
theorem paired_take2 {α β : Type} {R : α → β → Prop} : ∀ (n : Nat) {a : List α} {b : List β}, Paired R a b → Paired R (a.take n) (b.take n)
  | 0, _, _, _ => by rw [List.take_zero, List.take_zero]; exact .nil
  | n + 1, _, _, .nil => .nil
  | n + 1, _, _, .cons h t => .cons h (paired_take2 n t)
theorem paired_drop2 {α β : Type} {R : α → β → Prop} : ∀ (n : Nat) {a : List α} {b : List β}, Paired R a b → Paired R (a.drop n) (b.drop n)
  | 0, _, _, h => h
  | n + 1, _, _, .nil => .nil
  | n + 1, _, _, .cons h t => paired_drop2 n t
/-! ### a list with one out, or two turned about -/
def trn {α : Type} (b : Bool) (at_ : Nat) (xs : List α) : List α := if b = true then xs.take at_ ++ xs.drop (at_ + 1) else xs.take at_ ++ ((xs.drop at_).take 2).reverse ++ xs.drop (at_ + 2)
theorem trn_mem {α : Type} {b : Bool} {at_ : Nat} {xs : List α} {x : α} (h : x ∈ trn b at_ xs) : x ∈ xs := by
  unfold trn at h
  split at h
  · rcases List.mem_append.mp h with h | h
    · exact List.mem_of_mem_take h
    · exact List.mem_of_mem_drop h
  · rcases List.mem_append.mp h with h | h
    · rcases List.mem_append.mp h with h | h
      · exact List.mem_of_mem_take h
      · exact List.mem_of_mem_drop (List.mem_of_mem_take (List.mem_reverse.mp h))
    · exact List.mem_of_mem_drop h
theorem trn_len {α : Type} (b : Bool) (at_ : Nat) (xs : List α) : (trn b at_ xs).length ≤ xs.length := by
  unfold trn
  split
  · simp only [List.length_append, List.length_take, List.length_drop]
    omega
  · simp only [List.length_append, List.length_take, List.length_drop, List.length_reverse]
    omega
theorem trn_paired {α β : Type} {R : α → β → Prop} {b : Bool} {at_ : Nat} {xs : List α} {ys : List β} (h : Paired R xs ys) : Paired R (trn b at_ xs) (trn b at_ ys) := by
  unfold trn
  split
  · exact paired_app2 (paired_take2 _ h) (paired_drop2 _ h)
  · exact paired_app2 (paired_app2 (paired_take2 _ h) (paired_rev2 (paired_take2 _ (paired_drop2 _ h)))) (paired_drop2 _ h)
theorem trn_map {α β : Type} (f : α → β) (b : Bool) (at_ : Nat) (xs : List α) : trn b at_ (xs.map f) = (trn b at_ xs).map f := by
  unfold trn
  split <;> simp [List.map_take, List.map_drop]
/-- a text and a text -/
def rAddS : R2 := fun x y H Q => ∃ a b, x = .str a ∧ y = .str b ∧ a.length + b.length ≤ sizeLine ∧ Q (.str (a ++ b)) H
/-- len(x) -/
def rLenQ (K : PySem.W.Frag) : List V → Hp → VK → Prop := fun xs H Q => ∃ p ys, xs = [.ref p] ∧ (SqL K H p ys ∨ SqT K H p ys) ∧ Q (.int (ys.length : Nat)) H
/-- list(x): a new one -/
def rListOf (K : PySem.W.Frag) : List V → Hp → VK → Prop := fun xs H Q => ∃ p ys, xs = [.ref p] ∧ (SqL K H p ys ∨ SqT K H p ys) ∧ ∀ l, H l = none → Q (.ref l) (upd H l (.lst ys))
/-- a new object stands, what was there stands too -/
theorem seqL_new {K : PySem.W.Frag} {H : Hp} {a p : Addr} {o : HO} {xs : List V} (h : SqL K H a xs) (np : H p = none) : SqL K (upd H p o) a xs := Same.seq (same_new np) h
theorem seqT_new {K : PySem.W.Frag} {H : Hp} {a p : Addr} {o : HO} {xs : List V} (h : SqT K H a xs) (np : H p = none) : SqT K (upd H p o) a xs := Same.seqT (same_new np) h
end Kd

namespace Kd
open PySem PySem.Spec PyProof.Rows L2
section
variable {X : Cx}
/-! ### xs.count(z) of texts -/
def eqs (k : Str) (v : Value) : Bool := match v with
  | .str y _ => y == k
  | _ => false
theorem eqs_gives {k : Str} {t : Tok} : ∀ {ys : List Str} {us : List Value}, Vals (ys.map V.str) us → ∀ u ∈ us, MeetsSeq.EqGives u (.str k t) (eqs k u)
  | [], _, r, u, h => by
    cases r
    cases h
  | y :: ys, _, r, u, h => by
    cases r with
    | cons r1 r2 =>
      obtain ⟨t1, rfl⟩ := r1
      rcases List.mem_cons.mp h with e | e
      · rw [e]
        exact eqGives_str y k t1 t
      · exact eqs_gives r2 u e
theorem eqs_count {k : Str} : ∀ {ys : List Str} {us : List Value}, Vals (ys.map V.str) us → us.countP (eqs k) = ys.count k
  | [], _, r => by
    cases r
    rfl
  | y :: ys, _, r => by
    cases r with
    | cons r1 r2 =>
      obtain ⟨t1, rfl⟩ := r1
      have ih := eqs_count (k := k) r2
      rw [List.countP_cons, List.count_cons, ih] <;> rfl
def rCntS (K : PySem.W.Frag) : V → List V → Hp → VK → Prop := fun x xs H Q => ∃ (p : Addr) (ys : List Str) (k : Str), x = .ref p ∧ xs = [.str k] ∧ SqL K H p (ys.map V.str) ∧ Q (.int (ys.count k : Nat)) H
theorem mt_lcountS : MtR X "list.count" (rCntS X.K) := by
  intro pins s σ H x xs v us Q I rx rxs h
  obtain ⟨p, ys, k, rfl, rfl, hs, q⟩ := h
  cases rx
  obtain ⟨u, rfl, ru⟩ := rxs.one
  obtain ⟨t, rfl⟩ := ru
  obtain ⟨its, rv, ⟨⟨cls, dd, data, sl⟩, n, ho, hc, hdn, hd⟩, hlen⟩ := I.list hs
  simp only at hc hd
  subst hc hd
  refine call_meets PySem.F.slot_list_count ⟨_, ho, rfl⟩ PySem.F.entry_list_count (PySem.F.args_list_count_2 _ _) (SeqAt.list_countAt p its.toArray n dd sl (.str k t) (eqs k)) ⟨ho, fun y hy => (eqs_gives rv y (by simpa using hy)).at _ _, ?_⟩
  have ec : its.toArray.toList.countP (eqs k) = ys.count k := eqs_count rv
  refine ⟨.int (ys.count k : Nat), H, I.tok _, ⟨s.toks, ?_⟩, q⟩
  rw [ec]
end
/-- one sign in a text, and not -/
def rInSgn : R2 := fun x y H Q => ∃ (c : Nat) (z : Str), x = .str ⟨#[c]⟩ ∧ y = .str z ∧ Q (.bl (decide (c ∈ z.cps.toList))) H
def rNoSgn : R2 := fun x y H Q => ∃ (c : Nat) (z : Str), x = .str ⟨#[c]⟩ ∧ y = .str z ∧ Q (.bl (!decide (c ∈ z.cps.toList))) H
/-! ### lists of texts as data -/
theorem eqv_strs : ∀ as bs : List Str, PyData.eqvAll (as.map PyData.str) (bs.map PyData.str) = decide (as = bs)
  | [], [] => by rfl
  | [], _ :: _ => by
    rw [decide_eq_false (by simp)]
    rfl
  | _ :: _, [] => by
    rw [decide_eq_false (by simp)]
    rfl
  | a :: as, b :: bs => by
    show (PyData.eqv (.str a) (.str b) && PyData.eqvAll (as.map PyData.str) (bs.map PyData.str)) = _
    rw [eqv_strs as bs]
    show ((a == b) && _) = _
    by_cases h : a = b
    · by_cases h2 : as = bs
      · rw [h, h2]
        simp
      · simp [h, h2]
    · simp [h]
theorem count_one : ∀ xs : List Str, (∀ z ∈ xs, xs.count z = 1) ↔ xs.Nodup
  | [] => by simp
  | a :: xs => by
    have ih := count_one xs
    rw [List.nodup_cons, ← ih]
    constructor
    · intro h
      have ha : a ∉ xs := by
        have h1 := h a (List.mem_cons_self ..)
        rw [List.count_cons_self] at h1
        intro hm
        have := List.count_pos_iff.mpr hm
        omega
      refine ⟨ha, fun z hz => ?_⟩
      have h1 := h z (List.mem_cons_of_mem _ hz)
      rw [List.count_cons_of_ne (fun e => ha (by rw [e]; exact hz))] at h1
      exact h1
    · rintro ⟨ha, h⟩ z hz
      rcases List.mem_cons.mp hz with rfl | hz
      · rw [List.count_cons_self, List.count_eq_zero.mpr ha]
      · rw [List.count_cons_of_ne (fun e => ha (by rw [e]; exact hz))]
        exact h z hz
theorem dup_lt {xs : List Str} (h : ¬ xs.Nodup) : KdS.dcn xs xs.length < xs.length := by
  have key : ∀ {ys : List Str}, ¬ ys.Nodup → ∃ (j i : Nat) (hi : i < ys.length) (hj : j < i), ys[j]'(by omega) = ys[i] := by
    intro ys
    induction ys with
    | nil => exact fun h => absurd List.nodup_nil h
    | cons y ys ih =>
      intro h
      by_cases hy : y ∈ ys
      · obtain ⟨i, hi, e⟩ := List.mem_iff_getElem.mp hy
        exact ⟨0, i + 1, by simpa using hi, by omega, by simpa using e.symm⟩
      · obtain ⟨j, i, hi, hj, e⟩ := ih fun hn => h (List.nodup_cons.mpr ⟨hy, hn⟩)
        exact ⟨j + 1, i + 1, by simpa using hi, by omega, by simpa using e⟩
  obtain ⟨j, i, hi, hj, e⟩ := key h
  exact KdS.dcn_dup hj hi e _ hi
end Kd

namespace Kd
open PySem PySem.Spec PyProof.Rows L2 KdXc
/-- a def of the module, its promise and how it is called -/
structure Fun (P : Program) (w : World) (K : PySem.W.Frag) (mg : Str → Option Value) (base : Heap) (x : Str) (n : Nat) (ps : List Str) (sp : Sp) (f : Addr) (fd : FuncData) : Prop where
  G : FnOk P w K mg base CX0 n f fd ps sp
  k : PySem.W.keepIn K (.ref f) = true
  b : Binds K fd ps []
  g : mg x = some (.ref f)
theorem st_eq {t : L2.St → Hp → Prop} {σ σ' : L2.St} {H : Hp} (e : σ = σ') (h : t σ' H) : t σ H := by
  rw [e]
  exact h
theorem set_st {i : Nat} {σ σ' : L2.St} {K : L2.St → Hp → Prop} {v : V} {H : Hp} (e : σ.set i (some v) = σ') (h : K σ' H) : (fun x H1 => gName i x σ H1 K) v H := by
  show K (σ.set i (some v)) H
  rw [e]
  exact h
theorem intEq {x y : Int} (c : decide (V.int x = V.int y) = true) : x = y := V.int.inj (of_decide_eq_true c)
theorem intNe {x y : Int} (h : x ≠ y) : ¬ decide (V.int x = V.int y) = true := fun c => h (intEq c)
theorem iteF0 {c : Prop} [Decidable c] {A B : Prop} (h : ¬ c) (b : B) : if c then A else B := by
  rw [if_neg h]
  exact b
theorem iteT0 {c : Prop} [Decidable c] {A B : Prop} (h : c) (b : A) : if c then A else B := by
  rw [if_pos h]
  exact b
section
variable {P : Program} {w : World} {K : PySem.W.Frag} {mg : Str → Option Value} {base : Heap} {f : Addr} {fd : FuncData}
theorem seqL_ct {H : Hp} {a g l : Addr} {xs : List V} (h : SqL K (ct a g H) l xs) : SqL K H l xs := Same.seq ct_sub h
theorem ct_back {a g p : Addr} {H H' : Hp} (s : Same (ct a g H) (ct a g H')) (h : ct a g H' p = none) : ct a g H p = none := by
  cases e : ct a g H p with
  | none => rfl
  | some o =>
    rw [s _ _ e] at h
    cases h
/-- a new object beside the tray -/
structure NewAt (H H3 : Hp) (p : Addr) (o : HO) (a g : Addr) (n : Nat) : Prop where
  f : H3 p = some o
  T : Tray H3 a g n
  s : Same H H3
  c : Same (ct a g H) (ct a g H3)
  na : p ≠ a
  ng : p ≠ g
theorem newAt {H H3 : Hp} {p : Addr} {o : HO} {a g : Addr} {n : Nat} (T : Tray H a g n) (np : H p = none) (e : upd H p o = H3) : NewAt H H3 p o a g n := by
  subst e
  exact ⟨upd_same, T.new np, same_new np, ctnew np, (T.na np).1, (T.na np).2⟩
theorem NewAt.fc {H H3 : Hp} {p : Addr} {o : HO} {a g : Addr} {n : Nat} (h : NewAt H H3 p o a g n) : ct a g H3 p = some o := ct_of h.f h.na h.ng
/-- a new object, no tray asked -/
structure NewO (H H3 : Hp) (p : Addr) (o : HO) : Prop where
  f : H3 p = some o
  s : Same H H3
theorem newO {H H3 : Hp} {p : Addr} {o : HO} (np : H p = none) (e : upd H p o = H3) : NewO H H3 p o := by
  subst e
  exact ⟨upd_same, same_new np⟩
abbrev InitD (K : PySem.W.Frag) (e f : Addr) (fd : FuncData) : Prop := FunD K "__init__" "Plan.__init__" (defArgs s_Plan_init) (defBody s_Plan_init) (defScope s_Plan_init) [.ref e] [] f fd
theorem init_b2 {e : Addr} (F : InitD K e f fd) : ∃ ds, Vals [V.ref e] ds ∧ Binds K fd ["self", "dimensions", "measures"] ds :=
  F.binds1 (ps := ["self", "dimensions", "measures"]) 2 0 (by simp) rfl fun T kV doc pm an cdv ct us its h1 h2 => match us, its, h1, h2 with
    | [_, _], [_], _, _ => ⟨_, rfl, rfl⟩
theorem init_b3 {e : Addr} (F : InitD K e f fd) : ∃ ds, Vals [] ds ∧ Binds K fd ["self", "dimensions", "measures"] ds :=
  F.binds1 (ps := ["self", "dimensions", "measures"]) 3 1 (by simp) rfl fun T kV doc pm an cdv ct us its h1 h2 => match us, its, h1, h2 with
    | [_, _, _], [_], _, _ => ⟨_, rfl, rfl⟩
/-- the class Plan, how it is called, and how it refuses -/
structure PlanX (P : Program) (w : World) (K : PySem.W.Frag) (mg : Str → Option Value) (base : Heap) (C e fI : Addr) (fdI : FuncData) (N fN : Addr) (fdN : FuncData) : Prop where
  T : PlTxt K C
  M : Mk K C fI
  GI : FnOk P w K mg base CX0 5 fI fdI ["self", "dimensions", "measures"] (spInit K C)
  GX : FnOk P w K mg base (L2.CX P w) 5 fI fdI ["self", "dimensions", "measures"] (spInitX K C N)
  gC : mg "Plan" = some (.ref C)
  I : InitD K e fI fdI
  E : ErrM P w K mg base "NoPlan" N fN fdN
/-- a Plan that is new behind H -/
structure PlanN (K : PySem.W.Frag) (C : Addr) (H H' : Hp) (x : Addr) (ds : List Dm) (ms : List Str) : Prop where
  ex : ∃ dx a b xs, H' x = some (.ins C dx (plF a b)) ∧ H' a = some (.lst xs) ∧ Paired (DimAt K H') xs ds ∧ H' b = some (.lst (ms.map V.str)) ∧ H x = none ∧ H a = none ∧ H b = none
  s : Same H H'
theorem PlanN.ct {C x a g : Addr} {H H' : Hp} {n : Nat} {ds : List Dm} {ms : List Str} (h : PlanN K C H H' x ds ms) (T : Tray H a g n) : PlanAt K C (ct a g H') x ds ms := by
  obtain ⟨dx, pa, pb, xs, e1, e2, e3, e4, n1, n2, n3⟩ := h.ex
  exact ⟨dx, pa, pb, xs, ct_of e1 (T.na n1).1 (T.na n1).2, ct_of e2 (T.na n2).1 (T.na n2).2, PySem.Paired.mono (fun _ _ => dim_ct (T.same h.s)) e3, ct_of e4 (T.na n3).1 (T.na n3).2⟩
theorem init_good {C hp bp x dx : Addr} {H5 : Hp} {ds : List Dm} {ms : List Str} {B : Hp → Prop} {E : XK} (hd : DimsAt K H5 hp ds) (hm : Txs K H5 bp ms) (sz : Szd ds ms) (ff : ffV ds ms = .non) (nx : H5 x = none) (ndx : H5 dx = none) (nex : dx ≠ x) (k : ∀ H7, PlanN K C H5 H7 x ds ms → B H7) :
    spInit K C [.ref x, .ref hp, .ref bp] (upd (upd H5 dx (.own x)) x (.ins C dx [])) (fun v H2 => v = .non ∧ B H2) E := by
  have sx : Same H5 (upd (upd H5 dx (.own x)) x (.ins C dx [])) := fun b o q => by rw [upd_ne (ne_of_none q nx), upd_ne (ne_of_none q ndx)]; exact q
  refine ⟨x, dx, hp, bp, ds, ms, rfl, upd_same, DimsAt.same sx hd, Same.txs sx hm, sz, ff, fun H7 pa pb px npa npb e1 e2 e3 e4 s7 => ⟨rfl, ?_⟩⟩
  have s57 : Same H5 H7 := fun b o e => cd_sub _ _ (s7 b o (cd_of (sx b o e) (ne_of_none e nx)))
  exact k H7 ⟨⟨dx, pa, pb, px, e1, e2, e3, e4, nx, sx.free npa, sx.free npb⟩, s57⟩
/-- .. and of faulty ones -/
theorem init_bad {C N hp bp : Addr} {H5 : Hp} {ds : List Dm} {ms : List Str} {Q : VK} {E : XK} {z : Str} (hd : DimsAt K H5 hp ds) (hm : Txs K H5 bp ms) (sz : Szd ds ms) (ff : ffV ds ms = .str z) (k : ∀ d H7, Same H5 H7 → H7 d = some (.xd (noF "NoPlan" (.str z))) → H5 d = none → E (.ref N) (some d) H7)
    {x dx : Addr} (nx : H5 x = none) (ndx : H5 dx = none) (nex : dx ≠ x) : spFail K N [.ref x, .ref hp, .ref bp] (upd (upd H5 dx (.own x)) x (.ins C dx [])) Q E := by
  have sx : Same H5 (upd (upd H5 dx (.own x)) x (.ins C dx [])) := fun b o q => by rw [upd_ne (ne_of_none q nx), upd_ne (ne_of_none q ndx)]; exact q
  exact ⟨x, hp, bp, ds, ms, z, rfl, DimsAt.same sx hd, Same.txs sx hm, sz, ff, fun H1 d s1 hd => k d _ ((sx.trans s1).trans (same_new hd)) upd_same ((sx.trans s1).free hd)⟩
end
end Kd

namespace Kd
open PySem PySem.Spec PyProof.Rows L2
/-! ### kinds -/
/-- a value as the laws draw it -/
inductive Fv where
  | i (z : Int)
  | s (z : Str)
  deriving DecidableEq
def Fv.v : Fv → V
  | .i z => .int z
  | .s z => .str z
def Fv.d : Fv → PyData
  | .i z => .int z
  | .s z => .str z
theorem Fv.v_inj {a b : Fv} (h : a.v = b.v) : a = b := by
  cases a <;> cases b <;> simp [Fv.v] at h <;> rw [h]
theorem Fv.scal (a b : Fv) : L2.scal a.v b.v = true := by
  cases a <;> cases b <;> rfl
theorem Fv.ne (a b : Fv) : (!decide (a.v = b.v)) = !decide (a = b) := by
  by_cases h : a = b
  · rw [h]
    simp
  · have h2 : ¬ a.v = b.v := fun q => h (Fv.v_inj q)
    rw [decide_eq_false h, decide_eq_false h2]
theorem Fv.flat (a : Fv) : flatV a.v = true := by cases a <;> rfl
abbrev Kind := Int × List Fv
section
variable {P : Program} {w : World} {K : PySem.W.Frag} {mg : Str → Option Value} {base : Heap} {f : Addr} {fd : FuncData}
theorem Fv.dp {H : Hp} (a : Fv) : Dp K H a.v a.d := by
  cases a
  · exact .int _
  · exact .str _
def KindAt (K : PySem.W.Frag) (H : Hp) (x : V) (k : Kind) : Prop := ∃ p q, x = .ref p ∧ SqT K H p [.int k.1, .ref q] ∧ SqT K H q (k.2.map Fv.v)
theorem KindAt.same {H H' : Hp} {x : V} {k : Kind} (e : Same H H') : KindAt K H x k → KindAt K H' x k := fun ⟨p, q, h1, h2, h3⟩ => ⟨p, q, h1, Same.seqT e h2, Same.seqT e h3⟩
def KindsAt (K : PySem.W.Frag) (H : Hp) (l : Addr) (ks : List Kind) : Prop := ∃ xs, SqL K H l xs ∧ Paired (KindAt K H) xs ks
theorem KindsAt.same {H H' : Hp} {l : Addr} {ks : List Kind} (e : Same H H') : KindsAt K H l ks → KindsAt K H' l ks := fun ⟨xs, h1, h2⟩ => ⟨xs, e.seq h1, PySem.Paired.mono (fun _ _ => KindAt.same e) h2⟩
theorem map_at {α β : Type} {g : α → β} {l : List α} {i : Nat} (h : i < l.length) : (l.map g)[i]? = some (g l[i]) := by rw [List.getElem?_map, List.getElem?_eq_getElem h]; rfl
/-! ### attributes_of -/
def spAttr (K : PySem.W.Frag) (C : Addr) : Sp := fun vs H Q _ => ∃ (x : Addr) (n : Str) (ds : List (Str × List (Str × Str))) (ms : List Str), vs = [.ref x, .str n] ∧ PlanAt K C H x ds ms ∧
  (∀ d q H', ds.find? (fun d => decide (d.1 = n)) = some d → AttsAt K H' q d.2 → Same H H' → Q (.ref q) H') ∧ (ds.find? (fun d => decide (d.1 = n)) = none → ∀ H', Same H H' → Q .non H')
theorem sc_attr : FnScope ["plan", "dimension", "name", "attributes"] ["plan", "dimension"] (defScope s_attributes_of) := ⟨rfl, rfl, rfl, by decide +kernel, rfl, by decide +kernel, by decide +kernel⟩
theorem ok_attr {C fd1 : Addr} {fdd : FuncData} (F : FnP K "attributes_of" "attributes_of" s_attributes_of f fd) (T : PlTxt K C) (GD : FnOk P w K mg base CX0 1 fd1 fdd ["self"] (spDims K C)) (bD : Binds K fdd ["self"] []) (mD : Meth K C "dimensions" fd1) : FnOk P w K mg base CX0 2 f fd ["plan", "dimension"] (spAttr K C) := by
  refine F.ok sc_attr (fun vs H Q E h => ?_) (fun cdv A outer s H vs Q E hr h => ?_)
  · obtain ⟨x, n, ds, ms, rfl, _⟩ := h
    rfl
  · obtain ⟨x, n, ds, ms, rfl, hp, k1, k2⟩ := h
    have nd := sc_attr.nd
    obtain ⟨dx, pa, pb, px, e1, e2, e3, e4⟩ := id hp.ex
    refine ⟨_, PSs.nox (pss_cons (ps_for PassesOwn.never rfl (pi_list (pe_meth0 (pv 0) T.cl mD GD hr bD .nil pass0)) (pg_tup rfl (pgs_cons (pg_name (i := 2) nd rfl (Or.inl rfl)) (pgs_cons (pg_name (i := 3) nd rfl (Or.inl rfl)) pgs_nil)))
        (pss_one (ps_if (pt_cmpR op_eq (pv 2) (pv 1) (nomark _)) (pss_one (ps_ret (pv 3))) pss_nil)))
      (pss_one (ps_ret pe_non))), ?_⟩
    refine ⟨_, rfl, x, dx, _, rfl, e1, pl_no0 (by decide +kernel) (by decide +kernel), x, ds, ms, rfl, hp, fun l xs nl pl => ?_⟩
    have s1 : Same H (upd H l (.lst xs)) := same_new nl
    refine ⟨l, rfl, ⟨_, SqL.of upd_same⟩, for_list (K := K) (a := l) (xs := xs) (fun i σ H2 => ∃ u v, σ = [some (.ref x), some (.str n), u, v] ∧ Same (upd H l (.lst xs)) H2 ∧ (ds.take i).find? (fun d => decide (d.1 = n)) = none) ⟨_, _, rfl, Same.refl _, rfl⟩ (fun i σ H2 _ ⟨_, _, _, s2, _⟩ => SqL.of (s2 _ _ upd_same)) ?_ ?_⟩
    · rintro i y σ H2 hi ⟨u, v, rfl, s2, na⟩
      obtain ⟨d, hd, p, q, rfl, h1, h2⟩ := paired_at pl hi
      have s02 := s1.trans s2
      refine ⟨p, _, rfl, Same.seqT s02 h1, rfl, _, _, rfl, _, _, rfl, rfl, ?_⟩
      refine ⟨_, rfl, _, rfl, rfl, _, rfl, ?_⟩
      obtain ⟨g1, g2⟩ := List.getElem?_eq_some_iff.mp hd
      by_cases c : d.1 = n
      · rw [decide_eq_true (congrArg V.str c)]
        refine iteT ⟨_, rfl, k1 d q H2 ?_ (h2.same s02) s02⟩
        rw [← List.take_append_drop i ds, List.find?_append, na, List.drop_eq_getElem_cons g1, g2, List.find?_cons_of_pos (by simp [c])]
        rfl
      · rw [decide_eq_false (fun z => c (by injection z))]
        refine iteF ⟨_, _, rfl, s2, ?_⟩
        rw [List.take_succ_eq_append_getElem g1, List.find?_append, na, g2, List.find?_cons_of_neg (by simp [c])]
        rfl
    · rintro σ H2 ⟨u, v, rfl, s2, na⟩
      have hl := pl.length
      rw [hl, List.take_length] at na
      exact k2 na H2 (s1.trans s2)
end
end Kd

namespace Kd
open PySem PySem.Spec PyProof.Rows L2 KdXc
/-! ### rows -/
inductive Rw where
  | kind (d key : Str) (day : Int) (vals : List Fv)
  | fact (name : Str) (day : Int) (keys : List Str) (nums : List Int)
  | forget (name : Str)
def Rw.at (K : PySem.W.Frag) (H : Hp) (p : Addr) : Rw → Prop
  | .kind d key day vals => ∃ q, SqT K H p [.str "kind", .str d, .str key, .int day, .ref q] ∧ SqT K H q (vals.map Fv.v)
  | .fact name day keys nums => ∃ q1 q2, SqT K H p [.str "fact", .str name, .int day, .ref q1, .ref q2] ∧ SqT K H q1 (keys.map V.str) ∧ SqT K H q2 (nums.map V.int)
  | .forget name => SqT K H p [.str "forget", .str name]
theorem Rw.same {K : PySem.W.Frag} {H H' : Hp} {p : Addr} (e : Same H H') : ∀ {r : Rw}, r.at K H p → r.at K H' p
  | .kind .., ⟨q, h1, h2⟩ => ⟨q, Same.seqT e h1, Same.seqT e h2⟩
  | .fact .., ⟨q1, q2, h1, h2, h3⟩ => ⟨q1, q2, Same.seqT e h1, Same.seqT e h2, Same.seqT e h3⟩
  | .forget .., h => Same.seqT e h
/-- a short text of letters and figures, and more -/
structure Tx (z : Str) : Prop where
  le : z.length ≤ 14
  ok : ∀ c ∈ z.cps.toList, c < 128
def Nu (i : Int) : Prop := i.natAbs < 2 ^ 210
def Fv.ok : Fv → Prop
  | .i z => Nu z
  | .s z => Tx z
def Rw.ok : Rw → Prop
  | .kind d key day vals => Tx d ∧ Tx key ∧ Nu day ∧ vals.length ≤ 10 ∧ ∀ v ∈ vals, v.ok
  | .fact name day keys nums => Tx name ∧ Nu day ∧ (keys.length ≤ 10 ∧ ∀ z ∈ keys, Tx z) ∧ nums.length ≤ 10 ∧ ∀ i ∈ nums, Nu i
  | .forget name => Tx name
theorem IsNm.tx {z : Str} (h : IsNm z) : Tx z := ⟨by have := h.le8; omega, fun c hc => by have := h.low c hc; omega⟩
theorem Tx.sok {z : Str} (h : Tx z) : PyData.strOk z = true := by
  unfold PyData.strOk
  rw [Array.all_eq_true']
  intro c hc
  have := h.ok c (Array.mem_toList_iff.mpr hc)
  exact decide_eq_true (by omega)
theorem Tx.flat {z : Str} (h : Tx z) : KdRp.FlatS (.str z) := ⟨fun c hc => Nat.lt_of_lt_of_le (h.ok c hc) (by decide), by have := h.le; omega⟩
theorem Nu.flat {i : Int} (h : Nu i) : KdRp.FlatS (.int i) := by
  show i.natAbs.log2 < 1920
  by_cases z : i.natAbs = 0
  · rw [z]
    decide
  · exact Nat.lt_trans ((Nat.log2_lt z).mpr h) (by decide)
theorem Fv.ok.flat : ∀ {v : Fv}, v.ok → KdRp.FlatS v.v
  | .i _, h => Nu.flat h
  | .s _, h => Tx.flat h
theorem tx_kind : Tx ("kind" : Str) := ⟨by decide +kernel, by decide +kernel⟩
theorem tx_fact : Tx ("fact" : Str) := ⟨by decide +kernel, by decide +kernel⟩
theorem tx_forget : Tx ("forget" : Str) := ⟨by decide +kernel, by decide +kernel⟩
/-- repr of a row is some text -/
theorem Rw.rep {K : PySem.W.Frag} {H : Hp} {p : Addr} : ∀ {r : Rw}, r.at K H p → r.ok → KdRp.Rep2 K (.ref p) H
  | .kind d key day vals, ⟨q, h1, h2⟩, ⟨o1, o2, o3, o4, o5⟩ => .inr (.inr (.inr ⟨p, _, rfl, h1, by show 5 ≤ 40; decide, fun y hy => by
      simp only [List.mem_cons, List.not_mem_nil, or_false] at hy
      rcases hy with rfl | rfl | rfl | rfl | rfl
      · exact .inl tx_kind.flat
      · exact .inl o1.flat
      · exact .inl o2.flat
      · exact .inl o3.flat
      · exact .inr ⟨q, _, rfl, h2, by rw [List.length_map]; omega, fun z hz => by
          obtain ⟨v, hv, rfl⟩ := List.mem_map.mp hz
          exact (o5 v hv).flat⟩⟩))
  | .fact name day keys nums, ⟨q1, q2, h1, h2, h3⟩, ⟨o1, o2, ⟨o3, o4⟩, o5, o6⟩ => .inr (.inr (.inr ⟨p, _, rfl, h1, by show 5 ≤ 40; decide, fun y hy => by
      simp only [List.mem_cons, List.not_mem_nil, or_false] at hy
      rcases hy with rfl | rfl | rfl | rfl | rfl
      · exact .inl tx_fact.flat
      · exact .inl o1.flat
      · exact .inl o2.flat
      · exact .inr ⟨q1, _, rfl, h2, by rw [List.length_map]; omega, fun z hz => by
          obtain ⟨v, hv, rfl⟩ := List.mem_map.mp hz
          exact (o4 v hv).flat⟩
      · exact .inr ⟨q2, _, rfl, h3, by rw [List.length_map]; omega, fun z hz => by
          obtain ⟨v, hv, rfl⟩ := List.mem_map.mp hz
          exact (o6 v hv).flat⟩⟩))
  | .forget name, h1, o1 => .inr (.inr (.inr ⟨p, _, rfl, h1, by show 2 ≤ 40; decide, fun y hy => by
      simp only [List.mem_cons, List.not_mem_nil, or_false] at hy
      rcases hy with rfl | rfl
      · exact .inl tx_forget.flat
      · exact .inl (Tx.flat o1)⟩))
def kfits (ds : List Dm) (d : Str) (n : Nat) : Bool := match ds.find? (fun e => decide (e.1 = d)) with
  | some e => decide (n = e.2.length)
  | none => false
def ffits (ds : List Dm) (ms : List Str) (k n : Nat) : Bool := decide (k = ds.length) && decide (n = ms.length)
def Rw.fits (ds : List Dm) (ms : List Str) : Rw → Bool
  | .kind d _ _ vals => kfits ds d vals.length
  | .fact _ _ keys nums => ffits ds ms keys.length nums.length
  | .forget _ => true
theorem natEq (a b : Nat) : decide (V.int (a : Int) = V.int (b : Int)) = decide (a = b) := by
  by_cases h : a = b
  · rw [h]
    simp
  · rw [decide_eq_false h]
    exact decide_eq_false fun q => h (by have := V.int.inj q; omega)
section
variable {P : Program} {w : World} {K : PySem.W.Frag} {mg : Str → Option Value} {base : Heap} {f : Addr} {fd : FuncData}
/-! ### kind_fits -/
abbrev N_kind_fits : List Str := ["plan", "dimension", "values", "attributes"]
theorem sc_kind_fits : FnScope N_kind_fits ["plan", "dimension", "values"] (defScope s_kind_fits) := ⟨rfl, rfl, rfl, by decide +kernel, rfl, by decide +kernel, by decide +kernel⟩
/-! slots: 0 plan 1 dimension 2 values 3 attributes; cells:  -/
def spKf (K : PySem.W.Frag) (C : Addr) : Sp := fun vs H Q _ => ∃ (x q : Addr) (d : Str) (ys : List V) (ds : List Dm) (ms : List Str), vs = [.ref x, .str d, .ref q] ∧ PlanAt K C H x ds ms ∧ SqT K H q ys ∧ ∀ H', Same H H' → Q (.bl (kfits ds d ys.length)) H'
theorem ok_kf {C fA : Addr} {fdA : FuncData} (F : FnP K "kind_fits" "kind_fits" s_kind_fits f fd) (c_attributes_of : Fun P w K mg base "attributes_of" 2 ["plan", "dimension"] (spAttr K C) fA fdA) (z_len : mg "len" = none) : FnOk P w K mg base CX0 3 f fd ["plan", "dimension", "values"] (spKf K C) := by
  refine F.ok sc_kind_fits (fun vs H Q E h => ?_) (fun cdv A outer s H vs Q E hr h => ?_)
  · obtain ⟨x, q, d, ys, ds, ms, rfl, _⟩ := h
    rfl
  · obtain ⟨x, q, d, ys, ds, ms, rfl, hx, hq, k⟩ := h
    have nd := sc_kind_fits.nd
    refine ⟨_, PSs.nox (pss_cons (ps_set (i := 3) nd rfl (Or.inl rfl) (pe_call c_attributes_of.G (hr.mono (by decide)) rfl c_attributes_of.g c_attributes_of.k c_attributes_of.b .nil pass0 (pa_cons (pv 0) (pa_cons (pv 1) pa_nil))))
      (pss_one (ps_ret (pe_and (pe_cmp (pc_notN (pv 3)) rfl) (pe_one (pe_cmpR op_eq (pe_callB call_len_seq (by rfl) z_len boot_len (pa_cons (pv 2) pa_nil)) (pe_callB call_len_seq (by rfl) z_len boot_len (pa_cons (pv 3) pa_nil)) (nomark _))))))), ?_⟩
    refine ⟨_, rfl, _, rfl, x, d, ds, ms, rfl, hx, fun e qa H1 he ha s1 => ?_, fun he H1 s1 => ?_⟩
    · have ek : kfits ds d ys.length = decide (ys.length = e.2.length) := by unfold kfits; rw [he]
      rw [ek] at k
      obtain ⟨zs, a1, a2⟩ := ha
      refine ⟨_, rfl, _, rfl, iteT ⟨_, rfl, q, _, rfl, .inr (Same.seqT s1 hq), _, rfl, qa, _, rfl, .inr a1, rfl, ?_⟩⟩
      rw [natEq, a2.length]
      exact k H1 s1
    · have ek : kfits ds d ys.length = false := by unfold kfits; rw [he]
      rw [ek] at k
      exact ⟨_, rfl, _, rfl, iteF (k H1 s1)⟩
/-! ### fact_fits -/
abbrev N_fact_fits : List Str := ["plan", "keys", "numbers"]
theorem sc_fact_fits : FnScope N_fact_fits ["plan", "keys", "numbers"] (defScope s_fact_fits) := ⟨rfl, rfl, rfl, by decide +kernel, rfl, by decide +kernel, by decide +kernel⟩
/-! slots: 0 plan 1 keys 2 numbers; cells:  -/
def spFf (K : PySem.W.Frag) (C : Addr) : Sp := fun vs H Q _ => ∃ (x q1 q2 : Addr) (ys zs : List V) (ds : List Dm) (ms : List Str), vs = [.ref x, .ref q1, .ref q2] ∧ PlanAt K C H x ds ms ∧ SqT K H q1 ys ∧ SqT K H q2 zs ∧ ∀ H', Same H H' → Q (.bl (ffits ds ms ys.length zs.length)) H'
theorem ok_ff {C fD fM : Addr} {fdD fdM : FuncData} (F : FnP K "fact_fits" "fact_fits" s_fact_fits f fd) (T : PlTxt K C) (GD : FnOk P w K mg base CX0 1 fD fdD ["self"] (spDims K C)) (bD : Binds K fdD ["self"] []) (mD : Meth K C "dimensions" fD) (GM : FnOk P w K mg base CX0 1 fM fdM ["self"] (spMeas K C)) (bM : Binds K fdM ["self"] []) (mM : Meth K C "measures" fM)
    (z_len : mg "len" = none) : FnOk P w K mg base CX0 2 f fd ["plan", "keys", "numbers"] (spFf K C) := by
  refine F.ok sc_fact_fits (fun vs H Q E h => ?_) (fun cdv A outer s H vs Q E hr h => ?_)
  · obtain ⟨x, q1, q2, ys, zs, ds, ms, rfl, _⟩ := h
    rfl
  · obtain ⟨x, q1, q2, ys, zs, ds, ms, rfl, hx, h1, h2, k⟩ := h
    have nd := sc_fact_fits.nd
    refine ⟨_, PSs.nox (pss_one (ps_ret (pe_and (pe_cmpR op_eq (pe_callB call_len_seq (by rfl) z_len boot_len (pa_cons (pv 1) pa_nil)) (pe_callB call_len_seq (by rfl) z_len boot_len (pa_cons (pe_meth0 (pv 0) T.cl mD GD (hr.mono (by decide)) bD .nil pass0) pa_nil)) (nomark _)) (pe_one (pe_cmpR op_eq (pe_callB call_len_seq (by rfl) z_len boot_len (pa_cons (pv 2) pa_nil)) (pe_callB call_len_seq (by rfl) z_len boot_len (pa_cons (pe_meth0 (pv 0) T.cl mM GM (hr.mono (by decide)) bM .nil pass0) pa_nil)) (nomark _)))))), ?_⟩
    obtain ⟨dx, pa, pb, px, e1, e2, e3, e4⟩ := id hx.ex
    refine ⟨_, rfl, q1, _, rfl, .inr h1, _, rfl, x, dx, _, rfl, e1, pl_no0 (by decide +kernel) (by decide +kernel), x, ds, ms, rfl, hx, fun l xs nl pl => ?_⟩
    have s1 : Same H (upd H l (.lst xs)) := same_new nl
    refine ⟨l, _, rfl, .inl (SqL.of upd_same), rfl, _, rfl, ?_⟩
    rw [natEq, pl.length]
    by_cases c : ys.length = ds.length
    · rw [decide_eq_true c]
      refine iteT ⟨_, rfl, q2, _, rfl, .inr (Same.seqT s1 h2), _, rfl, x, dx, _, rfl, s1 _ _ e1, pl_no0 (by decide +kernel) (by decide +kernel), x, ds, ms, rfl, hx.same s1, fun l2 nl2 => ?_⟩
      refine ⟨l2, _, rfl, .inl (SqL.of upd_same), rfl, ?_⟩
      rw [natEq, List.length_map]
      have ek : ffits ds ms ys.length zs.length = decide (zs.length = ms.length) := by unfold ffits; rw [decide_eq_true c, Bool.true_and]
      rw [ek] at k
      exact k _ (s1.trans (same_new nl2))
    · rw [decide_eq_false c]
      have ek : ffits ds ms ys.length zs.length = false := by unfold ffits; rw [decide_eq_false c, Bool.false_and]
      rw [ek] at k
      exact iteF (k _ s1)
/-! ### has_form -/
abbrev N_has_form : List Str := ["plan", "row"]
theorem sc_has_form : FnScope N_has_form ["plan", "row"] (defScope s_has_form) := ⟨rfl, rfl, rfl, by decide +kernel, rfl, by decide +kernel, by decide +kernel⟩
/-! slots: 0 plan 1 row; cells:  -/
def spForm (K : PySem.W.Frag) (C : Addr) : Sp := fun vs H Q _ => ∃ (x p : Addr) (r : Rw) (ds : List Dm) (ms : List Str), vs = [.ref x, .ref p] ∧ PlanAt K C H x ds ms ∧ r.at K H p ∧ ∀ H', Same H H' → Q (.bl (r.fits ds ms)) H'
theorem ok_form {C fK fF : Addr} {fdK fdF : FuncData} (F : FnP K "has_form" "has_form" s_has_form f fd) (c_kind_fits : Fun P w K mg base "kind_fits" 3 ["plan", "dimension", "values"] (spKf K C) fK fdK) (c_fact_fits : Fun P w K mg base "fact_fits" 2 ["plan", "keys", "numbers"] (spFf K C) fF fdF) : FnOk P w K mg base CX0 4 f fd ["plan", "row"] (spForm K C) := by
  refine F.ok sc_has_form (fun vs H Q E h => ?_) (fun cdv A outer s H vs Q E hr h => ?_)
  · obtain ⟨x, p, r, ds, ms, rfl, _⟩ := h
    rfl
  · obtain ⟨x, p, r, ds, ms, rfl, hx, hr', k⟩ := h
    have nd := sc_has_form.nd
    refine ⟨_, PSs.nox (pss_cons (ps_if (pt_cmpR op_eq (pe_ix ix_tup (pv 1) pe_int (fun _ _ => rfl)) pe_str (nomark _))
        (pss_one (ps_ret (pe_call c_kind_fits.G (hr.mono (by decide)) rfl c_kind_fits.g c_kind_fits.k c_kind_fits.b .nil pass0 (pa_cons (pv 0) (pa_cons (pe_ix ix_tup (pv 1) pe_int (fun _ _ => rfl)) (pa_cons (pe_ix ix_tup (pv 1) pe_int (fun _ _ => rfl)) pa_nil))))))
        pss_nil)
      (pss_cons (ps_if (pt_cmpR op_eq (pe_ix ix_tup (pv 1) pe_int (fun _ _ => rfl)) pe_str (nomark _))
        (pss_one (ps_ret (pe_call c_fact_fits.G (hr.mono (by decide)) rfl c_fact_fits.g c_fact_fits.k c_fact_fits.b .nil pass0 (pa_cons (pv 0) (pa_cons (pe_ix ix_tup (pv 1) pe_int (fun _ _ => rfl)) (pa_cons (pe_ix ix_tup (pv 1) pe_int (fun _ _ => rfl)) pa_nil))))))
        pss_nil)
      (pss_one (ps_ret (pe_cmpR op_eq (pe_ix ix_tup (pv 1) pe_int (fun _ _ => rfl)) pe_str (nomark _)))))), ?_⟩
    cases r with
    | kind d key day vals =>
      obtain ⟨q, h1, h2⟩ := hr'
      refine ⟨_, rfl, p, _, _, _, rfl, rfl, h1, atI_nat (j := 0) rfl, rfl, _, rfl, iteT0 (decide_eq_true rfl) ?_⟩
      refine ⟨_, rfl, _, rfl, p, _, _, _, rfl, rfl, h1, atI_nat (j := 1) rfl, _, rfl, p, _, _, _, rfl, rfl, h1, atI_nat (j := 4) rfl, x, q, d, _, ds, ms, rfl, hx, h2, fun H1 s1 => ?_⟩
      rw [List.length_map]
      exact k H1 s1
    | fact name day keys nums =>
      obtain ⟨q1, q2, h1, h2, h3⟩ := hr'
      refine ⟨_, rfl, p, _, _, _, rfl, rfl, h1, atI_nat (j := 0) rfl, rfl, _, rfl, iteF0 (by decide +kernel) ?_⟩
      refine ⟨_, rfl, p, _, _, _, rfl, rfl, h1, atI_nat (j := 0) rfl, rfl, _, rfl, iteT0 (decide_eq_true rfl) ?_⟩
      refine ⟨_, rfl, _, rfl, p, _, _, _, rfl, rfl, h1, atI_nat (j := 3) rfl, _, rfl, p, _, _, _, rfl, rfl, h1, atI_nat (j := 4) rfl, x, q1, q2, _, _, ds, ms, rfl, hx, h2, h3, fun H1 s1 => ?_⟩
      rw [List.length_map, List.length_map]
      exact k H1 s1
    | forget name =>
      refine ⟨_, rfl, p, _, _, _, rfl, rfl, hr', atI_nat (j := 0) rfl, rfl, _, rfl, iteF0 (by decide +kernel) ?_⟩
      refine ⟨_, rfl, p, _, _, _, rfl, rfl, hr', atI_nat (j := 0) rfl, rfl, _, rfl, iteF0 (by decide +kernel) ?_⟩
      refine ⟨_, rfl, p, _, _, _, rfl, rfl, hr', atI_nat (j := 0) rfl, rfl, ?_⟩
      have e : decide (V.str "forget" = V.str "forget") = true := decide_eq_true rfl
      rw [e]
      exact k H (Same.refl H)
/-! ### look -/
abbrev N_look : List Str := ["plan", "row"]
theorem sc_look : FnScope N_look ["plan", "row"] (defScope s_look) := ⟨rfl, rfl, rfl, by decide +kernel, rfl, by decide +kernel, by decide +kernel⟩
/-! slots: 0 plan 1 row; cells:  -/
def spLook (K : PySem.W.Frag) (C N : Addr) : Sp := fun vs H Q E => ∃ (x p : Addr) (r : Rw) (ds : List Dm) (ms : List Str), vs = [.ref x, .ref p] ∧ PlanAt K C H x ds ms ∧ r.at K H p ∧ r.ok ∧ (r.fits ds ms = true → ∀ H', Same H H' → Q .non H') ∧
  (r.fits ds ms = false → ∀ d H', Same H H' → H d = none → H' d = some (.xd (noF "NoRow" (.ref p))) → E (.ref N) (some d) H')
theorem ok_look {C fH N fN : Addr} {fdH fdN : FuncData} (F : FnP K "look" "look" s_look f fd) (c_has_form : Fun P w K mg base "has_form" 4 ["plan", "row"] (spForm K C) fH fdH) (M : ErrM P w K mg base "NoRow" N fN fdN) : FnOk P w K mg base (L2.CX P w) 5 f fd ["plan", "row"] (spLook K C N) := by
  refine F.ok sc_look (fun vs H Q E h => ?_) (fun cdv A outer s H vs Q E hr h => ?_)
  · obtain ⟨x, p, r, ds, ms, rfl, _⟩ := h
    rfl
  · obtain ⟨x, p, r, ds, ms, rfl, hx, hp, ok, k1, k2⟩ := h
    have nd := sc_look.nd
    refine ⟨_, pss_one (ps_if (pt_not (pt_val (pe_call c_has_form.G (hr.mono (by decide)) rfl c_has_form.g c_has_form.k c_has_form.b .nil pass0 (pa_cons (pv 0) (pa_cons (pv 1) pa_nil)))))
      (pss_one (ps_raise rfl (takes_of rfl rfl rfl rfl) (pmk_err M.T M.G (hr.mono (by decide)) M.b rfl M.g (pv 1)))) pss_nil), ?_⟩
    refine ⟨_, rfl, _, rfl, x, p, r, ds, ms, rfl, hx, hp, fun H1 s1 => ⟨_, rfl, ?_⟩⟩
    cases c : r.fits ds ms with
    | true => exact iteF (k1 c H1 s1)
    | false =>
      refine iteT ⟨_, rfl, err_ok (fun a ha => Rw.rep (Rw.same (s1.trans (same_new ha)) hp) ok) fun d hd => ?_⟩
      exact k2 c d _ (s1.trans (same_new hd)) (s1.free hd) upd_same
end
end Kd

namespace Kd
open PySem PySem.Spec PyProof.Rows L2 KdXc
/-- a small letter or a figure -/
def KeyC (c : Nat) : Prop := (97 ≤ c ∧ c ≤ 122) ∨ (48 ≤ c ∧ c ≤ 57)
structure Ky (z : Str) : Prop where
  ok : ∀ c ∈ z.cps.toList, KeyC c
  ge : 1 ≤ z.length
  le : z.length ≤ 12
theorem Ky.tx {z : Str} (h : Ky z) : Tx z := ⟨by have := h.le; omega, fun c hc => by rcases h.ok c hc with q | q <;> omega⟩
def Wh (i : Int) : Prop := i.natAbs < 10 ^ 60
theorem Wh.nu {i : Int} (h : Wh i) : Nu i := Nat.lt_of_lt_of_le h (by decide)
def Fv.good : Fv → Prop
  | .i z => Wh z
  | .s z => Ky z
theorem Fv.good.ok : ∀ {v : Fv}, v.good → v.ok
  | .i _, h => Wh.nu h
  | .s _, h => Ky.tx h
abbrev figs : Str := "abcdefghijklmnopqrstuvwxyz0123456789"
theorem figs_len : figs.length = 36 := by decide +kernel
theorem figs_at {i : Nat} (h : i < 36) : ∃ c, figs.cps.toList[i]? = some c ∧ KeyC c := by
  have hl : i < figs.cps.toList.length := by
    have e : figs.cps.toList.length = 36 := by decide +kernel
    rw [e]
    exact h
  refine ⟨figs.cps.toList[i], List.getElem?_eq_getElem hl, ?_⟩
  have hall : figs.cps.toList.all (fun c => decide ((97 ≤ c ∧ c ≤ 122) ∨ (48 ≤ c ∧ c ≤ 57))) = true := by decide +kernel
  have := of_decide_eq_true (List.all_eq_true.mp hall _ (List.getElem_mem hl))
  exact this
theorem joinedK {y : Str} (hy : y.cps.toList = []) (parts : List Str) (h1 : ∀ z ∈ parts, z.length = 1) (h2 : ∀ z ∈ parts, ∀ c ∈ z.cps.toList, KeyC c) : (∀ c ∈ (Txt.join y parts).cps.toList, KeyC c) ∧ (Txt.join y parts).length = parts.length := by
  have e := join_list_eq y hy parts
  constructor
  · intro c hc
    rw [e] at hc
    obtain ⟨l, hl, hcl⟩ := List.mem_flatten.mp hc
    obtain ⟨z, hz, rfl⟩ := List.mem_map.mp hl
    exact h2 z hz c hcl
  · have e2 : (Txt.join y parts).length = (Txt.join y parts).cps.toList.length := by rw [Array.length_toList]; rfl
    rw [e2, e]
    exact flat_len parts h1
def wordsK : List Str := [("a" : Str), ("b" : Str), ("ab" : Str), ("a1" : Str), ("1" : Str), ("01" : Str), ("x9" : Str), ("abcdefghijkl" : Str), ("abcdefghijkm" : Str)]
theorem wordsK_at {j : Nat} (h : j < 9) : ∃ z, (wordsK.map V.str)[j]? = some (.str z) ∧ Ky z := by
  have hl : j < wordsK.length := h
  refine ⟨wordsK[j], by rw [List.getElem?_map, List.getElem?_eq_getElem hl]; rfl, ?_⟩
  have hall : wordsK.all (fun z => (z.cps.toList.all fun c => decide ((97 ≤ c ∧ c ≤ 122) ∨ (48 ≤ c ∧ c ≤ 57))) && (decide (1 ≤ z.length) && decide (z.length ≤ 12))) = true := by decide +kernel
  obtain ⟨h1, h2⟩ := Bool.and_eq_true_iff.mp (List.all_eq_true.mp hall _ (List.getElem_mem hl))
  obtain ⟨h2, h3⟩ := Bool.and_eq_true_iff.mp h2
  exact ⟨fun c hc => by
    have := of_decide_eq_true (List.all_eq_true.mp h1 c hc)
    exact this, of_decide_eq_true h2, of_decide_eq_true h3⟩
section
variable {P : Program} {w : World} {K : PySem.W.Frag} {mg : Str → Option Value} {base : Heap} {f : Addr} {fd : FuncData}
/-! ### _law_great -/
abbrev N_l_great : List Str := ["tray", "found", "k"]
theorem sc_l_great : FnScope N_l_great ["tray"] (defScope s_l_great) := ⟨rfl, rfl, rfl, by decide +kernel, rfl, by decide +kernel, by decide +kernel⟩
/-! slots: 0 tray 1 found 2 k; cells:  -/
def spGreat : Sp := fun vs H Q _ => ∃ (a g : Addr) (n : Nat), vs = [.ref a] ∧ Tray H a g n ∧ n ≤ 900000 ∧ ∀ (r : Int) H', 0 ≤ r → r < 10 ^ 59 → Tray H' a g (n + 4) → Same (ct a g H) (ct a g H') → Q (.int r) H'
theorem ok_great {fD : Addr} {fdD : FuncData} (F : FnP K "_law_great" "_law_great" s_l_great f fd) (c_draw : Fun P w K mg base "_law_draw" 1 ["tray", "many"] spDraw fD fdD) (z_range : mg "range" = none) : FnOk P w K mg base CX0 2 f fd ["tray"] spGreat := by
  refine F.ok sc_l_great (fun vs H Q E h => ?_) (fun cdv A outer s H vs Q E hr h => ?_)
  · obtain ⟨a, g, n, rfl, _⟩ := h
    rfl
  · obtain ⟨a, g, n, rfl, hT, hn, k⟩ := h
    have nd := sc_l_great.nd
    refine ⟨_, PSs.nox (pss_cons (ps_set (i := 1) nd rfl (Or.inl rfl) (pe_call c_draw.G (hr.mono (by decide)) rfl c_draw.g c_draw.k c_draw.b .nil pass0 (pa_cons (pv 0) (pa_cons (pe_op op_pow pe_int pe_int) pa_nil))))
      (pss_cons (ps_for PassesOwn.never rfl (pi_range1 rfl z_range (pa_cons pe_int pa_nil)) (pg_name (i := 2) nd rfl (Or.inl rfl))
        (pss_one (ps_set (i := 1) nd rfl (Or.inl rfl) (pe_op op_add (pe_op op_mul (pv 1) (pe_op op_pow pe_int pe_int)) (pe_call c_draw.G (hr.mono (by decide)) rfl c_draw.g c_draw.k c_draw.b .nil pass0 (pa_cons (pv 0) (pa_cons (pe_op op_pow pe_int pe_int) pa_nil)))))))
      (pss_one (ps_ret (pv 1))))), ?_⟩
    have p14 : (10 : Int) ^ Int.toNat 14 = 100000000000000 := by decide
    have p15 : (10 : Int) ^ Int.toNat 15 = 1000000000000000 := by decide
    refine ⟨_, rfl, _, _, rfl, rfl, ⟨by decide, by decide, by decide⟩, a, g, n, _, rfl, hT, by omega, by rw [p14]; decide, by rw [p14]; decide, fun r H1 r0 r1 T1 s1 => ?_⟩
    rw [p14] at r1
    refine set_st (σ' := [some (.ref a), some (.int r), none]) rfl ?_
    refine ⟨_, rfl, by decide, by decide, for_range (lo := 0) (n := 3) (fun i σ H2 => ∃ (x2 : Option V) (r : Int), σ = [some (.ref a), some (.int r), x2] ∧ 0 ≤ r ∧ r < 10 ^ (14 + 15 * i) ∧ Tray H2 a g (n + 1 + i) ∧ Same (ct a g H) (ct a g H2)) ⟨_, r, rfl, r0, by simpa using r1, T1, s1⟩ ?_ ?_⟩
    · rintro i σ H2 hi ⟨x2, r, rfl, q0, q1, T2, s2⟩
      refine ⟨_, rfl, _, _, rfl, rfl, ⟨by decide, by decide, by decide⟩, _, _, rfl, rfl, .inr ?_, _, rfl, _, _, rfl, rfl, ⟨by decide, by decide, by decide⟩, a, g, n + 1 + i, _, rfl, T2, by omega, by rw [p15]; decide, by rw [p15]; decide, fun d H3 d0 d1 T3 s3 => ?_⟩
      · rw [p15]
        exact ⟨by decide, by decide⟩
      rw [p15] at d1
      refine ⟨_, _, rfl, rfl, ?_⟩
      rw [p15]
      refine ⟨_, _, rfl, by omega, ?_, T3, s2.trans s3⟩
      have e : (10 : Int) ^ (14 + 15 * (i + 1)) = 10 ^ (14 + 15 * i) * 1000000000000000 := by
        rw [show 14 + 15 * (i + 1) = 14 + 15 * i + 15 by omega, Int.pow_add]
        rfl
      rw [e]
      have h1 : r + 1 ≤ 10 ^ (14 + 15 * i) := q1
      have h2 := Int.mul_le_mul_of_nonneg_right h1 (show (0 : Int) ≤ 1000000000000000 by decide)
      omega
    · rintro σ H2 ⟨x2, r, rfl, q0, q1, T2, s2⟩
      exact ⟨_, rfl, k r H2 q0 q1 T2 s2⟩
/-! ### _law_text -/
abbrev N_l_text : List Str := ["tray", "signs", "k"]
theorem sc_l_text : FnScope N_l_text ["tray"] (defScope s_l_text) := ⟨rfl, rfl, rfl, by decide +kernel, rfl, by decide +kernel, by decide +kernel⟩
/-! slots: 0 tray 1 signs 2 k; cells: signs tray -/
def spText : Sp := fun vs H Q _ => ∃ (a g : Addr) (n : Nat), vs = [.ref a] ∧ Tray H a g n ∧ n ≤ 900000 ∧ ∀ (z : Str) H', Ky z → Tray H' a g (n + 14) → Same (ct a g H) (ct a g H') → Q (.str z) H'
theorem ok_text {fD : Addr} {fdD : FuncData} (F : FnP K "_law_text" "_law_text" s_l_text f fd) (c_draw : Fun P w K mg base "_law_draw" 1 ["tray", "many"] spDraw fD fdD) (z_range : mg "range" = none) : FnOk P w K mg base CX0 2 f fd ["tray"] spText := by
  refine F.ok sc_l_text (fun vs H Q E h => ?_) (fun cdv A outer s H vs Q E hr h => ?_)
  · obtain ⟨a, g, n, rfl, _⟩ := h
    rfl
  · obtain ⟨a, g, n, rfl, hT, hn, k⟩ := h
    have nd := sc_l_text.nd
    refine ⟨_, PSs.nox (pss_cons (ps_if (pt_cmpR op_gt (pe_call c_draw.G (hr.mono (by decide)) rfl c_draw.g c_draw.k c_draw.b .nil pass0 (pa_cons (pv 0) (pa_cons pe_int pa_nil))) pe_int (nomark _))
        (pss_one (ps_ret (pe_ix ix_list (pe_lst (pa_cons pe_str (pa_cons pe_str (pa_cons pe_str (pa_cons pe_str (pa_cons pe_str (pa_cons pe_str (pa_cons pe_str (pa_cons pe_str (pa_cons pe_str pa_nil)))))))))) (pe_call c_draw.G (hr.mono (by decide)) rfl c_draw.g c_draw.k c_draw.b .nil pass0 (pa_cons (pv 0) (pa_cons pe_int pa_nil))) (fun _ _ => rfl))))
        pss_nil)
      (pss_cons (ps_set (i := 1) nd rfl (Or.inr rfl) pe_str)
      (pss_one (ps_ret (pe_join pe_str (pe_lc (own := [("k", 2)]) (g := gName 2) (tt := tYes) (te := tOp rIxS (tVar 1) (tCall spDraw [] E0 (tCons (tVar 0) (tCons (tC (.int 36)) tNil)))) rfl nd (pi_range1 rfl z_range (pa_cons (pe_op op_add pe_int (pe_call c_draw.G (hr.mono (by decide)) rfl c_draw.g c_draw.k c_draw.b .nil pass0 (pa_cons (pv 0) (pa_cons pe_int pa_nil)))) pa_nil)) (blkOk_by (own := [("k", 2)]) (N := N_l_text) (sc := defScope s_l_text) (by decide +kernel))
        (fun _ _ _ _ _ => pg_name (i := 2) nd rfl (Or.inl rfl)) (fun _ _ _ _ _ => pts_nil) (fun _ _ _ _ _ => pe_ix ix_str (pv 1) (pe_call c_draw.G (hr.mono (by decide)) rfl c_draw.g c_draw.k c_draw.b .nil pass0 (pa_cons (pv 0) (pa_cons pe_int pa_nil))) (fun _ _ => rfl)))))))), ?_⟩
    refine ⟨_, rfl, a, g, n, _, rfl, hT, by omega, by decide, by decide, fun r H1 r0 r1 T1 s1 => ⟨_, _, rfl, rfl, _, rfl, ite2 (fun c => ?_) (fun c => ?_)⟩⟩
    · refine ⟨by show 9 ≤ sizeLine; decide, fun p1 n1 => ?_⟩
      generalize e2 : upd H1 p1 _ = H2
      have N2 := newAt T1 n1 e2
      refine ⟨_, rfl, a, g, n + 1, _, rfl, N2.T, by omega, by decide, by decide, fun q H3 q0 q1 T3 s3 => ?_⟩
      obtain ⟨j, rfl⟩ : ∃ j : Nat, q = (j : Int) := ⟨q.toNat, by omega⟩
      obtain ⟨z, hz, kz⟩ := wordsK_at (j := j) (by omega)
      exact ⟨p1, _, _, _, rfl, rfl, SqL.of (ctkeep s3 N2.f N2.na N2.ng), atI_nat hz, k z H3 kz (T3.mono (by omega)) ((s1.trans N2.c).trans s3)⟩
    · refine ⟨⟨_, rfl⟩, _, rfl, a, g, n + 1, _, rfl, T1, by omega, by decide, by decide, fun q H3 q0 q1 T3 s3 => ?_⟩
      obtain ⟨jr, rfl⟩ : ∃ j : Nat, q = (j : Int) := ⟨q.toNat, by omega⟩
      refine ⟨_, _, rfl, rfl, _, rfl, by omega, by omega, fun D hD => ?_⟩
      have eN : ((1 : Int) + (jr : Int)).toNat = 1 + jr := by omega
      rw [eN]
      obtain ⟨nDa, nDg⟩ := T3.na hD
      refine lc_build (walk_range (lo := 0)) hD (fun i ys R => ∃ parts : List Str, ys = parts.map V.str ∧ parts.length = i ∧ (∀ z ∈ parts, z.length = 1 ∧ ∀ c ∈ z.cps.toList, KeyC c) ∧ Tray R a g (n + 2 + i) ∧ Same (ct a g H3) (ct a g R)) ⟨[], rfl, rfl, fun _ h => (nomatch h), T3.mono (by omega), Same.refl _⟩ (fun _ _ _ _ _ => trivial) ?_ ?_
      · rintro i ys x Ha Hb hi e l ⟨parts, rfl, lp, pz, Tp, sp⟩ ⟨rfl, rfl⟩
        refine ⟨rfl, yes ?_⟩
        refine ⟨_, rfl, _, rfl, a, g, n + 2 + i, _, rfl, Tp.same cd_sub, by omega, by decide, by decide, fun ch Hc h0 h1 Tc sc => ?_⟩
        obtain ⟨jc, rfl⟩ : ∃ j : Nat, ch = (j : Int) := ⟨ch.toNat, by omega⟩
        obtain ⟨c, hc, kc⟩ := figs_at (i := jc) (by omega)
        refine ⟨figs, _, _, rfl, rfl, le_line (by rw [figs_len]; decide), atI_nat hc, LcNx.add (ctkeep sc e nDa nDg) l (by omega) ⟨parts ++ [⟨#[c]⟩], by rw [List.map_append]; rfl, by rw [List.length_append]; show parts.length + 1 = i + 1; omega, fun z hz => ?_, (Tc.cd nDa nDg).mono (by omega), ctcd hD sp sc⟩⟩
        rcases List.mem_append.mp hz with hz | hz
        · exact pz z hz
        · rw [List.mem_singleton.mp hz]
          exact ⟨rfl, fun c' hc' => by
            have : c' = c := by simpa using hc'
            rw [this]
            exact kc⟩
      · rintro ys H4 e l ⟨parts, rfl, lp, pz, Tp, sp⟩
        obtain ⟨jok, jlen⟩ := joinedK (y := Str.ofString "") (by decide +kernel) parts (fun z hz => (pz z hz).1) fun z hz => (pz z hz).2
        refine ⟨_, D, parts, rfl, rfl, .inl (SqL.of e), ?_, ?_⟩
        · rw [sum_ones parts fun z hz => (pz z hz).1]
          show parts.length + parts.length * 0 ≤ 16777216
          omega
        · exact k _ H4 ⟨jok, by omega, by omega⟩ ((Tp.same cd_sub).mono (by omega)) (((s1.trans s3).trans sp).trans (ct_same cd_sub))
/-! ### _law_whole -/
abbrev N_l_whole : List Str := ["tray", "lot"]
theorem sc_l_whole : FnScope N_l_whole ["tray"] (defScope s_l_whole) := ⟨rfl, rfl, rfl, by decide +kernel, rfl, by decide +kernel, by decide +kernel⟩
/-! slots: 0 tray 1 lot; cells:  -/
def spWhole : Sp := fun vs H Q _ => ∃ (a g : Addr) (n : Nat), vs = [.ref a] ∧ Tray H a g n ∧ n ≤ 800000 ∧ ∀ (i : Int) H', Wh i → Tray H' a g (n + 7) → Same (ct a g H) (ct a g H') → Q (.int i) H'
theorem ok_whole {fD fG : Addr} {fdD fdG : FuncData} (F : FnP K "_law_whole" "_law_whole" s_l_whole f fd) (c_draw : Fun P w K mg base "_law_draw" 1 ["tray", "many"] spDraw fD fdD) (c_great : Fun P w K mg base "_law_great" 2 ["tray"] spGreat fG fdG) : FnOk P w K mg base CX0 3 f fd ["tray"] spWhole := by
  refine F.ok sc_l_whole (fun vs H Q E h => ?_) (fun cdv A outer s H vs Q E hr h => ?_)
  · obtain ⟨a, g, n, rfl, _⟩ := h
    rfl
  · obtain ⟨a, g, n, rfl, hT, hn, k⟩ := h
    have nd := sc_l_whole.nd
    refine ⟨_, PSs.nox (pss_cons (ps_set (i := 1) nd rfl (Or.inl rfl) (pe_call c_draw.G (hr.mono (by decide)) rfl c_draw.g c_draw.k c_draw.b .nil pass0 (pa_cons (pv 0) (pa_cons pe_int pa_nil))))
      (pss_cons (ps_if (pt_cmpR op_eq (pv 1) pe_int (nomark _))
        (pss_one (ps_ret (pe_op op_mul (pe_op op_add (pe_op op_mul (pe_call c_great.G (hr.mono (by decide)) rfl c_great.g c_great.k c_great.b .nil pass0 (pa_cons (pv 0) pa_nil)) pe_int) (pe_call c_draw.G (hr.mono (by decide)) rfl c_draw.g c_draw.k c_draw.b .nil pass0 (pa_cons (pv 0) (pa_cons pe_int pa_nil)))) (pe_op op_sub pe_int (pe_op op_mul pe_int (pe_call c_draw.G (hr.mono (by decide)) rfl c_draw.g c_draw.k c_draw.b .nil pass0 (pa_cons (pv 0) (pa_cons pe_int pa_nil))))))))
        pss_nil)
      (pss_one (ps_ret (pe_op op_sub (pe_call c_draw.G (hr.mono (by decide)) rfl c_draw.g c_draw.k c_draw.b .nil pass0 (pa_cons (pv 0) (pa_cons pe_int pa_nil))) pe_int))))), ?_⟩
    refine ⟨_, rfl, a, g, n, _, rfl, hT, by omega, by decide, by decide, fun lot H1 l0 l1 T1 s1 => ?_⟩
    refine set_st (σ' := [some (.ref a), some (.int lot)]) rfl ?_
    refine ⟨_, rfl, rfl, _, rfl, ite2 (fun c => ?_) (fun c => ?_)⟩
    · refine ⟨_, rfl, a, g, n + 1, rfl, T1, by omega, fun gr H2 g0 g1 T2 s2 => ?_⟩
      refine ⟨_, _, rfl, rfl, .inr ⟨by decide, by decide⟩, _, rfl, a, g, n + 1 + 4, _, rfl, T2, by omega, by decide, by decide, fun d H3 d0 d1 T3 s3 => ?_⟩
      refine ⟨_, _, rfl, rfl, _, rfl, a, g, n + 1 + 4 + 1, _, rfl, T3, by omega, by decide, by decide, fun e H4 e0 e1 T4 s4 => ?_⟩
      refine ⟨_, _, rfl, rfl, .inl ⟨by decide, by decide⟩, _, _, rfl, rfl, _, _, rfl, rfl, .inr ⟨by omega, by omega⟩, ?_⟩
      refine k _ H4 ?_ (T4.mono (by omega)) (((s1.trans s2).trans s3).trans s4)
      have he : e = 0 ∨ e = 1 := by omega
      have hb : (gr * 10 + d).natAbs < 10 ^ 60 := by
        have : gr * 10 + d < 10 ^ 60 := by
          have h1 : gr + 1 ≤ 10 ^ 59 := g1
          have h2 : (10 : Int) ^ 60 = 10 ^ 59 * 10 := by decide
          rw [h2]
          omega
        have h3 : ((10 ^ 60 : Nat) : Int) = (10 : Int) ^ 60 := by decide
        omega
      show ((gr * 10 + d) * (1 - 2 * e)).natAbs < 10 ^ 60
      rcases he with rfl | rfl
      · rw [show (1 : Int) - 2 * 0 = 1 by decide, Int.mul_one]
        exact hb
      · rw [show (1 : Int) - 2 * 1 = -1 by decide, Int.mul_neg, Int.mul_one, Int.natAbs_neg]
        exact hb
    · refine ⟨_, rfl, a, g, n + 1, _, rfl, T1, by omega, by decide, by decide, fun d H3 d0 d1 T3 s3 => ⟨_, _, rfl, rfl, ?_⟩⟩
      refine k _ H3 ?_ (T3.mono (by omega)) (s1.trans s3)
      show (d - 4).natAbs < 10 ^ 60
      exact Nat.lt_of_lt_of_le (show (d - 4).natAbs < 100 by omega) (by decide)
/-! ### _law_value -/
abbrev N_l_value : List Str := ["tray"]
theorem sc_l_value : FnScope N_l_value ["tray"] (defScope s_l_value) := ⟨rfl, rfl, rfl, by decide +kernel, rfl, by decide +kernel, by decide +kernel⟩
/-! slots: 0 tray; cells:  -/
def spValue : Sp := fun vs H Q _ => ∃ (a g : Addr) (n : Nat), vs = [.ref a] ∧ Tray H a g n ∧ n ≤ 700000 ∧ ∀ (v : Fv) H', v.good → Tray H' a g (n + 22) → Same (ct a g H) (ct a g H') → Q v.v H'
theorem ok_value {fD fT fW : Addr} {fdD fdT fdW : FuncData} (F : FnP K "_law_value" "_law_value" s_l_value f fd) (c_draw : Fun P w K mg base "_law_draw" 1 ["tray", "many"] spDraw fD fdD) (c_text : Fun P w K mg base "_law_text" 2 ["tray"] spText fT fdT) (c_whole : Fun P w K mg base "_law_whole" 3 ["tray"] spWhole fW fdW) : FnOk P w K mg base CX0 4 f fd ["tray"] spValue := by
  refine F.ok sc_l_value (fun vs H Q E h => ?_) (fun cdv A outer s H vs Q E hr h => ?_)
  · obtain ⟨a, g, n, rfl, _⟩ := h
    rfl
  · obtain ⟨a, g, n, rfl, hT, hn, k⟩ := h
    have nd := sc_l_value.nd
    refine ⟨_, PSs.nox (pss_one (ps_ret (pe_ix ix_list (pe_lst (pa_cons (pe_call c_whole.G (hr.mono (by decide)) rfl c_whole.g c_whole.k c_whole.b .nil pass0 (pa_cons (pv 0) pa_nil)) (pa_cons (pe_call c_text.G (hr.mono (by decide)) rfl c_text.g c_text.k c_text.b .nil pass0 (pa_cons (pv 0) pa_nil)) pa_nil))) (pe_call c_draw.G (hr.mono (by decide)) rfl c_draw.g c_draw.k c_draw.b .nil pass0 (pa_cons (pv 0) (pa_cons pe_int pa_nil))) (fun _ _ => rfl)))), ?_⟩
    refine ⟨_, rfl, a, g, n, rfl, hT, by omega, fun i H1 hi T1 s1 => ?_⟩
    refine ⟨_, rfl, a, g, n + 7, rfl, T1, by omega, fun z H2 hz T2 s2 => ?_⟩
    refine ⟨by show 2 ≤ sizeLine; decide, fun p np => ?_⟩
    generalize e3 : upd H2 p _ = H3
    have N3 := newAt T2 np e3
    refine ⟨_, rfl, a, g, n + 7 + 14, _, rfl, N3.T, by omega, by decide, by decide, fun d H4 d0 d1 T4 s4 => ?_⟩
    have hd : d = 0 ∨ d = 1 := by omega
    have s04 := ((s1.trans s2).trans N3.c).trans s4
    rcases hd with rfl | rfl
    · exact ⟨p, _, _, _, rfl, rfl, SqL.of (ctkeep s4 N3.f N3.na N3.ng), atI_nat (j := 0) rfl, k (.i i) H4 hi T4 s04⟩
    · exact ⟨p, _, _, _, rfl, rfl, SqL.of (ctkeep s4 N3.f N3.na N3.ng), atI_nat (j := 1) rfl, k (.s z) H4 hz T4 s04⟩
end
end Kd

namespace Kd
open PySem PySem.Spec PyProof.Rows L2 KdXc
def rSIx : V → List V → Hp → VK → Prop := fun x xs H Q => ∃ a b i rest, x = .str a ∧ xs = [.str b] ∧ Builtin.Str.occurrences a b 0 a.length 1 = i :: rest ∧ Q (.int (i : Nat)) H
theorem mt_sx {X : Cx} : MtR X "str.index" rSIx := mt_sindex
/-! ### a text turned: a for z, b for y, .. -/
abbrev alf : Str := "abcdefghijklmnopqrstuvwxyz"
def mir (z : Str) : Str := ⟨(z.cps.toList.map fun c => 219 - c).toArray⟩
def Lo (z : Str) : Prop := ∀ c ∈ z.cps.toList, 97 ≤ c ∧ c ≤ 122
theorem mir_len (z : Str) : (mir z).length = z.length := by
  show (mir z).cps.size = z.cps.size
  simp [mir]
theorem str_ext {y z : Str} (h : y.cps.toList = z.cps.toList) : y = z := by
  cases y with
  | mk a =>
    cases z with
    | mk b =>
      cases a
      cases b
      cases h
      rfl
theorem mir_lo {z : Str} (h : Lo z) : Lo (mir z) := fun c hc => by
  have hc : c ∈ z.cps.toList.map fun c => 219 - c := hc
  obtain ⟨d, hd, rfl⟩ := List.mem_map.mp hc
  have := h d hd
  omega
theorem mir_mir {z : Str} (h : Lo z) : mir (mir z) = z := by
  refine str_ext ?_
  show (z.cps.toList.map fun c => 219 - c).map (fun c => 219 - c) = z.cps.toList
  rw [List.map_map]
  refine (List.map_congr_left fun c hc => ?_).trans (List.map_id _)
  have := h c hc
  show 219 - (219 - c) = c
  omega
theorem mir_inj {y z : Str} (hy : Lo y) (hz : Lo z) (h : mir y = mir z) : y = z := by rw [← mir_mir hy, h, mir_mir hz]
theorem alf_at {j : Nat} (h : j < 26) : alf.cps.toList[j]? = some (97 + j) := by
  have hall : (List.range 26).all (fun j => decide (alf.cps.toList[j]? = some (97 + j))) = true := by decide +kernel
  exact of_decide_eq_true (List.all_eq_true.mp hall j (List.mem_range.mpr h))
theorem alf_ix {j : Nat} (h : j < 26) : Builtin.Str.occurrences alf ⟨#[97 + j]⟩ 0 alf.length 1 = [j] := by
  have hall : (List.range 26).all (fun j => decide (Builtin.Str.occurrences alf ⟨#[97 + j]⟩ 0 alf.length 1 = [j])) = true := by decide +kernel
  exact of_decide_eq_true (List.all_eq_true.mp hall j (List.mem_range.mpr h))
section
variable {P : Program} {w : World} {K : PySem.W.Frag} {mg : Str → Option Value} {base : Heap} {f : Addr} {fd : FuncData}
abbrev N_l_turned : List Str := ["word", "letters", "letter"]
theorem sc_l_turned : FnScope N_l_turned ["word"] (defScope s_l_turned) := ⟨rfl, rfl, rfl, by decide +kernel, rfl, by decide +kernel, by decide +kernel⟩
/-! slots: 0 word 1 letters 2 letter; cells: letters -/
def spTurn : Sp := fun vs H Q _ => ∃ z : Str, vs = [.str z] ∧ Lo z ∧ z.length ≤ 8 ∧ ∀ H', Same H H' → Q (.str (mir z)) H'
theorem ok_turn (F : FnP K "_law_turned" "_law_turned" s_l_turned f fd) : FnOk P w K mg base CX0 1 f fd ["word"] spTurn := by
  refine F.ok sc_l_turned (fun vs H Q E h => ?_) (fun cdv A outer s H vs Q E hr h => ?_)
  · obtain ⟨z, rfl, _⟩ := h
    rfl
  · obtain ⟨z, rfl, lo, le, k⟩ := h
    have nd := sc_l_turned.nd
    refine ⟨_, PSs.nox (pss_cons (ps_set (i := 1) nd rfl (Or.inr rfl) pe_str)
      (pss_one (ps_ret (pe_join pe_str (pe_lc (own := [("letter", 2)]) (g := gName 2) (tt := tYes) (te := tOp rIxS (tVar 1) (tOp (rI0 fun i j => .int (i - j)) (tC (.int 25)) (tBM K "str" rSIx (tVar 1) (tCons (tVar 2) tNil)))) rfl nd (pi_str (pv 0)) (blkOk_by (own := [("letter", 2)]) (N := N_l_turned) (sc := defScope s_l_turned) (by decide +kernel))
        (fun _ _ _ _ _ => pg_name (i := 2) nd rfl (Or.inl rfl)) (fun _ _ _ _ _ => pts_nil) (fun _ _ _ _ _ => pe_ix ix_str (pv 1) (pe_op op_sub pe_int (pe_bm PySem.F.plainAttrs_str PySem.F.slot_str_index PySem.F.type_str_index mt_sx (pv 1) (pa_cons (pv 2) pa_nil))) (fun _ _ => rfl))))))), ?_⟩
    have le8 : z.cps.size ≤ 8 := le
    refine ⟨⟨_, rfl⟩, _, rfl, _, rfl, fun D hD => ?_⟩
    refine lc_build walk_str hD (fun i ys R => Same H R ∧ ys = (((z.cps.toList.map fun c => 219 - c).take i).map fun c => V.str ⟨#[c]⟩)) ⟨Same.refl _, rfl⟩ (fun _ _ _ _ _ => trivial) ?_ ?_
    · rintro i ys x Ha Hb hi e l ⟨sa, rfl⟩ ⟨rfl, c, hc, rfl⟩
      have hl : i < z.cps.toList.length := by
        rw [Array.length_toList]
        exact (Array.getElem?_eq_some_iff.mp hc).1
      have hc2 : z.cps.toList[i] = c := by
        rw [Array.getElem_toList]
        exact (Array.getElem?_eq_some_iff.mp hc).2
      obtain ⟨c1, c2⟩ := lo c (by rw [← hc2]; exact List.getElem_mem hl)
      obtain ⟨j, rfl⟩ : ∃ j, c = 97 + j := ⟨c - 97, by omega⟩
      refine ⟨rfl, yes ?_⟩
      refine ⟨_, rfl, _, rfl, rfl, _, rfl, alf, ⟨#[97 + j]⟩, j, [], rfl, rfl, alf_ix (by omega), _, _, rfl, rfl, ?_⟩
      refine ⟨alf, _, _, rfl, rfl, le_line (by decide +kernel), (by rw [show (25 : Int) - (j : Int) = ((25 - j : Nat) : Int) by omega]; exact atI_nat (alf_at (by omega))), LcNx.add e l (by omega) ⟨sa, ?_⟩⟩
      have hl2 : i < (z.cps.toList.map fun c => 219 - c).length := by rw [List.length_map]; exact hl
      rw [List.take_succ_eq_append_getElem hl2, List.map_append, List.getElem_map, hc2]
      show _ = _ ++ [V.str ⟨#[219 - (97 + j)]⟩]
      rw [show 219 - (97 + j) = 97 + (25 - j) by omega]
    · rintro ys H4 e l ⟨sa, rfl⟩
      have e0 : (z.cps.toList.map fun c => 219 - c).take z.cps.size = z.cps.toList.map fun c => 219 - c := List.take_of_length_le (by rw [List.length_map, Array.length_toList]; exact Nat.le_refl _)
      have e1 : (((z.cps.toList.map fun c => 219 - c).take z.cps.size).map fun c => V.str ⟨#[c]⟩) = ((z.cps.toList.map fun c => 219 - c).map fun c => (⟨#[c]⟩ : Str)).map V.str := by
        rw [e0, List.map_map (l := z.cps.toList.map fun c => 219 - c)]
        rfl
      rw [e1] at e
      have ones : ∀ y ∈ ((z.cps.toList.map fun c => 219 - c).map fun c => (⟨#[c]⟩ : Str)), y.length = 1 := fun y hy => by
        obtain ⟨c, _, rfl⟩ := List.mem_map.mp hy
        rfl
      have jn : Txt.join (Str.ofString "") ((z.cps.toList.map fun c => 219 - c).map fun c => (⟨#[c]⟩ : Str)) = mir z := by
        refine str_ext ?_
        rw [join_list_eq _ (by decide +kernel)]
        show _ = z.cps.toList.map fun c => 219 - c
        rw [List.map_map]
        generalize (z.cps.toList.map fun c => 219 - c) = L
        induction L with
        | nil => rfl
        | cons x xs ih =>
          rw [List.map_cons, List.flatten_cons, ih]
          rfl
      refine ⟨_, D, _, rfl, rfl, .inl (SqL.of e), ?_, ?_⟩
      · rw [sum_ones _ ones]
        simp only [List.length_map, Array.length_toList]
        show z.cps.size + z.cps.size * 0 ≤ 16777216
        omega
      · rw [jn]
        exact k H4 (sa.trans cd_sub)
end
end Kd

namespace Kd
open PySem PySem.Spec PyProof.Rows L2 KdXc
theorem IsNm.lo {z : Str} (h : IsNm z) : Lo z := fun c hc => h.low c hc
theorem q8_lo : Lo ("qqqqqqqq" : Str) := fun c hc => by
  have hall : ("qqqqqqqq" : Str).cps.toList.all (fun c => decide (97 ≤ c ∧ c ≤ 122)) = true := by decide +kernel
  exact of_decide_eq_true (List.all_eq_true.mp hall c hc)
theorem lo_tx {z : Str} (h : Lo z) (l : z.length ≤ 8) : Tx z := ⟨by omega, fun c hc => by have := h c hc; omega⟩
def Rw.free : Rw → Prop
  | .kind d _ _ _ => Lo d ∧ d.length ≤ 8
  | _ => True
section
variable {P : Program} {w : World} {K : PySem.W.Frag} {mg : Str → Option Value} {base : Heap} {f : Addr} {fd : FuncData}
abbrev N_l_free_row : List Str := ["tray", "some", "lot", "row", "names", "name", "k", "values", "keys", "counts"]
theorem sc_l_free_row : FnScope N_l_free_row ["tray", "some"] (defScope s_l_free_row) := ⟨rfl, rfl, rfl, by decide +kernel, rfl, by decide +kernel, by decide +kernel⟩
/-! slots: 0 tray 1 some 2 lot 3 row 4 names 5 name 6 k 7 values 8 keys 9 counts; cells: tray -/
def spFree (K : PySem.W.Frag) : Sp := fun vs H Q _ => ∃ (a g l : Addr) (n : Nat) (ds : List Dm) (ms : List Str), vs = [.ref a, .ref l] ∧ Tray H a g n ∧ n ≤ 600000 ∧ DimsAt K (ct a g H) l ds ∧ Good ds ms ∧
  ∀ (p : Addr) (r : Rw) (H' : Hp), r.at K (ct a g H') p → r.free → r.ok → Tray H' a g (n + 250) → Same (ct a g H) (ct a g H') → Q (.ref p) H'
theorem ok_free {fD fT fW fV : Addr} {fdD fdT fdW fdV : FuncData} (F : FnP K "_law_free_row" "_law_free_row" s_l_free_row f fd) (c_draw : Fun P w K mg base "_law_draw" 1 ["tray", "many"] spDraw fD fdD) (c_text : Fun P w K mg base "_law_text" 2 ["tray"] spText fT fdT) (c_whole : Fun P w K mg base "_law_whole" 3 ["tray"] spWhole fW fdW) (c_value : Fun P w K mg base "_law_value" 4 ["tray"] spValue fV fdV)
    (z_len : mg "len" = none) (z_tuple : mg "tuple" = none) (z_range : mg "range" = none) : FnOk P w K mg base CX0 5 f fd ["tray", "some"] (spFree K) := by
  refine F.ok sc_l_free_row (fun vs H Q E h => ?_) (fun cdv A outer s H vs Q E hr h => ?_)
  · obtain ⟨a, g, l, n, ds, ms, rfl, _⟩ := h
    rfl
  · obtain ⟨a, g, l, n, ds, ms, rfl, hT, hn, ⟨xs, hl, hp⟩, ok, k⟩ := h
    have nd := sc_l_free_row.nd
    have hlen := hp.length
    have d1 := ok.d1
    have d4 := ok.d4
    refine ⟨_, PSs.nox (pss_cons (ps_set (i := 2) nd rfl (Or.inl rfl) (pe_call c_draw.G (hr.mono (by decide)) rfl c_draw.g c_draw.k c_draw.b .nil pass0 (pa_cons (pv 0) (pa_cons pe_int pa_nil))))
      (pss_cons (ps_set (i := 4) nd rfl (Or.inl rfl) (pe_op op_cat (pe_lc (own := [("row", 3)]) (g := gName 3) (tt := tYes) (te := tOp (rIxT K) (tVar 3) (tC (.int 0))) rfl nd (pi_list (pv 1)) (blkOk_by (own := [("row", 3)]) (N := N_l_free_row) (sc := defScope s_l_free_row) (by decide +kernel))
        (fun _ _ _ _ _ => pg_name (i := 3) nd rfl (Or.inl rfl)) (fun _ _ _ _ _ => pts_nil) (fun _ _ _ _ _ => pe_ix ix_tup (pv 3) pe_int (fun _ _ => rfl))) (pe_lst (pa_cons pe_str pa_nil))))
      (pss_cons (ps_if (pt_cmpR op_lt (pv 2) pe_int (nomark _))
        (pss_cons (ps_set (i := 5) nd rfl (Or.inl rfl) (pe_ix ix_list (pv 4) (pe_call c_draw.G (hr.mono (by decide)) rfl c_draw.g c_draw.k c_draw.b .nil pass0 (pa_cons (pv 0) (pa_cons (pe_callB call_len_seq (by rfl) z_len boot_len (pa_cons (pv 4) pa_nil)) pa_nil))) (fun _ _ => rfl)))
        (pss_cons (ps_set (i := 7) nd rfl (Or.inl rfl) (pe_callTy call_tuple_of (by rfl) z_tuple (by decide +kernel) (pa_cons (pe_lc (own := [("k", 6)]) (g := gName 6) (tt := tYes) (te := tCall spValue [] E0 (tCons (tVar 0) tNil)) rfl nd (pi_range1 rfl z_range (pa_cons (pe_call c_draw.G (hr.mono (by decide)) rfl c_draw.g c_draw.k c_draw.b .nil pass0 (pa_cons (pv 0) (pa_cons pe_int pa_nil))) pa_nil)) (blkOk_by (own := [("k", 6)]) (N := N_l_free_row) (sc := defScope s_l_free_row) (by decide +kernel))
        (fun _ _ _ _ _ => pg_name (i := 6) nd rfl (Or.inl rfl)) (fun _ _ _ _ _ => pts_nil) (fun _ _ _ _ _ => pe_call c_value.G (hr.mono (by decide)) rfl c_value.g c_value.k c_value.b .nil pass0 (pa_cons (pv 0) pa_nil))) pa_nil)))
        (pss_one (ps_ret (pe_tup (pa_cons pe_str (pa_cons (pv 5) (pa_cons (pe_call c_text.G (hr.mono (by decide)) rfl c_text.g c_text.k c_text.b .nil pass0 (pa_cons (pv 0) pa_nil)) (pa_cons (pe_call c_whole.G (hr.mono (by decide)) rfl c_whole.g c_whole.k c_whole.b .nil pass0 (pa_cons (pv 0) pa_nil)) (pa_cons (pv 7) pa_nil))))))))))
        pss_nil)
      (pss_cons (ps_if (pt_cmpR op_lt (pv 2) pe_int (nomark _))
        (pss_cons (ps_set (i := 8) nd rfl (Or.inl rfl) (pe_callTy call_tuple_of (by rfl) z_tuple (by decide +kernel) (pa_cons (pe_lc (own := [("k", 6)]) (g := gName 6) (tt := tYes) (te := tCall spText [] E0 (tCons (tVar 0) tNil)) rfl nd (pi_range1 rfl z_range (pa_cons (pe_call c_draw.G (hr.mono (by decide)) rfl c_draw.g c_draw.k c_draw.b .nil pass0 (pa_cons (pv 0) (pa_cons pe_int pa_nil))) pa_nil)) (blkOk_by (own := [("k", 6)]) (N := N_l_free_row) (sc := defScope s_l_free_row) (by decide +kernel))
        (fun _ _ _ _ _ => pg_name (i := 6) nd rfl (Or.inl rfl)) (fun _ _ _ _ _ => pts_nil) (fun _ _ _ _ _ => pe_call c_text.G (hr.mono (by decide)) rfl c_text.g c_text.k c_text.b .nil pass0 (pa_cons (pv 0) pa_nil))) pa_nil)))
        (pss_cons (ps_set (i := 9) nd rfl (Or.inl rfl) (pe_callTy call_tuple_of (by rfl) z_tuple (by decide +kernel) (pa_cons (pe_lc (own := [("k", 6)]) (g := gName 6) (tt := tYes) (te := tCall spWhole [] E0 (tCons (tVar 0) tNil)) rfl nd (pi_range1 rfl z_range (pa_cons (pe_call c_draw.G (hr.mono (by decide)) rfl c_draw.g c_draw.k c_draw.b .nil pass0 (pa_cons (pv 0) (pa_cons pe_int pa_nil))) pa_nil)) (blkOk_by (own := [("k", 6)]) (N := N_l_free_row) (sc := defScope s_l_free_row) (by decide +kernel))
        (fun _ _ _ _ _ => pg_name (i := 6) nd rfl (Or.inl rfl)) (fun _ _ _ _ _ => pts_nil) (fun _ _ _ _ _ => pe_call c_whole.G (hr.mono (by decide)) rfl c_whole.g c_whole.k c_whole.b .nil pass0 (pa_cons (pv 0) pa_nil))) pa_nil)))
        (pss_one (ps_ret (pe_tup (pa_cons pe_str (pa_cons (pe_call c_text.G (hr.mono (by decide)) rfl c_text.g c_text.k c_text.b .nil pass0 (pa_cons (pv 0) pa_nil)) (pa_cons (pe_call c_whole.G (hr.mono (by decide)) rfl c_whole.g c_whole.k c_whole.b .nil pass0 (pa_cons (pv 0) pa_nil)) (pa_cons (pv 8) (pa_cons (pv 9) pa_nil))))))))))
        pss_nil)
      (pss_one (ps_ret (pe_tup (pa_cons pe_str (pa_cons (pe_call c_text.G (hr.mono (by decide)) rfl c_text.g c_text.k c_text.b .nil pass0 (pa_cons (pv 0) pa_nil)) pa_nil))))))))), ?_⟩
    refine ⟨_, rfl, a, g, n, _, rfl, hT, by omega, by decide, by decide, fun lot H1 l0 l1 T1 s1 => ?_⟩
    refine set_st (σ' := [some (.ref a), some (.ref l), some (.int lot), none, none, none, none, none, none, none]) rfl ?_
    have hl1 := Same.seq s1 hl
    have hp1 := PySem.Paired.mono (fun _ _ => DimAt.same s1) hp
    refine ⟨_, rfl, l, rfl, ⟨_, Same.seq ct_sub hl1⟩, fun D hD => lc_build (walk_list (K := K) (a := l) (xs := xs)) hD (fun i ys R => Same H1 R ∧ ys = ((ds.take i).map (·.1)).map V.str) ⟨Same.refl _, rfl⟩ (fun _ _ _ _ p => Same.seq (((ct_sub (a := a) (g := g)).trans p.1).trans cd_sub) hl1) ?_ ?_⟩
    · rintro i ys y H3 H3' hi e3 l3 ⟨s3, rfl⟩ ⟨rfl, hy⟩
      obtain ⟨d', hd', p', q', rfl, t1', _⟩ := paired_at hp1 hy
      refine ⟨rfl, yes ?_⟩
      refine ⟨_, rfl, p', _, _, _, rfl, rfl, Same.seqT ((ct_sub.trans s3).trans cd_sub) t1', atI_nat (j := 0) rfl, LcNx.add e3 l3 (by omega) ⟨s3, ?_⟩⟩
      obtain ⟨g1, g2⟩ := List.getElem?_eq_some_iff.mp hd'
      rw [List.take_succ_eq_append_getElem g1, g2, List.map_append, List.map_append]
      rfl
    · rintro ys H2 e2 l2 ⟨s2, rfl⟩
      rw [List.take_of_length_le (by omega)] at e2
      have T2 := (T1.same s2).same cd_sub
      have c12 : Same (ct a g H1) (ct a g H2) := ct_same (s2.trans cd_sub)
      refine ⟨by show 1 ≤ sizeLine; decide, fun q1 n1 => ?_⟩
      generalize e3 : upd H2 q1 _ = H3
      have N3 := newAt T2 n1 e3
      refine ⟨D, q1, _, _, rfl, rfl, N3.s _ _ e2, N3.f, le_line (by simp only [List.length_map, List.length_cons, List.length_nil]; omega), fun q2 n2 => ?_⟩
      generalize e4 : upd H3 q2 _ = H4
      have N4 := newAt N3.T n2 e4
      refine set_st (σ' := [some (.ref a), some (.ref l), some (.int lot), none, some (.ref q2), none, none, none, none, none]) rfl ?_
      have s04 := ((s1.trans c12).trans N3.c).trans N4.c
      have e5 : (ds.map (·.1)).map V.str ++ [V.str "qqqqqqqq"] = (ds.map (·.1) ++ [("qqqqqqqq" : Str)]).map V.str := by rw [List.map_append]; rfl
      refine ⟨_, rfl, _, _, rfl, rfl, _, rfl, ite2 (fun c1 => ?_) (fun c1 => ?_)⟩
      · refine ⟨_, rfl, _, rfl, _, rfl, q2, _, rfl, .inl (SqL.of N4.f), a, g, n + 1, _, rfl, N4.T, by omega, by simp only [List.length_append, List.length_map, List.length_cons, List.length_nil]; omega, by simp only [List.length_append, List.length_map, List.length_cons, List.length_nil]; omega, fun r H5 r0 r1 T5 s5 => ?_⟩
        obtain ⟨j, rfl⟩ : ∃ j : Nat, r = (j : Int) := ⟨r.toNat, by omega⟩
        simp only [List.length_append, List.length_map, List.length_cons, List.length_nil] at r1
        have hj : j < (ds.map (·.1) ++ [("qqqqqqqq" : Str)]).length := by simp only [List.length_append, List.length_map, List.length_cons, List.length_nil]; omega
        have at1 : ((ds.map (·.1)).map V.str ++ [V.str "qqqqqqqq"])[j]? = some (.str (ds.map (·.1) ++ [("qqqqqqqq" : Str)])[j]) := by rw [e5, List.getElem?_map, List.getElem?_eq_getElem hj]; rfl
        have nm := List.getElem_mem hj
        generalize (ds.map (·.1) ++ [("qqqqqqqq" : Str)])[j] = d at at1 nm
        have hd : Lo d ∧ d.length ≤ 8 := by
          rcases List.mem_append.mp nm with h | h
          · obtain ⟨e, he, rfl⟩ := List.mem_map.mp h
            exact ⟨(ok.dn e he).lo, (ok.dn e he).le8⟩
          · rw [List.mem_singleton.mp h]
            exact ⟨q8_lo, by decide +kernel⟩
        refine ⟨q2, _, _, _, rfl, rfl, SqL.of (ctkeep s5 N4.f N4.na N4.ng), atI_nat at1, ?_⟩
        refine set_st (σ' := [some (.ref a), some (.ref l), some (.int lot), none, some (.ref q2), some (.str d), none, none, none, none]) rfl ?_
        refine ⟨_, rfl, a, g, n + 2, _, rfl, T5, by omega, by decide, by decide, fun m H6 m0 m1 T6 s6 => ?_⟩
        obtain ⟨jm, rfl⟩ : ∃ j : Nat, m = (j : Int) := ⟨m.toNat, by omega⟩
        refine ⟨_, rfl, by omega, by omega, fun D2 hD2 => ?_⟩
        rw [Int.toNat_natCast]
        obtain ⟨nDa, nDg⟩ := T6.na hD2
        refine lc_build (walk_range (lo := 0)) hD2 (fun i ys R => ∃ vals : List Fv, ys = vals.map Fv.v ∧ vals.length = i ∧ (∀ v ∈ vals, v.good) ∧ Tray R a g (n + 3 + 22 * i) ∧ Same (ct a g H6) (ct a g R)) ⟨[], rfl, rfl, fun _ h => (nomatch h), T6.mono (by omega), Same.refl _⟩ (fun _ _ _ _ _ => trivial) ?_ ?_
        · rintro i ys y H7 H7' hi e7 l7 ⟨vals, rfl, lv, hv, T7, s7⟩ ⟨rfl, rfl⟩
          refine ⟨rfl, yes ?_⟩
          refine ⟨_, rfl, a, g, n + 3 + 22 * i, rfl, T7.same cd_sub, by omega, fun v H8 gv T8 s8 => ?_⟩
          refine LcNx.add (ctkeep s8 e7 nDa nDg) l7 (by omega) ⟨vals ++ [v], by rw [List.map_append]; rfl, by rw [List.length_append]; show vals.length + 1 = i + 1; omega, fun y hy => ?_, (T8.cd nDa nDg).mono (by omega), ctcd hD2 s7 s8⟩
          rcases List.mem_append.mp hy with hy | hy
          · exact hv y hy
          · rw [List.mem_singleton.mp hy]
            exact gv
        · rintro ys H7 e7 l7 ⟨vals, rfl, lv, hv, T7, s7⟩
          have T7' := T7.same cd_sub
          have s67 : Same (ct a g H6) (ct a g H7) := s7.trans (ct_same cd_sub)
          refine ⟨D2, _, rfl, .inl ⟨SqL.of e7, fun q nq => ?_⟩⟩
          generalize e8 : upd H7 q _ = H8
          have N8 := newAt T7' nq e8
          refine set_st (σ' := [some (.ref a), some (.ref l), some (.int lot), none, some (.ref q2), some (.str d), none, some (.ref q), none, none]) rfl ?_
          refine ⟨_, rfl, _, rfl, a, g, _, rfl, N8.T, by omega, fun key H9 hkey T9 s9 => ?_⟩
          refine ⟨_, rfl, a, g, _, rfl, T9, by omega, fun day H10 hday T10 s10 => ?_⟩
          refine ⟨_, rfl, by show 5 ≤ sizeLine; decide, fun p np => ?_⟩
          generalize e11 : upd H10 p _ = H11
          have N11 := newAt T10 np e11
          have s811 := (s9.trans s10).trans N11.c
          exact k p (.kind d key day vals) H11 ⟨q, SqT.of N11.fc, SqT.of (s811 _ _ N8.fc)⟩ hd ⟨lo_tx hd.1 hd.2, hkey.tx, hday.nu, by omega, fun v hv' => (hv v hv').ok⟩ (N11.T.mono (by omega)) (((((s04.trans s5).trans s6).trans s67).trans N8.c).trans s811)
      refine ⟨_, rfl, _, _, rfl, rfl, _, rfl, ite2 (fun c2 => ?_) (fun c2 => ?_)⟩
      · refine ⟨_, rfl, a, g, n + 1, _, rfl, N4.T, by omega, by decide, by decide, fun m H6 m0 m1 T6 s6 => ?_⟩
        obtain ⟨jm, rfl⟩ : ∃ j : Nat, m = (j : Int) := ⟨m.toNat, by omega⟩
        refine ⟨_, rfl, by omega, by omega, fun D2 hD2 => ?_⟩
        rw [Int.toNat_natCast]
        obtain ⟨nDa, nDg⟩ := T6.na hD2
        refine lc_build (walk_range (lo := 0)) hD2 (fun i ys R => ∃ vals : List Str, ys = vals.map V.str ∧ vals.length = i ∧ (∀ v ∈ vals, Ky v) ∧ Tray R a g (n + 2 + 14 * i) ∧ Same (ct a g H6) (ct a g R)) ⟨[], rfl, rfl, fun _ h => (nomatch h), T6.mono (by omega), Same.refl _⟩ (fun _ _ _ _ _ => trivial) ?_ ?_
        · rintro i ys y H7 H7' hi e7 l7 ⟨vals, rfl, lv, hv, T7, s7⟩ ⟨rfl, rfl⟩
          refine ⟨rfl, yes ?_⟩
          refine ⟨_, rfl, a, g, n + 2 + 14 * i, rfl, T7.same cd_sub, by omega, fun v H8 gv T8 s8 => ?_⟩
          refine LcNx.add (ctkeep s8 e7 nDa nDg) l7 (by omega) ⟨vals ++ [v], by rw [List.map_append]; rfl, by rw [List.length_append]; show vals.length + 1 = i + 1; omega, fun y hy => ?_, (T8.cd nDa nDg).mono (by omega), ctcd hD2 s7 s8⟩
          rcases List.mem_append.mp hy with hy | hy
          · exact hv y hy
          · rw [List.mem_singleton.mp hy]
            exact gv
        · rintro ys H7 e7 l7 ⟨keys, rfl, lk, hk, T7, s7⟩
          have T7' := T7.same cd_sub
          have s67 : Same (ct a g H6) (ct a g H7) := s7.trans (ct_same cd_sub)
          refine ⟨D2, _, rfl, .inl ⟨SqL.of e7, fun q nq => ?_⟩⟩
          generalize e8 : upd H7 q _ = H8
          have N8 := newAt T7' nq e8
          refine set_st (σ' := [some (.ref a), some (.ref l), some (.int lot), none, some (.ref q2), none, none, none, some (.ref q), none]) rfl ?_
          refine ⟨_, rfl, a, g, _, _, rfl, N8.T, by omega, by decide, by decide, fun m2 H9 m20 m21 T9 s9 => ?_⟩
          obtain ⟨jn, rfl⟩ : ∃ j : Nat, m2 = (j : Int) := ⟨m2.toNat, by omega⟩
          refine ⟨_, rfl, by omega, by omega, fun D3 hD3 => ?_⟩
          rw [Int.toNat_natCast]
          obtain ⟨n3a, n3g⟩ := T9.na hD3
          refine lc_build (walk_range (lo := 0)) hD3 (fun i ys R => ∃ vals : List Int, ys = vals.map V.int ∧ vals.length = i ∧ (∀ v ∈ vals, Wh v) ∧ Tray R a g (n + 2 + 14 * jm + 1 + 7 * i) ∧ Same (ct a g H9) (ct a g R)) ⟨[], rfl, rfl, fun _ h => (nomatch h), T9.mono (by omega), Same.refl _⟩ (fun _ _ _ _ _ => trivial) ?_ ?_
          · rintro i ys y H10 H10' hi e10 l10 ⟨vals, rfl, lv, hv, T10, s10⟩ ⟨rfl, rfl⟩
            refine ⟨rfl, yes ?_⟩
            refine ⟨_, rfl, a, g, n + 2 + 14 * jm + 1 + 7 * i, rfl, T10.same cd_sub, by omega, fun v H11 gv T11 s11 => ?_⟩
            refine LcNx.add (ctkeep s11 e10 n3a n3g) l10 (by omega) ⟨vals ++ [v], by rw [List.map_append]; rfl, by rw [List.length_append]; show vals.length + 1 = i + 1; omega, fun y hy => ?_, (T11.cd n3a n3g).mono (by omega), ctcd hD3 s10 s11⟩
            rcases List.mem_append.mp hy with hy | hy
            · exact hv y hy
            · rw [List.mem_singleton.mp hy]
              exact gv
          · rintro ys H10 e10 l10 ⟨nums, rfl, ln, hnu, T10, s10⟩
            have T10' := T10.same cd_sub
            have s910 : Same (ct a g H9) (ct a g H10) := s10.trans (ct_same cd_sub)
            refine ⟨D3, _, rfl, .inl ⟨SqL.of e10, fun q3 nq3 => ?_⟩⟩
            generalize e11 : upd H10 q3 _ = H11
            have N11 := newAt T10' nq3 e11
            refine set_st (σ' := [some (.ref a), some (.ref l), some (.int lot), none, some (.ref q2), none, none, none, some (.ref q), some (.ref q3)]) rfl ?_
            refine ⟨_, rfl, a, g, _, rfl, N11.T, by omega, fun name H12 hname T12 s12 => ?_⟩
            refine ⟨_, rfl, a, g, _, rfl, T12, by omega, fun day H13 hday T13 s13 => ?_⟩
            refine ⟨_, rfl, _, rfl, by show 5 ≤ sizeLine; decide, fun p np => ?_⟩
            generalize e14 : upd H13 p _ = H14
            have N14 := newAt T13 np e14
            have s1114 := (s12.trans s13).trans N14.c
            have s814 := ((s9.trans s910).trans N11.c).trans s1114
            exact k p (.fact name day keys nums) H14 ⟨q, q3, SqT.of N14.fc, SqT.of (s814 _ _ N8.fc), SqT.of (s1114 _ _ N11.fc)⟩ trivial ⟨hname.tx, hday.nu, ⟨by omega, fun z hz => (hk z hz).tx⟩, by omega, fun i hi => (hnu i hi).nu⟩ (N14.T.mono (by omega)) ((((s04.trans s6).trans s67).trans N8.c).trans s814)
      · refine ⟨_, rfl, a, g, n + 1, rfl, N4.T, by omega, fun name H3 hname T3 s3 => ?_⟩
        refine ⟨by show 2 ≤ sizeLine; decide, fun p np => ?_⟩
        generalize e6 : upd H3 p _ = H6
        have N6 := newAt T3 np e6
        exact k p (.forget name) H6 (SqT.of N6.fc) trivial hname.tx (N6.T.mono (by omega)) ((s04.trans s3).trans N6.c)
end
end Kd

namespace KdKw
open PySem PySem.Spec PyProof.Rows L2
section
variable {X : Cx} {CX : CXT} {k : Nat} {f : Addr} {fd : FuncData} {ps ks : List Str} {sp : Sp} {x : Str} {p pos : Pos} {kws : List Keyword} {tk : TA} {g : List Value → List Value → List Value} {gV : List V → List V → List V}
/-- f(k = v, ..), and what it raises is wished for at the slots -/
def tCallK0S (sp : Sp) (gV : List V → List V → List V) (E : L2.St → XK) (tk : TA) : TE := fun σ H Q => tk σ H fun zs H2 => sp (gV [] zs) H2 Q (E σ)
theorem run_fnkS {E : L2.St → XK} {pins : List (Addr × Obj)} {σ : L2.St} {H : Hp} {s : Shared} {Q : VK} {us ws : List Value} {vs zs : List V} (F : FnOk X.prog X.w X.K X.mg X.base CX k f fd ps sp) (hr : Room k X.A) (hb : KBinds X.K fd ps ks g gV) (hx : PassesAt CX X σ (E σ))
    (I : Inv X pins σ H s) (r : Vals vs us) (rz : Vals zs ws) (h : sp (gV vs zs) H Q (E σ)) : wpAny (model X.prog X.w) X.A (call (.ref f) us (ks.zip ws)) (EP X pins σ Q) X.xe s := by
  have r2 := hb.rel r rz
  have hl : (g us ws).length = ps.length := by rw [← r2.length]; exact F.len _ _ _ _ h
  refine wpAny_call (codeAny_mono (F.run X.A X.stack s H ⟨us, ks.zip ws⟩ (g us ws) (gV vs zs) Q (E σ) hr I.env0 (hb.to s us ws I.kIn hl) r2 h) fun r s' hq => ?_)
  cases r with
  | error e => exact hx pins H s e s' I hq
  | ok fl =>
    cases fl with
    | ret u => exact I.after hq
    | next => exact False.elim hq
    | brk => exact False.elim hq
    | cont => exact False.elim hq
theorem pe_callK0S {E : L2.St → XK} (F : FnOk X.prog X.w X.K X.mg X.base CX k f fd ps sp) (hr : Room k X.A) (hg : Gl X x) (hm : X.mg x = some (.ref f)) (hk : PySem.W.keepIn X.K (.ref f) = true) (hb : KBinds X.K fd ps ks g gV) (hx : ∀ σ, PassesAt CX X σ (E σ)) (hkw : PK X kws tk)
    (hall : (backToKw pos (keywordEach kws X.env)).all (·.1.isSome) = true := by rfl) (hks : (backToKw pos (keywordEach kws X.env)).filterMap (·.1) = ks := by rfl) (hdb : (x == ("__debug__" : Str)) = false := by decide)
    (hpl : ((backTo pos (starEach [] X.env)).any (·.1) || (backToKw pos (keywordEach kws X.env)).any (·.1.isNone)) = false := by rfl) :
    PE X (.Call (.Name x p) [] kws pos) (tCallK0S sp gV E tk) := by
  refine ⟨fun pins s σ H Q I h => ?_⟩
  refine wpAny_Call_Name_kw (ld_glob I hg hm ?_ hdb)
  refine PySem.W.callWith_KW0 (h₀ := X.base) I.ok.mod.kin hk hall ?_ hpl
  refine thn (hkw.run pos pins s σ H _ I h) fun ws s2 ⟨zs, H2, I2, rz, q2⟩ => ⟨I2.kIn, ?_⟩
  rw [hks]
  exact run_fnkS (us := []) (vs := []) F hr hb (hx σ) I2 .nil rz q2
theorem pe_callK0 {E : XK} (F : FnOk X.prog X.w X.K X.mg X.base CX k f fd ps sp) (hr : Room k X.A) (hg : Gl X x) (hm : X.mg x = some (.ref f)) (hk : PySem.W.keepIn X.K (.ref f) = true) (hb : KBinds X.K fd ps ks g gV) (hx : Passes CX X E) (hkw : PK X kws tk)
    (hall : (backToKw pos (keywordEach kws X.env)).all (·.1.isSome) = true := by rfl) (hks : (backToKw pos (keywordEach kws X.env)).filterMap (·.1) = ks := by rfl) (hdb : (x == ("__debug__" : Str)) = false := by decide)
    (hpl : ((backTo pos (starEach [] X.env)).any (·.1) || (backToKw pos (keywordEach kws X.env)).any (·.1.isNone)) = false := by rfl) :
    PE X (.Call (.Name x p) [] kws pos) (L2.tCallK sp gV E tNil tk) := by
  refine ⟨fun pins s σ H Q I h => ?_⟩
  refine wpAny_Call_Name_kw (ld_glob I hg hm ?_ hdb)
  refine PySem.W.callWith_KW0 (h₀ := X.base) I.ok.mod.kin hk hall ?_ hpl
  refine thn (hkw.run pos pins s σ H _ I h) fun ws s2 ⟨zs, H2, I2, rz, q2⟩ => ⟨I2.kIn, ?_⟩
  rw [hks]
  exact run_fnk (us := []) (vs := []) F hr hb hx I2 .nil rz q2
end
/-- one name -/
def kw1 {α : Type} (us ws : List α) : List α := match us, ws with
  | [], [k] => [k]
  | _, _ => []
theorem kw1_rel {vs : List V} {us : List Value} {zs : List V} {ws : List Value} (r1 : Vals vs us) (r2 : Vals zs ws) : Vals (kw1 vs zs) (kw1 us ws) := by
  cases r1 with
  | cons _ _ => exact .nil
  | nil =>
    cases r2 with
    | nil => exact .nil
    | cons a t =>
      cases t with
      | nil => exact .cons a .nil
      | cons _ _ => exact .nil
/-- two names, the other way round -/
def kw2 {α : Type} (us ws : List α) : List α := match us, ws with
  | [], [a, b] => [b, a]
  | _, _ => []
theorem kw2_rel {vs : List V} {us : List Value} {zs : List V} {ws : List Value} (r1 : Vals vs us) (r2 : Vals zs ws) : Vals (kw2 vs zs) (kw2 us ws) := by
  cases r1 with
  | cons _ _ => exact .nil
  | nil =>
    cases r2 with
    | nil => exact .nil
    | cons a t =>
      cases t with
      | nil => exact .nil
      | cons b t =>
        cases t with
        | nil => exact .cons b (.cons a .nil)
        | cons _ _ => exact .nil
end KdKw

namespace Kd
open PySem PySem.Spec PyProof.Rows L2 KdXc
section
variable {P : Program} {w : World} {K : PySem.W.Frag} {mg : Str → Option Value} {base : Heap} {f : Addr} {fd : FuncData}
/-! ### _law_refused -/
def tSuite (N : Addr) : Addr → Value → Option Addr → TS := fun a cls d => tAsg (tLst (tCons (tXf a cls d N "what" (tVar 3)) tNil)) (gName 2)
abbrev N_l_refused : List Str := ["made", "line", "found", "e"]
theorem sc_l_refused : FnScope N_l_refused ["made", "line"] (defScope s_l_refused) := ⟨rfl, rfl, rfl, by decide +kernel, rfl, by decide +kernel, by decide +kernel⟩
def refL (b : Bool) (p : Addr) : List V := if b = true then [] else [.ref p]
def spRefused (K : PySem.W.Frag) (C : Addr) : Sp := fun vs H Q _ => ∃ (x p : Addr) (r : Rw) (ds : List Dm) (ms : List Str), vs = [.ref x, .ref p] ∧ PlanAt K C H x ds ms ∧ r.at K H p ∧ r.ok ∧
  ∀ q H', Same H H' → H q = none → H' q = some (.lst (refL (r.fits ds ms) p)) → Q (.ref q) H'
theorem ok_refused {C N fN fL : Addr} {fdN fdL : FuncData} (F : FnP K "_law_refused" "_law_refused" s_l_refused f fd) (GL : FnOk P w K mg base (L2.CX P w) 5 fL fdL ["plan", "row"] (spLook K C N)) (gL : mg "look" = some (.ref fL)) (kL : PySem.W.keepIn K (.ref fL) = true) (bL : Binds K fdL ["plan", "row"] [])
    (M : ErrM P w K mg base "NoRow" N fN fdN) :
    FnOk P w K mg base CX0 6 f fd ["made", "line"] (spRefused K C) := by
  refine F.ok sc_l_refused (fun vs H Q E h => ?_) (fun cdv A outer s H vs Q E hr h => ?_)
  · obtain ⟨x, p, r, ds, ms, rfl, _⟩ := h
    rfl
  · obtain ⟨x, p, r, ds, ms, rfl, hx, hp, ok, k⟩ := h
    have nd := sc_l_refused.nd
    refine ⟨_, pss_cons (ps_set (i := 2) nd rfl (Or.inl rfl) (pe_lst pa_nil)) (pss_cons (ps_try_as (i := 3)
        (tb := fun W => tDrop (tCallS (spLook K C N) (WE W) (tCons (tVar 0) (tCons (tVar 1) tNil))))
        (ts := tSuite N) (Wout := fun _ _ _ _ => False) rfl rfl nd rfl rfl ⟨rfl, by decide, .inl M.g⟩ takes0
        (fun W pn xe tk _ => pss_one (ps_expr (by exact (pe_callS GL (hr.mono (by decide)) rfl gL kL bL (fun σ => passAt tk σ) (pa_cons (pv 0) (pa_cons (pv 1) pa_nil))))))
        (fun a oe cls d pn hz hf => pss_one (ps_set (i := 2) nd rfl (Or.inl rfl) (by exact (pe_lst (pa_cons (pe_xf M.T.x M.T.nW hz hf (pv 3)) pa_nil))))))
      (pss_one (ps_ret (pv 2)))), ?_⟩
    refine ⟨by show 0 ≤ sizeLine; decide, fun q0 nq0 => ?_⟩
    generalize e0 : upd H q0 _ = H0
    have N0 := newO nq0 e0
    refine set_st (σ' := [some (.ref x), some (.ref p), some (.ref q0), none]) rfl ?_
    refine ⟨_, rfl, _, rfl, x, p, r, ds, ms, rfl, PlanAt.same N0.s hx, Rw.same N0.s hp, ok, fun c H7 s7 => ?_, fun c d H7 s7 _ hd => ?_⟩
    · exact ⟨_, rfl, k q0 _ (N0.s.trans s7) nq0 (by rw [c]; exact s7 _ _ N0.f)⟩
    · refine ⟨true, M.T.em, fun _ a ha => ?_, fun q => nomatch q⟩
      refine ⟨_, rfl, rfl, rfl, d, _, _, rfl, hd, what_of "NoRow" (.ref p), ?_⟩
      refine ⟨by show 1 ≤ sizeLine; decide, fun q nq => ?_⟩
      generalize e10 : upd H7 q _ = H10
      have N10 := newO nq e10
      exact ⟨_, rfl, k q H10 ((N0.s.trans s7).trans N10.s) ((N0.s.trans s7).free nq) (by rw [c]; exact N10.f)⟩
end
end Kd

namespace Kd
open PySem PySem.Spec PyProof.Rows L2 KdXc
theorem mir_nm {z : Str} (h : IsNm z) : IsNm (mir z) := ⟨mir_lo h.lo, by rw [mir_len]; exact h.pos, by rw [mir_len]; exact h.le8⟩
theorem nodup_mir : ∀ {xs : List Str}, (∀ z ∈ xs, IsNm z) → xs.Nodup → (xs.map mir).Nodup
  | [], _, _ => List.nodup_nil
  | x :: xs, h, n => by
    obtain ⟨n1, n2⟩ := List.nodup_cons.mp n
    rw [List.map_cons]
    refine List.nodup_cons.mpr ⟨fun q => n1 ?_, nodup_mir (fun z hz => h z (List.mem_cons_of_mem _ hz)) n2⟩
    obtain ⟨y, hy, e⟩ := List.mem_map.mp q
    rw [← mir_inj (h y (List.mem_cons_of_mem _ hy)).lo (h x (List.mem_cons_self ..)).lo e]
    exact hy
theorem nodup_rev {xs : List Str} (h : xs.Nodup) : xs.reverse.Nodup := by
  unfold List.Nodup at h ⊢
  rw [List.pairwise_reverse]
  exact h.imp fun q e => q e.symm
def OthR (d d' : Dm) : Prop := d'.1 = mir d.1 ∧ d'.2.length = d.2.length
theorem oth_names : ∀ {ds ds' : List Dm}, Paired OthR ds ds' → ds'.map (·.1) = (ds.map (·.1)).map mir
  | _, _, .nil => rfl
  | _, _, .cons ⟨h, _⟩ t => by rw [List.map_cons, List.map_cons, List.map_cons, oth_names t, h]
theorem oth_mem : ∀ {ds ds' : List Dm}, Paired OthR ds ds' → ∀ d' ∈ ds', ∃ d ∈ ds, OthR d d'
  | _, _, .nil, _, h => nomatch h
  | _, _, .cons h t, d', m => by
    rcases List.mem_cons.mp m with rfl | m
    · exact ⟨_, List.mem_cons_self .., h⟩
    · obtain ⟨d, hd, o⟩ := oth_mem t d' m
      exact ⟨d, List.mem_cons_of_mem _ hd, o⟩
theorem ways4_at {j : Nat} (h : j < 4) : ∃ z, (([V.str "first", V.str "last", V.str "day", V.str "before"] : List V)[j]? = some (.str z)) ∧ IsWay z := by
  have h2 : (["first", "last", "day", "before"] : List Str)[j]? = some ((["first", "last", "day", "before"] : List Str)[j]'h) := List.getElem?_eq_getElem h
  refine ⟨(["first", "last", "day", "before"] : List Str)[j]'h, ?_, List.getElem_mem _⟩
  show ((["first", "last", "day", "before"] : List Str).map V.str)[j]? = _
  rw [List.getElem?_map, h2]
  rfl
section
variable {P : Program} {w : World} {K : PySem.W.Frag} {mg : Str → Option Value} {base : Heap} {f : Addr} {fd : FuncData}
abbrev N_l_other : List Str := ["tray", "some", "sums", "found", "name", "rows", "one", "ways", "k"]
theorem sc_l_other : FnScope N_l_other ["tray", "some", "sums"] (defScope s_l_other) := ⟨rfl, rfl, rfl, by decide +kernel, rfl, by decide +kernel, by decide +kernel⟩
/-! slots: 0 tray 1 some 2 sums 3 found 4 name 5 rows 6 one 7 ways 8 k; cells: rows tray ways -/
def spOther (K : PySem.W.Frag) : Sp := fun vs H Q _ => ∃ (a g l m : Addr) (n : Nat) (ds : List Dm) (ms : List Str), vs = [.ref a, .ref l, .ref m] ∧ Tray H a g n ∧ n ≤ 600000 ∧ DimsAt K (ct a g H) l ds ∧ SqL K (ct a g H) m (ms.map V.str) ∧ Good ds ms ∧
  ∀ (r l' m' : Addr) (ds' : List Dm) (ms' : List Str) (H' : Hp), ct a g H' r = some (.lst [.ref l', .ref m']) → Lsts K H' a g l' m' ds' ms' → Paired OthR ds ds' → ms'.length = ms.length → Tray H' a g (n + 20) → Same (ct a g H) (ct a g H') → Q (.ref r) H'
theorem ok_other {fD fT : Addr} {fdD fdT : FuncData} (F : FnP K "_law_other" "_law_other" s_l_other f fd) (c_draw : Fun P w K mg base "_law_draw" 1 ["tray", "many"] spDraw fD fdD) (c_turned : Fun P w K mg base "_law_turned" 1 ["word"] spTurn fT fdT)
    (z_len : mg "len" = none) (z_tuple : mg "tuple" = none) (z_range : mg "range" = none) : FnOk P w K mg base CX0 2 f fd ["tray", "some", "sums"] (spOther K) := by
  refine F.ok sc_l_other (fun vs H Q E h => ?_) (fun cdv A outer s H vs Q E hr h => ?_)
  · obtain ⟨a, g, l, m, n, ds, ms, rfl, _⟩ := h
    rfl
  · obtain ⟨a, g, l, m, n, ds, ms, rfl, hT, hn, ⟨xs, hl, hp⟩, hm, ok, k⟩ := h
    have nd := sc_l_other.nd
    have hlen := hp.length
    have d4 := ok.d4
    refine ⟨_, PSs.nox (pss_cons (ps_set (i := 3) nd rfl (Or.inl rfl) (pe_lst pa_nil))
      (pss_cons (ps_for PassesOwn.never rfl (pi_list (pv 1)) (pg_tup rfl (pgs_cons (pg_name (i := 4) nd rfl (Or.inl rfl)) (pgs_cons (pg_name (i := 5) nd rfl (Or.inr rfl)) pgs_nil)))
        (pss_cons (ps_set (i := 7) nd rfl (Or.inr rfl) (pe_lc (own := [("one", 6)]) (g := gName 6) (tt := tYes) (te := tOp (rIxL K) (tLst (tCons (tC (.str "first")) (tCons (tC (.str "last")) (tCons (tC (.str "day")) (tCons (tC (.str "before")) tNil))))) (tCall spDraw [] E0 (tCons (tVar 0) (tCons (tC (.int 4)) tNil)))) rfl nd (pi_tup (pv 5)) (blkOk_by (own := [("one", 6)]) (N := N_l_other) (sc := defScope s_l_other) (by decide +kernel))
        (fun _ _ _ _ _ => pg_name (i := 6) nd rfl (Or.inl rfl)) (fun _ _ _ _ _ => pts_nil) (fun _ _ _ _ _ => pe_ix ix_list (pe_lst (pa_cons pe_str (pa_cons pe_str (pa_cons pe_str (pa_cons pe_str pa_nil))))) (pe_call c_draw.G (hr.mono (by decide)) rfl c_draw.g c_draw.k c_draw.b .nil pass0 (pa_cons (pv 0) (pa_cons pe_int pa_nil))) (fun _ _ => rfl))))
        (pss_one (ps_expr (pe_bm PySem.F.plainAttrs_list PySem.F.slot_list_append PySem.F.type_list_append mt_append (pv 3) (pa_cons (pe_tup (pa_cons (pe_call c_turned.G (hr.mono (by decide)) rfl c_turned.g c_turned.k c_turned.b .nil pass0 (pa_cons (pv 4) pa_nil)) (pa_cons (pe_callTy call_tuple_of (by rfl) z_tuple (by decide +kernel) (pa_cons (pe_revL (pe_lc (own := [("k", 8)]) (g := gName 8) (tt := tYes) (te := tTup (tCons (tCall spTurn [] E0 (tCons (tOp (rIxT K) (tOp (rIxT K) (tVar 5) (tVar 8)) (tC (.int 0))) tNil)) (tCons (tOp (rIxL K) (tVar 7) (tVar 8)) tNil))) rfl nd (pi_range1 rfl z_range (pa_cons (pe_callB call_len_seq (by rfl) z_len boot_len (pa_cons (pv 5) pa_nil)) pa_nil)) (blkOk_by (own := [("k", 8)]) (N := N_l_other) (sc := defScope s_l_other) (by decide +kernel))
        (fun _ _ _ _ _ => pg_name (i := 8) nd rfl (Or.inl rfl)) (fun _ _ _ _ _ => pts_nil) (fun _ _ _ _ _ => pe_tup (pa_cons (pe_call c_turned.G (hr.mono (by decide)) rfl c_turned.g c_turned.k c_turned.b .nil pass0 (pa_cons (pe_ix ix_tup (pe_ix ix_tup (pv 5) (pv 8) (fun _ _ => rfl)) pe_int (fun _ _ => rfl)) pa_nil)) (pa_cons (pe_ix ix_list (pv 7) (pv 8) (fun _ _ => rfl)) pa_nil))))) pa_nil)) pa_nil))) pa_nil))))))
      (pss_one (ps_ret (pe_lst (pa_cons (pv 3) (pa_cons (pe_lc (own := [("one", 6)]) (g := gName 6) (tt := tYes) (te := tCall spTurn [] E0 (tCons (tVar 6) tNil)) rfl nd (pi_list (pe_revL (pv 2))) (blkOk_by (own := [("one", 6)]) (N := N_l_other) (sc := defScope s_l_other) (by decide +kernel))
        (fun _ _ _ _ _ => pg_name (i := 6) nd rfl (Or.inl rfl)) (fun _ _ _ _ _ => pts_nil) (fun _ _ _ _ _ => pe_call c_turned.G (hr.mono (by decide)) rfl c_turned.g c_turned.k c_turned.b .nil pass0 (pa_cons (pv 6) pa_nil))) pa_nil))))))), ?_⟩
    refine ⟨by show 0 ≤ sizeLine; decide, fun lf hf => ?_⟩
    obtain ⟨nfa, nfg⟩ := hT.na hf
    generalize e1 : upd H lf _ = H1
    have N1 := newAt hT hf e1
    refine set_st (σ' := [some (.ref a), some (.ref l), some (.ref m), some (.ref lf), none, none, none, none, none]) rfl ?_
    have s0B : Same (ct a g H) (ct a g (cd lf H1)) := fun b o e => by
      obtain ⟨na, ng⟩ := ct_ne e
      have nl : b ≠ lf := ne_of_none (ct_sub _ _ e) hf
      exact ct_of (cd_of (N1.s _ _ (ct_sub _ _ e)) nl) na ng
    have hlB := Same.seq s0B hl
    have hpB := PySem.Paired.mono (fun _ _ => DimAt.same s0B) hp
    refine ⟨_, rfl, l, rfl, ⟨_, Same.seq (ct_sub.trans cd_sub) hlB⟩, for_list (K := K) (a := l) (xs := xs) (fun i σ H4 => ∃ (ds' : List Dm) (xs' : List V) (x4 x5 x6 x7 x8 : Option V), σ = [some (.ref a), some (.ref l), some (.ref m), some (.ref lf), x4, x5, x6, x7, x8] ∧ H4 lf = some (.lst xs') ∧ Paired (DimAt K H4) xs' ds' ∧ Paired OthR (ds.take i) ds' ∧ AttOk 1 ds' ∧ Tray H4 a g (n + 5 * i) ∧ Same (ct a g (cd lf H1)) (ct a g (cd lf H4)) ∧ xs'.length = i)
      ⟨[], [], _, _, _, _, _, rfl, N1.f, .nil, .nil, fun _ h => (nomatch h), N1.T, Same.refl _, rfl⟩ (fun i σ H4 _ ⟨_, _, _, _, _, _, _, _, _, _, _, _, _, s4, _⟩ => Same.seq ((s4.trans ct_sub).trans cd_sub) hlB) ?_ ?_⟩
    · rintro i x σ H4 hi ⟨ds', xs', x4, x5, x6, x7, x8, rfl, f4, p4, o4, a4, T4, s4, l4⟩
      obtain ⟨d, hd, pd, qd, rfl, t1, zs, z1, z2⟩ := paired_at (PySem.Paired.mono (fun _ _ => DimAt.same s4) hpB) hi
      have dm : d ∈ ds := List.mem_of_getElem? hd
      have l5 := ok.al d dm
      have lz := z2.length
      have hil : i < xs.length := (List.getElem?_eq_some_iff.mp hi).1
      have sB4 : Same (ct a g (cd lf H4)) (ct a g H4) := ct_same cd_sub
      refine ⟨pd, _, rfl, Same.seqT (ct_sub.trans cd_sub) t1, rfl, _, _, rfl, _, _, rfl, rfl, ?_⟩
      refine st_eq (σ' := [some (.ref a), some (.ref l), some (.ref m), some (.ref lf), some (.str d.1), some (.ref qd), x6, x7, x8]) rfl ?_
      have z4 : SqT K (ct a g H4) qd zs := Same.seqT sB4 z1
      have zp4 := PySem.Paired.mono (fun _ _ => AttAt.same sB4) z2
      refine ⟨_, rfl, qd, rfl, ⟨_, Same.seqT ct_sub z4⟩, fun D hD => lc_build (walk_tup (K := K) (a := qd) (xs := zs)) hD (fun j ys R => ∃ ws : List Str, ys = ws.map V.str ∧ ws.length = j ∧ (∀ z ∈ ws, IsWay z) ∧ Tray R a g (n + 5 * i + j) ∧ Same (ct a g H4) (ct a g R))
        ⟨[], rfl, rfl, fun _ h => (nomatch h), T4, Same.refl _⟩ (fun j ys H7 _ ⟨_, _, _, _, _, s7⟩ => Same.seqT ((s7.trans ct_sub).trans cd_sub) z4) ?_ ?_⟩
      · rintro j ys y H7 H7' hj e7 l7 ⟨ws, rfl, lw, hw7, T7, s7⟩ ⟨rfl, hy⟩
        obtain ⟨nDa, nDg⟩ := T4.na hD
        refine ⟨rfl, yes ?_⟩
        refine ⟨by show 4 ≤ sizeLine; decide, fun p8 n8 => ?_⟩
        generalize e8 : upd H7' p8 _ = H8
        have N8 := newAt (T7.same cd_sub) n8 e8
        refine ⟨_, rfl, a, g, n + 5 * i + j, 4, rfl, N8.T, by omega, by decide, by decide, fun q H9 q0 q1 T9 s9 => ?_⟩
        obtain ⟨jq, rfl⟩ : ∃ j : Nat, q = (j : Int) := ⟨q.toNat, by omega⟩
        obtain ⟨wz, v1, v2⟩ := ways4_at (j := jq) (by omega)
        have s79 := N8.c.trans s9
        refine ⟨p8, _, _, _, rfl, rfl, SqL.of (ctkeep s9 N8.f N8.na N8.ng), atI_nat v1, LcNx.add (ctkeep s79 e7 nDa nDg) l7 (by omega) ⟨ws ++ [wz], by rw [List.map_append]; rfl, by rw [List.length_append]; show ws.length + 1 = j + 1; omega, fun y hy => ?_, (T9.cd nDa nDg).mono (by omega), ctcd hD s7 s79⟩⟩
        rcases List.mem_append.mp hy with hy | hy
        · exact hw7 y hy
        · rw [List.mem_singleton.mp hy]
          exact v2
      · rintro ys H7 e7 l7 ⟨ws, rfl, lw, hw7, T7, s7⟩
        obtain ⟨nDa, nDg⟩ := T4.na hD
        have s47 : Same (ct a g H4) (ct a g H7) := s7.trans (ct_same cd_sub)
        have f7 : H7 lf = some (.lst xs') := ctkeep s47 f4 nfa nfg
        have T7' : Tray H7 a g (n + 5 * i + zs.length) := T7.same cd_sub
        have z7 : SqT K (ct a g H7) qd zs := Same.seqT s47 z4
        have zp7 := PySem.Paired.mono (fun _ _ => AttAt.same s47) zp4
        refine set_st (σ' := [some (.ref a), some (.ref l), some (.ref m), some (.ref lf), some (.str d.1), some (.ref qd), x6, some (.ref D), x8]) rfl ?_
        refine ⟨_, rfl, .inl ⟨rfl, _, SqL.of f7⟩, _, rfl, d.1, rfl, (ok.dn d dm).lo, (ok.dn d dm).le8, fun H8 s8 => ?_⟩
        have z8 : SqT K H8 qd zs := Same.seqT (ct_sub.trans s8) z7
        have zp8 := PySem.Paired.mono (fun _ _ => AttAt.same (ct_sub.trans s8)) zp7
        have e8 := s8 _ _ e7
        refine ⟨_, rfl, qd, _, rfl, .inr z8, _, rfl, by omega, by omega, fun D2 hD2 => ?_⟩
        rw [Int.toNat_natCast]
        have hss : ((d.2.map (·.1)).map mir).length = d.2.length := by rw [List.length_map, List.length_map]
        refine lc_build (walk_range (lo := 0)) hD2 (fun j ys R => Same H8 R ∧ Paired (AttAt K R) ys ((((d.2.map (·.1)).map mir).zip ws).take j)) ⟨Same.refl _, .nil⟩ (fun _ _ _ _ _ => trivial) ?_ ?_
        · rintro j ys y H9 H9' hj e9 l9 ⟨s9, p9⟩ ⟨rfl, rfl⟩
          have e0 : (0 : Int) + (j : Int) = (j : Int) := Int.zero_add _
          have hjw : j < ws.length := by omega
          have hjd : j < d.2.length := by omega
          have g2 : (ws.map V.str)[j]? = some (.str ws[j]) := by rw [List.getElem?_map, List.getElem?_eq_getElem hjw]; rfl
          have s9' := s9.trans cd_sub
          obtain ⟨at', hat, tt, ht0, tt1⟩ := paired_at zp8 (List.getElem?_eq_getElem hj)
          have hat2 : d.2[j] = at' := by
            rw [List.getElem?_eq_getElem hjd] at hat
            exact Option.some.inj hat
          have nm := (ok.an d dm at' (List.mem_of_getElem? hat)).1
          refine ⟨rfl, yes ?_⟩
          refine ⟨_, rfl, _, rfl, qd, _, _, _, rfl, rfl, Same.seqT s9' z8, (by rw [e0]; exact atI_nat (by rw [List.getElem?_eq_getElem hj, ht0])), tt, _, _, _, rfl, rfl, Same.seqT s9' tt1, atI_nat (j := 0) rfl, at'.1, rfl, nm.lo, nm.le8, fun H10 s10 => ?_⟩
          refine ⟨_, rfl, _, rfl, D, _, _, _, rfl, rfl, SqL.of (s10 _ _ (s9' _ _ e8)), (by rw [e0]; exact atI_nat g2), by show 2 ≤ sizeLine; decide, fun t nt => ?_⟩
          have e10 := s10 _ _ e9
          have nDt : D2 ≠ t := ne_of_none e10 nt
          have s11 : Same (cd D2 H9') (cd D2 (upd H10 t (.tup [.str (mir at'.1), .str ws[j]]))) := cd_same (s10.trans (same_new nt))
          refine LcNx.add (by rw [upd_ne nDt]; exact e10) l9 (by omega) ⟨s9.trans s11, ?_⟩
          have hjz : j < (((d.2.map (·.1)).map mir).zip ws).length := by rw [List.length_zip, hss]; omega
          rw [List.take_succ_eq_append_getElem hjz, List.getElem_zip, List.getElem_map, List.getElem_map, hat2]
          exact PySem.Paired.snoc (PySem.Paired.mono (fun _ _ => AttAt.same s11) p9) ⟨t, rfl, SqT.of (cd_of upd_same nDt.symm)⟩
        · rintro ys H9 e9 l9 ⟨s9, p9⟩
          rw [List.take_of_length_le (by rw [List.length_zip, hss]; omega)] at p9
          have s9' := s9.trans cd_sub
          refine ⟨D2, ys, rfl, SqL.of e9, fun q1 nq1 => ?_⟩
          generalize e10 : upd H9 q1 _ = H10
          have N10 := newO nq1 e10
          refine ⟨q1, _, rfl, .inl ⟨SqL.of N10.f, fun q nq => ?_⟩⟩
          generalize e11 : upd H10 q _ = H11
          have N11 := newO nq e11
          refine ⟨by show 2 ≤ sizeLine; decide, fun t ht => ?_⟩
          generalize e12 : upd H11 t _ = H12
          have N12 := newO ht e12
          have s912 := (N10.s.trans N11.s).trans N12.s
          have s712 := (s8.trans s9').trans s912
          have f12 := s712 _ _ f7
          refine ⟨lf, _, _, rfl, rfl, f12, small1000 (by omega), ?_⟩
          have dnew : DimAt K H12 (.ref t) (mir d.1, (((d.2.map (·.1)).map mir).zip ws).reverse) := ⟨t, q, rfl, SqT.of N12.f, ys.reverse, SqT.of (N12.s _ _ N11.f), paired_rev2 (PySem.Paired.mono (fun _ _ h => (AttAt.same cd_sub h).same s912) p9)⟩
          have T12 : Tray H12 a g (n + 5 * (i + 1)) := (T7'.same s712).mono (by omega)
          refine ⟨ds' ++ [(mir d.1, (((d.2.map (·.1)).map mir).zip ws).reverse)], xs' ++ [.ref t], _, _, _, _, _, rfl, upd_same, ?_, ?_, ?_, T12.updo nfa nfg, ?_, by rw [List.length_append]; show xs'.length + 1 = i + 1; omega⟩
          · exact PySem.Paired.snoc (PySem.Paired.mono (fun y d h => dim_store f12 ((dim_draw T4 s47 h).same s712)) p4) (dim_store f12 dnew)
          · obtain ⟨g1, g2⟩ := List.getElem?_eq_some_iff.mp hd
            rw [List.take_succ_eq_append_getElem g1, g2]
            exact PySem.Paired.snoc o4 ⟨rfl, by show (List.reverse _).length = _; rw [List.length_reverse, List.length_zip, hss]; omega⟩
          · intro d' hd'
            rcases List.mem_append.mp hd' with hd' | hd'
            · exact a4 d' hd'
            · rw [List.mem_singleton.mp hd']
              refine ⟨by show (List.reverse _).length ≤ 5; rw [List.length_reverse, List.length_zip, hss]; omega, fun y hy => ?_, ?_⟩
              · have hy := List.mem_reverse.mp hy
                obtain ⟨y1, hy1, e⟩ := List.mem_map.mp (List.of_mem_zip hy).1
                obtain ⟨y2, hy2, rfl⟩ := List.mem_map.mp hy1
                exact ⟨by rw [← e]; exact mir_nm (ok.an d dm y2 hy2).1, hw7 y.2 (List.of_mem_zip hy).2⟩
              · show (List.map (fun y : Str × Str => y.1) (((d.2.map (·.1)).map mir).zip ws).reverse).Nodup
                rw [List.map_reverse, show ((((d.2.map (·.1)).map mir).zip ws).map fun y : Str × Str => y.1) = (d.2.map (·.1)).map mir from List.map_fst_zip (by omega)]
                refine nodup_rev (nodup_mir (fun z hz => ?_) (ok.au d dm))
                obtain ⟨y2, hy2, rfl⟩ := List.mem_map.mp hz
                exact (ok.an d dm y2 hy2).1
          · have e1 : ∀ o, ct a g (cd lf (upd H12 lf o)) = ct a g (cd lf H12) := fun o => by rw [cd_upd]
            rw [e1]
            exact (s4.trans (ctcd2 s47)).trans (ct_same (cd_same s712))
    · rintro σ H4 ⟨ds', xs', x4, x5, x6, x7, x8, rfl, f4, p4, o4, a4, T4, s4, l4⟩
      rw [List.take_of_length_le (by omega)] at o4
      have s04 : Same (ct a g H) (ct a g H4) := (s0B.trans s4).trans (ct_same cd_sub)
      have hm4 : SqL K H4 m (ms.map V.str) := Same.seq (s04.trans ct_sub) hm
      refine ⟨_, rfl, _, rfl, m, _, rfl, hm4, fun p5 n5 => ?_⟩
      generalize e5 : upd H4 p5 _ = H5
      have N5 := newAt T4 n5 e5
      have m4 := ok.m4
      refine ⟨p5, rfl, ⟨_, SqL.of N5.f⟩, fun D hD => lc_build (walk_list (K := K) (a := p5) (xs := (ms.map V.str).reverse)) hD (fun j ys R => Same H5 R ∧ ys = ((ms.reverse.take j).map mir).map V.str) ⟨Same.refl _, rfl⟩ (fun _ _ _ _ p => SqL.of (cd_sub _ _ (p.1 _ _ N5.f))) ?_ ?_⟩
      · rintro j ys y H6 H6' hj e6 l6 ⟨s6, rfl⟩ ⟨rfl, hy⟩
        rw [← List.map_reverse] at hy
        obtain ⟨z, rfl, hz⟩ := strs_at hy
        have nm := ok.mn z (List.mem_reverse.mp (List.mem_of_getElem? hz))
        rw [List.length_reverse, List.length_map] at hj
        refine ⟨rfl, yes ?_⟩
        refine ⟨_, rfl, z, rfl, nm.lo, nm.le8, fun H7 s7 => LcNx.add (s7 _ _ e6) l6 (by omega) ⟨s6.trans (cd_same s7), ?_⟩⟩
        obtain ⟨g1, g2⟩ := List.getElem?_eq_some_iff.mp hz
        rw [List.take_succ_eq_append_getElem g1, g2, List.map_append, List.map_append]
        rfl
      · rintro ys H6 e6 l6 ⟨s6, rfl⟩
        rw [List.take_of_length_le (by simp only [List.length_reverse, List.length_map]; omega)] at e6
        have s56 : Same H5 H6 := s6.trans cd_sub
        refine ⟨by show 2 ≤ sizeLine; decide, fun r nr => ?_⟩
        generalize e7 : upd H6 r _ = H7
        have N7 := newAt (N5.T.same s56) nr e7
        obtain ⟨nDa, nDg⟩ := N5.T.na hD
        have s47 := (N5.s.trans s56).trans N7.s
        have T7 := N7.T
        have hds : ds'.length = ds.length := o4.length.symm
        refine k r lf D ds' (ms.reverse.map mir) H7 N7.fc ⟨⟨xs', ct_of (s47 _ _ f4) nfa nfg, PySem.Paired.mono (fun y d h => dim_ct T7 (h.same s47)) p4⟩, ct_of (N7.s _ _ e6) nDa nDg, ?_⟩ o4 (by rw [List.length_map, List.length_reverse]) (T7.mono (by omega)) (s04.trans (ct_same s47))
        have dn' : ∀ d' ∈ ds', IsNm d'.1 := fun d' hd' => by
          obtain ⟨d, hd, e, _⟩ := oth_mem o4 d' hd'
          rw [e]
          exact mir_nm (ok.dn d hd)
        refine ⟨by have := ok.d1; omega, by omega, dn', ?_, fun d hd => (a4 d hd).1, fun d hd => (a4 d hd).2.1, fun d hd => (a4 d hd).2.2, by rw [List.length_map, List.length_reverse]; exact m4, fun z hz => ?_, nodup_mir (fun z hz => ok.mn z (List.mem_reverse.mp hz)) (nodup_rev ok.mu)⟩
        · rw [oth_names o4]
          refine nodup_mir (fun z hz => ?_) ok.du
          obtain ⟨d, hd, rfl⟩ := List.mem_map.mp hz
          exact ok.dn d hd
        · obtain ⟨y, hy, rfl⟩ := List.mem_map.mp hz
          exact mir_nm (ok.mn y (List.mem_reverse.mp hy))
end
end Kd

namespace Kd
open PySem PySem.Spec PyProof.Rows L2 KdXc
theorem u65 {A : Around} {k : Nat} (hr : Room k A) : A.units + 65 < cLine := by
  have := hr.un
  omega
theorem nw_to {xs : List V} (j : Nat) (h : j < xs.length) : ¬ (HT.sIx xs.length 0 none = 0 ∧ HT.sIx xs.length xs.length (some (j : Int)) = xs.length) := fun z => by
  have z2 := z.2
  rw [HT.sIx_nat] at z2
  omega
theorem nw_from {xs : List V} (j : Nat) (h : 0 < j) (hx : 0 < xs.length) : ¬ (HT.sIx xs.length 0 (some (j : Int)) = 0 ∧ HT.sIx xs.length xs.length none = xs.length) := fun z => by
  have z1 := z.1
  rw [HT.sIx_nat] at z1
  omega
theorem cat_ne {K : PySem.W.Frag} {H : Hp} {a b : Addr} {xs ys : List V} {Q : VK} (h1 : SqT K H a xs) (h2 : SqT K H b ys) (n1 : xs ≠ []) (n2 : ys ≠ []) (hl : xs.length + ys.length ≤ 4000) (k : ∀ p, H p = none → Q (.ref p) (upd H p (.tup (xs ++ ys)))) : rCatA K (.ref a) (.ref b) H Q :=
  ⟨a, b, xs, ys, rfl, rfl, h1, h2, le_line hl, fun z => absurd z n1, fun _ z => absurd z n2, fun _ _ p np => k p np⟩
theorem cat_any {K : PySem.W.Frag} {H : Hp} {a b : Addr} {xs ys : List V} {Q : VK} (h1 : SqT K H a xs) (h2 : SqT K H b ys) (hl : xs.length + ys.length ≤ 4000) (k : ∀ p H', Same H H' → SqT K H' p (xs ++ ys) → Q (.ref p) H') : rCatA K (.ref a) (.ref b) H Q :=
  ⟨a, b, xs, ys, rfl, rfl, h1, h2, le_line hl, fun z => k b H (Same.refl _) (by rw [z]; exact h2), fun _ z => k a H (Same.refl _) (by rw [z, List.append_nil]; exact h1), fun _ _ p np => k p _ (same_new np) (SqT.of upd_same)⟩
section
variable {P : Program} {w : World} {K : PySem.W.Frag} {mg : Str → Option Value} {base : Heap} {f : Addr} {fd : FuncData}
/-! ### rows as data -/
def rwD : Rw → PyData
  | .kind d key day vals => .tuple [.str "kind", .str d, .str key, .int day, .tuple (vals.map Fv.d)]
  | .fact name day keys nums => .tuple [.str "fact", .str name, .int day, .tuple (keys.map PyData.str), .tuple (nums.map PyData.int)]
  | .forget name => .tuple [.str "forget", .str name]
theorem fvs_dp {H : Hp} : ∀ vs : List Fv, DpAll K H (vs.map Fv.v) (vs.map Fv.d)
  | [] => .nil
  | v :: vs => .cons v.dp (fvs_dp vs)
theorem strs_dpA {H : Hp} : ∀ vs : List Str, DpAll K H (vs.map V.str) (vs.map PyData.str)
  | [] => .nil
  | v :: vs => .cons (.str v) (strs_dpA vs)
theorem Rw.dp {H : Hp} {p : Addr} : ∀ {r : Rw}, r.at K H p → Dp K H (.ref p) (rwD r)
  | .kind d key day vals, ⟨q, h1, h2⟩ => .tup h1 (.cons (.str _) (.cons (.str _) (.cons (.str _) (.cons (.int _) (.cons (.tup h2 (fvs_dp vals)) .nil)))))
  | .fact name day keys nums, ⟨q1, q2, h1, h2, h3⟩ => .tup h1 (.cons (.str _) (.cons (.str _) (.cons (.int _) (.cons (.tup h2 (strs_dpA keys)) (.cons (.tup h3 (DpAll.ints nums)) .nil)))))
  | .forget name, h => .tup h (.cons (.str _) (.cons (.str _) .nil))
theorem lay_fvs : ∀ vs : List Fv, (∀ v ∈ vs, v.ok) → PyData.canLayAll0 (vs.map Fv.d) = true ∧ PyData.depthAll (vs.map Fv.d) = 0
  | [], _ => ⟨rfl, rfl⟩
  | v :: vs, h => by
    obtain ⟨h1, h2⟩ := lay_fvs vs fun z hz => h z (List.mem_cons_of_mem _ hz)
    have h3 := h v (List.mem_cons_self ..)
    cases v with
    | i z =>
      constructor
      · simp only [List.map_cons, Fv.d, PyData.canLayAll0, PyData.canLay0, h1, Bool.and_self]
      · simp only [List.map_cons, Fv.d, PyData.depthAll, PyData.depth, h2]
        rfl
    | s z =>
      have h4 : Tx z := h3
      constructor
      · simp only [List.map_cons, Fv.d, PyData.canLayAll0, PyData.canLay0, h1, h4.sok, Bool.and_self]
      · simp only [List.map_cons, Fv.d, PyData.depthAll, PyData.depth, h2]
        rfl
theorem lay_txs : ∀ vs : List Str, (∀ v ∈ vs, Tx v) → PyData.canLayAll0 (vs.map PyData.str) = true ∧ PyData.depthAll (vs.map PyData.str) = 0
  | [], _ => ⟨rfl, rfl⟩
  | v :: vs, h => by
    obtain ⟨h1, h2⟩ := lay_txs vs fun z hz => h z (List.mem_cons_of_mem _ hz)
    have h3 := h v (List.mem_cons_self ..)
    constructor
    · simp only [List.map_cons, PyData.canLayAll0, PyData.canLay0, h1, h3.sok, Bool.and_self]
    · simp only [List.map_cons, PyData.depthAll, PyData.depth, h2]
      rfl
theorem lay_rw : ∀ {r : Rw}, r.ok → PyData.canLay0 (rwD r) = true ∧ (rwD r).depth ≤ 2
  | .kind d key day vals, ⟨o1, o2, o3, o4, o5⟩ => by
    obtain ⟨h1, h2⟩ := lay_fvs vals o5
    constructor
    · simp only [rwD, PyData.canLayAll0, PyData.canLay0, h1, o1.sok, o2.sok, tx_kind.sok, Bool.and_self]
    · simp only [rwD, PyData.depthAll, PyData.depth, h2]
      decide
  | .fact name day keys nums, ⟨o1, o2, ⟨o3, o4⟩, o5, o6⟩ => by
    obtain ⟨h1, h2⟩ := lay_txs keys o4
    obtain ⟨h3, h4⟩ := lay_ints nums
    constructor
    · simp only [rwD, PyData.canLayAll0, PyData.canLay0, h1, h3, o1.sok, tx_fact.sok, Bool.and_self]
    · simp only [rwD, PyData.depthAll, PyData.depth, h2, h4]
      decide
  | .forget name, o => by
    have o : Tx name := o
    constructor
    · simp only [rwD, PyData.canLayAll0, PyData.canLay0, o.sok, tx_forget.sok, Bool.and_self]
    · simp only [rwD, PyData.depthAll, PyData.depth]
      decide
def lsD (b : Bool) (r : Rw) : PyData := .list (if b = true then [] else [rwD r])
theorem ls_sh {b : Bool} {r : Rw} (h : r.ok) : SeqAt.shaped (lsD b r) = true := by
  obtain ⟨h1, h2⟩ := lay_rw h
  cases b
  · unfold SeqAt.shaped lsD
    simp only [PyData.canLay0, PyData.canLayAll0, PyData.depth, PyData.depthAll, h1, Bool.and_self, Bool.true_and, decide_eq_true_eq, Bool.false_eq_true, if_false]
    omega
  · show SeqAt.shaped (.list []) = true
    decide +kernel
theorem in_sh {r : Rw} (h : r.ok) : SeqAt.shaped (.list [.list [], .list [rwD r]]) = true := by
  obtain ⟨h1, h2⟩ := lay_rw h
  unfold SeqAt.shaped
  simp only [PyData.canLay0, PyData.canLayAll0, PyData.depth, PyData.depthAll, h1, Bool.and_self, Bool.true_and, decide_eq_true_eq]
  exact decide_eq_true (by omega)
theorem ls_dp {H : Hp} {p q : Addr} {r : Rw} {b : Bool} (h : r.at K H p) (hq : H q = some (.lst (refL b p))) : Dp K H (.ref q) (lsD b r) := by
  cases b
  · exact .lst (SqL.of hq) (.cons (Rw.dp h) .nil)
  · exact .lst (SqL.of hq) .nil
theorem ls_in {r : Rw} {b : Bool} (h : r.ok) : (!([PyData.list [], .list [rwD r]].any fun z => PyData.eqv z (lsD b r))) = false := by
  have e := eqv_self (ls_sh (b := b) h)
  cases b
  · have e : PyData.eqv (.list [rwD r]) (lsD false r) = true := e
    rw [List.any_cons, List.any_cons, e, Bool.true_or, Bool.or_true]
    rfl
  · have e : PyData.eqv (.list []) (lsD true r) = true := e
    rw [List.any_cons, e, Bool.true_or]
    rfl
/-! ### what the plans say of a row -/
def Rw.mir : Rw → Rw
  | .kind d key day vals => .kind (Kd.mir d) key day vals
  | r => r
theorem kfits_mir {d : Str} (hd : Lo d) : ∀ {ds ds' : List Dm}, (∀ e ∈ ds, IsNm e.1) → Paired OthR ds ds' → ∀ n, kfits ds' (mir d) n = kfits ds d n
  | _, _, _, .nil, _ => rfl
  | e :: es, e' :: es', h, .cons ⟨o1, o2⟩ t, n => by
    have ih := kfits_mir hd (fun z hz => h z (List.mem_cons_of_mem _ hz)) t n
    unfold kfits at ih ⊢
    rw [List.find?_cons, List.find?_cons]
    by_cases q : e.1 = d
    · have q' : e'.1 = mir d := by rw [o1, q]
      rw [decide_eq_true q, decide_eq_true q']
      show decide (n = e'.2.length) = decide (n = e.2.length)
      rw [o2]
    · have q' : ¬ e'.1 = mir d := fun z => q (mir_inj (h e (List.mem_cons_self ..)).lo hd (by rw [← o1]; exact z))
      rw [decide_eq_false q, decide_eq_false q']
      exact ih
theorem fits_mir {ds ds' : List Dm} {ms ms' : List Str} (ok : Good ds ms) (o : Paired OthR ds ds') (hm : ms'.length = ms.length) : ∀ {r : Rw}, r.free → r.mir.fits ds' ms' = r.fits ds ms
  | .kind d key day vals, h => kfits_mir h.1 ok.dn o _
  | .fact name day keys nums, _ => by
    show ffits ds' ms' _ _ = ffits ds ms _ _
    unfold ffits
    rw [hm, ← o.length]
  | .forget _, _ => rfl
def wideD (d0 : Dm) (tl : List Dm) (fresh : Str) : List Dm := (d0.1, d0.2 ++ [(fresh, ("day" : Str))]) :: tl ++ [(fresh, [])]
theorem fact_wide {d0 : Dm} {tl : List Dm} {ms : List Str} {fresh name : Str} {day : Int} {keys : List Str} {nums : List Int} (h : Rw.fits (d0 :: tl) ms (.fact name day keys nums) = true) : Rw.fits (wideD d0 tl fresh) (ms ++ [fresh]) (.fact name day keys nums) = false := by
  obtain ⟨h1, h2⟩ := Bool.and_eq_true_iff.mp (show ffits _ _ _ _ = true from h)
  have h1 := of_decide_eq_true h1
  show ffits _ _ _ _ = false
  unfold ffits
  rw [decide_eq_false (by rw [h1]; simp [wideD]), Bool.false_and]
theorem kind_wide {d0 : Dm} {tl : List Dm} {ms : List Str} {fresh d key : Str} {day : Int} {vals : List Fv} (h : Rw.fits (d0 :: tl) ms (.kind d key day vals) = true) : Rw.fits (wideD d0 tl fresh) (ms ++ [fresh]) (.kind d key day vals) = !decide (d = d0.1) := by
  have h : kfits (d0 :: tl) d vals.length = true := h
  show kfits (wideD d0 tl fresh) d vals.length = _
  unfold kfits wideD at *
  rw [List.cons_append, List.find?_cons] at *
  by_cases q : d0.1 = d
  · rw [decide_eq_true q] at h ⊢
    have h := of_decide_eq_true h
    show decide (vals.length = (d0.2 ++ [_]).length) = _
    rw [decide_eq_true q.symm, decide_eq_false (by rw [List.length_append]; show ¬ _ = _ + 1; omega)]
    rfl
  · rw [decide_eq_false q] at h ⊢
    rw [decide_eq_false (fun z => q z.symm)]
    show (match List.find? _ (tl ++ [(fresh, [])]) with | some e => decide (vals.length = e.2.length) | none => false) = true
    rw [List.find?_append]
    cases c : tl.find? (fun e => decide (e.1 = d)) with
    | none =>
      rw [c] at h
      cases h
    | some e =>
      rw [c] at h
      exact h
theorem good_wide {d0 : Dm} {tl : List Dm} {ms : List Str} {fresh : Str} (ok : Good (d0 :: tl) ms) (t : Tight (d0 :: tl) ms 3 0) (hf : IsNm fresh) (n1 : fresh ∉ (d0 :: tl).map (·.1)) (n2 : fresh ∉ d0.2.map (·.1)) (n3 : fresh ∉ ms) : Good (wideD d0 tl fresh) (ms ++ [fresh]) := by
  obtain ⟨t1, t2, t3⟩ := t
  have t1 : tl.length + 1 ≤ 3 := t1
  have m0 := t2 d0 (List.mem_cons_self ..)
  have snoc : ∀ {xs : List Str}, xs.Nodup → fresh ∉ xs → (xs ++ [fresh]).Nodup := fun h q => List.nodup_append.mpr ⟨h, List.nodup_cons.mpr ⟨List.not_mem_nil, List.nodup_nil⟩, fun y hy z hz e => by
    rw [List.mem_singleton.mp hz] at e
    rw [e] at hy
    exact q hy⟩
  have cases_ : ∀ d ∈ wideD d0 tl fresh, d = (d0.1, d0.2 ++ [(fresh, ("day" : Str))]) ∨ d ∈ tl ∨ d = (fresh, []) := fun d hd => by
    rcases List.mem_append.mp (show d ∈ ((d0.1, d0.2 ++ [(fresh, ("day" : Str))]) :: tl) ++ [(fresh, [])] from hd) with h | h
    · rcases List.mem_cons.mp h with h | h
      · exact .inl h
      · exact .inr (.inl h)
    · exact .inr (.inr (List.mem_singleton.mp h))
  have nms : (wideD d0 tl fresh).map (·.1) = (d0 :: tl).map (·.1) ++ [fresh] := by simp [wideD]
  refine ⟨by show 1 ≤ _; simp [wideD], by simp [wideD]; omega, fun d hd => ?_, by rw [nms]; exact snoc ok.du n1, fun d hd => ?_, fun d hd a ha => ?_, fun d hd => ?_, by rw [List.length_append]; show _ + 1 ≤ 4; omega, fun z hz => ?_, snoc ok.mu n3⟩
  · rcases cases_ d hd with rfl | h | rfl
    · exact ok.dn d0 (List.mem_cons_self ..)
    · exact ok.dn d (List.mem_cons_of_mem _ h)
    · exact hf
  · rcases cases_ d hd with rfl | h | rfl
    · show (d0.2 ++ [_]).length ≤ 5
      rw [List.length_append]
      show _ + 1 ≤ 5
      omega
    · exact ok.al d (List.mem_cons_of_mem _ h)
    · show 0 ≤ 5
      decide
  · rcases cases_ d hd with rfl | h | rfl
    · rcases List.mem_append.mp ha with ha | ha
      · exact ok.an d0 (List.mem_cons_self ..) a ha
      · rw [List.mem_singleton.mp ha]
        exact ⟨hf, by show ("day" : Str) ∈ _; decide +kernel⟩
    · exact ok.an d (List.mem_cons_of_mem _ h) a ha
    · cases ha
  · rcases cases_ d hd with rfl | h | rfl
    · show (List.map _ (d0.2 ++ [_])).Nodup
      rw [List.map_append]
      exact snoc (ok.au d0 (List.mem_cons_self ..)) n2
    · exact ok.au d (List.mem_cons_of_mem _ h)
    · exact List.nodup_nil
  · rcases List.mem_append.mp hz with h | h
    · exact ok.mn z h
    · rw [List.mem_singleton.mp h]
      exact hf
end
end Kd

namespace Kd
open PySem PySem.Spec PyProof.Rows L2 KdXc
section
variable {P : Program} {w : World} {K : PySem.W.Frag} {mg : Str → Option Value} {base : Heap} {f : Addr} {fd : FuncData}
theorem shaped_nil6 : SeqAt.shaped (.list []) = true := by decide +kernel
/-- a tuple that begins with a text -/
def Hd (K : PySem.W.Frag) (H : Hp) (v : V) (z : Str) : Prop := ∃ p rest, v = .ref p ∧ SqT K H p (.str z :: rest)
theorem Hd.same {H H' : Hp} {v : V} {z : Str} (s : Same H H') : Hd K H v z → Hd K H' v z := fun ⟨p, rest, e, h⟩ => ⟨p, rest, e, Same.seqT s h⟩
theorem hd_dims {H : Hp} : ∀ {xs : List V} {ds : List Dm}, Paired (DimAt K H) xs ds → Paired (Hd K H) xs (ds.map (·.1))
  | _, _, .nil => .nil
  | _, _, .cons ⟨p, q, e, h, _⟩ t => .cons ⟨p, _, e, h⟩ (hd_dims t)
theorem hd_atts {H : Hp} : ∀ {xs : List V} {as : List (Str × Str)}, Paired (AttAt K H) xs as → Paired (Hd K H) xs (as.map (·.1))
  | _, _, .nil => .nil
  | _, _, .cons ⟨p, e, h⟩ t => .cons ⟨p, _, e, h⟩ (hd_atts t)
structure Calls (P : Program) (w : World) (K : PySem.W.Frag) (mg : Str → Option Value) (base : Heap) (C : Addr) (fT fL fO fN fF fU fX : Addr) (fdT fdL fdO fdN fdF fdU fdX : FuncData) : Prop where
  c_tray : Fun P w K mg base "_law_tray" 1 ["script"] (spTray K) fT fdT
  c_lists : Fun P w K mg base "_law_lists" 4 ["tray", "most", "wide"] (spLists K) fL fdL
  c_other : Fun P w K mg base "_law_other" 2 ["tray", "some", "sums"] (spOther K) fO fdO
  c_name : Fun P w K mg base "_law_name" 2 ["tray", "used"] (spName K) fN fdN
  c_free_row : Fun P w K mg base "_law_free_row" 5 ["tray", "some"] (spFree K) fF fdF
  c_turned : Fun P w K mg base "_law_turned" 1 ["word"] spTurn fU fdU
  c_refused : Fun P w K mg base "_law_refused" 6 ["made", "line"] (spRefused K C) fX fdX
  z_len : mg "len" = none
  z_range : mg "range" = none
  z_list : mg "list" = none
  z_int : mg "int" = none
def spLaw (K : PySem.W.Frag) : Sp := fun vs H Q _ => ∃ (l : Addr) (ns : List Int), vs = [.ref l] ∧ SqL K H l (ns.map V.int) ∧ ns.length ≤ 63 ∧ ∀ H', Q (.bl true) H'
abbrev N_law : List Str := ["script", "tray", "k", "some", "sums", "others", "behind", "one", "other", "name", "rows", "row", "fresh", "wide", "j", "line", "same_line", "found"]
theorem sc_law : FnScope N_law ["script"] (defScope s_law) := ⟨rfl, rfl, rfl, by decide +kernel, rfl, by decide +kernel, by decide +kernel⟩
/-! slots: 0 script 1 tray 2 k 3 some 4 sums 5 others 6 behind 7 one 8 other 9 name 10 rows 11 row 12 fresh 13 wide 14 j 15 line 16 same_line 17 found; cells:  -/
theorem ok_law {C : Addr} {fT fL fO fN fF fU fX : Addr} {fdT fdL fdO fdN fdF fdU fdX : FuncData} {e fI Np fNp : Addr} {fdI fdNp : FuncData} (F : FnP K "law" "law" s_law f fd) (PC : PlanX P w K mg base C e fI fdI Np fNp fdNp) (Z : Calls P w K mg base C fT fL fO fN fF fU fX fdT fdL fdO fdN fdF fdU fdX) : FnOk P w K mg base CX0 8 f fd ["script"] (spLaw K) := by
  obtain ⟨i3, v3, b3⟩ := init_b3 PC.I
  refine F.ok sc_law (fun vs H Q E h => ?_) (fun cdv A outer s H vs Q E hr h => ?_)
  · obtain ⟨l, ns, rfl, _⟩ := h
    rfl
  · obtain ⟨l, ns, rfl, hS, hn, k⟩ := h
    have nd := sc_law.nd
    refine ⟨_, PSs.nox (pss_cons (ps_set (i := 1) nd rfl (Or.inl rfl) (pe_call Z.c_tray.G (hr.mono (by decide)) rfl Z.c_tray.g Z.c_tray.k Z.c_tray.b .nil pass0 (pa_cons (pv 0) pa_nil)))
      (pss_cons (ps_for PassesOwn.never rfl (pi_range1 rfl Z.z_range (pa_cons (pe_op op_add pe_int (pe_callB call_len_seq (by rfl) Z.z_len boot_len (pa_cons (pe_slice sl_list (pv 0) po_none (po_some pe_int)) pa_nil))) pa_nil)) (pg_name (i := 2) nd rfl (Or.inl rfl))
        (pss_cons (ps_asg (pe_call Z.c_lists.G (hr.mono (by decide)) rfl Z.c_lists.g Z.c_lists.k Z.c_lists.b .nil pass0 (pa_cons (pv 1) (pa_cons pe_int (pa_cons pe_int pa_nil)))) (pg_unl rfl (pgs_cons (pg_name (i := 3) nd rfl (Or.inl rfl)) (pgs_cons (pg_name (i := 4) nd rfl (Or.inl rfl)) pgs_nil))))
        (pss_cons (ps_asg (pe_call Z.c_other.G (hr.mono (by decide)) rfl Z.c_other.g Z.c_other.k Z.c_other.b .nil pass0 (pa_cons (pv 1) (pa_cons (pv 3) (pa_cons (pv 4) pa_nil)))) (pg_unl rfl (pgs_cons (pg_name (i := 5) nd rfl (Or.inl rfl)) (pgs_cons (pg_name (i := 6) nd rfl (Or.inl rfl)) pgs_nil))))
        (pss_cons (ps_set (i := 7) nd rfl (Or.inl rfl) (pe_make PC.M PC.GI (hr.mono (by decide)) rfl PC.gC b3 v3 pass0 (pa_cons (pv 3) (pa_cons (pv 4) pa_nil))))
        (pss_cons (ps_set (i := 8) nd rfl (Or.inl rfl) (pe_make PC.M PC.GI (hr.mono (by decide)) rfl PC.gC b3 v3 pass0 (pa_cons (pv 5) (pa_cons (pv 6) pa_nil))))
        (pss_cons (ps_asg (pe_ix ix_list (pv 3) pe_int (fun _ _ => rfl)) (pg_tup rfl (pgs_cons (pg_name (i := 9) nd rfl (Or.inl rfl)) (pgs_cons (pg_name (i := 10) nd rfl (Or.inl rfl)) pgs_nil))))
        (pss_cons (ps_set (i := 12) nd rfl (Or.inl rfl) (pe_call Z.c_name.G (hr.mono (by decide)) rfl Z.c_name.g Z.c_name.k Z.c_name.b .nil pass0 (pa_cons (pv 1) (pa_cons (pe_op op_cat (pe_lc (own := [("row", 11)]) (g := gName 11) (tt := tYes) (te := tOp (rIxT K) (tVar 11) (tC (.int 0))) rfl nd (pi_list (pe_op op_cat (pv 3) (pe_callTy call_list_of (by rfl) Z.z_list (by decide +kernel) (pa_cons (pv 10) pa_nil)))) (blkOk_by (own := [("row", 11)]) (N := N_law) (sc := defScope s_law) (by decide +kernel))
        (fun _ _ _ _ _ => pg_name (i := 11) nd rfl (Or.inl rfl)) (fun _ _ _ _ _ => pts_nil) (fun _ _ _ _ _ => pe_ix ix_tup (pv 11) pe_int (fun _ _ => rfl))) (pv 4)) pa_nil))))
        (pss_cons (ps_set (i := 13) nd rfl (Or.inl rfl) (pe_make PC.M PC.GI (hr.mono (by decide)) rfl PC.gC b3 v3 pass0 (pa_cons (pe_op op_cat (pe_op op_cat (pe_lst (pa_cons (pe_tup (pa_cons (pv 9) (pa_cons (pe_op op_catA (pv 10) (pe_tup (pa_cons (pe_tup (pa_cons (pv 12) (pa_cons pe_str pa_nil))) pa_nil))) pa_nil))) pa_nil)) (pe_slice sl_list (pv 3) (po_some pe_int) po_none)) (pe_lst (pa_cons (pe_tup (pa_cons (pv 12) (pa_cons (pe_tup pa_nil) pa_nil))) pa_nil))) (pa_cons (pe_op op_cat (pv 4) (pe_lst (pa_cons (pv 12) pa_nil))) pa_nil))))
        (pss_one (ps_for PassesOwn.never rfl (pi_range1 rfl Z.z_range (pa_cons (pe_op op_add pe_int (pe_op op_mul pe_int (pe_callB call_len_seq (by rfl) Z.z_len boot_len (pa_cons (pe_slice sl_list (pv 0) (po_some pe_int) (po_some pe_int)) pa_nil)))) pa_nil)) (pg_name (i := 14) nd rfl (Or.inl rfl))
          (pss_cons (ps_set (i := 15) nd rfl (Or.inl rfl) (pe_call Z.c_free_row.G (hr.mono (by decide)) rfl Z.c_free_row.g Z.c_free_row.k Z.c_free_row.b .nil pass0 (pa_cons (pv 1) (pa_cons (pv 3) pa_nil))))
          (pss_cons (ps_set (i := 16) nd rfl (Or.inl rfl) (pv 15))
          (pss_cons (ps_if (pt_cmpR op_eq (pe_ix ix_tup (pv 15) pe_int (fun _ _ => rfl)) pe_str (nomark _))
            (pss_one (ps_set (i := 16) nd rfl (Or.inl rfl) (pe_op op_catA (pe_op op_catA (pe_slice sl_tupA (pv 15) po_none (po_some pe_int)) (pe_tup (pa_cons (pe_call Z.c_turned.G (hr.mono (by decide)) rfl Z.c_turned.g Z.c_turned.k Z.c_turned.b .nil pass0 (pa_cons (pe_ix ix_tup (pv 15) pe_int (fun _ _ => rfl)) pa_nil)) pa_nil))) (pe_slice sl_tupA (pv 15) (po_some pe_int) po_none))))
            pss_nil)
          (pss_cons (ps_set (i := 17) nd rfl (Or.inl rfl) (pe_call Z.c_refused.G (hr.mono (by decide)) rfl Z.c_refused.g Z.c_refused.k Z.c_refused.b .nil pass0 (pa_cons (pv 7) (pa_cons (pv 15) pa_nil))))
          (pss_cons (ps_if (PW.pt (pw_or (pt_cmpR (op_notInD (u65 hr)) (pv 17) (pe_lst (pa_cons (pe_lst pa_nil) (pa_cons (pe_lst (pa_cons (pv 15) pa_nil)) pa_nil))) (by rfl)) (pw_or1 (pt_cmpR (op_neD hr.units) (pe_call Z.c_refused.G (hr.mono (by decide)) rfl Z.c_refused.g Z.c_refused.k Z.c_refused.b .nil pass0 (pa_cons (pv 8) (pa_cons (pv 16) pa_nil))) (pe_op op_rep (pe_lst (pa_cons (pv 16) pa_nil)) (pe_callB call_len_seq (by rfl) Z.z_len boot_len (pa_cons (pv 17) pa_nil))) (nomark _)))))
            (pss_one (ps_ret pe_bl))
            pss_nil)
          (pss_cons (ps_if (PW.pt (pw_and (pt_cmpR (op_eqD hr.units) (pv 17) (pe_lst pa_nil) (nomark _)) (pw_and (pt_cmpR op_eq (pe_ix ix_tup (pv 15) pe_int (fun _ _ => rfl)) pe_str (nomark _)) (pw_and1 (pt_cmpR (op_neD hr.units) (pe_call Z.c_refused.G (hr.mono (by decide)) rfl Z.c_refused.g Z.c_refused.k Z.c_refused.b .nil pass0 (pa_cons (pv 13) (pa_cons (pv 15) pa_nil))) (pe_lst (pa_cons (pv 15) pa_nil)) (nomark _))))))
            (pss_one (ps_ret pe_bl))
            pss_nil)
          (pss_one (ps_if (PW.pt (pw_and (pt_cmpR (op_eqD hr.units) (pv 17) (pe_lst pa_nil) (nomark _)) (pw_and (pt_cmpR op_eq (pe_ix ix_tup (pv 15) pe_int (fun _ _ => rfl)) pe_str (nomark _)) (pw_and1 (pt_cmpR (op_neD hr.units) (pe_call Z.c_refused.G (hr.mono (by decide)) rfl Z.c_refused.g Z.c_refused.k Z.c_refused.b .nil pass0 (pa_cons (pv 13) (pa_cons (pv 15) pa_nil))) (pe_op op_rep (pe_lst (pa_cons (pv 15) pa_nil)) (pe_callTy call_int1 (by rfl) Z.z_int (by decide +kernel) (pa_cons (pe_cmpR op_eq (pe_ix ix_tup (pv 15) pe_int (fun _ _ => rfl)) (pv 9) (nomark _)) pa_nil))) (nomark _))))))
            (pss_one (ps_ret pe_bl))
            pss_nil))))))))))))))))))
      (pss_one (ps_ret pe_bl)))), ?_⟩
    refine ⟨_, rfl, l, ns, rfl, hS, hn, fun a g H1 na ng T1 s1 => ?_⟩
    refine set_st (σ' := [some (.ref l), some (.ref a), none, none, none, none, none, none, none, none, none, none, none, none, none, none, none, none]) rfl ?_
    refine ⟨_, rfl, _, rfl, l, _, rfl, s1.seq hS, fun p np => ?_⟩
    have sH1 : Same H (ct a g H1) := fun b o e => ct_of (s1 b o e) (ne_of_none e na) (ne_of_none e ng)
    have cl : (cutV (ns.map V.int) none (some 4)).length ≤ 4 := by
      rw [show cutV (ns.map V.int) none (some 4) = _ from cutTo _ 4, List.length_take]
      omega
    have cl2 : (cutV (ns.map V.int) (some 4) (some 12)).length ≤ 8 := by
      rw [show cutV (ns.map V.int) (some 4) (some 12) = _ from cutMid _ 4 12, List.length_take]
      omega
    refine ⟨p, _, rfl, .inl (SqL.of upd_same), _, _, rfl, rfl, _, rfl, by omega, by omega, ?_⟩
    refine for_range (lo := 0) (fun i σ H2 => ∃ (x2 x3 x4 x5 x6 x7 x8 x9 x10 x11 x12 x13 x14 x15 x16 x17 : Option V), σ = [some (.ref l), some (.ref a), x2, x3, x4, x5, x6, x7, x8, x9, x10, x11, x12, x13, x14, x15, x16, x17] ∧ Tray H2 a g (6000 * i) ∧ SqL K (ct a g H2) l (ns.map V.int)) ⟨_, _, _, _, _, _, _, _, _, _, _, _, _, _, _, _, rfl, T1.new np, Same.seq (sH1.trans (ctnew np)) hS⟩ ?_ ?_
    · rintro i σ H2 hi ⟨x2, x3, x4, x5, x6, x7, x8, x9, x10, x11, x12, x13, x14, x15, x16, x17, rfl, T2, S2⟩
      have hi2 : i < 6 := by omega
      refine ⟨_, rfl, a, g, 6000 * i, 3, 0, rfl, T2, by omega, by decide, by decide, by decide, fun r lo mo ds ms H3 hr3 L3 ti T3 s3 => ?_⟩
      refine ⟨r, _, rfl, SqL.of (ct_sub _ _ hr3), rfl, _, _, rfl, _, _, rfl, rfl, ?_⟩
      refine st_eq (σ' := [some (.ref l), some (.ref a), some (.int (0 + (i : Int))), some (.ref lo), some (.ref mo), x5, x6, x7, x8, x9, x10, x11, x12, x13, x14, x15, x16, x17]) rfl ?_
      have S3 := s3.seq S2
      obtain ⟨xs, hl3, hp3⟩ := id L3.dl
      have hm3 := L3.ml
      have ok := L3.ok
      refine ⟨_, rfl, _, rfl, _, rfl, a, g, lo, mo, _, ds, ms, rfl, T3, by omega, ⟨xs, SqL.of hl3, hp3⟩, SqL.of hm3, ok, fun r2 lo2 mo2 ds2 ms2 H4 hr4 L4 oth lm T4 s4 => ?_⟩
      refine ⟨r2, _, rfl, SqL.of (ct_sub _ _ hr4), rfl, _, _, rfl, _, _, rfl, rfl, ?_⟩
      refine st_eq (σ' := [some (.ref l), some (.ref a), some (.int (0 + (i : Int))), some (.ref lo), some (.ref mo), some (.ref lo2), some (.ref mo2), x7, x8, x9, x10, x11, x12, x13, x14, x15, x16, x17]) rfl ?_
      obtain ⟨xs2, hl4, hp4⟩ := id L4.dl
      have hm4 := L4.ml
      have ok2 := L4.ok
      refine ⟨_, rfl, _, rfl, fun x dx nx ndx nex => ?_⟩
      refine init_good ⟨xs, SqL.of (ct_sub _ _ (s4 _ _ hl3)), PySem.Paired.mono (fun _ _ => DimAt.same (s4.trans ct_sub)) hp3⟩ (.inl (SqL.of (ct_sub _ _ (s4 _ _ hm3)))) ok.szd ok.ff nx ndx nex fun H5 N5 => ?_
      refine set_st (σ' := [some (.ref l), some (.ref a), some (.int (0 + (i : Int))), some (.ref lo), some (.ref mo), some (.ref lo2), some (.ref mo2), some (.ref x), x8, x9, x10, x11, x12, x13, x14, x15, x16, x17]) rfl ?_
      have T5 := T4.same N5.s
      have P5 := N5.ct T4
      have c45 := ct_same (a := a) (g := g) N5.s
      refine ⟨_, rfl, _, rfl, fun y dy ny ndy ney => ?_⟩
      refine init_good ⟨xs2, SqL.of (ct_sub _ _ (c45 _ _ hl4)), PySem.Paired.mono (fun _ _ => DimAt.same (c45.trans ct_sub)) hp4⟩ (.inl (SqL.of (ct_sub _ _ (c45 _ _ hm4)))) ok2.szd ok2.ff ny ndy ney fun H6 N6 => ?_
      refine set_st (σ' := [some (.ref l), some (.ref a), some (.int (0 + (i : Int))), some (.ref lo), some (.ref mo), some (.ref lo2), some (.ref mo2), some (.ref x), some (.ref y), x9, x10, x11, x12, x13, x14, x15, x16, x17]) rfl ?_
      have T6 := T5.same N6.s
      have P6 := N6.ct T5
      have c56 := ct_same (a := a) (g := g) N6.s
      have c36 := (s4.trans c45).trans c56
      have hl6 := c36 _ _ hl3
      have hm6 := c36 _ _ hm3
      have hp6 := PySem.Paired.mono (fun _ _ => DimAt.same c36) hp3
      have d1 := ok.d1
      cases hp6 with
      | nil => exact absurd d1 (by decide)
      | @cons x0 d0 xt tl h0 ht =>
      obtain ⟨pd, qd, rfl, t1, zs, z1, z2⟩ := h0
      refine ⟨_, rfl, lo, _, _, _, rfl, rfl, SqL.of (ct_sub _ _ hl6), atI_nat (j := 0) rfl, pd, _, rfl, Same.seqT ct_sub t1, rfl, _, _, rfl, _, _, rfl, rfl, ?_⟩
      refine st_eq (σ' := [some (.ref l), some (.ref a), some (.int (0 + (i : Int))), some (.ref lo), some (.ref mo), some (.ref lo2), some (.ref mo2), some (.ref x), some (.ref y), some (.str d0.1), some (.ref qd), x11, x12, x13, x14, x15, x16, x17]) rfl ?_
      have cut3 := ti.1
      have tis := ti
      obtain ⟨ti1, ti2, ti3⟩ := ti
      have ti0 := ti2 d0 (List.mem_cons_self ..)
      have lzs := z2.length
      have lxt := ht.length
      have tl3 : tl.length + 1 ≤ 3 := ti1
      refine ⟨_, rfl, _, rfl, _, rfl, qd, _, rfl, .inr (Same.seqT ct_sub z1), fun p7 n7 => ?_⟩
      generalize e7 : upd H6 p7 _ = H7
      have N7 := newAt T6 n7 e7
      refine ⟨lo, p7, _, _, rfl, rfl, N7.s _ _ (ct_sub _ _ hl6), N7.f, le_line (by rw [List.length_cons]; omega), fun p8 n8 => ?_⟩
      generalize e8 : upd H7 p8 _ = H8
      have N8 := newAt N7.T n8 e8
      have c68 := N7.c.trans N8.c
      have s68 := N7.s.trans N8.s
      have hds8 : Paired (Hd K H8) ((.ref pd :: xt) ++ zs) ((d0 :: tl).map (·.1) ++ d0.2.map (·.1)) := paired_app2 (PySem.Paired.mono (fun _ _ => Hd.same (ct_sub.trans s68)) (.cons ⟨pd, _, rfl, t1⟩ (hd_dims ht))) (PySem.Paired.mono (fun _ _ => Hd.same (ct_sub.trans s68)) (hd_atts z2))
      have hdl := hds8.length
      refine ⟨p8, rfl, ⟨_, SqL.of N8.f⟩, fun D hD => lc_build (walk_list (K := K) (a := p8) (xs := (.ref pd :: xt) ++ zs)) hD (fun j ys R => Same H8 R ∧ ys = (((d0 :: tl).map (·.1) ++ d0.2.map (·.1)).take j).map V.str) ⟨Same.refl _, rfl⟩ (fun _ _ _ _ p => SqL.of (cd_sub _ _ (p.1 _ _ N8.f))) ?_ ?_⟩
      · rintro j ys y H9 H9' hj e9 l9 ⟨s9, rfl⟩ ⟨rfl, hy⟩
        obtain ⟨z', hz', p', rest, rfl, t'⟩ := paired_at hds8 hy
        rw [List.length_append, List.length_cons] at hj
        refine ⟨rfl, yes ?_⟩
        refine ⟨_, rfl, p', _, _, _, rfl, rfl, Same.seqT (s9.trans cd_sub) t', atI_nat (j := 0) rfl, LcNx.add e9 l9 (by omega) ⟨s9, ?_⟩⟩
        obtain ⟨g1, g2⟩ := List.getElem?_eq_some_iff.mp hz'
        rw [List.take_succ_eq_append_getElem g1, g2, List.map_append]
        rfl
      · rintro ys H9 e9 l9 ⟨s9, rfl⟩
        rw [List.take_of_length_le (by omega)] at e9
        have s89 : Same H8 H9 := s9.trans cd_sub
        have T9 := N8.T.same s89
        have c69 := c68.trans (ct_same s89)
        have nms : ((d0 :: tl).map (·.1) ++ d0.2.map (·.1)).length ≤ 6 := by simp only [List.length_append, List.length_map, List.length_cons]; omega
        refine ⟨_, rfl, D, mo, _, _, rfl, rfl, e9, ct_sub _ _ (c69 _ _ hm6), le_line (by rw [List.length_map, List.length_map]; omega), fun q9 n9 => ?_⟩
        generalize e10 : upd H9 q9 _ = H10
        have N10 := newAt T9 n9 e10
        have c610 := c69.trans N10.c
        refine ⟨a, g, q9, _, ((d0 :: tl).map (·.1) ++ d0.2.map (·.1)) ++ ms, rfl, N10.T, by omega, SqL.of (by rw [List.map_append]; exact N10.fc), by rw [List.length_append]; omega, fun z hz => ?_, fun fresh H11 hf nf T11 s11 => ?_⟩
        · rcases List.mem_append.mp hz with h | h
          · rcases List.mem_append.mp h with h | h
            · obtain ⟨e, he, rfl⟩ := List.mem_map.mp h
              exact ok.dn e he
            · obtain ⟨e, he, rfl⟩ := List.mem_map.mp h
              exact (ok.an d0 (List.mem_cons_self ..) e he).1
          · exact ok.mn z h
        have nf1 : fresh ∉ (d0 :: tl).map (·.1) := fun q => nf (List.mem_append_left _ (List.mem_append_left _ q))
        have nf2 : fresh ∉ d0.2.map (·.1) := fun q => nf (List.mem_append_left _ (List.mem_append_right _ q))
        have nf3 : fresh ∉ ms := fun q => nf (List.mem_append_right _ q)
        have okW := good_wide ok tis hf nf1 nf2 nf3
        refine set_st (σ' := [some (.ref l), some (.ref a), some (.int (0 + (i : Int))), some (.ref lo), some (.ref mo), some (.ref lo2), some (.ref mo2), some (.ref x), some (.ref y), some (.str d0.1), some (.ref qd), x11, some (.str fresh), x13, x14, x15, x16, x17]) rfl ?_
        have c611 := c610.trans s11
        refine ⟨_, rfl, _, rfl, _, rfl, by show 2 ≤ sizeLine; decide, fun t1' nt1 => ?_⟩
        generalize f1 : upd H11 t1' _ = G1
        have M1 := newAt T11 nt1 f1
        refine ⟨by show 1 ≤ sizeLine; decide, fun t2' nt2 => ?_⟩
        generalize f2 : upd G1 t2' _ = G2
        have M2 := newAt M1.T nt2 f2
        have b2 : Same (ct a g H6) (ct a g G2) := (c611.trans M1.c).trans M2.c
        refine cat_any (Same.seqT (b2.trans ct_sub) z1) (SqT.of M2.f) (by show zs.length + 1 ≤ 4000; omega) fun t3' G3 u3 ht3 => ?_
        have T3' := M2.T.same u3
        refine ⟨by show 2 ≤ sizeLine; decide, fun t4' nt4 => ?_⟩
        generalize f4 : upd G3 t4' _ = G4
        have M4 := newAt T3' nt4 f4
        refine ⟨by show 1 ≤ sizeLine; decide, fun q1' nq1 => ?_⟩
        generalize f5 : upd G4 q1' _ = G5
        have M5 := newAt M4.T nq1 f5
        have b5 : Same (ct a g H6) (ct a g G5) := ((b2.trans (ct_same u3)).trans M4.c).trans M5.c
        refine ⟨_, rfl, _, rfl, lo, _, rfl, SqL.of (ct_sub _ _ (b5 _ _ hl6)), fun q2' nq2 => ?_⟩
        rw [show cutV (.ref pd :: xt) (some 1) none = xt from cutFrom (.ref pd :: xt) 1]
        generalize f6 : upd G5 q2' _ = G6
        have M6 := newAt M5.T nq2 f6
        refine ⟨q1', q2', _, _, rfl, rfl, M6.s _ _ M5.f, M6.f, le_line (by show 1 + xt.length ≤ 4000; omega), fun q3' nq3 => ?_⟩
        generalize f7 : upd G6 q3' _ = G7
        have M7 := newAt M6.T nq3 f7
        refine ⟨_, rfl, by show 0 ≤ sizeLine; decide, fun t5' nt5 => ?_⟩
        generalize f8 : upd G7 t5' _ = G8
        have M8 := newAt M7.T nt5 f8
        refine ⟨by show 2 ≤ sizeLine; decide, fun t6' nt6 => ?_⟩
        generalize f9 : upd G8 t6' _ = G9
        have M9 := newAt M8.T nt6 f9
        refine ⟨by show 1 ≤ sizeLine; decide, fun q4' nq4 => ?_⟩
        generalize f10 : upd G9 q4' _ = G10
        have M10 := newAt M9.T nq4 f10
        have u710 := (M8.s.trans M9.s).trans M10.s
        refine ⟨q3', q4', _, _, rfl, rfl, u710 _ _ M7.f, M10.f, le_line (by rw [List.length_append]; show (1 + xt.length) + 1 ≤ 4000; omega), fun q5' nq5 => ?_⟩
        generalize f11 : upd G10 q5' _ = G11
        have M11 := newAt M10.T nq5 f11
        have u511 := ((M6.s.trans M7.s).trans u710).trans M11.s
        have b11 : Same (ct a g H6) (ct a g G11) := b5.trans (ct_same u511)
        refine ⟨_, rfl, _, rfl, by show 1 ≤ sizeLine; decide, fun q6' nq6 => ?_⟩
        generalize f12 : upd G11 q6' _ = G12
        have M12 := newAt M11.T nq6 f12
        refine ⟨mo, q6', _, _, rfl, rfl, M12.s _ _ (ct_sub _ _ (b11 _ _ hm6)), M12.f, le_line (by rw [List.length_map]; show ms.length + 1 ≤ 4000; omega), fun q7' nq7 => ?_⟩
        generalize f13 : upd G12 q7' _ = G13
        have M13 := newAt M12.T nq7 f13
        have u1113 := M12.s.trans M13.s
        have b13 : Same (ct a g H6) (ct a g G13) := b11.trans (ct_same u1113)
        have v5 := u511.trans u1113
        have v4 := M5.s.trans v5
        have v3 := M4.s.trans v4
        have v2 := u3.trans v3
        have v1 := M2.s.trans v2
        have v9 := M10.s.trans (M11.s.trans u1113)
        have ht3' : SqT K G3 t3' (zs ++ [.ref t1']) := ht3
        have dW : DimsAt K G13 q5' (wideD d0 tl fresh) := ⟨([.ref t4'] ++ xt) ++ [.ref t6'], SqL.of (u1113 _ _ M11.f),
          paired_app2 (paired_app2 (.cons ⟨t4', t3', rfl, SqT.of (v4 _ _ M4.f), zs ++ [.ref t1'], Same.seqT v3 ht3', paired_app2 (PySem.Paired.mono (fun _ _ => AttAt.same (b13.trans ct_sub)) z2) (.cons ⟨t1', rfl, SqT.of (v1 _ _ M1.f)⟩ .nil)⟩ .nil) (PySem.Paired.mono (fun _ _ => DimAt.same (b13.trans ct_sub)) ht)) (.cons ⟨t6', t5', rfl, SqT.of (v9 _ _ M9.f), [], SqT.of (v9 _ _ (M9.s _ _ M8.f)), .nil⟩ .nil)⟩
        have mW : SqL K G13 q7' ((ms ++ [fresh]).map V.str) := SqL.of (by rw [List.map_append]; exact M13.f)
        refine fun z dz nz ndz nez => ?_
        refine init_good dW (.inl mW) okW.szd okW.ff nz ndz nez fun H14 N14 => ?_
        refine set_st (σ' := [some (.ref l), some (.ref a), some (.int (0 + (i : Int))), some (.ref lo), some (.ref mo), some (.ref lo2), some (.ref mo2), some (.ref x), some (.ref y), some (.str d0.1), some (.ref qd), x11, some (.str fresh), some (.ref z), x14, x15, x16, x17]) rfl ?_
        have T14 := M13.T.same N14.s
        have P14 := N14.ct M13.T
        have c614 := b13.trans (ct_same N14.s)
        have Px : PlanAt K C (ct a g H14) x (d0 :: tl) ms := PlanAt.same (c56.trans c614) P5
        have Py : PlanAt K C (ct a g H14) y ds2 ms2 := PlanAt.same c614 P6
        have S14 := (c36.trans c614).seq S3
        have hl14 := c614 _ _ hl6
        have hd14 : DimsAt K (ct a g H14) lo (d0 :: tl) := ⟨_, SqL.of hl14, .cons ⟨pd, qd, rfl, Same.seqT c614 t1, zs, Same.seqT c614 z1, PySem.Paired.mono (fun _ _ => AttAt.same c614) z2⟩ (PySem.Paired.mono (fun _ _ => DimAt.same c614) ht)⟩
        refine ⟨_, rfl, _, rfl, _, rfl, l, _, rfl, seqL_ct S14, fun p15 np15 => ?_⟩
        generalize e15 : upd H14 p15 _ = H15
        have N15 := newAt T14 np15 e15
        refine ⟨p15, _, rfl, .inl (SqL.of N15.f), _, _, rfl, rfl, .inl (by decide), _, _, rfl, rfl, _, rfl, by omega, by omega, ?_⟩
        refine for_range (lo := 0) (fun j σ H16 => ∃ (y14 y15 y16 y17 : Option V), σ = [some (.ref l), some (.ref a), some (.int (0 + (i : Int))), some (.ref lo), some (.ref mo), some (.ref lo2), some (.ref mo2), some (.ref x), some (.ref y), some (.str d0.1), some (.ref qd), x11, some (.str fresh), some (.ref z), y14, y15, y16, y17] ∧ Tray H16 a g (6000 * i + 453 + 250 * j) ∧ Same (ct a g H14) (ct a g H16)) ⟨_, _, _, _, rfl, N15.T.mono (by omega), N15.c⟩ ?_ ?_
        · rintro j σ H16 hj ⟨y14, y15, y16, y17, rfl, T16, s16⟩
          have hj2 : j < 20 := by omega
          refine ⟨_, rfl, _, rfl, a, g, lo, _, d0 :: tl, ms, rfl, T16, by omega, DimsAt.same s16 hd14, ok, fun pr rr H17 r17 fr o17 T17 s17 => ?_⟩
          refine set_st (σ' := [some (.ref l), some (.ref a), some (.int (0 + (i : Int))), some (.ref lo), some (.ref mo), some (.ref lo2), some (.ref mo2), some (.ref x), some (.ref y), some (.str d0.1), some (.ref qd), x11, some (.str fresh), some (.ref z), some (.int (0 + (j : Int))), some (.ref pr), y16, y17]) rfl ?_
          refine ⟨_, rfl, ?_⟩
          refine set_st (σ' := [some (.ref l), some (.ref a), some (.int (0 + (i : Int))), some (.ref lo), some (.ref mo), some (.ref lo2), some (.ref mo2), some (.ref x), some (.ref y), some (.str d0.1), some (.ref qd), x11, some (.str fresh), some (.ref z), some (.int (0 + (j : Int))), some (.ref pr), some (.ref pr), y17]) rfl ?_
          have c1417 := s16.trans s17
          cases rr with
          | forget nm =>
            have hX : SqT K H17 pr [.str "forget", .str nm] := Same.seqT ct_sub r17
            refine ⟨_, rfl, pr, _, _, _, rfl, rfl, hX, atI_nat (j := 0) rfl, rfl, _, rfl, iteF0 (by decide +kernel) ?_⟩
            have rX : (Rw.forget nm).at K H17 pr := Rw.same ct_sub r17
            have r2X : (Rw.forget nm).mir.at K H17 pr := rX
            have o2X : (Rw.forget nm).mir.ok := o17
            have TX := T17
            have cX := c1417
            cases fi : Rw.fits (d0 :: tl) ms (Rw.forget nm) with
            | true =>
              refine ⟨_, rfl, _, rfl, x, pr, Rw.forget nm, d0 :: tl, ms, rfl, PlanAt.same ((cX.trans ct_sub).trans (Same.refl _)) Px, Rw.same (Same.refl _) rX, o17, fun qJ5 J5 tJ5 nJ5 hJ5 => ?_⟩
              have sx_J5 : Same H17 J5 := (Same.refl _).trans tJ5
              rw [fi] at hJ5
              refine set_st (σ' := [some (.ref l), some (.ref a), some (.int (0 + (i : Int))), some (.ref lo), some (.ref mo), some (.ref lo2), some (.ref mo2), some (.ref x), some (.ref y), some (.str d0.1), some (.ref qd), x11, some (.str fresh), some (.ref z), some (.int (0 + (j : Int))), some (.ref pr), some (.ref pr), some (.ref qJ5)]) rfl ?_
              refine ⟨_, rfl, by show 0 ≤ sizeLine; decide, fun w1 nw1 => ?_⟩
              generalize ew1 : upd J5 w1 _ = K1
              have W_w1 := newO nw1 ew1
              have sx_K1 : Same H17 K1 := (sx_J5).trans W_w1.s
              have uj_K1 : Same J5 K1 := (Same.refl _).trans W_w1.s
              refine ⟨_, rfl, by show 1 ≤ sizeLine; decide, fun w2 nw2 => ?_⟩
              generalize ew2 : upd K1 w2 _ = K2
              have W_w2 := newO nw2 ew2
              have sx_K2 : Same H17 K2 := (sx_K1).trans W_w2.s
              have uj_K2 : Same J5 K2 := (uj_K1).trans W_w2.s
              refine ⟨by show 2 ≤ sizeLine; decide, fun w3 nw3 => ?_⟩
              generalize ew3 : upd K2 w3 _ = K3
              have W_w3 := newO nw3 ew3
              have sx_K3 : Same H17 K3 := (sx_K2).trans W_w3.s
              have uj_K3 : Same J5 K3 := (uj_K2).trans W_w3.s
              refine ⟨lsD true (Rw.forget nm), [.list [], .list [rwD (Rw.forget nm)]], ls_dp (Rw.same (sx_K3) rX) (uj_K3 _ _ hJ5), .lst (SqL.of W_w3.f) (.cons (.lst (SqL.of (W_w3.s _ _ (W_w2.s _ _ W_w1.f))) .nil) (.cons (.lst (SqL.of (W_w3.s _ _ W_w2.f)) (.cons (Rw.dp (Rw.same (sx_K3) rX)) .nil)) .nil)), ls_sh o17, in_sh o17, _, rfl, ?_⟩
              rw [ls_in o17]
              refine iteF0 (by decide) ?_
              refine ⟨_, rfl, _, rfl, y, pr, Rw.mir (Rw.forget nm), ds2, ms2, rfl, PlanAt.same ((cX.trans ct_sub).trans (sx_K3)) Py, Rw.same (sx_K3) r2X, o2X, fun qJ6 J6 tJ6 nJ6 hJ6 => ?_⟩
              have sx_J6 : Same H17 J6 := (sx_K3).trans tJ6
              have uj_J6 : Same J5 J6 := (uj_K3).trans tJ6
              rw [fits_mir ok oth lm fr, fi] at hJ6
              refine ⟨_, rfl, by show 1 ≤ sizeLine; decide, fun w4 nw4 => ?_⟩
              generalize ew4 : upd J6 w4 _ = K4
              have W_w4 := newO nw4 ew4
              have sx_K4 : Same H17 K4 := (sx_J6).trans W_w4.s
              have uj_K4 : Same J5 K4 := (uj_J6).trans W_w4.s
              refine ⟨_, rfl, qJ5, _, rfl, .inl (SqL.of (uj_K4 _ _ hJ5)), ?_⟩
              refine ⟨w4, _, _, rfl, rfl, W_w4.f, (by show -(2 ^ 63 : Int) ≤ ((0 : Nat) : Int); decide), (by show ((0 : Nat) : Int) < 2 ^ 63; decide), (by show 1 * ((0 : Nat) : Int).toNat ≤ sizeLine; decide), fun w5 nw5 => ?_⟩
              generalize ew5 : upd K4 w5 _ = K5
              have W_w5 := newO nw5 ew5
              have sx_K5 : Same H17 K5 := (sx_K4).trans W_w5.s
              have uj_K5 : Same J5 K5 := (uj_K4).trans W_w5.s
              refine ⟨lsD true (Rw.mir (Rw.forget nm)), lsD true (Rw.mir (Rw.forget nm)), ls_dp (Rw.same (sx_K5) r2X) (W_w5.s _ _ (W_w4.s _ _ hJ6)), ls_dp (Rw.same (sx_K5) r2X) W_w5.f, ls_sh o2X, ls_sh o2X, _, rfl, ?_⟩
              rw [eqv_self (ls_sh o2X)]
              refine iteF0 (by decide) ?_
              refine ⟨_, rfl, by show 0 ≤ sizeLine; decide, fun w6 nw6 => ?_⟩
              generalize ew6 : upd K5 w6 _ = K6
              have W_w6 := newO nw6 ew6
              have sx_K6 : Same H17 K6 := (sx_K5).trans W_w6.s
              have uj_K6 : Same J5 K6 := (uj_K5).trans W_w6.s
              refine ⟨lsD true (Rw.forget nm), .list [], ls_dp (Rw.same (sx_K6) rX) (uj_K6 _ _ hJ5), .lst (SqL.of W_w6.f) .nil, ls_sh o17, shaped_nil6, _, rfl, ?_⟩
              refine iteT0 (by show PyData.eqv (.list []) (.list []) = true; decide +kernel) ?_
              refine ⟨_, rfl, pr, _, _, _, rfl, rfl, Same.seqT (sx_K6) hX, atI_nat (j := 0) rfl, rfl, _, rfl, ?_⟩
              refine iteF0 (by decide +kernel) ?_
              refine ⟨_, rfl, by show 0 ≤ sizeLine; decide, fun w7 nw7 => ?_⟩
              generalize ew7 : upd K6 w7 _ = K7
              have W_w7 := newO nw7 ew7
              have sx_K7 : Same H17 K7 := (sx_K6).trans W_w7.s
              have uj_K7 : Same J5 K7 := (uj_K6).trans W_w7.s
              refine ⟨lsD true (Rw.forget nm), .list [], ls_dp (Rw.same (sx_K7) rX) (uj_K7 _ _ hJ5), .lst (SqL.of W_w7.f) .nil, ls_sh o17, shaped_nil6, _, rfl, ?_⟩
              refine iteT0 (by show PyData.eqv (.list []) (.list []) = true; decide +kernel) ?_
              refine ⟨_, rfl, pr, _, _, _, rfl, rfl, Same.seqT (sx_K7) hX, atI_nat (j := 0) rfl, rfl, _, rfl, ?_⟩
              refine iteF0 (by decide +kernel) ?_
              exact ⟨_, _, _, _, rfl, (TX.same (sx_K7)).mono (by omega), cX.trans (ct_same (sx_K7))⟩
            | false =>
              refine ⟨_, rfl, _, rfl, x, pr, Rw.forget nm, d0 :: tl, ms, rfl, PlanAt.same ((cX.trans ct_sub).trans (Same.refl _)) Px, Rw.same (Same.refl _) rX, o17, fun qJ5 J5 tJ5 nJ5 hJ5 => ?_⟩
              have sx_J5 : Same H17 J5 := (Same.refl _).trans tJ5
              rw [fi] at hJ5
              refine set_st (σ' := [some (.ref l), some (.ref a), some (.int (0 + (i : Int))), some (.ref lo), some (.ref mo), some (.ref lo2), some (.ref mo2), some (.ref x), some (.ref y), some (.str d0.1), some (.ref qd), x11, some (.str fresh), some (.ref z), some (.int (0 + (j : Int))), some (.ref pr), some (.ref pr), some (.ref qJ5)]) rfl ?_
              refine ⟨_, rfl, by show 0 ≤ sizeLine; decide, fun w1 nw1 => ?_⟩
              generalize ew1 : upd J5 w1 _ = K1
              have W_w1 := newO nw1 ew1
              have sx_K1 : Same H17 K1 := (sx_J5).trans W_w1.s
              have uj_K1 : Same J5 K1 := (Same.refl _).trans W_w1.s
              refine ⟨_, rfl, by show 1 ≤ sizeLine; decide, fun w2 nw2 => ?_⟩
              generalize ew2 : upd K1 w2 _ = K2
              have W_w2 := newO nw2 ew2
              have sx_K2 : Same H17 K2 := (sx_K1).trans W_w2.s
              have uj_K2 : Same J5 K2 := (uj_K1).trans W_w2.s
              refine ⟨by show 2 ≤ sizeLine; decide, fun w3 nw3 => ?_⟩
              generalize ew3 : upd K2 w3 _ = K3
              have W_w3 := newO nw3 ew3
              have sx_K3 : Same H17 K3 := (sx_K2).trans W_w3.s
              have uj_K3 : Same J5 K3 := (uj_K2).trans W_w3.s
              refine ⟨lsD false (Rw.forget nm), [.list [], .list [rwD (Rw.forget nm)]], ls_dp (Rw.same (sx_K3) rX) (uj_K3 _ _ hJ5), .lst (SqL.of W_w3.f) (.cons (.lst (SqL.of (W_w3.s _ _ (W_w2.s _ _ W_w1.f))) .nil) (.cons (.lst (SqL.of (W_w3.s _ _ W_w2.f)) (.cons (Rw.dp (Rw.same (sx_K3) rX)) .nil)) .nil)), ls_sh o17, in_sh o17, _, rfl, ?_⟩
              rw [ls_in o17]
              refine iteF0 (by decide) ?_
              refine ⟨_, rfl, _, rfl, y, pr, Rw.mir (Rw.forget nm), ds2, ms2, rfl, PlanAt.same ((cX.trans ct_sub).trans (sx_K3)) Py, Rw.same (sx_K3) r2X, o2X, fun qJ6 J6 tJ6 nJ6 hJ6 => ?_⟩
              have sx_J6 : Same H17 J6 := (sx_K3).trans tJ6
              have uj_J6 : Same J5 J6 := (uj_K3).trans tJ6
              rw [fits_mir ok oth lm fr, fi] at hJ6
              refine ⟨_, rfl, by show 1 ≤ sizeLine; decide, fun w4 nw4 => ?_⟩
              generalize ew4 : upd J6 w4 _ = K4
              have W_w4 := newO nw4 ew4
              have sx_K4 : Same H17 K4 := (sx_J6).trans W_w4.s
              have uj_K4 : Same J5 K4 := (uj_J6).trans W_w4.s
              refine ⟨_, rfl, qJ5, _, rfl, .inl (SqL.of (uj_K4 _ _ hJ5)), ?_⟩
              refine ⟨w4, _, _, rfl, rfl, W_w4.f, (by show -(2 ^ 63 : Int) ≤ ((1 : Nat) : Int); decide), (by show ((1 : Nat) : Int) < 2 ^ 63; decide), (by show 1 * ((1 : Nat) : Int).toNat ≤ sizeLine; decide), fun w5 nw5 => ?_⟩
              generalize ew5 : upd K4 w5 _ = K5
              have W_w5 := newO nw5 ew5
              have sx_K5 : Same H17 K5 := (sx_K4).trans W_w5.s
              have uj_K5 : Same J5 K5 := (uj_K4).trans W_w5.s
              refine ⟨lsD false (Rw.mir (Rw.forget nm)), lsD false (Rw.mir (Rw.forget nm)), ls_dp (Rw.same (sx_K5) r2X) (W_w5.s _ _ (W_w4.s _ _ hJ6)), ls_dp (Rw.same (sx_K5) r2X) W_w5.f, ls_sh o2X, ls_sh o2X, _, rfl, ?_⟩
              rw [eqv_self (ls_sh o2X)]
              refine iteF0 (by decide) ?_
              refine ⟨_, rfl, by show 0 ≤ sizeLine; decide, fun w6 nw6 => ?_⟩
              generalize ew6 : upd K5 w6 _ = K6
              have W_w6 := newO nw6 ew6
              have sx_K6 : Same H17 K6 := (sx_K5).trans W_w6.s
              have uj_K6 : Same J5 K6 := (uj_K5).trans W_w6.s
              refine ⟨lsD false (Rw.forget nm), .list [], ls_dp (Rw.same (sx_K6) rX) (uj_K6 _ _ hJ5), .lst (SqL.of W_w6.f) .nil, ls_sh o17, shaped_nil6, _, rfl, ?_⟩
              refine iteF0 (by intro c; cases c) ?_
              refine ⟨_, rfl, by show 0 ≤ sizeLine; decide, fun w7 nw7 => ?_⟩
              generalize ew7 : upd K6 w7 _ = K7
              have W_w7 := newO nw7 ew7
              have sx_K7 : Same H17 K7 := (sx_K6).trans W_w7.s
              have uj_K7 : Same J5 K7 := (uj_K6).trans W_w7.s
              refine ⟨lsD false (Rw.forget nm), .list [], ls_dp (Rw.same (sx_K7) rX) (uj_K7 _ _ hJ5), .lst (SqL.of W_w7.f) .nil, ls_sh o17, shaped_nil6, _, rfl, ?_⟩
              refine iteF0 (by intro c; cases c) ?_
              exact ⟨_, _, _, _, rfl, (TX.same (sx_K7)).mono (by omega), cX.trans (ct_same (sx_K7))⟩
          | fact nm day keys nums =>
            obtain ⟨q1, q2, h1, h2, h3⟩ := id r17
            have hX := Same.seqT (ct_sub (a := a) (g := g)) h1
            refine ⟨_, rfl, pr, _, _, _, rfl, rfl, hX, atI_nat (j := 0) rfl, rfl, _, rfl, iteF0 (by decide +kernel) ?_⟩
            have rX : (Rw.fact nm day keys nums).at K H17 pr := Rw.same ct_sub r17
            have r2X : (Rw.fact nm day keys nums).mir.at K H17 pr := rX
            have o2X : (Rw.fact nm day keys nums).mir.ok := o17
            have TX := T17
            have cX := c1417
            cases fi : Rw.fits (d0 :: tl) ms (Rw.fact nm day keys nums) with
            | true =>
              refine ⟨_, rfl, _, rfl, x, pr, Rw.fact nm day keys nums, d0 :: tl, ms, rfl, PlanAt.same ((cX.trans ct_sub).trans (Same.refl _)) Px, Rw.same (Same.refl _) rX, o17, fun qJ5 J5 tJ5 nJ5 hJ5 => ?_⟩
              have sx_J5 : Same H17 J5 := (Same.refl _).trans tJ5
              rw [fi] at hJ5
              refine set_st (σ' := [some (.ref l), some (.ref a), some (.int (0 + (i : Int))), some (.ref lo), some (.ref mo), some (.ref lo2), some (.ref mo2), some (.ref x), some (.ref y), some (.str d0.1), some (.ref qd), x11, some (.str fresh), some (.ref z), some (.int (0 + (j : Int))), some (.ref pr), some (.ref pr), some (.ref qJ5)]) rfl ?_
              refine ⟨_, rfl, by show 0 ≤ sizeLine; decide, fun w1 nw1 => ?_⟩
              generalize ew1 : upd J5 w1 _ = K1
              have W_w1 := newO nw1 ew1
              have sx_K1 : Same H17 K1 := (sx_J5).trans W_w1.s
              have uj_K1 : Same J5 K1 := (Same.refl _).trans W_w1.s
              refine ⟨_, rfl, by show 1 ≤ sizeLine; decide, fun w2 nw2 => ?_⟩
              generalize ew2 : upd K1 w2 _ = K2
              have W_w2 := newO nw2 ew2
              have sx_K2 : Same H17 K2 := (sx_K1).trans W_w2.s
              have uj_K2 : Same J5 K2 := (uj_K1).trans W_w2.s
              refine ⟨by show 2 ≤ sizeLine; decide, fun w3 nw3 => ?_⟩
              generalize ew3 : upd K2 w3 _ = K3
              have W_w3 := newO nw3 ew3
              have sx_K3 : Same H17 K3 := (sx_K2).trans W_w3.s
              have uj_K3 : Same J5 K3 := (uj_K2).trans W_w3.s
              refine ⟨lsD true (Rw.fact nm day keys nums), [.list [], .list [rwD (Rw.fact nm day keys nums)]], ls_dp (Rw.same (sx_K3) rX) (uj_K3 _ _ hJ5), .lst (SqL.of W_w3.f) (.cons (.lst (SqL.of (W_w3.s _ _ (W_w2.s _ _ W_w1.f))) .nil) (.cons (.lst (SqL.of (W_w3.s _ _ W_w2.f)) (.cons (Rw.dp (Rw.same (sx_K3) rX)) .nil)) .nil)), ls_sh o17, in_sh o17, _, rfl, ?_⟩
              rw [ls_in o17]
              refine iteF0 (by decide) ?_
              refine ⟨_, rfl, _, rfl, y, pr, Rw.mir (Rw.fact nm day keys nums), ds2, ms2, rfl, PlanAt.same ((cX.trans ct_sub).trans (sx_K3)) Py, Rw.same (sx_K3) r2X, o2X, fun qJ6 J6 tJ6 nJ6 hJ6 => ?_⟩
              have sx_J6 : Same H17 J6 := (sx_K3).trans tJ6
              have uj_J6 : Same J5 J6 := (uj_K3).trans tJ6
              rw [fits_mir ok oth lm fr, fi] at hJ6
              refine ⟨_, rfl, by show 1 ≤ sizeLine; decide, fun w4 nw4 => ?_⟩
              generalize ew4 : upd J6 w4 _ = K4
              have W_w4 := newO nw4 ew4
              have sx_K4 : Same H17 K4 := (sx_J6).trans W_w4.s
              have uj_K4 : Same J5 K4 := (uj_J6).trans W_w4.s
              refine ⟨_, rfl, qJ5, _, rfl, .inl (SqL.of (uj_K4 _ _ hJ5)), ?_⟩
              refine ⟨w4, _, _, rfl, rfl, W_w4.f, (by show -(2 ^ 63 : Int) ≤ ((0 : Nat) : Int); decide), (by show ((0 : Nat) : Int) < 2 ^ 63; decide), (by show 1 * ((0 : Nat) : Int).toNat ≤ sizeLine; decide), fun w5 nw5 => ?_⟩
              generalize ew5 : upd K4 w5 _ = K5
              have W_w5 := newO nw5 ew5
              have sx_K5 : Same H17 K5 := (sx_K4).trans W_w5.s
              have uj_K5 : Same J5 K5 := (uj_K4).trans W_w5.s
              refine ⟨lsD true (Rw.mir (Rw.fact nm day keys nums)), lsD true (Rw.mir (Rw.fact nm day keys nums)), ls_dp (Rw.same (sx_K5) r2X) (W_w5.s _ _ (W_w4.s _ _ hJ6)), ls_dp (Rw.same (sx_K5) r2X) W_w5.f, ls_sh o2X, ls_sh o2X, _, rfl, ?_⟩
              rw [eqv_self (ls_sh o2X)]
              refine iteF0 (by decide) ?_
              refine ⟨_, rfl, by show 0 ≤ sizeLine; decide, fun w6 nw6 => ?_⟩
              generalize ew6 : upd K5 w6 _ = K6
              have W_w6 := newO nw6 ew6
              have sx_K6 : Same H17 K6 := (sx_K5).trans W_w6.s
              have uj_K6 : Same J5 K6 := (uj_K5).trans W_w6.s
              refine ⟨lsD true (Rw.fact nm day keys nums), .list [], ls_dp (Rw.same (sx_K6) rX) (uj_K6 _ _ hJ5), .lst (SqL.of W_w6.f) .nil, ls_sh o17, shaped_nil6, _, rfl, ?_⟩
              refine iteT0 (by show PyData.eqv (.list []) (.list []) = true; decide +kernel) ?_
              refine ⟨_, rfl, pr, _, _, _, rfl, rfl, Same.seqT (sx_K6) hX, atI_nat (j := 0) rfl, rfl, _, rfl, ?_⟩
              refine iteT0 (decide_eq_true rfl) ?_
              refine ⟨_, rfl, _, rfl, z, pr, Rw.fact nm day keys nums, wideD d0 tl fresh, ms ++ [fresh], rfl, PlanAt.same ((cX.trans ct_sub).trans (sx_K6)) P14, Rw.same (sx_K6) rX, o17, fun qJ7 J7 tJ7 nJ7 hJ7 => ?_⟩
              have sx_J7 : Same H17 J7 := (sx_K6).trans tJ7
              have uj_J7 : Same J5 J7 := (uj_K6).trans tJ7
              rw [fact_wide fi] at hJ7
              refine ⟨_, rfl, by show 1 ≤ sizeLine; decide, fun w7 nw7 => ?_⟩
              generalize ew7 : upd J7 w7 _ = K7
              have W_w7 := newO nw7 ew7
              have sx_K7 : Same H17 K7 := (sx_J7).trans W_w7.s
              have uj_K7 : Same J5 K7 := (uj_J7).trans W_w7.s
              refine ⟨lsD false (Rw.fact nm day keys nums), lsD false (Rw.fact nm day keys nums), ls_dp (Rw.same (sx_K7) rX) (W_w7.s _ _ hJ7), ls_dp (b := false) (Rw.same (sx_K7) rX) W_w7.f, ls_sh o17, ls_sh o17, _, rfl, ?_⟩
              rw [eqv_self (ls_sh o17)]
              refine iteF0 (by decide) ?_
              refine ⟨_, rfl, by show 0 ≤ sizeLine; decide, fun w8 nw8 => ?_⟩
              generalize ew8 : upd K7 w8 _ = K8
              have W_w8 := newO nw8 ew8
              have sx_K8 : Same H17 K8 := (sx_K7).trans W_w8.s
              have uj_K8 : Same J5 K8 := (uj_K7).trans W_w8.s
              refine ⟨lsD true (Rw.fact nm day keys nums), .list [], ls_dp (Rw.same (sx_K8) rX) (uj_K8 _ _ hJ5), .lst (SqL.of W_w8.f) .nil, ls_sh o17, shaped_nil6, _, rfl, ?_⟩
              refine iteT0 (by show PyData.eqv (.list []) (.list []) = true; decide +kernel) ?_
              refine ⟨_, rfl, pr, _, _, _, rfl, rfl, Same.seqT (sx_K8) hX, atI_nat (j := 0) rfl, rfl, _, rfl, ?_⟩
              refine iteF0 (by decide +kernel) ?_
              exact ⟨_, _, _, _, rfl, (TX.same (sx_K8)).mono (by omega), cX.trans (ct_same (sx_K8))⟩
            | false =>
              refine ⟨_, rfl, _, rfl, x, pr, Rw.fact nm day keys nums, d0 :: tl, ms, rfl, PlanAt.same ((cX.trans ct_sub).trans (Same.refl _)) Px, Rw.same (Same.refl _) rX, o17, fun qJ5 J5 tJ5 nJ5 hJ5 => ?_⟩
              have sx_J5 : Same H17 J5 := (Same.refl _).trans tJ5
              rw [fi] at hJ5
              refine set_st (σ' := [some (.ref l), some (.ref a), some (.int (0 + (i : Int))), some (.ref lo), some (.ref mo), some (.ref lo2), some (.ref mo2), some (.ref x), some (.ref y), some (.str d0.1), some (.ref qd), x11, some (.str fresh), some (.ref z), some (.int (0 + (j : Int))), some (.ref pr), some (.ref pr), some (.ref qJ5)]) rfl ?_
              refine ⟨_, rfl, by show 0 ≤ sizeLine; decide, fun w1 nw1 => ?_⟩
              generalize ew1 : upd J5 w1 _ = K1
              have W_w1 := newO nw1 ew1
              have sx_K1 : Same H17 K1 := (sx_J5).trans W_w1.s
              have uj_K1 : Same J5 K1 := (Same.refl _).trans W_w1.s
              refine ⟨_, rfl, by show 1 ≤ sizeLine; decide, fun w2 nw2 => ?_⟩
              generalize ew2 : upd K1 w2 _ = K2
              have W_w2 := newO nw2 ew2
              have sx_K2 : Same H17 K2 := (sx_K1).trans W_w2.s
              have uj_K2 : Same J5 K2 := (uj_K1).trans W_w2.s
              refine ⟨by show 2 ≤ sizeLine; decide, fun w3 nw3 => ?_⟩
              generalize ew3 : upd K2 w3 _ = K3
              have W_w3 := newO nw3 ew3
              have sx_K3 : Same H17 K3 := (sx_K2).trans W_w3.s
              have uj_K3 : Same J5 K3 := (uj_K2).trans W_w3.s
              refine ⟨lsD false (Rw.fact nm day keys nums), [.list [], .list [rwD (Rw.fact nm day keys nums)]], ls_dp (Rw.same (sx_K3) rX) (uj_K3 _ _ hJ5), .lst (SqL.of W_w3.f) (.cons (.lst (SqL.of (W_w3.s _ _ (W_w2.s _ _ W_w1.f))) .nil) (.cons (.lst (SqL.of (W_w3.s _ _ W_w2.f)) (.cons (Rw.dp (Rw.same (sx_K3) rX)) .nil)) .nil)), ls_sh o17, in_sh o17, _, rfl, ?_⟩
              rw [ls_in o17]
              refine iteF0 (by decide) ?_
              refine ⟨_, rfl, _, rfl, y, pr, Rw.mir (Rw.fact nm day keys nums), ds2, ms2, rfl, PlanAt.same ((cX.trans ct_sub).trans (sx_K3)) Py, Rw.same (sx_K3) r2X, o2X, fun qJ6 J6 tJ6 nJ6 hJ6 => ?_⟩
              have sx_J6 : Same H17 J6 := (sx_K3).trans tJ6
              have uj_J6 : Same J5 J6 := (uj_K3).trans tJ6
              rw [fits_mir ok oth lm fr, fi] at hJ6
              refine ⟨_, rfl, by show 1 ≤ sizeLine; decide, fun w4 nw4 => ?_⟩
              generalize ew4 : upd J6 w4 _ = K4
              have W_w4 := newO nw4 ew4
              have sx_K4 : Same H17 K4 := (sx_J6).trans W_w4.s
              have uj_K4 : Same J5 K4 := (uj_J6).trans W_w4.s
              refine ⟨_, rfl, qJ5, _, rfl, .inl (SqL.of (uj_K4 _ _ hJ5)), ?_⟩
              refine ⟨w4, _, _, rfl, rfl, W_w4.f, (by show -(2 ^ 63 : Int) ≤ ((1 : Nat) : Int); decide), (by show ((1 : Nat) : Int) < 2 ^ 63; decide), (by show 1 * ((1 : Nat) : Int).toNat ≤ sizeLine; decide), fun w5 nw5 => ?_⟩
              generalize ew5 : upd K4 w5 _ = K5
              have W_w5 := newO nw5 ew5
              have sx_K5 : Same H17 K5 := (sx_K4).trans W_w5.s
              have uj_K5 : Same J5 K5 := (uj_K4).trans W_w5.s
              refine ⟨lsD false (Rw.mir (Rw.fact nm day keys nums)), lsD false (Rw.mir (Rw.fact nm day keys nums)), ls_dp (Rw.same (sx_K5) r2X) (W_w5.s _ _ (W_w4.s _ _ hJ6)), ls_dp (Rw.same (sx_K5) r2X) W_w5.f, ls_sh o2X, ls_sh o2X, _, rfl, ?_⟩
              rw [eqv_self (ls_sh o2X)]
              refine iteF0 (by decide) ?_
              refine ⟨_, rfl, by show 0 ≤ sizeLine; decide, fun w6 nw6 => ?_⟩
              generalize ew6 : upd K5 w6 _ = K6
              have W_w6 := newO nw6 ew6
              have sx_K6 : Same H17 K6 := (sx_K5).trans W_w6.s
              have uj_K6 : Same J5 K6 := (uj_K5).trans W_w6.s
              refine ⟨lsD false (Rw.fact nm day keys nums), .list [], ls_dp (Rw.same (sx_K6) rX) (uj_K6 _ _ hJ5), .lst (SqL.of W_w6.f) .nil, ls_sh o17, shaped_nil6, _, rfl, ?_⟩
              refine iteF0 (by intro c; cases c) ?_
              refine ⟨_, rfl, by show 0 ≤ sizeLine; decide, fun w7 nw7 => ?_⟩
              generalize ew7 : upd K6 w7 _ = K7
              have W_w7 := newO nw7 ew7
              have sx_K7 : Same H17 K7 := (sx_K6).trans W_w7.s
              have uj_K7 : Same J5 K7 := (uj_K6).trans W_w7.s
              refine ⟨lsD false (Rw.fact nm day keys nums), .list [], ls_dp (Rw.same (sx_K7) rX) (uj_K7 _ _ hJ5), .lst (SqL.of W_w7.f) .nil, ls_sh o17, shaped_nil6, _, rfl, ?_⟩
              refine iteF0 (by intro c; cases c) ?_
              exact ⟨_, _, _, _, rfl, (TX.same (sx_K7)).mono (by omega), cX.trans (ct_same (sx_K7))⟩
          | kind d key day vals =>
            obtain ⟨q, h1, h2⟩ := id r17
            have h17 := Same.seqT (ct_sub (a := a) (g := g)) h1
            refine ⟨_, rfl, pr, _, _, _, rfl, rfl, h17, atI_nat (j := 0) rfl, rfl, _, rfl, iteT0 (decide_eq_true rfl) ?_⟩
            refine ⟨_, rfl, _, rfl, pr, _, rfl, h17, fun z => absurd z (nw_to 1 (by show 1 < 5; decide)), fun _ c1 nc1 => ?_⟩
            have ec : cutV _ none (some ((1 : Nat) : Int)) = [.str "kind"] := cutTo [.str "kind", .str d, .str key, .int day, .ref q] 1
            rw [show cutV _ none (some 1) = [.str "kind"] from ec]
            generalize ec1 : upd H17 c1 _ = L1
            have Q1 := newO nc1 ec1
            refine ⟨_, rfl, pr, _, _, _, rfl, rfl, Same.seqT Q1.s h17, atI_nat (j := 1) rfl, d, rfl, fr.1, fr.2, fun L2 sL2 => ?_⟩
            refine ⟨by show 1 ≤ sizeLine; decide, fun c2 nc2 => ?_⟩
            generalize ec3 : upd L2 c2 _ = L3
            have Q3 := newO nc2 ec3
            refine cat_ne (SqT.of (Q3.s _ _ (sL2 _ _ Q1.f))) (SqT.of Q3.f) (by simp) (by simp) (by show 1 + 1 ≤ 4000; decide) fun c4 nc4 => ?_
            generalize ec4 : upd L3 c4 _ = L4
            have Q4 := newO nc4 ec4
            have s174 := ((Q1.s.trans sL2).trans Q3.s).trans Q4.s
            refine ⟨_, rfl, _, rfl, pr, _, rfl, Same.seqT s174 h17, fun z => absurd z (nw_from 2 (by decide) (by show 0 < 5; decide)), fun _ c5 nc5 => ?_⟩
            have ec2 : cutV _ (some ((2 : Nat) : Int)) none = [.str key, .int day, .ref q] := cutFrom [.str "kind", .str d, .str key, .int day, .ref q] 2
            rw [show cutV _ (some 2) none = [.str key, .int day, .ref q] from ec2]
            generalize ec5 : upd L4 c5 _ = L5
            have Q5 := newO nc5 ec5
            refine cat_ne (SqT.of (Q5.s _ _ Q4.f)) (SqT.of Q5.f) (by simp) (by simp) (by show 2 + 3 ≤ 4000; decide) fun c6 nc6 => ?_
            generalize ec6 : upd L5 c6 _ = HX
            have Q6 := newO nc6 ec6
            have s17X := (s174.trans Q5.s).trans Q6.s
            refine set_st (σ' := [some (.ref l), some (.ref a), some (.int (0 + (i : Int))), some (.ref lo), some (.ref mo), some (.ref lo2), some (.ref mo2), some (.ref x), some (.ref y), some (.str d0.1), some (.ref qd), x11, some (.str fresh), some (.ref z), some (.int (0 + (j : Int))), some (.ref pr), some (.ref c6), y17]) rfl ?_
            have hX := Same.seqT s17X h17
            have rX : (Rw.kind d key day vals).at K HX pr := Rw.same (ct_sub.trans s17X) r17
            have r2X : (Rw.kind d key day vals).mir.at K HX c6 := ⟨q, SqT.of Q6.f, Same.seqT (ct_sub.trans s17X) h2⟩
            have o2X : (Rw.kind d key day vals).mir.ok := ⟨lo_tx (mir_lo fr.1) (by rw [mir_len]; exact fr.2), o17.2⟩
            have TX := T17.same s17X
            have cX := c1417.trans (ct_same s17X)
            cases fi : Rw.fits (d0 :: tl) ms (Rw.kind d key day vals) with
            | true =>
              refine ⟨_, rfl, _, rfl, x, pr, Rw.kind d key day vals, d0 :: tl, ms, rfl, PlanAt.same ((cX.trans ct_sub).trans (Same.refl _)) Px, Rw.same (Same.refl _) rX, o17, fun qJ5 J5 tJ5 nJ5 hJ5 => ?_⟩
              have sx_J5 : Same HX J5 := (Same.refl _).trans tJ5
              rw [fi] at hJ5
              refine set_st (σ' := [some (.ref l), some (.ref a), some (.int (0 + (i : Int))), some (.ref lo), some (.ref mo), some (.ref lo2), some (.ref mo2), some (.ref x), some (.ref y), some (.str d0.1), some (.ref qd), x11, some (.str fresh), some (.ref z), some (.int (0 + (j : Int))), some (.ref pr), some (.ref c6), some (.ref qJ5)]) rfl ?_
              refine ⟨_, rfl, by show 0 ≤ sizeLine; decide, fun w1 nw1 => ?_⟩
              generalize ew1 : upd J5 w1 _ = K1
              have W_w1 := newO nw1 ew1
              have sx_K1 : Same HX K1 := (sx_J5).trans W_w1.s
              have uj_K1 : Same J5 K1 := (Same.refl _).trans W_w1.s
              refine ⟨_, rfl, by show 1 ≤ sizeLine; decide, fun w2 nw2 => ?_⟩
              generalize ew2 : upd K1 w2 _ = K2
              have W_w2 := newO nw2 ew2
              have sx_K2 : Same HX K2 := (sx_K1).trans W_w2.s
              have uj_K2 : Same J5 K2 := (uj_K1).trans W_w2.s
              refine ⟨by show 2 ≤ sizeLine; decide, fun w3 nw3 => ?_⟩
              generalize ew3 : upd K2 w3 _ = K3
              have W_w3 := newO nw3 ew3
              have sx_K3 : Same HX K3 := (sx_K2).trans W_w3.s
              have uj_K3 : Same J5 K3 := (uj_K2).trans W_w3.s
              refine ⟨lsD true (Rw.kind d key day vals), [.list [], .list [rwD (Rw.kind d key day vals)]], ls_dp (Rw.same (sx_K3) rX) (uj_K3 _ _ hJ5), .lst (SqL.of W_w3.f) (.cons (.lst (SqL.of (W_w3.s _ _ (W_w2.s _ _ W_w1.f))) .nil) (.cons (.lst (SqL.of (W_w3.s _ _ W_w2.f)) (.cons (Rw.dp (Rw.same (sx_K3) rX)) .nil)) .nil)), ls_sh o17, in_sh o17, _, rfl, ?_⟩
              rw [ls_in o17]
              refine iteF0 (by decide) ?_
              refine ⟨_, rfl, _, rfl, y, c6, Rw.mir (Rw.kind d key day vals), ds2, ms2, rfl, PlanAt.same ((cX.trans ct_sub).trans (sx_K3)) Py, Rw.same (sx_K3) r2X, o2X, fun qJ6 J6 tJ6 nJ6 hJ6 => ?_⟩
              have sx_J6 : Same HX J6 := (sx_K3).trans tJ6
              have uj_J6 : Same J5 J6 := (uj_K3).trans tJ6
              rw [fits_mir ok oth lm fr, fi] at hJ6
              refine ⟨_, rfl, by show 1 ≤ sizeLine; decide, fun w4 nw4 => ?_⟩
              generalize ew4 : upd J6 w4 _ = K4
              have W_w4 := newO nw4 ew4
              have sx_K4 : Same HX K4 := (sx_J6).trans W_w4.s
              have uj_K4 : Same J5 K4 := (uj_J6).trans W_w4.s
              refine ⟨_, rfl, qJ5, _, rfl, .inl (SqL.of (uj_K4 _ _ hJ5)), ?_⟩
              refine ⟨w4, _, _, rfl, rfl, W_w4.f, (by show -(2 ^ 63 : Int) ≤ ((0 : Nat) : Int); decide), (by show ((0 : Nat) : Int) < 2 ^ 63; decide), (by show 1 * ((0 : Nat) : Int).toNat ≤ sizeLine; decide), fun w5 nw5 => ?_⟩
              generalize ew5 : upd K4 w5 _ = K5
              have W_w5 := newO nw5 ew5
              have sx_K5 : Same HX K5 := (sx_K4).trans W_w5.s
              have uj_K5 : Same J5 K5 := (uj_K4).trans W_w5.s
              refine ⟨lsD true (Rw.mir (Rw.kind d key day vals)), lsD true (Rw.mir (Rw.kind d key day vals)), ls_dp (Rw.same (sx_K5) r2X) (W_w5.s _ _ (W_w4.s _ _ hJ6)), ls_dp (Rw.same (sx_K5) r2X) W_w5.f, ls_sh o2X, ls_sh o2X, _, rfl, ?_⟩
              rw [eqv_self (ls_sh o2X)]
              refine iteF0 (by decide) ?_
              refine ⟨_, rfl, by show 0 ≤ sizeLine; decide, fun w6 nw6 => ?_⟩
              generalize ew6 : upd K5 w6 _ = K6
              have W_w6 := newO nw6 ew6
              have sx_K6 : Same HX K6 := (sx_K5).trans W_w6.s
              have uj_K6 : Same J5 K6 := (uj_K5).trans W_w6.s
              refine ⟨lsD true (Rw.kind d key day vals), .list [], ls_dp (Rw.same (sx_K6) rX) (uj_K6 _ _ hJ5), .lst (SqL.of W_w6.f) .nil, ls_sh o17, shaped_nil6, _, rfl, ?_⟩
              refine iteT0 (by show PyData.eqv (.list []) (.list []) = true; decide +kernel) ?_
              refine ⟨_, rfl, pr, _, _, _, rfl, rfl, Same.seqT (sx_K6) hX, atI_nat (j := 0) rfl, rfl, _, rfl, ?_⟩
              refine iteF0 (by decide +kernel) ?_
              refine ⟨_, rfl, by show 0 ≤ sizeLine; decide, fun w7 nw7 => ?_⟩
              generalize ew7 : upd K6 w7 _ = K7
              have W_w7 := newO nw7 ew7
              have sx_K7 : Same HX K7 := (sx_K6).trans W_w7.s
              have uj_K7 : Same J5 K7 := (uj_K6).trans W_w7.s
              refine ⟨lsD true (Rw.kind d key day vals), .list [], ls_dp (Rw.same (sx_K7) rX) (uj_K7 _ _ hJ5), .lst (SqL.of W_w7.f) .nil, ls_sh o17, shaped_nil6, _, rfl, ?_⟩
              refine iteT0 (by show PyData.eqv (.list []) (.list []) = true; decide +kernel) ?_
              refine ⟨_, rfl, pr, _, _, _, rfl, rfl, Same.seqT (sx_K7) hX, atI_nat (j := 0) rfl, rfl, _, rfl, ?_⟩
              refine iteT0 (decide_eq_true rfl) ?_
              refine ⟨_, rfl, _, rfl, z, pr, Rw.kind d key day vals, wideD d0 tl fresh, ms ++ [fresh], rfl, PlanAt.same ((cX.trans ct_sub).trans (sx_K7)) P14, Rw.same (sx_K7) rX, o17, fun qJ7 J7 tJ7 nJ7 hJ7 => ?_⟩
              have sx_J7 : Same HX J7 := (sx_K7).trans tJ7
              have uj_J7 : Same J5 J7 := (uj_K7).trans tJ7
              rw [kind_wide fi] at hJ7
              refine ⟨_, rfl, by show 1 ≤ sizeLine; decide, fun w8 nw8 => ?_⟩
              generalize ew8 : upd J7 w8 _ = K8
              have W_w8 := newO nw8 ew8
              have sx_K8 : Same HX K8 := (sx_J7).trans W_w8.s
              have uj_K8 : Same J5 K8 := (uj_J7).trans W_w8.s
              refine ⟨_, rfl, pr, _, _, _, rfl, rfl, Same.seqT (sx_K8) hX, atI_nat (j := 1) rfl, _, rfl, rfl, .inr ⟨_, rfl, ?_⟩⟩
              by_cases dn : d = d0.1
              · rw [decide_eq_true dn] at hJ7
                have ek : decide (V.str d = V.str d0.1) = true := decide_eq_true (by rw [dn])
                rw [ek]
                refine ⟨w8, _, _, rfl, rfl, W_w8.f, by decide, by decide, (by show 1 * ((1 : Int)).toNat ≤ sizeLine; decide), fun w9 nw9 => ?_⟩
                generalize ew9 : upd K8 w9 _ = K9
                have W_w9 := newO nw9 ew9
                have sx_K9 : Same HX K9 := (sx_K8).trans W_w9.s
                have uj_K9 : Same J5 K9 := (uj_K8).trans W_w9.s
                refine ⟨lsD false (Rw.kind d key day vals), lsD false (Rw.kind d key day vals), ls_dp (b := false) (Rw.same (sx_K9) rX) (W_w9.s _ _ (W_w8.s _ _ hJ7)), ls_dp (b := false) (Rw.same (sx_K9) rX) W_w9.f, ls_sh o17, ls_sh o17, _, rfl, ?_⟩
                rw [eqv_self (ls_sh o17)]
                refine iteF0 (by decide) ?_
                exact ⟨_, _, _, _, rfl, (TX.same (sx_K9)).mono (by omega), cX.trans (ct_same (sx_K9))⟩
              · rw [decide_eq_false dn] at hJ7
                have ek : decide (V.str d = V.str d0.1) = false := decide_eq_false (fun q => dn (V.str.inj q))
                rw [ek]
                refine ⟨w8, _, _, rfl, rfl, W_w8.f, by decide, by decide, (by show 1 * ((0 : Int)).toNat ≤ sizeLine; decide), fun w9 nw9 => ?_⟩
                generalize ew9 : upd K8 w9 _ = K9
                have W_w9 := newO nw9 ew9
                have sx_K9 : Same HX K9 := (sx_K8).trans W_w9.s
                have uj_K9 : Same J5 K9 := (uj_K8).trans W_w9.s
                refine ⟨lsD true (Rw.kind d key day vals), lsD true (Rw.kind d key day vals), ls_dp (b := true) (Rw.same (sx_K9) rX) (W_w9.s _ _ (W_w8.s _ _ hJ7)), ls_dp (b := true) (Rw.same (sx_K9) rX) W_w9.f, ls_sh o17, ls_sh o17, _, rfl, ?_⟩
                rw [eqv_self (ls_sh o17)]
                refine iteF0 (by decide) ?_
                exact ⟨_, _, _, _, rfl, (TX.same (sx_K9)).mono (by omega), cX.trans (ct_same (sx_K9))⟩
            | false =>
              refine ⟨_, rfl, _, rfl, x, pr, Rw.kind d key day vals, d0 :: tl, ms, rfl, PlanAt.same ((cX.trans ct_sub).trans (Same.refl _)) Px, Rw.same (Same.refl _) rX, o17, fun qJ5 J5 tJ5 nJ5 hJ5 => ?_⟩
              have sx_J5 : Same HX J5 := (Same.refl _).trans tJ5
              rw [fi] at hJ5
              refine set_st (σ' := [some (.ref l), some (.ref a), some (.int (0 + (i : Int))), some (.ref lo), some (.ref mo), some (.ref lo2), some (.ref mo2), some (.ref x), some (.ref y), some (.str d0.1), some (.ref qd), x11, some (.str fresh), some (.ref z), some (.int (0 + (j : Int))), some (.ref pr), some (.ref c6), some (.ref qJ5)]) rfl ?_
              refine ⟨_, rfl, by show 0 ≤ sizeLine; decide, fun w1 nw1 => ?_⟩
              generalize ew1 : upd J5 w1 _ = K1
              have W_w1 := newO nw1 ew1
              have sx_K1 : Same HX K1 := (sx_J5).trans W_w1.s
              have uj_K1 : Same J5 K1 := (Same.refl _).trans W_w1.s
              refine ⟨_, rfl, by show 1 ≤ sizeLine; decide, fun w2 nw2 => ?_⟩
              generalize ew2 : upd K1 w2 _ = K2
              have W_w2 := newO nw2 ew2
              have sx_K2 : Same HX K2 := (sx_K1).trans W_w2.s
              have uj_K2 : Same J5 K2 := (uj_K1).trans W_w2.s
              refine ⟨by show 2 ≤ sizeLine; decide, fun w3 nw3 => ?_⟩
              generalize ew3 : upd K2 w3 _ = K3
              have W_w3 := newO nw3 ew3
              have sx_K3 : Same HX K3 := (sx_K2).trans W_w3.s
              have uj_K3 : Same J5 K3 := (uj_K2).trans W_w3.s
              refine ⟨lsD false (Rw.kind d key day vals), [.list [], .list [rwD (Rw.kind d key day vals)]], ls_dp (Rw.same (sx_K3) rX) (uj_K3 _ _ hJ5), .lst (SqL.of W_w3.f) (.cons (.lst (SqL.of (W_w3.s _ _ (W_w2.s _ _ W_w1.f))) .nil) (.cons (.lst (SqL.of (W_w3.s _ _ W_w2.f)) (.cons (Rw.dp (Rw.same (sx_K3) rX)) .nil)) .nil)), ls_sh o17, in_sh o17, _, rfl, ?_⟩
              rw [ls_in o17]
              refine iteF0 (by decide) ?_
              refine ⟨_, rfl, _, rfl, y, c6, Rw.mir (Rw.kind d key day vals), ds2, ms2, rfl, PlanAt.same ((cX.trans ct_sub).trans (sx_K3)) Py, Rw.same (sx_K3) r2X, o2X, fun qJ6 J6 tJ6 nJ6 hJ6 => ?_⟩
              have sx_J6 : Same HX J6 := (sx_K3).trans tJ6
              have uj_J6 : Same J5 J6 := (uj_K3).trans tJ6
              rw [fits_mir ok oth lm fr, fi] at hJ6
              refine ⟨_, rfl, by show 1 ≤ sizeLine; decide, fun w4 nw4 => ?_⟩
              generalize ew4 : upd J6 w4 _ = K4
              have W_w4 := newO nw4 ew4
              have sx_K4 : Same HX K4 := (sx_J6).trans W_w4.s
              have uj_K4 : Same J5 K4 := (uj_J6).trans W_w4.s
              refine ⟨_, rfl, qJ5, _, rfl, .inl (SqL.of (uj_K4 _ _ hJ5)), ?_⟩
              refine ⟨w4, _, _, rfl, rfl, W_w4.f, (by show -(2 ^ 63 : Int) ≤ ((1 : Nat) : Int); decide), (by show ((1 : Nat) : Int) < 2 ^ 63; decide), (by show 1 * ((1 : Nat) : Int).toNat ≤ sizeLine; decide), fun w5 nw5 => ?_⟩
              generalize ew5 : upd K4 w5 _ = K5
              have W_w5 := newO nw5 ew5
              have sx_K5 : Same HX K5 := (sx_K4).trans W_w5.s
              have uj_K5 : Same J5 K5 := (uj_K4).trans W_w5.s
              refine ⟨lsD false (Rw.mir (Rw.kind d key day vals)), lsD false (Rw.mir (Rw.kind d key day vals)), ls_dp (Rw.same (sx_K5) r2X) (W_w5.s _ _ (W_w4.s _ _ hJ6)), ls_dp (Rw.same (sx_K5) r2X) W_w5.f, ls_sh o2X, ls_sh o2X, _, rfl, ?_⟩
              rw [eqv_self (ls_sh o2X)]
              refine iteF0 (by decide) ?_
              refine ⟨_, rfl, by show 0 ≤ sizeLine; decide, fun w6 nw6 => ?_⟩
              generalize ew6 : upd K5 w6 _ = K6
              have W_w6 := newO nw6 ew6
              have sx_K6 : Same HX K6 := (sx_K5).trans W_w6.s
              have uj_K6 : Same J5 K6 := (uj_K5).trans W_w6.s
              refine ⟨lsD false (Rw.kind d key day vals), .list [], ls_dp (Rw.same (sx_K6) rX) (uj_K6 _ _ hJ5), .lst (SqL.of W_w6.f) .nil, ls_sh o17, shaped_nil6, _, rfl, ?_⟩
              refine iteF0 (by intro c; cases c) ?_
              refine ⟨_, rfl, by show 0 ≤ sizeLine; decide, fun w7 nw7 => ?_⟩
              generalize ew7 : upd K6 w7 _ = K7
              have W_w7 := newO nw7 ew7
              have sx_K7 : Same HX K7 := (sx_K6).trans W_w7.s
              have uj_K7 : Same J5 K7 := (uj_K6).trans W_w7.s
              refine ⟨lsD false (Rw.kind d key day vals), .list [], ls_dp (Rw.same (sx_K7) rX) (uj_K7 _ _ hJ5), .lst (SqL.of W_w7.f) .nil, ls_sh o17, shaped_nil6, _, rfl, ?_⟩
              refine iteF0 (by intro c; cases c) ?_
              exact ⟨_, _, _, _, rfl, (TX.same (sx_K7)).mono (by omega), cX.trans (ct_same (sx_K7))⟩
        · rintro σ H16 ⟨y14, y15, y16, y17, rfl, T16, s16⟩
          exact ⟨_, _, _, _, _, _, _, _, _, _, _, _, _, _, _, _, rfl, T16.mono (by omega), s16.seq S14⟩
    · rintro σ H2 ⟨x2, x3, x4, x5, x6, x7, x8, x9, x10, x11, x12, x13, x14, x15, x16, x17, rfl, T2, S2⟩
      exact k H2
end
end Kd

namespace Kd
open PySem PySem.Spec PyProof.Rows L2
/-! ### what the head says of a tuple of texts and of a class -/
def strB : List Str → List Value → Bool
  | [], [] => true
  | z :: zs, .str y _ :: vs => decide (y = z) && strB zs vs
  | _, _ => false
theorem strB_ok : ∀ {zs : List Str} {vs : List Value}, strB zs vs = true → Vals (zs.map V.str) vs
  | [], [], _ => .nil
  | [], _ :: _, h => by cases h
  | _ :: _, [], h => by cases h
  | z :: zs, v :: vs, h => by
    cases v with
    | str y t =>
      obtain ⟨h1, h2⟩ := He.ba (show (decide (y = z) && strB zs vs) = true from h)
      have e : y = z := of_decide_eq_true h1
      subst e
      exact .cons ⟨t, rfl⟩ (strB_ok h2)
    | _ => cases h
def tupB (K : PySem.W.Frag) (a : Addr) (zs : List Str) : Bool := match K.lookup a with
  | some ⟨.type c, _, .seq its _, _⟩ => decide (c = "tuple") && (decide (its.size ≤ 4000) && strB zs its.toList)
  | _ => false
theorem tupB_ok {K : PySem.W.Frag} {a : Addr} {zs : List Str} (h : tupB K a zs = true) (H : Hp) : SqT K H a (zs.map V.str) := by
  unfold tupB at h
  cases q : K.lookup a with
  | none => rw [q] at h; cases h
  | some o =>
    obtain ⟨oc, od, dt, sl⟩ := o
    rw [q] at h
    cases oc with
    | type c =>
      cases dt with
      | seq its n =>
        obtain ⟨h1, h⟩ := He.ba (show (decide (c = "tuple") && (decide (its.size ≤ 4000) && strB zs its.toList)) = true from h)
        obtain ⟨h2, h3⟩ := He.ba h
        exact .inr ⟨_, its, n, q, congrArg Value.type (of_decide_eq_true h1), rfl, le_line (of_decide_eq_true h2), strB_ok h3⟩
      | _ => cases h
    | _ => cases dt <;> cases h
def clsB (K : PySem.W.Frag) (C : Addr) : Bool := He.eqO (PySem.W.findIn K (.ref C) "__class__") (some (some (.builtin "object.__class__"))) && (He.eqO (PySem.W.specialIn K (.builtin "object.__class__") "__get__") (some (some (.builtin "getset_descriptor.__get__"))) &&
  (decide (PySem.W.takesIn K (.builtin "object.__class__") = some true) && (decide (PySem.W.mroIn K C (.type "object") = some true) && decide (PySem.W.kitOne K (.ref C) (.ref C) = some true))))
theorem clsB_ok {K : PySem.W.Frag} {C : Addr} (h : clsB K C = true) (cl : Cls K C) : (∀ (H : Hp) (x dx : Addr) (fs : List (Str × V)), H x = some (.ins C dx fs) → TyOf K H (.ref x) (.ref C)) ∧ PySem.W.kitOne K (.ref C) (.ref C) = some true := by
  obtain ⟨h1, h⟩ := He.ba h
  obtain ⟨h2, h⟩ := He.ba h
  obtain ⟨h3, h⟩ := He.ba h
  obtain ⟨h4, h5⟩ := He.ba h
  exact ⟨fun H x dx fs e => .ins e cl (He.eqO_ok h1) (He.eqO_ok h2) (of_decide_eq_true h3) (of_decide_eq_true h4), of_decide_eq_true h5⟩
end Kd

namespace Kd
open PySem PySem.Spec PyProof.Rows L2 LamX
def d_DayError_init : He.DefD := ⟨("DayError", some "__init__"), "__init__", "DayError.__init__", defArgs s_DayError_init, defBody s_DayError_init, defScope s_DayError_init, [], []⟩
def d_NoPlan_init : He.DefD := ⟨("NoPlan", some "__init__"), "__init__", "NoPlan.__init__", defArgs s_NoPlan_init, defBody s_NoPlan_init, defScope s_NoPlan_init, [], []⟩
def d_NoRow_init : He.DefD := ⟨("NoRow", some "__init__"), "__init__", "NoRow.__init__", defArgs s_NoRow_init, defBody s_NoRow_init, defScope s_NoRow_init, [], []⟩
def d_is_name : He.DefD := ⟨("is_name", none), "is_name", "is_name", defArgs s_is_name, defBody s_is_name, defScope s_is_name, [], []⟩
def d_is_made_of : He.DefD := ⟨("is_made_of", none), "is_made_of", "is_made_of", defArgs s_is_made_of, defBody s_is_made_of, defScope s_is_made_of, [], []⟩
def d_Plan_init : He.DefD := ⟨("Plan", some "__init__"), "__init__", "Plan.__init__", defArgs s_Plan_init, defBody s_Plan_init, defScope s_Plan_init, [.adr (He.dflAt ("Plan", some "__init__") 0)], []⟩
def d_Plan_dimensions : He.DefD := ⟨("Plan", some "dimensions"), "dimensions", "Plan.dimensions", defArgs s_Plan_dimensions, defBody s_Plan_dimensions, defScope s_Plan_dimensions, [], []⟩
def d_Plan_measures : He.DefD := ⟨("Plan", some "measures"), "measures", "Plan.measures", defArgs s_Plan_measures, defBody s_Plan_measures, defScope s_Plan_measures, [], []⟩
def d_Plan_eq : He.DefD := ⟨("Plan", some "__eq__"), "__eq__", "Plan.__eq__", defArgs s_Plan_eq, defBody s_Plan_eq, defScope s_Plan_eq, [], []⟩
def d_Plan_ne : He.DefD := ⟨("Plan", some "__ne__"), "__ne__", "Plan.__ne__", defArgs s_Plan_ne, defBody s_Plan_ne, defScope s_Plan_ne, [], []⟩
def d_first_fault : He.DefD := ⟨("first_fault", none), "first_fault", "first_fault", defArgs s_first_fault, defBody s_first_fault, defScope s_first_fault, [], []⟩
def d_are_faulty : He.DefD := ⟨("are_faulty", none), "are_faulty", "are_faulty", defArgs s_are_faulty, defBody s_are_faulty, defScope s_are_faulty, [], []⟩
def d_attributes_of : He.DefD := ⟨("attributes_of", none), "attributes_of", "attributes_of", defArgs s_attributes_of, defBody s_attributes_of, defScope s_attributes_of, [], []⟩
def d_look : He.DefD := ⟨("look", none), "look", "look", defArgs s_look, defBody s_look, defScope s_look, [], []⟩
def d_has_form : He.DefD := ⟨("has_form", none), "has_form", "has_form", defArgs s_has_form, defBody s_has_form, defScope s_has_form, [], []⟩
def d_kind_fits : He.DefD := ⟨("kind_fits", none), "kind_fits", "kind_fits", defArgs s_kind_fits, defBody s_kind_fits, defScope s_kind_fits, [], []⟩
def d_fact_fits : He.DefD := ⟨("fact_fits", none), "fact_fits", "fact_fits", defArgs s_fact_fits, defBody s_fact_fits, defScope s_fact_fits, [], []⟩
def d_l_tray : He.DefD := ⟨("_law_tray", none), "_law_tray", "_law_tray", defArgs s_l_tray, defBody s_l_tray, defScope s_l_tray, [], []⟩
def d_l_draw : He.DefD := ⟨("_law_draw", none), "_law_draw", "_law_draw", defArgs s_l_draw, defBody s_l_draw, defScope s_l_draw, [], []⟩
def d_l_great : He.DefD := ⟨("_law_great", none), "_law_great", "_law_great", defArgs s_l_great, defBody s_l_great, defScope s_l_great, [], []⟩
def d_l_name : He.DefD := ⟨("_law_name", none), "_law_name", "_law_name", defArgs s_l_name, defBody s_l_name, defScope s_l_name, [], []⟩
def d_l_names : He.DefD := ⟨("_law_names", none), "_law_names", "_law_names", defArgs s_l_names, defBody s_l_names, defScope s_l_names, [], []⟩
def d_l_lists : He.DefD := ⟨("_law_lists", none), "_law_lists", "_law_lists", defArgs s_l_lists, defBody s_l_lists, defScope s_l_lists, [], []⟩
def d_l_text : He.DefD := ⟨("_law_text", none), "_law_text", "_law_text", defArgs s_l_text, defBody s_l_text, defScope s_l_text, [], []⟩
def d_l_whole : He.DefD := ⟨("_law_whole", none), "_law_whole", "_law_whole", defArgs s_l_whole, defBody s_l_whole, defScope s_l_whole, [], []⟩
def d_l_value : He.DefD := ⟨("_law_value", none), "_law_value", "_law_value", defArgs s_l_value, defBody s_l_value, defScope s_l_value, [], []⟩
def d_l_row : He.DefD := ⟨("_law_row", none), "_law_row", "_law_row", defArgs s_l_row, defBody s_l_row, defScope s_l_row, [], []⟩
def d_l_turned : He.DefD := ⟨("_law_turned", none), "_law_turned", "_law_turned", defArgs s_l_turned, defBody s_l_turned, defScope s_l_turned, [], []⟩
def d_l_other : He.DefD := ⟨("_law_other", none), "_law_other", "_law_other", defArgs s_l_other, defBody s_l_other, defScope s_l_other, [], []⟩
def d_l_free_row : He.DefD := ⟨("_law_free_row", none), "_law_free_row", "_law_free_row", defArgs s_l_free_row, defBody s_l_free_row, defScope s_l_free_row, [], []⟩
def d_l_refused : He.DefD := ⟨("_law_refused", none), "_law_refused", "_law_refused", defArgs s_l_refused, defBody s_l_refused, defScope s_l_refused, [], []⟩
def d_law : He.DefD := ⟨("law", none), "law", "law", defArgs s_law, defBody s_law, defScope s_law, [], []⟩
def fn : List He.DefD := [d_DayError_init, d_NoPlan_init, d_NoRow_init, d_is_name, d_is_made_of, d_Plan_init, d_Plan_dimensions, d_Plan_measures, d_Plan_eq, d_Plan_ne, d_first_fault, d_are_faulty, d_attributes_of, d_look, d_has_form, d_kind_fits, d_fact_fits, d_l_tray, d_l_draw, d_l_great, d_l_name, d_l_names, d_l_lists, d_l_text, d_l_whole, d_l_value, d_l_row, d_l_turned, d_l_other, d_l_free_row, d_l_refused, d_law]
def fa : List He.Fa := [(.glo "DayError" : He.Fa), (.glo "NoPlan" : He.Fa), (.glo "NoRow" : He.Fa), (.glo "Plan" : He.Fa), (.glo "is_name" : He.Fa), (.glo "is_made_of" : He.Fa), (.glo "first_fault" : He.Fa), (.glo "are_faulty" : He.Fa), (.glo "attributes_of" : He.Fa), (.glo "look" : He.Fa), (.glo "has_form" : He.Fa), (.glo "kind_fits" : He.Fa), (.glo "fact_fits" : He.Fa), (.glo "_law_tray" : He.Fa), (.glo "_law_draw" : He.Fa), (.glo "_law_great" : He.Fa), (.glo "_law_name" : He.Fa), (.glo "_law_names" : He.Fa), (.glo "_law_lists" : He.Fa), (.glo "_law_text" : He.Fa), (.glo "_law_whole" : He.Fa), (.glo "_law_value" : He.Fa), (.glo "_law_row" : He.Fa), (.glo "_law_turned" : He.Fa), (.glo "_law_other" : He.Fa), (.glo "_law_free_row" : He.Fa), (.glo "_law_refused" : He.Fa), (.glo "law" : He.Fa), (.str "SMALL_LETTERS" "abcdefghijklmnopqrstuvwxyz" : He.Fa), (.int "LONGEST_NAME" 8 : He.Fa), (.int "MOST_DIMENSIONS" 4 : He.Fa), (.int "MOST_ATTRIBUTES" 5 : He.Fa), (.int "MOST_MEASURES" 4 : He.Fa), (.free "ValueError" : He.Fa), (.free "all" : He.Fa), (.free "int" : He.Fa), (.free "isinstance" : He.Fa), (.free "len" : He.Fa), (.free "list" : He.Fa), (.free "max" : He.Fa), (.free "range" : He.Fa), (.free "repr" : He.Fa), (.free "set" : He.Fa), (.free "tuple" : He.Fa), (.cls "Plan" : He.Fa), (.mkr "Plan" : He.Fa), (.noat "Plan" "dimension_list" : He.Fa), (.noat "Plan" "measure_list" : He.Fa), (.meth "Plan" "dimensions" : He.Fa), (.meth "Plan" "measures" : He.Fa), (.meth "Plan" "__eq__" : He.Fa), (.meth "Plan" "__ne__" : He.Fa)]
def loose : List PySem.Str := [("DayError" : PySem.Str), ("NoPlan" : PySem.Str), ("NoRow" : PySem.Str), ("SMALL_LETTERS" : PySem.Str), ("LONGEST_NAME" : PySem.Str), ("is_name" : PySem.Str), ("is_made_of" : PySem.Str), ("MOST_DIMENSIONS" : PySem.Str), ("MOST_ATTRIBUTES" : PySem.Str), ("MOST_MEASURES" : PySem.Str), ("Plan" : PySem.Str), ("first_fault" : PySem.Str), ("are_faulty" : PySem.Str), ("attributes_of" : PySem.Str), ("look" : PySem.Str), ("has_form" : PySem.Str), ("kind_fits" : PySem.Str), ("fact_fits" : PySem.Str), ("_law_tray" : PySem.Str), ("_law_draw" : PySem.Str), ("_law_great" : PySem.Str), ("_law_name" : PySem.Str), ("_law_names" : PySem.Str), ("_law_lists" : PySem.Str), ("_law_text" : PySem.Str), ("_law_whole" : PySem.Str), ("_law_value" : PySem.Str), ("_law_row" : PySem.Str), ("_law_turned" : PySem.Str), ("_law_other" : PySem.Str), ("_law_free_row" : PySem.Str), ("_law_refused" : PySem.Str)]
/-! ### the head: the facts, and that a def's default is the empty tuple -/
def exB0 (K : PySem.W.Frag) : Bool := match K.lookup (He.dflAt ("Plan", some "__init__") 0 K) with
  | some ⟨.type c, _, .seq its _, _⟩ => decide (c = "tuple") && decide (its.toList = [])
  | _ => false
theorem exB0_ok {K : PySem.W.Frag} (h : exB0 K = true) (H : Hp) : SqT K H (He.dflAt ("Plan", some "__init__") 0 K) [] := by
  unfold exB0 at h
  cases q : K.lookup (He.dflAt ("Plan", some "__init__") 0 K) with
  | none => rw [q] at h; cases h
  | some o =>
    obtain ⟨oc, od, dt, sl⟩ := o
    rw [q] at h
    cases oc with
    | type c =>
      cases dt with
      | seq its n =>
        obtain ⟨h1, h2⟩ := He.ba (show (decide (c = "tuple") && decide (its.toList = [])) = true from h)
        have h3 : its.toList = [] := of_decide_eq_true h2
        refine .inr ⟨_, its, n, q, congrArg Value.type (of_decide_eq_true h1), rfl, ?_, by rw [h3]; exact .nil⟩
        have h4 : its.size = 0 := by rw [← Array.length_toList, h3]; rfl
        rw [h4]
        exact Nat.zero_le _
      | _ => cases h
    | _ => cases dt <;> cases h
def exX (K : PySem.W.Frag) : Bool := KdXc.cfnB K (He.ga K "DayError") (He.fAd K ("DayError", some "__init__")) "__init__" && (KdXc.veB K && (KdXc.errB K (He.ga K "NoPlan") (He.fAd K ("NoPlan", some "__init__")) && (KdXc.errB K (He.ga K "NoRow") (He.fAd K ("NoRow", some "__init__")))))
def exB (K : PySem.W.Frag) : Bool := exB0 K && exX K
theorem exB_ok {K : PySem.W.Frag} (h : exB K = true) (H : Hp) : SqT K H (He.dflAt ("Plan", some "__init__") 0 K) [] := exB0_ok (He.ba h).1 H
def asC (g : Addr → Option Obj) : List Addr := He.asD g 6 ++ [cStatics]
def hkE : PySem.W.Hook where
  α := He.AlD × Bool
  obs := fun s => (He.obsD fa fn (He.frG s.heap.get? (asC s.heap.get?)), exB (He.frG s.heap.get? (asC s.heap.get?)))
  val := fun _ => (He.valD fn, true)
  says := fun _ h => ∃ K : PySem.W.Frag, K.In h ∧ He.SaysD fa fn K ∧ exB K = true
  of := fun _ s e => ⟨He.frG s.heap.get? (asC s.heap.get?), He.frG_in, congrArg (fun z : He.AlD × Bool => z.1) e, congrArg (fun z : He.AlD × Bool => z.2) e⟩
  keeps := fun _ _ _ ⟨K, hK, c⟩ k => ⟨K, PySem.W.Frag.In.keeps hK k, c⟩
abbrev R : PySem.W.OpenRow := PySem.W.OpenLaw.row PySem.Challenge.rw_kindsofday_k05_whole_rows_by_counts_alon
def ob (s : PySem.W.SharedT) : He.AlD × Bool := (He.obsD fa fn (He.frG (HandSHeadRun.getT s) (asC (HandSHeadRun.getT s))), exB (He.frG (HandSHeadRun.getT s) (asC (HandSHeadRun.getT s))))
theorem ob_eq (s : PySem.W.SharedT) : ob s = hkE.obs s.abs := by
  have e : HandSHeadRun.getT s = s.abs.heap.get? := funext (HandSHeadRun.getT_eq s)
  unfold ob
  rw [e]
  rfl
theorem run (w : World) : HandSHeadRun.RunEq R (PySem.W.view R.prog [36]) hkE ob 4000 loose w := by
  intro os
  kernel_rfl
theorem code_at {K : PySem.W.Frag} {x qual : Str} {ps : Arguments} {bd : List Stmt} {sc : Scope} {dv : List V} {kw : List (Str × V)} {p : Str × Option Str} {fd : FuncData} (F : FunD K x qual ps bd sc dv kw (He.fAd K p) fd) : fd.code = .ref (He.cT K p).1 := by
  obtain ⟨oc, od, dV, kV, doc, pm, an, cdv, ct, osl, rfl, lk, hcd, _, _⟩ := F.ex
  obtain ⟨c, e⟩ := He.codeIn_ref hcd
  subst e
  have q := He.codeOf_eq (c := c) lk rfl
  show Value.ref c = Value.ref (He.codeOf K p)
  rw [q]
theorem facts {P : Program} {w : World} {K : PySem.W.Frag} {h : Heap} {mg : Str → Option Value} {f : Addr} (X : K.In h) (G : h.Ns mainGlobals mg) (hfa : mg ("law" : Str) = some (.ref f)) (c : He.SaysD fa fn K) (ce : exB K = true) :
    ∃ fd : FuncData, (∀ (s : Shared) (v : Value), BindsTo s fd ⟨[v], []⟩ [("script", v)]) ∧ ∀ base : Heap, K.In base → base.Ns mainGlobals mg → FnOk P w K mg base CX0 8 f fd ["script"] (spLaw K) := by
  obtain ⟨fd_DayError_init, F_DayError_init⟩ := c.def_ 0 (d := d_DayError_init) rfl
  obtain ⟨fd_NoPlan_init, F_NoPlan_init⟩ := c.def_ 1 (d := d_NoPlan_init) rfl
  obtain ⟨fd_NoRow_init, F_NoRow_init⟩ := c.def_ 2 (d := d_NoRow_init) rfl
  obtain ⟨fd_is_name, F_is_name⟩ := c.def_ 3 (d := d_is_name) rfl
  obtain ⟨fd_is_made_of, F_is_made_of⟩ := c.def_ 4 (d := d_is_made_of) rfl
  obtain ⟨fd_Plan_init, F_Plan_init⟩ := c.def_ 5 (d := d_Plan_init) rfl
  obtain ⟨fd_Plan_dimensions, F_Plan_dimensions⟩ := c.def_ 6 (d := d_Plan_dimensions) rfl
  obtain ⟨fd_Plan_measures, F_Plan_measures⟩ := c.def_ 7 (d := d_Plan_measures) rfl
  obtain ⟨fd_Plan_eq, F_Plan_eq⟩ := c.def_ 8 (d := d_Plan_eq) rfl
  obtain ⟨fd_Plan_ne, F_Plan_ne⟩ := c.def_ 9 (d := d_Plan_ne) rfl
  obtain ⟨fd_first_fault, F_first_fault⟩ := c.def_ 10 (d := d_first_fault) rfl
  obtain ⟨fd_are_faulty, F_are_faulty⟩ := c.def_ 11 (d := d_are_faulty) rfl
  obtain ⟨fd_attributes_of, F_attributes_of⟩ := c.def_ 12 (d := d_attributes_of) rfl
  obtain ⟨fd_look, F_look⟩ := c.def_ 13 (d := d_look) rfl
  obtain ⟨fd_has_form, F_has_form⟩ := c.def_ 14 (d := d_has_form) rfl
  obtain ⟨fd_kind_fits, F_kind_fits⟩ := c.def_ 15 (d := d_kind_fits) rfl
  obtain ⟨fd_fact_fits, F_fact_fits⟩ := c.def_ 16 (d := d_fact_fits) rfl
  obtain ⟨fd_l_tray, F_l_tray⟩ := c.def_ 17 (d := d_l_tray) rfl
  obtain ⟨fd_l_draw, F_l_draw⟩ := c.def_ 18 (d := d_l_draw) rfl
  obtain ⟨fd_l_great, F_l_great⟩ := c.def_ 19 (d := d_l_great) rfl
  obtain ⟨fd_l_name, F_l_name⟩ := c.def_ 20 (d := d_l_name) rfl
  obtain ⟨fd_l_names, F_l_names⟩ := c.def_ 21 (d := d_l_names) rfl
  obtain ⟨fd_l_lists, F_l_lists⟩ := c.def_ 22 (d := d_l_lists) rfl
  obtain ⟨fd_l_text, F_l_text⟩ := c.def_ 23 (d := d_l_text) rfl
  obtain ⟨fd_l_whole, F_l_whole⟩ := c.def_ 24 (d := d_l_whole) rfl
  obtain ⟨fd_l_value, F_l_value⟩ := c.def_ 25 (d := d_l_value) rfl
  obtain ⟨fd_l_row, F_l_row⟩ := c.def_ 26 (d := d_l_row) rfl
  obtain ⟨fd_l_turned, F_l_turned⟩ := c.def_ 27 (d := d_l_turned) rfl
  obtain ⟨fd_l_other, F_l_other⟩ := c.def_ 28 (d := d_l_other) rfl
  obtain ⟨fd_l_free_row, F_l_free_row⟩ := c.def_ 29 (d := d_l_free_row) rfl
  obtain ⟨fd_l_refused, F_l_refused⟩ := c.def_ 30 (d := d_l_refused) rfl
  obtain ⟨fd_law, F_law⟩ := c.def_ 31 (d := d_law) rfl
  have e := hfa.symm.trans (He.glo_ok X G (c.fact 27 (f := .glo "law") rfl))
  cases e
  have b := FunD.bindsA (ps := ["script"]) F_law fun _ _ _ _ _ _ us hl => match us, hl with | [_], _ => rfl
  have b_DayError_init : Binds K fd_DayError_init ["self", "what"] [] := FunD.bindsN F_DayError_init fun _ _ _ _ _ _ us hl => match us, hl with | [_, _], _ => rfl
  have b_NoPlan_init : Binds K fd_NoPlan_init ["self", "what"] [] := FunD.bindsN F_NoPlan_init fun _ _ _ _ _ _ us hl => match us, hl with | [_, _], _ => rfl
  have b_NoRow_init : Binds K fd_NoRow_init ["self", "what"] [] := FunD.bindsN F_NoRow_init fun _ _ _ _ _ _ us hl => match us, hl with | [_, _], _ => rfl
  have b_is_name : Binds K fd_is_name ["text"] [] := FunD.bindsN F_is_name fun _ _ _ _ _ _ us hl => match us, hl with | [_], _ => rfl
  have b_is_made_of : Binds K fd_is_made_of ["text", "signs"] [] := FunD.bindsN F_is_made_of fun _ _ _ _ _ _ us hl => match us, hl with | [_, _], _ => rfl
  have b_Plan_dimensions : Binds K fd_Plan_dimensions ["self"] [] := FunD.bindsN F_Plan_dimensions fun _ _ _ _ _ _ us hl => match us, hl with | [_], _ => rfl
  have b_Plan_measures : Binds K fd_Plan_measures ["self"] [] := FunD.bindsN F_Plan_measures fun _ _ _ _ _ _ us hl => match us, hl with | [_], _ => rfl
  have b_Plan_eq : Binds K fd_Plan_eq ["self", "other"] [] := FunD.bindsN F_Plan_eq fun _ _ _ _ _ _ us hl => match us, hl with | [_, _], _ => rfl
  have b_Plan_ne : Binds K fd_Plan_ne ["self", "other"] [] := FunD.bindsN F_Plan_ne fun _ _ _ _ _ _ us hl => match us, hl with | [_, _], _ => rfl
  have b_first_fault : Binds K fd_first_fault ["dimensions", "measures"] [] := FunD.bindsN F_first_fault fun _ _ _ _ _ _ us hl => match us, hl with | [_, _], _ => rfl
  have b_are_faulty : Binds K fd_are_faulty ["names", "most"] [] := FunD.bindsN F_are_faulty fun _ _ _ _ _ _ us hl => match us, hl with | [_, _], _ => rfl
  have b_attributes_of : Binds K fd_attributes_of ["plan", "dimension"] [] := FunD.bindsN F_attributes_of fun _ _ _ _ _ _ us hl => match us, hl with | [_, _], _ => rfl
  have b_look : Binds K fd_look ["plan", "row"] [] := FunD.bindsN F_look fun _ _ _ _ _ _ us hl => match us, hl with | [_, _], _ => rfl
  have b_has_form : Binds K fd_has_form ["plan", "row"] [] := FunD.bindsN F_has_form fun _ _ _ _ _ _ us hl => match us, hl with | [_, _], _ => rfl
  have b_kind_fits : Binds K fd_kind_fits ["plan", "dimension", "values"] [] := FunD.bindsN F_kind_fits fun _ _ _ _ _ _ us hl => match us, hl with | [_, _, _], _ => rfl
  have b_fact_fits : Binds K fd_fact_fits ["plan", "keys", "numbers"] [] := FunD.bindsN F_fact_fits fun _ _ _ _ _ _ us hl => match us, hl with | [_, _, _], _ => rfl
  have b_l_tray : Binds K fd_l_tray ["script"] [] := FunD.bindsN F_l_tray fun _ _ _ _ _ _ us hl => match us, hl with | [_], _ => rfl
  have b_l_draw : Binds K fd_l_draw ["tray", "many"] [] := FunD.bindsN F_l_draw fun _ _ _ _ _ _ us hl => match us, hl with | [_, _], _ => rfl
  have b_l_great : Binds K fd_l_great ["tray"] [] := FunD.bindsN F_l_great fun _ _ _ _ _ _ us hl => match us, hl with | [_], _ => rfl
  have b_l_name : Binds K fd_l_name ["tray", "used"] [] := FunD.bindsN F_l_name fun _ _ _ _ _ _ us hl => match us, hl with | [_, _], _ => rfl
  have b_l_names : Binds K fd_l_names ["tray", "many"] [] := FunD.bindsN F_l_names fun _ _ _ _ _ _ us hl => match us, hl with | [_, _], _ => rfl
  have b_l_lists : Binds K fd_l_lists ["tray", "most", "wide"] [] := FunD.bindsN F_l_lists fun _ _ _ _ _ _ us hl => match us, hl with | [_, _, _], _ => rfl
  have b_l_text : Binds K fd_l_text ["tray"] [] := FunD.bindsN F_l_text fun _ _ _ _ _ _ us hl => match us, hl with | [_], _ => rfl
  have b_l_whole : Binds K fd_l_whole ["tray"] [] := FunD.bindsN F_l_whole fun _ _ _ _ _ _ us hl => match us, hl with | [_], _ => rfl
  have b_l_value : Binds K fd_l_value ["tray"] [] := FunD.bindsN F_l_value fun _ _ _ _ _ _ us hl => match us, hl with | [_], _ => rfl
  have b_l_row : Binds K fd_l_row ["tray", "some", "sums"] [] := FunD.bindsN F_l_row fun _ _ _ _ _ _ us hl => match us, hl with | [_, _, _], _ => rfl
  have b_l_turned : Binds K fd_l_turned ["word"] [] := FunD.bindsN F_l_turned fun _ _ _ _ _ _ us hl => match us, hl with | [_], _ => rfl
  have b_l_other : Binds K fd_l_other ["tray", "some", "sums"] [] := FunD.bindsN F_l_other fun _ _ _ _ _ _ us hl => match us, hl with | [_, _, _], _ => rfl
  have b_l_free_row : Binds K fd_l_free_row ["tray", "some"] [] := FunD.bindsN F_l_free_row fun _ _ _ _ _ _ us hl => match us, hl with | [_, _], _ => rfl
  have b_l_refused : Binds K fd_l_refused ["made", "line"] [] := FunD.bindsN F_l_refused fun _ _ _ _ _ _ us hl => match us, hl with | [_, _], _ => rfl
  have g_DayError := He.glo_ok X G (c.fact 0 (f := .glo "DayError") rfl)
  have g_NoPlan := He.glo_ok X G (c.fact 1 (f := .glo "NoPlan") rfl)
  have g_NoRow := He.glo_ok X G (c.fact 2 (f := .glo "NoRow") rfl)
  have g_Plan := He.glo_ok X G (c.fact 3 (f := .glo "Plan") rfl)
  have g_is_name := He.glo_ok X G (c.fact 4 (f := .glo "is_name") rfl)
  have g_is_made_of := He.glo_ok X G (c.fact 5 (f := .glo "is_made_of") rfl)
  have g_first_fault := He.glo_ok X G (c.fact 6 (f := .glo "first_fault") rfl)
  have g_are_faulty := He.glo_ok X G (c.fact 7 (f := .glo "are_faulty") rfl)
  have g_attributes_of := He.glo_ok X G (c.fact 8 (f := .glo "attributes_of") rfl)
  have g_look := He.glo_ok X G (c.fact 9 (f := .glo "look") rfl)
  have g_has_form := He.glo_ok X G (c.fact 10 (f := .glo "has_form") rfl)
  have g_kind_fits := He.glo_ok X G (c.fact 11 (f := .glo "kind_fits") rfl)
  have g_fact_fits := He.glo_ok X G (c.fact 12 (f := .glo "fact_fits") rfl)
  have g_l_tray := He.glo_ok X G (c.fact 13 (f := .glo "_law_tray") rfl)
  have g_l_draw := He.glo_ok X G (c.fact 14 (f := .glo "_law_draw") rfl)
  have g_l_great := He.glo_ok X G (c.fact 15 (f := .glo "_law_great") rfl)
  have g_l_name := He.glo_ok X G (c.fact 16 (f := .glo "_law_name") rfl)
  have g_l_names := He.glo_ok X G (c.fact 17 (f := .glo "_law_names") rfl)
  have g_l_lists := He.glo_ok X G (c.fact 18 (f := .glo "_law_lists") rfl)
  have g_l_text := He.glo_ok X G (c.fact 19 (f := .glo "_law_text") rfl)
  have g_l_whole := He.glo_ok X G (c.fact 20 (f := .glo "_law_whole") rfl)
  have g_l_value := He.glo_ok X G (c.fact 21 (f := .glo "_law_value") rfl)
  have g_l_row := He.glo_ok X G (c.fact 22 (f := .glo "_law_row") rfl)
  have g_l_turned := He.glo_ok X G (c.fact 23 (f := .glo "_law_turned") rfl)
  have g_l_other := He.glo_ok X G (c.fact 24 (f := .glo "_law_other") rfl)
  have g_l_free_row := He.glo_ok X G (c.fact 25 (f := .glo "_law_free_row") rfl)
  have g_l_refused := He.glo_ok X G (c.fact 26 (f := .glo "_law_refused") rfl)
  obtain ⟨t_SMALL_LETTERS, g_SMALL_LETTERS⟩ := He.str_ok X G (c.fact 28 (f := .str "SMALL_LETTERS" "abcdefghijklmnopqrstuvwxyz") rfl)
  obtain ⟨t_LONGEST_NAME, g_LONGEST_NAME⟩ := He.int_ok X G (c.fact 29 (f := .int "LONGEST_NAME" 8) rfl)
  obtain ⟨t_MOST_DIMENSIONS, g_MOST_DIMENSIONS⟩ := He.int_ok X G (c.fact 30 (f := .int "MOST_DIMENSIONS" 4) rfl)
  obtain ⟨t_MOST_ATTRIBUTES, g_MOST_ATTRIBUTES⟩ := He.int_ok X G (c.fact 31 (f := .int "MOST_ATTRIBUTES" 5) rfl)
  obtain ⟨t_MOST_MEASURES, g_MOST_MEASURES⟩ := He.int_ok X G (c.fact 32 (f := .int "MOST_MEASURES" 4) rfl)
  have z_ValueError := He.free_ok X G (c.fact 33 (f := .free "ValueError") rfl)
  have z_all := He.free_ok X G (c.fact 34 (f := .free "all") rfl)
  have z_int := He.free_ok X G (c.fact 35 (f := .free "int") rfl)
  have z_isinstance := He.free_ok X G (c.fact 36 (f := .free "isinstance") rfl)
  have z_len := He.free_ok X G (c.fact 37 (f := .free "len") rfl)
  have z_list := He.free_ok X G (c.fact 38 (f := .free "list") rfl)
  have z_max := He.free_ok X G (c.fact 39 (f := .free "max") rfl)
  have z_range := He.free_ok X G (c.fact 40 (f := .free "range") rfl)
  have z_repr := He.free_ok X G (c.fact 41 (f := .free "repr") rfl)
  have z_set := He.free_ok X G (c.fact 42 (f := .free "set") rfl)
  have z_tuple := He.free_ok X G (c.fact 43 (f := .free "tuple") rfl)
  have cls_Plan := He.cls_ok (c.fact 44 (f := .cls "Plan") rfl)
  have mk_Plan := He.mkr_ok (c.fact 45 (f := .mkr "Plan") rfl)
  have no_Plan_dimension_list := He.noat_ok (c.fact 46 (f := .noat "Plan" "dimension_list") rfl)
  have no_Plan_measure_list := He.noat_ok (c.fact 47 (f := .noat "Plan" "measure_list") rfl)
  have me_Plan_dimensions := He.meth_ok (c.fact 48 (f := .meth "Plan" "dimensions") rfl)
  have me_Plan_measures := He.meth_ok (c.fact 49 (f := .meth "Plan" "measures") rfl)
  have me_Plan_eq := He.meth_ok (c.fact 50 (f := .meth "Plan" "__eq__") rfl)
  have me_Plan_ne := He.meth_ok (c.fact 51 (f := .meth "Plan" "__ne__") rfl)
  refine ⟨fd_law, fun s v => b s [v] rfl, fun base _ _ => ?_⟩
  have T : PlTxt K (He.ga K "Plan") := ⟨cls_Plan, no_Plan_dimension_list, no_Plan_measure_list⟩
  have G_md := ok_made (P := P) (w := w) (base := base) F_is_made_of z_all
  have G_is := ok_is_name (P := P) (w := w) (base := base) F_is_name G_md F_is_made_of.kp b_is_made_of g_is_made_of z_len g_SMALL_LETTERS g_LONGEST_NAME
  have G_af := ok_are_faulty (P := P) (w := w) (base := base) F_are_faulty G_is F_is_name.kp b_is_name g_is_name z_len z_set z_all
  have G_ff := ok_first (P := P) (w := w) (base := base) F_first_fault G_af F_are_faulty.kp b_are_faulty g_are_faulty g_MOST_DIMENSIONS g_MOST_ATTRIBUTES g_MOST_MEASURES
  have G_in := ok_init (P := P) (w := w) (base := base) F_Plan_init T G_ff F_first_fault.kp b_first_fault g_first_fault z_tuple z_list
  have hx := (He.ba ce).2
  obtain ⟨hD, hx⟩ := He.ba hx
  obtain ⟨hV, hx⟩ := He.ba hx
  obtain ⟨h_NoPlan, hx⟩ := He.ba hx
  have h_NoRow := hx
  have T_NoPlan := KdXc.errB_ok h_NoPlan
  have D_NoPlan := ok_DayError (P := P) (w := w) (mg := mg) (base := base) F_DayError_init T_NoPlan z_ValueError (KdXc.valB_ok hV) z_repr
  have E_NoPlan : ErrM P w K mg base "NoPlan" _ _ fd_NoPlan_init := ⟨T_NoPlan, ok_NoPlan F_NoPlan_init T_NoPlan D_NoPlan (KdXc.cfnB_ok hD) b_DayError_init g_DayError, b_NoPlan_init, g_NoPlan⟩
  have T_NoRow := KdXc.errB_ok h_NoRow
  have D_NoRow := ok_DayError (P := P) (w := w) (mg := mg) (base := base) F_DayError_init T_NoRow z_ValueError (KdXc.valB_ok hV) z_repr
  have E_NoRow : ErrM P w K mg base "NoRow" _ _ fd_NoRow_init := ⟨T_NoRow, ok_NoRow F_NoRow_init T_NoRow D_NoRow (KdXc.cfnB_ok hD) b_DayError_init g_DayError, b_NoRow_init, g_NoRow⟩
  have G_fl := ok_fail (P := P) (w := w) (base := base) F_Plan_init G_ff F_first_fault.kp b_first_fault g_first_fault E_NoPlan
  have PX : PlanX P w K mg base (He.ga K "Plan") _ _ fd_Plan_init _ _ fd_NoPlan_init := ⟨T, mk_Plan, G_in, ok_initX G_in G_fl, g_Plan, F_Plan_init, E_NoPlan⟩
  have G8 := ok_tray (P := P) (w := w) (base := base) F_l_tray z_max
  have G9 := ok_draw (P := P) (w := w) (mg := mg) (base := base) F_l_draw
  have G11 := ok_name (P := P) (w := w) (base := base) F_l_name G9 F_l_draw.kp b_l_draw g_l_draw z_range z_len
  have G12 := ok_names (P := P) (w := w) (base := base) F_l_names G11 F_l_name.kp b_l_name g_l_name z_range
  have G13 := ok_lists (P := P) (w := w) (base := base) F_l_lists G9 F_l_draw.kp b_l_draw g_l_draw G12 F_l_names.kp b_l_names g_l_names z_range z_len z_tuple
  have c_draw : Fun P w K mg base "_law_draw" 1 _ _ _ _ := ⟨G9, F_l_draw.kp, b_l_draw, g_l_draw⟩
  have c_name : Fun P w K mg base "_law_name" 2 _ _ _ _ := ⟨G11, F_l_name.kp, b_l_name, g_l_name⟩
  have G_dm := ok_dims (P := P) (w := w) (mg := mg) (base := base) F_Plan_dimensions T z_list
  have G3 := ok_meas (P := P) (w := w) (mg := mg) (base := base) F_Plan_measures T z_list
  have c_at : Fun P w K mg base "attributes_of" 2 _ _ _ _ := ⟨ok_attr F_attributes_of T G_dm b_Plan_dimensions me_Plan_dimensions, F_attributes_of.kp, b_attributes_of, g_attributes_of⟩
  have c_kf : Fun P w K mg base "kind_fits" 3 _ _ _ _ := ⟨ok_kf F_kind_fits c_at z_len, F_kind_fits.kp, b_kind_fits, g_kind_fits⟩
  have c_ff : Fun P w K mg base "fact_fits" 2 _ _ _ _ := ⟨ok_ff F_fact_fits T G_dm b_Plan_dimensions me_Plan_dimensions G3 b_Plan_measures me_Plan_measures z_len, F_fact_fits.kp, b_fact_fits, g_fact_fits⟩
  have c_form : Fun P w K mg base "has_form" 4 _ _ _ _ := ⟨ok_form F_has_form c_kf c_ff, F_has_form.kp, b_has_form, g_has_form⟩
  have GL := ok_look F_look c_form E_NoRow
  have c_great : Fun P w K mg base "_law_great" 2 _ _ _ _ := ⟨ok_great F_l_great c_draw z_range, F_l_great.kp, b_l_great, g_l_great⟩
  have c_text : Fun P w K mg base "_law_text" 2 _ _ _ _ := ⟨ok_text F_l_text c_draw z_range, F_l_text.kp, b_l_text, g_l_text⟩
  have c_whole : Fun P w K mg base "_law_whole" 3 _ _ _ _ := ⟨ok_whole F_l_whole c_draw c_great, F_l_whole.kp, b_l_whole, g_l_whole⟩
  have c_value : Fun P w K mg base "_law_value" 4 _ _ _ _ := ⟨ok_value F_l_value c_draw c_text c_whole, F_l_value.kp, b_l_value, g_l_value⟩
  have c_turn : Fun P w K mg base "_law_turned" 1 _ _ _ _ := ⟨ok_turn F_l_turned, F_l_turned.kp, b_l_turned, g_l_turned⟩
  have c_oth : Fun P w K mg base "_law_other" 2 _ _ _ _ := ⟨ok_other F_l_other c_draw c_turn z_len z_tuple z_range, F_l_other.kp, b_l_other, g_l_other⟩
  have c_free : Fun P w K mg base "_law_free_row" 5 _ _ _ _ := ⟨ok_free F_l_free_row c_draw c_text c_whole c_value z_len z_tuple z_range, F_l_free_row.kp, b_l_free_row, g_l_free_row⟩
  have c_ref : Fun P w K mg base "_law_refused" 6 _ _ _ _ := ⟨ok_refused F_l_refused GL g_look F_look.kp b_look E_NoRow, F_l_refused.kp, b_l_refused, g_l_refused⟩
  exact ok_law F_law PX ⟨⟨G8, F_l_tray.kp, b_l_tray, g_l_tray⟩, ⟨G13, F_l_lists.kp, b_l_lists, g_l_lists⟩, c_oth, c_name, c_free, c_turn, c_ref, z_len, z_range, z_list, z_int⟩
end Kd
open PySem PySem.W PySem.Calls PyProof.Rows
theorem PySem.Challenge.cw_kindsofday_k05_whole_rows_by_counts_alon_holds : PySem.Challenge.rw_kindsofday_k05_whole_rows_by_counts_alon.Holds := by
  w_on; o_law
  refine HandSHeadRun.head_any (r := OpenLaw.row PySem.Challenge.rw_kindsofday_k05_whole_rows_by_counts_alon) (q := view (OpenLaw.row PySem.Challenge.rw_kindsofday_k05_whole_rows_by_counts_alon).prog [36]) (H := Kd.hkE) (ob := Kd.ob) (M := 4000) (loose := Kd.loose) (d := HandSHeadRun.topDef (OpenLaw.row PySem.Challenge.rw_kindsofday_k05_whole_rows_by_counts_alon).prog 36) (kwd := []) Kd.ob_eq
    (by kernel_rfl) (fun s => by kernel_rfl) Kd.run (by kernel_rfl) (by kernel_rfl) (by kernel_rfl) (by rfl) (by first | assumption | decide +kernel) (by decide +kernel) ⟨rfl, rfl, rfl, rfl, rfl, by decide +kernel⟩ ?hw ?hc
  case hw => w_witness2
  case hc =>
    refine L2.walk_ofE (l := PySem.Challenge.rw_kindsofday_k05_whole_rows_by_counts_alon) (n := 63) (k := 8) (x := "script") (CX := L2.CX0) rfl (by decide) (by kernel_rfl) ⟨rfl, by decide, by decide⟩ ?F (fun _ _ _ _ z => z)
    intro w mg fa h Y G hmg0
    obtain ⟨K, KX, c, ce⟩ := Y
    have hmg : mg ("law" : PySem.Str) = some (.ref fa) := by
      have e : (HandSHeadRun.topDef (OpenLaw.row PySem.Challenge.rw_kindsofday_k05_whole_rows_by_counts_alon).prog 36).name = ("law" : PySem.Str) := by kernel_rfl
      rw [← e]
      exact hmg0
    obtain ⟨fd, hb, hF⟩ := Kd.facts (P := (PySem.Challenge.rw_kindsofday_k05_whole_rows_by_counts_alon).prog) (w := w) KX G hmg c ce
    exact ⟨K, fd, Kd.spLaw K, KX, hb, fun H a ns hl _ hS => ⟨a, ns, rfl, hS, hl, fun _ => rfl⟩, hF⟩
