import PyProof.Rows.All
import Wide.All
import OpenK.AllK
import Wide.FinOn
import HandS.ForMost
import HandS.Strs
import HandS.Zip
import HandS.IsInst
import HandS.Walk
import HandS.Text
import HandS.FStr
import HandS.Defaults
import HandS.MakeKw
import HandS.Wide
import HandS.WideBits
import HandS.More
import HandS.HeadHook2
import HandS.MakeKwOnly
import HandS.NoneIn
import HandS.Style
import HandS.TupAny
import HandS.FStrTup
import HandS.ExcInit
import HandS.RaiseMore
import HandS.OwnEq
import HandS.StrMore
import KE.IntTextLaws
import PyProof.ReprNest
import PyProof.ReprRoads
import HandS.Deep
import PyProof.Rows.StrSplitJoin
import HandS.Steps
import HandS.ForExc
import HandS.ExcField
import HandS.HeadHook1
import KE.KExcIs
import HandS.Head0
import KE.KStateDown
import HandS.Head1
import HandS.Head2
import HandS.HeadEnd
import HandS.HeadHook3
import HandS.HeadHook4
import HandS.HeadWalk
import PySem.Challenge.RW_kindsofday_k43_texts_of_no_rows
set_option Elab.async false
set_option linter.all false
set_option maxRecDepth 100000
set_option maxHeartbeats 0
/-! len(set(xs)) where xs is a list or a tuple of texts of any number -/
namespace KdS
open PySem PySem.Spec PyProof.Rows
/-- how many unlike ones the first i have -/
def dcn (xs : List Str) : Nat → Nat
  | 0 => 0
  | i + 1 => if (xs.take i).any (· == xs.getD i Str.empty) = true then dcn xs i else dcn xs i + 1
theorem dcn_le (xs : List Str) : ∀ i, dcn xs i ≤ i
  | 0 => Nat.le_refl _
  | i + 1 => by
    have h := dcn_le xs i
    unfold dcn
    split <;> omega
theorem take_any (xs : List Str) {i : Nat} (h : i < xs.length) (k : Str) : (xs.take (i + 1)).any (· == k) = ((xs.take i).any (· == k) || decide (k = xs.getD i Str.empty)) := by
  have e : xs.getD i Str.empty = xs[i] := by simp [h]
  rw [List.take_succ_eq_append_getElem h, List.any_append, e]
  have e2 : ([xs[i]].any fun x => x == k) = decide (k = xs[i]) := by
    by_cases q : k = xs[i]
    · simp [q]
    · have q2 : ¬ xs[i] = k := fun z => q z.symm
      simp [q, q2]
  rw [e2]
theorem dcn_nodup {xs : List Str} (hn : xs.Nodup) : ∀ i, i ≤ xs.length → dcn xs i = i
  | 0, _ => rfl
  | i + 1, h => by
    have ih := dcn_nodup hn i (by omega)
    unfold dcn
    rw [if_neg, ih]
    intro hc
    obtain ⟨y, hy, e⟩ := List.any_eq_true.mp hc
    have hi : i < xs.length := h
    have eg : xs.getD i Str.empty = xs[i] := by simp [hi]
    rw [eg] at e
    have e1 : y = xs[i] := by simpa using e
    obtain ⟨j, hj, ej⟩ := List.getElem_of_mem hy
    rw [List.length_take] at hj
    rw [List.getElem_take] at ej
    have e3 : xs[j]'(by omega) = xs[i] := ej.trans e1
    have := (List.getElem_inj hn).mp e3
    omega
/-- unlike ones are fewer where one stands twice -/
theorem dcn_dup {xs : List Str} {j i : Nat} (hji : j < i) (hi : i < xs.length) (e : xs[j]'(by omega) = xs[i]) : ∀ n, i < n → dcn xs n < n
  | 0, h => by omega
  | n + 1, h => by
    by_cases q : n = i
    · subst q
      have h1 := dcn_le xs n
      unfold dcn
      rw [if_pos]
      · omega
      · refine List.any_eq_true.mpr ⟨xs[j]'(by omega), ?_, by simp [hi, e]⟩
        exact List.mem_iff_getElem.mpr ⟨j, by rw [List.length_take]; omega, by rw [List.getElem_take]⟩
    · have h1 := dcn_dup hji hi e n (by omega)
      unfold dcn
      split <;> omega
section
variable {prog : Program} {w : World} {A : Around} {R : Result → Shared → Prop} {I : Addr} {fp wr : List Addr} {G : Array GenState → Array GenState → Prop} {n : Nat} {P : Nat → Value → Prop} {St : Nat → Shared → Prop}
/-- what the set at S holds behind i items -/
abbrev Held (prog : Program) (w : World) (S : Addr) (xs : List Str) (i : Nat) (h : Heap) : Prop := h.SetOf (PySem.strKind prog w) S (fun k => (xs.take i).any (· == k)) (dcn xs i)
theorem Held.kept {S : Addr} {xs : List Str} {i : Nat} {h h' : Heap} (q : Held prog w S xs i h) (k : ∀ o, h.get? S = some o → h'.get? S = some o) : Held prog w S xs i h' := by
  obtain ⟨o, es, ep, t, ho, rest⟩ := q
  exact ⟨o, es, ep, t, k o ho, rest⟩
theorem grow (W : WalksS prog w A.in1 I fp wr G n P St) (S : Addr) (nS : S ∉ fp) (xs : List Str) (hx : xs.length = n) (hb : n + 1 < scanBound) (hv : ∀ i v, P i v → ∃ t, v = .str (xs.getD i Str.empty) t) :
    ∀ (k i : Nat) (s : Shared), n - i = k → i ≤ n → St i s → Held prog w S xs i s.heap → (∀ s', Moved (S :: wr) G s s' → Held prog w S xs n s'.heap → R (.ok (.ret .none)) s') →
      codeAny (model prog w) A (.builtin "set.update.loop" ⟨[.ref S, .ref I], []⟩) R s := by
  have nW : S ∉ wr := fun z => nS (W.sub _ z)
  have up : ∀ b ∈ wr, b ∈ S :: wr := fun b z => List.mem_cons_of_mem _ z
  intro k
  induction k with
  | zero =>
    intro i s hk hi st hS out
    obtain rfl : i = n := by omega
    refine codeAny_builtin PyProof.Rows.F.entry_set_update_loop (by
      rw [Around.under_plainId PyProof.Rows.F.plain_set_update_loop _]
      show wpAny _ A.in1 (pyNext (.ref I) >>= _) _ _ s
      exact wpAny_bind (W.done s _ _ st fun s1 mv => wpAny_pure (out s1 (mv.mono up) (hS.kept fun o q => mv.heap S _ nW q))))
  | succ k ih =>
    intro i s hk hi st hS out
    have hlt : i < n := by omega
    refine codeAny_builtin PyProof.Rows.F.entry_set_update_loop (by
      rw [Around.under_plainId PyProof.Rows.F.plain_set_update_loop _]
      show wpAny _ A.in1 (pyNext (.ref I) >>= _) _ _ s
      refine wpAny_bind (W.item i s _ _ hlt st fun v s1 hP st1 mv => ?_)
      obtain ⟨t, rfl⟩ := hv i v hP
      have hS1 : Held prog w S xs i s1.heap := hS.kept fun o q => mv.heap S _ nW q
      show wpAny _ A.in1 (holding [Value.str (xs.getD i Str.empty) t] (setAdd S (.str (xs.getD i Str.empty) t)) >>= _) _ _ s1
      refine wpAny_bind (wpAny_holding ?_)
      unfold setAdd
      refine wpAny_holding (wpAny_bind ((PySem.strKind prog w).pyHash (k := xs.getD i Str.empty) (strKind_is _ _ _ _) ?_))
      refine wpAny_setAddHashed_of (knd := PySem.strKind prog w) (s := { s1 with toks := s1.toks + 1 }) (strKind_is _ _ _ _) rfl hS1 (by have := dcn_le xs i; omega) fun h2 sb hS2 => ?_
      have hS3 : Held prog w S xs (i + 1) h2 := SetOf_congr hS2 (fun k => (take_any xs (by omega) k).symm) rfl
      refine wpAny_pure ⟨plainId_quiet PyProof.Rows.F.plain_set_update_loop _, ih (i + 1) _ (by omega) hlt (W.frame _ s1 _ _ st1 (Nat.le_succ _) fun b z o q => ?_) hS3 fun s4 mv4 hS4 => ?_⟩
      · rw [sb.2 b (fun z2 : b = S => nS (z2 ▸ z))]
        exact q
      · refine out s4 (Moved.trans W.gtrans ((mv.mono up).then_heap (Nat.le_succ _) fun b o z q => ?_) mv4) hS4
        rw [sb.2 b (fun z2 : b = S => z (by rw [z2]; exact List.mem_cons_self))]
        exact q)
end
section
variable {prog : Program} {w : World} {A : Around} {E : Value → Shared → Prop} {s : Shared}
abbrev setObj (led : Bool) : Obj := { cls := .type "set", dict := none, data := .set #[] 0 (.fresh 0 0 led) }
set_option maxHeartbeats 3200000 in
/-- set(v), by what __init__ does with the new empty set -/
theorem set_by {v : Value} {Q : Value → Shared → Prop} {P : Shared → Prop} (hi : ∀ led : Bool, wpAny (model prog w) A.in1.in1 (Builtin.«set.__init__» ⟨[.ref s.heap.objs.size, v], []⟩) (fun r s2 => r = .done (.ret .none) ∧ P s2) E { s with heap := s.heap.push (setObj led) })
    (h : ∀ s2, P s2 → Q (.ref s.heap.objs.size) s2) : wpAny (model prog w) A (call (.type "set") [v]) Q E s := by
  obtain ⟨c, tl, hmro⟩ := PySem.F.called_set.mro
  have f1 := PySem.F.called_set.made
  have f2 := PySem.F.called_set.sub
  have f3 := PySem.F.called_set.notType
  have f4 := PySem.F.called_set.canCreate
  have f5 := PySem.F.typeCall_set_1 v
  refine wpAny_call (codeAny_of_tree (show wpAny _ _ (callAny (.type "set") _) _ _ _ from wpAny_pure ⟨Code.quiet_builtin _ (by decide +kernel), codeAny_builtin PySem.F.entry_type_call (by
    rw [Around.under_plain (weight_type_call_type "set" [v] []) rfl]
    repeat (any_goals (first | assumption | wp_step))
    refine codeAny_mono (code_set_new_1 v (E := E) (Q₁ := fun ob s1 => ∃ led : Bool, ob = .ref s.heap.objs.size ∧ s1 = { s with heap := s.heap.push (setObj led) }) fun led => ⟨led, rfl, rfl⟩) fun r s1 hr => ?_
    cases r with
    | error e => exact hr
    | ok fl =>
      cases fl with
      | ret ob =>
        obtain ⟨led, rfl, rfl⟩ := hr
        have g0 : (s.heap.push (setObj led)).get? s.heap.objs.size = some (setObj led) := Heap.get?_push_size _ rfl
        have gT : Shared.TypeIs { s with heap := s.heap.push (setObj led) } (.ref s.heap.objs.size) "set" := ⟨_, g0, rfl⟩
        have f6 := PySem.F.called_set.init.lookup
        have f7 := PySem.F.called_set.init.bind (.ref s.heap.objs.size)
        repeat (any_goals (first | assumption | wp_step))
        refine codeAny_mono (codeAny_call_builtin (R := wants (fun r s2 => r = .none ∧ P s2) E) PySem.F.called_set.init.plain PySem.F.entry_set_init (check_set_init_1 gT (wpAny_mono (hi led) (fun r s2 q => ?_) fun _ _ q => q))) fun r2 s2 q2 => ?_
        · obtain ⟨rfl, q⟩ := q
          exact ⟨rfl, q⟩
        · cases r2 with
          | error e => exact q2
          | ok fl2 =>
            cases fl2 with
            | ret r3 =>
              obtain ⟨rfl, q⟩ := q2
              repeat (any_goals (first | assumption | wp_step))
              exact h _ q
            | _ => exact q2.elim
      | _ => exact hr.elim)⟩))
/-- the list's way and the tuple's way of __init__: what is held behind it -/
def After (prog : Program) (w : World) (s : Shared) (xs : List Str) (s2 : Shared) : Prop := ∃ h2 tk, s2 = { s with heap := h2, toks := tk } ∧ Held prog w s.heap.objs.size xs xs.length h2 ∧ ∀ b o, b < s.heap.objs.size → s.heap.get? b = some o → h2.get? b = some o
theorem fresh_held {led : Bool} {it : Obj} {xs : List Str} : Held prog w s.heap.objs.size xs 0 ((s.heap.push (setObj led)).push it) :=
  SetOf_congr ((PyProof.Rows.setObjOf_fresh (knd := PySem.strKind prog w) led).setOf (Heap.get?_push_of_some _ (Heap.get?_push_size _ rfl)) (by unfold scanBound; omega)) (fun _ => rfl) rfl
theorem after_moved {G : Array GenState → Array GenState → Prop} {led : Bool} {it : Obj} {xs : List Str} {s2 : Shared} (hG : ∀ a b, G a b → b = a)
    (mv : Moved (s.heap.objs.size :: [(s.heap.push (setObj led)).objs.size]) G { s with heap := (s.heap.push (setObj led)).push it } s2) (q : Held prog w s.heap.objs.size xs xs.length s2.heap) : After prog w s xs s2 := by
  obtain ⟨h2, g2, d2, t2, o2⟩ := s2
  obtain rfl : g2 = s.gens := hG _ _ mv.gens
  obtain rfl : d2 = s.drawn := mv.drawn
  obtain rfl : o2 = s.os := mv.os
  refine ⟨h2, t2, rfl, q, fun b o hb e => mv.heap b o (fun z => ?_) (Heap.get?_push_of_some _ (Heap.get?_push_of_some _ e))⟩
  rw [Heap.size_push] at z
  rcases List.mem_cons.mp z with z | z
  · exact absurd z (Nat.ne_of_lt hb)
  · exact absurd (List.mem_singleton.mp z) (Nat.ne_of_lt (Nat.lt_succ_of_lt hb))
theorem strAt {items : Array Value} {xs : List Str} (hi : StrsAre items.toList xs) (i : Nat) (v : Value) (hv : items[i]? = some v) : ∃ t, v = .str (xs.getD i Str.empty) t := SS.strs_at hi i v (by rw [Array.getElem?_toList]; exact hv)
set_option maxHeartbeats 3200000 in
theorem init_list {l : Addr} {items : Array Value} {xs : List Str} {led : Bool} (hh : A.in1.in1.in1.handled = none) (hl : s.heap.IsList l items) (hi : StrsAre items.toList xs) (hb : xs.length + 1 < scanBound) :
    wpAny (model prog w) A.in1.in1 (Builtin.«set.__init__» ⟨[.ref s.heap.objs.size, .ref l], []⟩) (fun r s2 => r = .done (.ret .none) ∧ After prog w s xs s2) E { s with heap := s.heap.push (setObj led) } := by
  have hsz : xs.length = items.size := by rw [← StrsAre.len_eq hi, Array.length_toList]
  obtain ⟨⟨oc, od, dt, sl⟩, ho, hc, m, hd⟩ := hl
  simp only at hc hd
  subst hc hd
  have ho1 := Heap.get?_push_of_some (setObj led) ho
  have hl1 : (s.heap.push (setObj led)).IsList l items := ⟨_, ho1, rfl, m, rfl⟩
  have f1 := PySem.F.sub_list_set
  have f2 := PySem.F.sub_list_frozenset
  have f3 : (Value.type "list" == Value.type "dict") = false := by decide
  unfold Builtin.«set.__init__» noKeywords Builtin.Frozenset.updateFrom
  generalize hPI : pyIter = PI
  wp_walk
  subst hPI
  refine wpAny_pyIter_list hl1 (wpAny_bind (wpAny_runValue ?_))
  have hS : l < s.heap.objs.size := Heap.lt_size ho
  have n1 : l ≠ (s.heap.push (setObj led)).objs.size := by rw [Heap.size_push]; exact Nat.ne_of_lt (Nat.lt_succ_of_lt hS)
  have n2 : s.heap.objs.size ∉ [(s.heap.push (setObj led)).objs.size, l] := by
    rw [Heap.size_push]
    intro z
    rcases List.mem_cons.mp z with z | z
    · exact absurd z (Nat.ne_of_lt (Nat.lt_succ_self _))
    · exact absurd (List.mem_singleton.mp z) (Nat.ne_of_gt hS)
  refine grow ((Walks.list hh _ l n1 items).toS) s.heap.objs.size n2 xs hsz (by omega) (strAt hi) (items.size - 0) 0 _ (by omega) (Nat.zero_le _) ⟨⟨_, Heap.get?_push_size _ rfl, rfl, rfl⟩, hl1.push _⟩ fresh_held fun s2 mv q => ?_
  rw [← hsz] at q
  exact wpAny_pure (wpAny_pure ⟨rfl, after_moved (fun _ _ z => z) mv q⟩)
set_option maxHeartbeats 3200000 in
theorem init_tup {l : Addr} {items : Array Value} {xs : List Str} {led : Bool} (hh : A.in1.in1.in1.handled = none) (hl : s.heap.IsTuple l items) (hi : StrsAre items.toList xs) (hb : xs.length + 1 < scanBound) :
    wpAny (model prog w) A.in1.in1 (Builtin.«set.__init__» ⟨[.ref s.heap.objs.size, .ref l], []⟩) (fun r s2 => r = .done (.ret .none) ∧ After prog w s xs s2) E { s with heap := s.heap.push (setObj led) } := by
  have hsz : xs.length = items.size := by rw [← StrsAre.len_eq hi, Array.length_toList]
  obtain ⟨⟨oc, od, dt, sl⟩, ho, hc, m, hd⟩ := hl
  simp only at hc hd
  subst hc hd
  have ho1 := Heap.get?_push_of_some (setObj led) ho
  have hl1 : (s.heap.push (setObj led)).IsTuple l items := ⟨_, ho1, rfl, m, rfl⟩
  have f1 := PySem.F.sub_tuple_set
  have f2 := PySem.F.sub_tuple_frozenset
  have f3 : (Value.type "tuple" == Value.type "dict") = false := by decide
  unfold Builtin.«set.__init__» noKeywords Builtin.Frozenset.updateFrom
  generalize hPI : pyIter = PI
  wp_walk
  subst hPI
  refine wpAny_pyIter_tuple hl1 (wpAny_bind (wpAny_runValue ?_))
  have hS : l < s.heap.objs.size := Heap.lt_size ho
  have n1 : l ≠ (s.heap.push (setObj led)).objs.size := by rw [Heap.size_push]; exact Nat.ne_of_lt (Nat.lt_succ_of_lt hS)
  have n2 : s.heap.objs.size ∉ [(s.heap.push (setObj led)).objs.size, l] := by
    rw [Heap.size_push]
    intro z
    rcases List.mem_cons.mp z with z | z
    · exact absurd z (Nat.ne_of_lt (Nat.lt_succ_self _))
    · exact absurd (List.mem_singleton.mp z) (Nat.ne_of_gt hS)
  refine grow ((Walks.tuple hh _ l n1 items).toS) s.heap.objs.size n2 xs hsz (by omega) (strAt hi) (items.size - 0) 0 _ (by omega) (Nat.zero_le _) ⟨⟨_, Heap.get?_push_size _ rfl, rfl, rfl⟩, hl1.push _⟩ fresh_held fun s2 mv q => ?_
  rw [← hsz] at q
  exact wpAny_pure (wpAny_pure ⟨rfl, after_moved (fun _ _ z => z) mv q⟩)
end
end KdS
namespace Kd
open PySem PySem.Spec PyProof.Rows L2
theorem strs_vals : ∀ {xs : List Str} {us : List Value}, Vals (xs.map V.str) us → StrsAre us xs
  | [], _, .nil => .nil
  | x :: xs, _, .cons r t => by
    obtain ⟨k, rfl⟩ := r
    exact .cons x k (strs_vals t)
/-- a list or a tuple of texts -/
def Txs (K : PySem.W.Frag) (H : Hp) (l : Addr) (xs : List Str) : Prop := SqL K H l (xs.map V.str) ∨ SqT K H l (xs.map V.str)
def tLenSetS (K : PySem.W.Frag) (ta : TE) : TE := fun σ H Q => ta σ H fun x H1 => ∃ (l : Addr) (xs : List Str), x = .ref l ∧ Txs K H1 l xs ∧ xs.length ≤ 4000 ∧ Q (.int (KdS.dcn xs xs.length : Nat)) H1
theorem pe_lenSetS {X : Cx} {a : Expr} {ta : TE} {p p2 q pos : Pos} (hg : Gl X "len") (hm : X.mg "len" = none) (hg2 : Gl X "set") (hm2 : X.mg "set" = none) (ha : PE X a ta) (hc : X.calm = true := by rfl)
    (na : starEach [a] X.env = (false, eval a X.env) :: starEach [] X.env := by rfl) : PE X (.Call (.Name "len" p) [.Call (.Name "set" p2) [a] [] q] [] pos) (tLenSetS X.K ta) := by
  refine ⟨fun pins s σ H Q I h => Call_ (ld_blt I hg hm boot_len (PyProof.Rows.callWith_builtin1 (PyProof.Rows.args_cons ?_ rfl) rfl rfl))⟩
  refine Call_ (ld_blt I hg2 hm2 boot_set (PyProof.Rows.callWith_type1 (PyProof.Rows.args_cons (thn (ha.run pins s σ H _ I h) fun v s1 ⟨x, H1, I1, r1, q1⟩ => PyProof.Rows.args_nil ?_) na) na rfl))
  obtain ⟨l, xs, rfl, hq, hl, q1⟩ := q1
  cases r1
  have hh := I1.ok.hd hc
  have hb : xs.length + 1 < scanBound := by unfold scanBound; omega
  refine KdS.set_by (P := KdS.After X.prog X.w s1 xs) (fun led => ?_) fun s2 af => ?_
  · rcases hq with hq | hq
    · obtain ⟨its, r, pl, hz⟩ := I1.list hq
      exact KdS.init_list (by simp [hh]) pl.isList (by simpa using strs_vals r) hb
    · obtain ⟨its, r, pl, hz⟩ := I1.tuple hq
      exact KdS.init_tup (by simp [hh]) pl (by simpa using strs_vals r) hb
  · obtain ⟨h2, tk, rfl, hS, hk⟩ := af
    obtain ⟨o, es, ep, t, ho, hex, hd, _, _, _, hf, hn⟩ := hS
    have I2 : Inv X pins σ H1 { s1 with heap := h2, toks := tk } := I1.kept fun b o e => hk b o (Heap.lt_size e) e
    have hle := KdS.dcn_le xs xs.length
    exact PyProof.Rows.args_nil (call_len_set ho hex hd hf (by rw [hn] <;> omega) ⟨.int (KdS.dcn xs xs.length : Nat), H1, I2.tok _, ⟨_, by rw [hn]⟩, q1⟩)
end Kd

namespace Kd
open PySem PySem.Spec PyProof.Rows L2
/-! ### heaps -/
section
variable {K : PySem.W.Frag} {H H' : Hp} {a g b p l : Addr} {o : HO}
theorem same_new (h : H p = Option.none) : Same H (upd H p o) := fun b u e => by rw [upd_ne (ne_of_none e h)]; exact e
theorem Same.to_new {H1 : Hp} (s : Same H H1) (h : H1 p = Option.none) : Same H (upd H1 p o) := s.trans (same_new h)
theorem Same.seqT {xs : List V} (e : Same H H') (h : SqT K H a xs) : SqT K H' a xs := by
  rcases h with (h | ⟨o, h⟩) | h
  · exact .inl (.inl (e _ _ h))
  · exact .inl (.inr ⟨o, e _ _ h⟩)
  · exact .inr h
theorem Same.txs {xs : List Str} (e : Same H H') (h : Txs K H l xs) : Txs K H' l xs := h.elim (fun q => .inl (e.seq q)) fun q => .inr (Same.seqT e q)
/-- the two objects of a tray cut out -/
def ct (a g : Addr) (H : Hp) : Hp := fun b => if b = a ∨ b = g then Option.none else H b
theorem ct_sub : Same (ct a g H) H := fun b o e => by
  unfold ct at e
  split at e
  · cases e
  · exact e
theorem ct_ne (e : ct a g H b = some o) : b ≠ a ∧ b ≠ g := by
  unfold ct at e
  split at e
  · cases e
  · rename_i h
    exact ⟨fun z => h (.inl z), fun z => h (.inr z)⟩
theorem ct_of (e : H b = some o) (ha : b ≠ a) (hg : b ≠ g) : ct a g H b = some o := by
  unfold ct
  rw [if_neg (fun z => z.elim ha hg)]
  exact e
theorem ct_upd (ha : p ≠ a) (hg : p ≠ g) : ct a g (upd H p o) = upd (ct a g H) p o := by
  funext b
  unfold ct upd
  by_cases e : b = p
  · subst e
    rw [if_neg (fun z => z.elim ha hg), if_pos rfl, if_pos rfl]
  · rw [if_neg e, if_neg e]
theorem ct_upda : ct a g (upd H a o) = ct a g H := by
  funext b
  unfold ct upd
  by_cases e : b = a
  · rw [if_pos (.inl e), if_pos (.inl e)]
  · rw [if_neg e]
theorem ct_updg : ct a g (upd H g o) = ct a g H := by
  funext b
  unfold ct upd
  by_cases e : b = g
  · rw [if_pos (.inr e), if_pos (.inr e)]
  · rw [if_neg e]
theorem ct_same (s : Same H H') : Same (ct a g H) (ct a g H') := fun b o e => ct_of (s b o (ct_sub b o e)) (ct_ne e).1 (ct_ne e).2
theorem ct_none (h : H p = Option.none) : ct a g H p = Option.none := by
  unfold ct
  split
  · rfl
  · exact h
end
/-! ### data -/
section
variable {K : PySem.W.Frag} {H H' : Hp}
mutual
theorem Dp.same (e : Same H H') : ∀ (d : PyData) (v : V), Dp K H v d → Dp K H' v d
  | .none, _, h => by cases h; exact .non
  | .bool b, _, h => by cases h; exact .bl b
  | .int i, _, h => by cases h; exact .int i
  | .str x, _, h => by cases h; exact .str x
  | .list ds, _, h => by
    cases h with
    | lst q r => exact .lst (e.seq q) (DpAll.same e ds _ r)
  | .tuple ds, _, h => by
    cases h with
    | tup q r => exact .tup (Same.seqT e q) (DpAll.same e ds _ r)
  | .dict _, _, h => by cases h
theorem DpAll.same (e : Same H H') : ∀ (ds : List PyData) (vs : List V), DpAll K H vs ds → DpAll K H' vs ds
  | [], _, h => by cases h; exact .nil
  | d :: ds, _, h => by
    cases h with
    | cons q r => exact .cons (Dp.same e d _ q) (DpAll.same e ds _ r)
end
theorem DpAll.len : ∀ {vs : List V} {ds : List PyData}, DpAll K H vs ds → vs.length = ds.length
  | _, _, .nil => rfl
  | _, _, .cons _ r => congrArg Nat.succ (DpAll.len r)
theorem DpAll.at_ : ∀ {vs : List V} {ds : List PyData} {i : Nat} {v : V}, DpAll K H vs ds → vs[i]? = some v → ∃ d, ds[i]? = some d ∧ Dp K H v d
  | _, _, i, v, .nil, e => by simp at e
  | _, _, 0, v, .cons q _, e => ⟨_, rfl, by have e2 : _ = v := Option.some.inj e; rw [← e2]; exact q⟩
  | _, _, i + 1, v, .cons _ r, e => DpAll.at_ (i := i) r e
theorem DpAll.strs : ∀ (xs : List Str), DpAll K H (xs.map V.str) (xs.map PyData.str)
  | [] => .nil
  | x :: xs => .cons (.str x) (DpAll.strs xs)
theorem tyL {a : Addr} {xs : List V} (h : SqL K H a xs) : TyX K H (.ref a) (.type "list") := by
  rcases h with (h | ⟨o, h⟩) | ⟨o, its, n, h1, h2, _⟩
  · exact .base (.lst h)
  · exact .base (.frz h)
  · exact .kList h1 h2
theorem tyT {a : Addr} {xs : List V} (h : SqT K H a xs) : TyX K H (.ref a) (.type "tuple") := by
  rcases h with (h | ⟨o, h⟩) | ⟨o, its, n, h1, h2, _⟩
  · exact .base (.tup h)
  · exact .fTuple h
  · exact .kTuple h1 h2
end
/-! ### texts of small letters -/
def Low (z : Str) : Prop := ∀ c ∈ z.cps.toList, 97 ≤ c ∧ c ≤ 122
structure IsNm (z : Str) : Prop where
  low : Low z
  pos : 1 ≤ z.length
  le8 : z.length ≤ 8
theorem Low.append {x y : Str} (h1 : Low x) (h2 : Low y) : Low (x ++ y) := fun c hc => by
  have e : (x ++ y).cps.toList = x.cps.toList ++ y.cps.toList := TL.tl_append x y
  rw [e] at hc
  exact (List.mem_append.mp hc).elim (h1 c) (h2 c)
theorem len_append (x y : Str) : (x ++ y).length = x.length + y.length := by
  show (x.cps ++ y.cps).size = x.cps.size + y.cps.size
  exact Array.size_append
theorem Low.cut {z : Str} (h : Low z) (lo hi : Option Int) : Low (cutS z lo hi) := fun c hc => by
  unfold cutS at hc
  exact h c (List.mem_of_mem_drop (List.mem_of_mem_take hc))
theorem Low.one {c : Nat} (h : 97 ≤ c ∧ c ≤ 122) : Low ⟨#[c]⟩ := fun d hd => by
  have e : d = c := by simpa using hd
  rw [e]
  exact h
theorem Low.empty : Low Str.empty := fun c hc => by
  have : c ∈ ([] : List Nat) := hc
  cases this
/-- the written letters -/
abbrev abc : Str := "abcdefghijklmnopqrstuvwxyz"
theorem abc_list : abc.cps.toList = List.range' 97 26 := by decide +kernel
theorem abc_len : abc.length = 26 := by decide +kernel
theorem mem_abc {c : Nat} : c ∈ abc.cps.toList ↔ 97 ≤ c ∧ c ≤ 122 := by
  rw [abc_list, List.mem_range'_1]
  omega
theorem abc_at {i : Nat} (h : i < 26) : abc.cps.toList[i]? = some (97 + i) := by
  rw [abc_list, List.getElem?_range' h]
  congr 1
  omega
theorem Low.abc : Low abc := fun c hc => mem_abc.mp hc
theorem IsNm.one {c : Nat} (h : 97 ≤ c ∧ c ≤ 122) : IsNm ⟨#[c]⟩ := ⟨.one h, by show 1 ≤ 1; decide, by show 1 ≤ 8; decide⟩
theorem join_list_eq (y : Str) (h : y.cps.toList = []) (parts : List Str) : (Txt.join y parts).cps.toList = (parts.map fun z => z.cps.toList).flatten := by
  rw [TL.join_eq]
  have e := TL.tl_join y parts
  have e2 : ∀ l : List (List Nat), TL.joinL [] l = l.flatten := fun l => by
    induction l with
    | nil => rfl
    | cons p r ih =>
      cases r with
      | nil => simp [TL.joinL]
      | cons q r2 =>
        show p ++ ([] ++ TL.joinL [] (q :: r2)) = _
        rw [ih]
        simp
  have e3 : TL.tl y = [] := h
  rw [e3, e2] at e
  exact e
/-! ### a comprehension, by what it has made and the heap without it -/
/-- the heap without the object at D -/
def cd (D : Addr) (H : Hp) : Hp := ct D D H
theorem cd_sub {D : Addr} {H : Hp} : Same (cd D H) H := ct_sub
theorem cd_upd {D : Addr} {H : Hp} {o : HO} : cd D (upd H D o) = cd D H := ct_upda
theorem cd_free {D : Addr} {H : Hp} (h : H D = Option.none) : cd D H = H := by
  funext b
  unfold cd ct
  by_cases e : b = D
  · subst e
    rw [if_pos (.inl rfl), h]
  · rw [if_neg (fun z => z.elim e e)]
theorem cd_at {D : Addr} {H : Hp} : cd D H D = Option.none := by
  unfold cd ct
  rw [if_pos (.inl rfl)]
theorem cd_of {D b : Addr} {H : Hp} {o : HO} (e : H b = some o) (n : b ≠ D) : cd D H b = some o := ct_of e n n
theorem cd_same {D : Addr} {H H' : Hp} (s : Same H H') : Same (cd D H) (cd D H') := ct_same s
/-- what was there ahead of D is in the rest -/
theorem Same.cd {H0 H : Hp} {D : Addr} (s : Same H0 H) (h : H0 D = Option.none) : Same H0 (cd D H) := fun b o e => cd_of (s b o e) (ne_of_none e h)
theorem Same.upd {H0 H : Hp} {D : Addr} {o : HO} (s : Same H0 H) (h : H0 D = Option.none) : Same H0 (upd H D o) := fun b u e => by rw [upd_ne (ne_of_none e h)]; exact s b u e
/-- between two turns: the list at D is ys, no longer than the turns, and Pv of the heap without it -/
def LcNx (D : Addr) (Pv : Nat → List V → Hp → Prop) (i : Nat) (H : Hp) : Prop := ∃ ys, H D = some (.lst ys) ∧ ys.length ≤ i ∧ Pv i ys (cd D H)
theorem LcNx.add {D : Addr} {Pv : Nat → List V → Hp → Prop} {i : Nat} {ys : List V} {y : V} {H : Hp} (e : H D = some (.lst ys)) (l : ys.length ≤ i) (hi : i < 4000) (p : Pv (i + 1) (ys ++ [y]) (cd D H)) :
    ∃ acc, H D = some (.lst acc) ∧ acc.length < sizeLine ∧ LcNx D Pv (i + 1) (upd H D (.lst (acc ++ [y]))) :=
  ⟨ys, e, Nat.lt_of_le_of_lt (by omega : ys.length ≤ 4000) (by decide), ys ++ [y], upd_same, by rw [List.length_append]; show ys.length + 1 ≤ i + 1; omega, by rw [cd_upd]; exact p⟩
theorem LcNx.skip {D : Addr} {Pv : Nat → List V → Hp → Prop} {i : Nat} {ys : List V} {H : Hp} (e : H D = some (.lst ys)) (l : ys.length ≤ i) (p : Pv (i + 1) ys (cd D H)) : LcNx D Pv (i + 1) H := ⟨ys, e, by omega, p⟩
theorem lc_build {J : It} {n : Nat} {G : Hp → Prop} {Y : Nat → Hp → V → Hp → Prop} (w : Walk J n G Y) {g : TG} {tt : TT} {te : TE} {vs : List Nat} {σ : L2.St} {H1 : Hp} {D : Addr} {Qd : Hp → Prop} (hD : H1 D = Option.none)
    (Pv : Nat → List V → Hp → Prop) (h0 : Pv 0 [] H1) (hG : ∀ i ys H, i ≤ n → Pv i ys (cd D H) → G H)
    (hs : ∀ i ys x H H', i < n → H D = some (.lst ys) → ys.length ≤ i → Pv i ys (cd D H) → Y i H x H' → g x (wipe σ vs) H' fun σ2 H2 => wipe σ2 vs = wipe σ vs ∧ tt σ2 H2 fun b H3 =>
      if b = true then te σ2 H3 fun y H4 => ∃ acc, H4 D = some (.lst acc) ∧ acc.length < sizeLine ∧ LcNx D Pv (i + 1) (L2.upd H4 D (.lst (acc ++ [y]))) else LcNx D Pv (i + 1) H3) (hd : ∀ ys H, H D = some (.lst ys) → ys.length ≤ n → Pv n ys (cd D H) → Qd H) :
    ∃ W : Nat → Nat → Hp → Prop, (∃ m, W 0 m (L2.upd H1 D (.lst []))) ∧ ∀ i m H, W i m H →
      (J.stop i H ∧ Qd H) ∨ (J.go i H ∧ ∃ Nx : Hp → Prop, (∀ H', Nx H' → ∃ m', m' < m ∧ W (i + 1) m' H') ∧ ∀ x H', J.yld i H x H' → g x (wipe σ vs) H' fun σ2 H2 => wipe σ2 vs = wipe σ vs ∧ tt σ2 H2 fun b H3 =>
        if b = true then te σ2 H3 fun y H4 => ∃ acc, H4 D = some (.lst acc) ∧ acc.length < sizeLine ∧ Nx (L2.upd H4 D (.lst (acc ++ [y]))) else Nx H3) :=
  lc_it w (LcNx D Pv) ⟨[], upd_same, Nat.le_refl _, by rw [cd_upd, cd_free hD]; exact h0⟩ (fun i H hi ⟨ys, _, _, p⟩ => hG i ys H hi p) (fun i x H H' hi ⟨ys, e, l, p⟩ hY => hs i ys x H H' hi e l p hY) (fun H ⟨ys, e, l, p⟩ => hd ys H e l p)
theorem yes {σ : L2.St} {H : Hp} {A B : Hp → Prop} (h : A H) : tYes σ H fun b H3 => if b = true then A H3 else B H3 := by
  show if true = true then A H else B H
  rw [if_pos rfl]
  exact h
theorem le_line {n : Nat} (h : n ≤ 4000) : n ≤ sizeLine := Nat.le_trans h (by decide)
theorem cd_is0 {D : Addr} {H H0 : Hp} (e : cd D H = H0) : Same H0 H := by rw [← e]; exact cd_sub
theorem seqT_list0 {K : PySem.W.Frag} {H : Hp} {l r : Addr} {L xs : List V} (hl : H l = some (.lst L)) (h : SqT K H r xs) : SqT K (cd l H) r xs := by
  rcases h with (q | ⟨o, q⟩) | q
  · exact .inl (.inl (cd_of q (ne_of q hl (fun z => nomatch z))))
  · exact .inl (.inr ⟨o, cd_of q (ne_of q hl (fun z => nomatch z))⟩)
  · exact .inr q
end Kd

namespace Kd
open PySem PySem.Spec PyProof.Rows L2
/-- f'..', its reading under a name -/
def tFs (ts : List TE) : TE := fun σ H Q => tJs ts Str.empty σ H fun out H1 => Q (.str out) H1
def rSplit : V → List V → Hp → VK → Prop := fun x xs H Q => ∃ a b, x = .str a ∧ xs = [.str b] ∧ (b.length == 0) = false ∧ a.length + 2 ≤ sizeLine ∧ rNewStrs (Txt.split a b) H Q
/-! ### the writing of a plan, as a mirror -/
abbrev Dm := Str × List (Str × Str)
def attT (a : Str × Str) : Str := a.1 ++ (":" : Str) ++ a.2
def dimW (d : Dm) : List Str := [("dim" : Str), d.1] ++ d.2.map attT
def dimT (d : Dm) : Str := Txt.join " " (dimW d)
def sumW (ms : List Str) : List Str := [("sum" : Str)] ++ ms
def sumT (ms : List Str) : List Str := if ms.isEmpty = true then [] else [Txt.join " " (sumW ms)]
def planW (ds : List Dm) (ms : List Str) : List Str := ds.map dimT ++ sumT ms
def planT (ds : List Dm) (ms : List Str) : Str := Txt.join "; " (planW ds ms)
/-- a way of the four -/
def IsWay (z : Str) : Prop := z ∈ (["first", "last", "day", "before"] : List Str)
theorem IsWay.nm {z : Str} (h : IsWay z) : Low z ∧ z.length ≤ 8 := by
  have h1 : ∀ z ∈ (["first", "last", "day", "before"] : List Str), (z.cps.toList.all fun c => decide (97 ≤ c ∧ c ≤ 122)) = true ∧ z.length ≤ 8 := by decide +kernel
  obtain ⟨a, b⟩ := h1 z h
  exact ⟨fun c hc => of_decide_eq_true (List.all_eq_true.mp a c hc), b⟩
theorem tl_joinL (y : Str) (ps : List Str) : TL.tl (Txt.join y ps) = TL.joinL (TL.tl y) (ps.map TL.tl) := by rw [TL.join_eq, TL.tl_join]
theorem mem_joinL {S : List Nat} {c : Nat} : ∀ {ps : List (List Nat)}, c ∈ TL.joinL S ps → c ∈ S ∨ ∃ p ∈ ps, c ∈ p
  | [], h => by cases h
  | [p], h => .inr ⟨p, List.mem_singleton.mpr rfl, h⟩
  | p :: q :: r, h => by
    have h : c ∈ p ++ (S ++ TL.joinL S (q :: r)) := h
    rcases List.mem_append.mp h with h | h
    · exact .inr ⟨p, List.mem_cons_self .., h⟩
    · rcases List.mem_append.mp h with h | h
      · exact .inl h
      · rcases mem_joinL h with h | ⟨z, hz, h⟩
        · exact .inl h
        · exact .inr ⟨z, List.mem_cons_of_mem _ hz, h⟩
theorem free_join {y : Str} {c : Nat} {ps : List Str} (hy : c ∉ TL.tl y) (h : ∀ p ∈ ps, c ∉ TL.tl p) : c ∉ TL.tl (Txt.join y ps) := fun hc => by
  rw [tl_joinL] at hc
  rcases mem_joinL hc with hc | ⟨p, hp, hc⟩
  · exact hy hc
  · obtain ⟨z, hz, rfl⟩ := List.mem_map.mp hp
    exact h z hz hc
theorem Low.free {z : Str} (h : Low z) {c : Nat} (hc : c < 97) : c ∉ TL.tl z := fun e => by
  have := (h c e).1
  omega
/-- dimensions whose names are names and whose ways are ways -/
def WOk (d : Dm) : Prop := Low d.1 ∧ ∀ a ∈ d.2, Low a.1 ∧ IsWay a.2
theorem tl_colon : TL.tl (":" : Str) = [58] := by decide +kernel
theorem tl_blank : TL.tl (" " : Str) = [32] := by decide +kernel
theorem tl_semi : TL.tl ("; " : Str) = [59, 32] := by decide +kernel
theorem attT_free {a : Str × Str} (h1 : Low a.1) (h2 : Low a.2) {c : Nat} (hc : c < 97) (n : c ≠ 58) : c ∉ TL.tl (attT a) := fun e => by
  unfold attT at e
  rw [TL.tl_append, TL.tl_append, tl_colon] at e
  rcases List.mem_append.mp e with e | e
  · rcases List.mem_append.mp e with e | e
    · exact h1.free hc e
    · exact n (List.mem_singleton.mp e)
  · exact h2.free hc e
theorem dimW_free {d : Dm} (h : WOk d) {c : Nat} (hc : c < 97) (n : c ≠ 58) : ∀ p ∈ dimW d, c ∉ TL.tl p := fun p hp => by
  have hd : Low ("dim" : Str) := fun c hc => by
    have : ∀ c ∈ ("dim" : Str).cps.toList, 97 ≤ c ∧ c ≤ 122 := by decide +kernel
    exact this c hc
  unfold dimW at hp
  rcases List.mem_append.mp hp with hp | hp
  · rcases List.mem_cons.mp hp with rfl | hp
    · exact hd.free hc
    · rw [List.mem_singleton.mp hp]
      exact h.1.free hc
  · obtain ⟨a, ha, rfl⟩ := List.mem_map.mp hp
    exact attT_free (h.2 a ha).1 (h.2 a ha).2.nm.1 hc n
theorem split_dim {d : Dm} (h : WOk d) : Txt.split (dimT d) " " = dimW d := TL.split_join tl_blank (by decide +kernel) (by unfold dimW; simp) (dimW_free h (by decide) (by decide))
theorem split_att {a : Str × Str} (h1 : Low a.1) (h2 : Low a.2) : Txt.split (attT a) ":" = [a.1, a.2] := by
  have e : attT a = Txt.join ":" [a.1, a.2] := by rw [TL.join_eq]; rfl
  rw [e]
  refine TL.split_join tl_colon (by decide +kernel) (by simp) fun p hp => ?_
  rcases List.mem_cons.mp hp with rfl | hp
  · exact h1.free (by decide)
  · rw [List.mem_singleton.mp hp]
    exact h2.free (by decide)
theorem low_sum : Low ("sum" : Str) := fun c hc => by
  have : ∀ c ∈ ("sum" : Str).cps.toList, 97 ≤ c ∧ c ≤ 122 := by decide +kernel
  exact this c hc
theorem split_sum {ms : List Str} (h : ∀ z ∈ ms, Low z) : Txt.split (Txt.join " " (sumW ms)) " " = sumW ms := by
  refine TL.split_join tl_blank (by decide +kernel) (by unfold sumW; simp) fun p hp => ?_
  unfold sumW at hp
  rcases List.mem_append.mp hp with hp | hp
  · rw [List.mem_singleton.mp hp]
    exact low_sum.free (by decide)
  · exact (h p hp).free (by decide)
theorem dimT_free {d : Dm} (h : WOk d) : 59 ∉ TL.tl (dimT d) := free_join (by rw [tl_blank]; decide) (dimW_free h (by decide) (by decide))
theorem sum_free {ms : List Str} (h : ∀ z ∈ ms, Low z) : 59 ∉ TL.tl (Txt.join " " (sumW ms)) := free_join (by rw [tl_blank]; decide) fun p hp => by
  unfold sumW at hp
  rcases List.mem_append.mp hp with hp | hp
  · rw [List.mem_singleton.mp hp]
    exact low_sum.free (by decide)
  · exact (h p hp).free (by decide)
theorem split_plan {ds : List Dm} {ms : List Str} (hn : ds ≠ []) (h : ∀ d ∈ ds, WOk d) (hm : ∀ z ∈ ms, Low z) : Txt.split (planT ds ms) "; " = planW ds ms := by
  refine TL.split_join tl_semi (by decide +kernel) (by unfold planW; simp [hn]) fun p hp => ?_
  unfold planW at hp
  rcases List.mem_append.mp hp with hp | hp
  · obtain ⟨d, hd, rfl⟩ := List.mem_map.mp hp
    exact dimT_free (h d hd)
  · unfold sumT at hp
    split at hp
    · cases hp
    · rw [List.mem_singleton.mp hp]
      exact sum_free hm
/-! ### lengths -/
theorem joinL_len {S : List Nat} : ∀ ps : List (List Nat), (TL.joinL S ps).length ≤ (ps.map (·.length)).sum + ps.length * S.length
  | [] => Nat.zero_le _
  | [p] => by show p.length ≤ p.length + 0 + 1 * S.length; omega
  | p :: q :: r => by
    have := joinL_len (S := S) (q :: r)
    show (p ++ (S ++ TL.joinL S (q :: r))).length ≤ p.length + ((q :: r).map (·.length)).sum + ((q :: r).length + 1) * S.length
    rw [List.length_append, List.length_append, Nat.add_mul]
    omega
theorem sum_le {b : Nat} : ∀ {xs : List Str}, (∀ x ∈ xs, x.length ≤ b) → (xs.map (·.length)).sum ≤ xs.length * b
  | [], _ => Nat.zero_le _
  | x :: xs, h => by
    have h1 := h x (List.mem_cons_self ..)
    have h2 := sum_le fun z hz => h z (List.mem_cons_of_mem _ hz)
    show x.length + (xs.map (·.length)).sum ≤ (xs.length + 1) * b
    rw [Nat.add_mul]
    omega
theorem join_len {y : Str} {xs : List Str} {b : Nat} (h : ∀ x ∈ xs, x.length ≤ b) : (Txt.join y xs).length ≤ xs.length * (b + y.length) := by
  rw [TL.len_tl, tl_joinL]
  refine Nat.le_trans (joinL_len _) ?_
  have e : ((xs.map TL.tl).map (·.length)).sum = (xs.map (·.length)).sum := by
    rw [List.map_map]
    refine congrArg List.sum (List.map_congr_left fun z _ => (TL.len_tl z).symm)
  have := sum_le h
  rw [e, List.length_map, ← TL.len_tl, Nat.mul_add]
  omega
theorem attT_len {a : Str × Str} (h1 : a.1.length ≤ 8) (h2 : a.2.length ≤ 8) : (attT a).length ≤ 17 := by
  unfold attT
  rw [len_append, len_append]
  have : (":" : Str).length = 1 := by decide +kernel
  omega
end Kd

namespace Kd
open PySem PySem.Spec PyProof.Rows L2
def top (i : Nat) : Stmt := PySem.Challenge.pw_kindsofday_k43_texts_of_no_rows.main.body.getD i (.Pass ⟨0, 0, 0, 0⟩)
abbrev s_DayError_init : Stmt := inClass (top 1) 0
abbrev s_NoPlan_init : Stmt := inClass (top 2) 0
abbrev s_NoRow_init : Stmt := inClass (top 3) 0
abbrev s_NoFact_init : Stmt := inClass (top 4) 0
abbrev s_NoThing_init : Stmt := inClass (top 5) 0
abbrev s_Twice_init : Stmt := inClass (top 6) 0
abbrev s_NoGroup_init : Stmt := inClass (top 7) 0
abbrev s_NoMeasure_init : Stmt := inClass (top 8) 0
abbrev s_NoWatch_init : Stmt := inClass (top 9) 0
abbrev s_NoTime_init : Stmt := inClass (top 10) 0
abbrev s_NoText_init : Stmt := inClass (top 11) 0
abbrev s_NoDeskRow_init : Stmt := inClass (top 12) 0
abbrev s_is_name : Stmt := top 18
abbrev s_is_key : Stmt := top 19
abbrev s_is_made_of : Stmt := top 20
abbrev s_Plan_init : Stmt := inClass (top 25) 0
abbrev s_Plan_dimensions : Stmt := inClass (top 25) 1
abbrev s_Plan_measures : Stmt := inClass (top 25) 2
abbrev s_Plan_eq : Stmt := inClass (top 25) 3
abbrev s_Plan_ne : Stmt := inClass (top 25) 4
abbrev s_first_fault : Stmt := top 26
abbrev s_are_faulty : Stmt := top 27
abbrev s_attributes_of : Stmt := top 28
abbrev s_read_rows : Stmt := top 31
abbrev s_read_row : Stmt := top 32
abbrev s_read_kind : Stmt := top 33
abbrev s_read_fact : Stmt := top 34
abbrev s_read_value : Stmt := top 35
abbrev s_read_number : Stmt := top 36
abbrev s_l_tray : Stmt := top 38
abbrev s_l_draw : Stmt := top 39
abbrev s_l_great : Stmt := top 40
abbrev s_l_alike : Stmt := top 41
abbrev s_l_name : Stmt := top 42
abbrev s_l_names : Stmt := top 43
abbrev s_l_lists : Stmt := top 44
abbrev s_l_text : Stmt := top 45
abbrev s_l_whole : Stmt := top 46
abbrev s_l_value : Stmt := top 47
abbrev s_l_row : Stmt := top 48
abbrev s_l_value_shown : Stmt := top 49
abbrev s_l_row_shown : Stmt := top 50
abbrev s_l_rows_shown : Stmt := top 51
abbrev s_l_sign : Stmt := top 52
abbrev s_l_sign_spoilt : Stmt := top 53
abbrev s_l_joint_spoilt : Stmt := top 54
abbrev s_l_words_spoilt : Stmt := top 55
abbrev s_l_spoilt : Stmt := top 56
abbrev s_l_called : Stmt := top 57
abbrev s_l_is_name : Stmt := top 58
abbrev s_l_is_key : Stmt := top 59
abbrev s_l_whole_of : Stmt := top 60
abbrev s_l_value_of : Stmt := top 61
abbrev s_l_row_of : Stmt := top 62
abbrev s_l_rows_of : Stmt := top 63
abbrev s_l_right : Stmt := top 64
abbrev s_law : Stmt := top 65
abbrev FnP (K : PySem.W.Frag) (x qual : Str) (st : Stmt) (f : Addr) (fd : FuncData) : Prop := FunD K x qual (defArgs st) (defBody st) (defScope st) [] [] f fd
section
variable {P : Program} {w : World} {K : PySem.W.Frag} {mg : Str → Option Value} {base : Heap} {f : Addr} {fd : FuncData}
/-! ### is_name -/
def nmB (z : Str) : Bool := decide (1 ≤ z.length) && (decide (z.length ≤ 8) && z.cps.toList.all fun c => decide (97 ≤ c ∧ c ≤ 122))
def spIsName : Sp := fun vs H Q _ => ∃ z : Str, vs = [.str z] ∧ z.length ≤ 4000 ∧ ∀ H', Same H H' → Q (.bl (nmB z)) H'
/-! ### is_made_of -/
def madeB (z s : Str) : Bool := z.cps.toList.all fun c => decide (c ∈ s.cps.toList)
theorem made_abc (z : Str) : madeB z abc = z.cps.toList.all fun c => decide (97 ≤ c ∧ c ≤ 122) := by
  unfold madeB
  congr 1
  funext c
  simp only [mem_abc]
def spMade : Sp := fun vs H Q _ => ∃ z s : Str, vs = [.str z, .str s] ∧ z.length ≤ 4000 ∧ ∀ H', Same H H' → Q (.bl (madeB z s)) H'
theorem sc_made : FnScope ["text", "signs", "sign"] ["text", "signs"] (defScope s_is_made_of) := ⟨rfl, rfl, rfl, by decide +kernel, rfl, by decide +kernel, by decide +kernel⟩
theorem ok_made (F : FnP K "is_made_of" "is_made_of" s_is_made_of f fd) (ga : mg "all" = none) : FnOk P w K mg base CX0 1 f fd ["text", "signs"] spMade := by
  refine F.ok sc_made (fun vs H Q E h => ?_) (fun cdv A outer s H vs Q E hr h => ?_)
  · obtain ⟨z, s, rfl, _⟩ := h
    rfl
  · obtain ⟨z, s2, rfl, hz, k⟩ := h
    refine ⟨_, PSs.nox (pss_one (ps_ret (pe_callB (cr_all rfl) (by rfl) ga (by decide +kernel) (pa_cons (pe_lc (own := [("sign", 2)]) (g := gName 2) (tt := tYes) rfl sc_made.nd (pi_str (pv 0)) (blkOk_by (own := [("sign", 2)]) (N := ["text", "signs", "sign"]) (sc := defScope s_is_made_of) (by decide +kernel))
        (fun _ _ _ _ _ => pg_name (i := 2) sc_made.nd rfl (Or.inl rfl)) (fun _ _ _ _ _ => pts_nil) (fun _ _ _ _ _ => pe_cmpR op_in_sign (pv 2) (pv 1) (by rfl))) pa_nil)))), ?_⟩
    have ez : z.length = z.cps.toList.length := by rw [Array.length_toList]; rfl
    refine ⟨_, rfl, z, rfl, fun D hD => lc_build walk_str hD (fun i ys R => Same H R ∧ ys = (z.cps.toList.take i).map fun c => V.bl (decide (c ∈ s2.cps.toList))) ⟨Same.refl H, rfl⟩ (fun _ _ _ _ _ => trivial) ?_ ?_⟩
    · rintro i ys x H2 H2' hi e l ⟨sm, rfl⟩ ⟨rfl, c, hc, rfl⟩
      refine ⟨rfl, yes ?_⟩
      refine ⟨_, rfl, _, rfl, c, s2, rfl, rfl, LcNx.add e l (by have : z.length = z.cps.size := rfl; omega) ⟨sm, ?_⟩⟩
      have hc2 : z.cps.toList[i]? = some c := by rw [Array.getElem?_toList]; exact hc
      obtain ⟨h1, h2⟩ := List.getElem?_eq_some_iff.mp hc2
      rw [List.take_succ_eq_append_getElem h1, List.map_append, h2]
      rfl
    · rintro ys H2 e l ⟨sm, rfl⟩
      refine ⟨D, (z.cps.toList.take z.cps.size).map fun c => decide (c ∈ s2.cps.toList), rfl, SqL.of (by rw [List.map_map]; exact e), ?_⟩
      have e1 : madeB z s2 = (((z.cps.toList.take z.cps.size).map fun c => decide (c ∈ s2.cps.toList)).all id) := by
        have et : z.cps.toList.take z.cps.size = z.cps.toList := List.take_of_length_le (by rw [Array.length_toList]; exact Nat.le_refl _)
        unfold madeB
        rw [et, List.all_map]
        rfl
      rw [← e1]
      exact k H2 (sm.trans cd_sub)
theorem sc_is_name : FnScope ["text"] ["text"] (defScope s_is_name) := ⟨rfl, rfl, rfl, by decide +kernel, rfl, by decide +kernel, by decide +kernel⟩
theorem ok_is_name {fM : Addr} {fdM : FuncData} (F : FnP K "is_name" "is_name" s_is_name f fd) (GM : FnOk P w K mg base CX0 1 fM fdM ["text", "signs"] spMade) (kM : PySem.W.keepIn K (.ref fM) = true) (bM : Binds K fdM ["text", "signs"] []) (gM : mg "is_made_of" = some (.ref fM)) (gl : mg "len" = none) {t1 t2 : Nat} (gS : mg "SMALL_LETTERS" = some (.str abc t1)) (gL : mg "LONGEST_NAME" = some (.int 8 t2)) : FnOk P w K mg base CX0 2 f fd ["text"] spIsName := by
  refine F.ok sc_is_name (fun vs H Q E h => ?_) (fun cdv A outer s H vs Q E hr h => ?_)
  · obtain ⟨z, rfl, _⟩ := h
    rfl
  · obtain ⟨z, rfl, hz, k⟩ := h
    refine ⟨_, PSs.nox (pss_one (ps_ret (pe_and (pe_chain op_le op_le pe_int (pe_callB call_len_str (by rfl) gl boot_len (pa_cons (pv 0) pa_nil)) (pe_glob (v := .int 8) rfl gL ⟨_, rfl⟩))
      (pe_one (pe_call GM hr rfl gM kM bM .nil pass0 (pa_cons (pv 0) (pa_cons (pe_glob (v := .str abc) rfl gS ⟨_, rfl⟩) pa_nil))))))), ?_⟩
    refine ⟨_, rfl, z, rfl, le_line hz, _, _, rfl, rfl, _, rfl, ?_⟩
    refine ite2 (fun c1 => ?_) (fun c1 => ?_)
    · have c1 : (1 : Int) ≤ (z.length : Int) := of_decide_eq_true c1
      refine ⟨_, _, rfl, rfl, _, rfl, ?_⟩
      refine ite2 (fun c2 => ?_) (fun c2 => ?_)
      · have c2 : (z.length : Int) ≤ 8 := of_decide_eq_true c2
        refine ⟨_, rfl, z, abc, rfl, hz, fun H2 s2 => ?_⟩
        have e1 : nmB z = madeB z abc := by
          unfold nmB
          rw [made_abc, decide_eq_true (by omega : 1 ≤ z.length), decide_eq_true (by omega : z.length ≤ 8)]
          simp only [Bool.true_and]
        rw [← e1]
        exact k H2 s2
      · have c2 : ¬ (z.length : Int) ≤ 8 := fun q => c2 (decide_eq_true q)
        have e1 : nmB z = false := by
          unfold nmB
          rw [decide_eq_false (by omega : ¬ z.length ≤ 8), Bool.false_and, Bool.and_false]
        rw [e1] at k
        exact k H (Same.refl H)
    · have c1 : ¬ (1 : Int) ≤ (z.length : Int) := fun q => c1 (decide_eq_true q)
      have e1 : nmB z = false := by
        unfold nmB
        rw [decide_eq_false (by omega : ¬ 1 ≤ z.length), Bool.false_and]
      rw [e1] at k
      exact ⟨_, rfl, iteF (k H (Same.refl H))⟩
/-! ### are_faulty -/
def fltB (xs : List Str) (m : Int) : Bool := decide (m < (xs.length : Int)) || (decide (((KdS.dcn xs xs.length : Nat) : Int) < (xs.length : Int)) || !(xs.all nmB))
def spFaulty (K : PySem.W.Frag) : Sp := fun vs H Q _ => ∃ (l : Addr) (xs : List Str) (m : Int), vs = [.ref l, .int m] ∧ Txs K H l xs ∧ xs.length ≤ 4000 ∧ (∀ z ∈ xs, z.length ≤ 4000) ∧ ∀ H', Same H H' → Q (.bl (fltB xs m)) H'
theorem sc_are_faulty : FnScope ["names", "most", "name"] ["names", "most"] (defScope s_are_faulty) := ⟨rfl, rfl, rfl, by decide +kernel, rfl, by decide +kernel, by decide +kernel⟩
theorem flt_end {xs : List Str} {m : Int} (h1 : ¬ m < (xs.length : Int)) (h2 : ¬ ((KdS.dcn xs xs.length : Nat) : Int) < (xs.length : Int)) : fltB xs m = !((xs.take xs.length).map nmB).all id := by
  unfold fltB
  rw [decide_eq_false h1, decide_eq_false h2, List.take_length, List.all_map, Bool.false_or, Bool.false_or]
  rfl
theorem strs_at {xs : List Str} {i : Nat} {x : V} (h : (xs.map V.str)[i]? = some x) : ∃ z, x = .str z ∧ xs[i]? = some z := by
  rw [List.getElem?_map] at h
  cases e : xs[i]? with
  | none => rw [e] at h; cases h
  | some z => rw [e] at h; exact ⟨z, (Option.some.inj h).symm, rfl⟩
theorem take_nm {xs : List Str} {i : Nat} {z : Str} (h : xs[i]? = some z) : ((xs.take i).map fun z => V.bl (nmB z)) ++ [V.bl (nmB z)] = (xs.take (i + 1)).map fun z => V.bl (nmB z) := by
  obtain ⟨h1, h2⟩ := List.getElem?_eq_some_iff.mp h
  rw [List.take_succ_eq_append_getElem h1, List.map_append, h2]
  rfl
theorem ok_are_faulty {fI : Addr} {fdI : FuncData} (F : FnP K "are_faulty" "are_faulty" s_are_faulty f fd) (GI : FnOk P w K mg base CX0 2 fI fdI ["text"] spIsName) (kI : PySem.W.keepIn K (.ref fI) = true) (bI : Binds K fdI ["text"] []) (gI : mg "is_name" = some (.ref fI))
    (gl : mg "len" = none) (gs : mg "set" = none) (ga : mg "all" = none) : FnOk P w K mg base CX0 3 f fd ["names", "most"] (spFaulty K) := by
  refine F.ok sc_are_faulty (fun vs H Q E h => ?_) (fun cdv A outer s H vs Q E hr h => ?_)
  · obtain ⟨l, xs, m, rfl, _⟩ := h
    rfl
  · obtain ⟨l, xs, m, rfl, hx, hn, hz, k⟩ := h
    rcases hx with hx | hx
    · refine ⟨_, PSs.nox (pss_cons (ps_if (PW.pt (pw_or (pt_cmpR op_gt (pe_callB call_len_seq (by rfl) gl boot_len (pa_cons (pv 0) pa_nil)) (pv 1) (nomark _)) (pw_or1 (pt_cmpR op_lt (pe_lenSetS rfl gl rfl gs (pv 0)) (pe_callB call_len_seq (by rfl) gl boot_len (pa_cons (pv 0) pa_nil)) (nomark _))))) (pss_one (ps_ret pe_bl)) pss_nil)
        (pss_one (ps_ret (pe_not (pe_callB (cr_all rfl) (by rfl) ga (by decide +kernel) (pa_cons (pe_lc (own := [("name", 2)]) (g := gName 2) (tt := tYes) rfl sc_are_faulty.nd (pi_list (pv 0)) (blkOk_by (own := [("name", 2)]) (N := ["names", "most", "name"]) (sc := defScope s_are_faulty) (by decide +kernel))
          (fun _ _ _ _ _ => pg_name (i := 2) sc_are_faulty.nd rfl (Or.inl rfl)) (fun _ _ _ _ _ => pts_nil) (fun _ _ _ _ _ => pe_call GI hr rfl gI kI bI .nil pass0 (pa_cons (pv 2) pa_nil))) pa_nil)))))), ?_⟩
      refine ⟨_, rfl, l, _, rfl, .inl hx, _, rfl, _, _, rfl, rfl, _, rfl, ?_⟩
      refine ite2 (fun c1 => ?_) (fun c1 => ?_)
      · have c1 : m < ((xs.map V.str).length : Int) := of_decide_eq_true c1
        rw [List.length_map] at c1
        have e1 : fltB xs m = true := by unfold fltB; rw [decide_eq_true c1, Bool.true_or]
        rw [e1] at k
        exact iteT (k H (Same.refl H))
      · have c1 : ¬ m < ((xs.map V.str).length : Int) := fun q => c1 (decide_eq_true q)
        rw [List.length_map] at c1
        refine ⟨_, rfl, l, xs, rfl, .inl hx, hn, _, rfl, l, _, rfl, .inl hx, _, _, rfl, rfl, _, rfl, ?_⟩
        refine ite2 (fun c2 => ?_) (fun c2 => ?_)
        · have c2 : ((KdS.dcn xs xs.length : Nat) : Int) < ((xs.map V.str).length : Int) := of_decide_eq_true c2
          rw [List.length_map] at c2
          have e1 : fltB xs m = true := by unfold fltB; rw [decide_eq_true c2, Bool.true_or, Bool.or_true]
          rw [e1] at k
          exact k H (Same.refl H)
        · have c2 : ¬ ((KdS.dcn xs xs.length : Nat) : Int) < ((xs.map V.str).length : Int) := fun q => c2 (decide_eq_true q)
          rw [List.length_map] at c2
          refine ⟨_, rfl, l, rfl, ⟨_, hx⟩, fun D hD => lc_build (walk_list (K := K) (a := l)) hD (fun i ys R => Same H R ∧ ys = (xs.take i).map fun z => V.bl (nmB z)) ⟨Same.refl H, rfl⟩ (fun _ _ _ _ p => Same.seq (p.1.trans cd_sub) hx) ?_ ?_⟩
          · rintro i ys x H2 H2' hi e ly ⟨sm, rfl⟩ ⟨rfl, hy⟩
            obtain ⟨z, rfl, hy2⟩ := strs_at hy
            refine ⟨rfl, yes ?_⟩
            refine ⟨_, rfl, z, rfl, hz z (List.mem_of_getElem? hy2), fun H3 s3 => LcNx.add (s3 _ _ e) ly (by rw [List.length_map] at hi; omega) ⟨sm.trans (cd_same s3), ?_⟩⟩
            exact take_nm hy2
          · rintro ys H2 e ly ⟨sm, rfl⟩
            rw [List.length_map] at e
            refine ⟨D, (xs.take xs.length).map nmB, rfl, SqL.of (by rw [List.map_map]; exact e), _, rfl, ?_⟩
            have e2 := flt_end c1 c2
            rw [e2] at k
            exact k H2 (sm.trans cd_sub)
    · refine ⟨_, PSs.nox (pss_cons (ps_if (PW.pt (pw_or (pt_cmpR op_gt (pe_callB call_len_seq (by rfl) gl boot_len (pa_cons (pv 0) pa_nil)) (pv 1) (nomark _)) (pw_or1 (pt_cmpR op_lt (pe_lenSetS rfl gl rfl gs (pv 0)) (pe_callB call_len_seq (by rfl) gl boot_len (pa_cons (pv 0) pa_nil)) (nomark _))))) (pss_one (ps_ret pe_bl)) pss_nil)
        (pss_one (ps_ret (pe_not (pe_callB (cr_all rfl) (by rfl) ga (by decide +kernel) (pa_cons (pe_lc (own := [("name", 2)]) (g := gName 2) (tt := tYes) rfl sc_are_faulty.nd (pi_tup (pv 0)) (blkOk_by (own := [("name", 2)]) (N := ["names", "most", "name"]) (sc := defScope s_are_faulty) (by decide +kernel))
          (fun _ _ _ _ _ => pg_name (i := 2) sc_are_faulty.nd rfl (Or.inl rfl)) (fun _ _ _ _ _ => pts_nil) (fun _ _ _ _ _ => pe_call GI hr rfl gI kI bI .nil pass0 (pa_cons (pv 2) pa_nil))) pa_nil)))))), ?_⟩
      refine ⟨_, rfl, l, _, rfl, .inr hx, _, rfl, _, _, rfl, rfl, _, rfl, ?_⟩
      refine ite2 (fun c1 => ?_) (fun c1 => ?_)
      · have c1 : m < ((xs.map V.str).length : Int) := of_decide_eq_true c1
        rw [List.length_map] at c1
        have e1 : fltB xs m = true := by unfold fltB; rw [decide_eq_true c1, Bool.true_or]
        rw [e1] at k
        exact iteT (k H (Same.refl H))
      · have c1 : ¬ m < ((xs.map V.str).length : Int) := fun q => c1 (decide_eq_true q)
        rw [List.length_map] at c1
        refine ⟨_, rfl, l, xs, rfl, .inr hx, hn, _, rfl, l, _, rfl, .inr hx, _, _, rfl, rfl, _, rfl, ?_⟩
        refine ite2 (fun c2 => ?_) (fun c2 => ?_)
        · have c2 : ((KdS.dcn xs xs.length : Nat) : Int) < ((xs.map V.str).length : Int) := of_decide_eq_true c2
          rw [List.length_map] at c2
          have e1 : fltB xs m = true := by unfold fltB; rw [decide_eq_true c2, Bool.true_or, Bool.or_true]
          rw [e1] at k
          exact k H (Same.refl H)
        · have c2 : ¬ ((KdS.dcn xs xs.length : Nat) : Int) < ((xs.map V.str).length : Int) := fun q => c2 (decide_eq_true q)
          rw [List.length_map] at c2
          refine ⟨_, rfl, l, rfl, ⟨_, hx⟩, fun D hD => lc_build (walk_tup (K := K) (a := l)) hD (fun i ys R => Same H R ∧ ys = (xs.take i).map fun z => V.bl (nmB z)) ⟨Same.refl H, rfl⟩ (fun _ _ _ _ p => Same.seqT (p.1.trans cd_sub) hx) ?_ ?_⟩
          · rintro i ys x H2 H2' hi e ly ⟨sm, rfl⟩ ⟨rfl, hy⟩
            obtain ⟨z, rfl, hy2⟩ := strs_at hy
            refine ⟨rfl, yes ?_⟩
            refine ⟨_, rfl, z, rfl, hz z (List.mem_of_getElem? hy2), fun H3 s3 => LcNx.add (s3 _ _ e) ly (by rw [List.length_map] at hi; omega) ⟨sm.trans (cd_same s3), ?_⟩⟩
            exact take_nm hy2
          · rintro ys H2 e ly ⟨sm, rfl⟩
            rw [List.length_map] at e
            refine ⟨D, (xs.take xs.length).map nmB, rfl, SqL.of (by rw [List.map_map]; exact e), _, rfl, ?_⟩
            have e2 := flt_end c1 c2
            rw [e2] at k
            exact k H2 (sm.trans cd_sub)
/-! ### a plan's lists in the heap -/
def AttAt (K : PySem.W.Frag) (H : Hp) (y : V) (a : Str × Str) : Prop := ∃ r, y = .ref r ∧ SqT K H r [.str a.1, .str a.2]
def AttsAt (K : PySem.W.Frag) (H : Hp) (q : Addr) (as : List (Str × Str)) : Prop := ∃ ys, SqT K H q ys ∧ Paired (AttAt K H) ys as
def DimAt (K : PySem.W.Frag) (H : Hp) (x : V) (d : Str × List (Str × Str)) : Prop := ∃ p q, x = .ref p ∧ SqT K H p [.str d.1, .ref q] ∧ AttsAt K H q d.2
def DimsAt (K : PySem.W.Frag) (H : Hp) (l : Addr) (ds : List (Str × List (Str × Str))) : Prop := ∃ xs, SqL K H l xs ∧ Paired (DimAt K H) xs ds
theorem AttAt.same {H H' : Hp} {y : V} {a : Str × Str} (e : Same H H') : AttAt K H y a → AttAt K H' y a := fun ⟨r, h1, h2⟩ => ⟨r, h1, Same.seqT e h2⟩
theorem AttsAt.same {H H' : Hp} {q : Addr} {as : List (Str × Str)} (e : Same H H') : AttsAt K H q as → AttsAt K H' q as := fun ⟨ys, h1, h2⟩ => ⟨ys, Same.seqT e h1, PySem.Paired.mono (fun _ _ => AttAt.same e) h2⟩
theorem DimAt.same {H H' : Hp} {x : V} {d : Str × List (Str × Str)} (e : Same H H') : DimAt K H x d → DimAt K H' x d := fun ⟨p, q, h1, h2, h3⟩ => ⟨p, q, h1, Same.seqT e h2, h3.same e⟩
theorem DimsAt.same {H H' : Hp} {l : Addr} {ds : List (Str × List (Str × Str))} (e : Same H H') : DimsAt K H l ds → DimsAt K H' l ds := fun ⟨xs, h1, h2⟩ => ⟨xs, e.seq h1, PySem.Paired.mono (fun _ _ => DimAt.same e) h2⟩
theorem paired_at {α β : Type} {R : α → β → Prop} : ∀ {l : List α} {m : List β} {i : Nat} {a : α}, Paired R l m → l[i]? = some a → ∃ b, m[i]? = some b ∧ R a b
  | _, _, i, a, .nil, e => by simp at e
  | _, _, 0, a, .cons h _, e => ⟨_, rfl, by have e2 : _ = a := Option.some.inj e; rw [← e2]; exact h⟩
  | _, _, i + 1, a, .cons _ r, e => paired_at (i := i) r e
theorem take_snoc {α β : Type} {g : α → β} {l : List α} {i : Nat} {a : α} (h : l[i]? = some a) : (l.take i).map g ++ [g a] = (l.take (i + 1)).map g := by
  obtain ⟨h1, h2⟩ := List.getElem?_eq_some_iff.mp h
  rw [List.take_succ_eq_append_getElem h1, List.map_append, h2]
  rfl
structure Szd (ds : List (Str × List (Str × Str))) (ms : List Str) : Prop where
  dl : ds.length ≤ 4000
  dn : ∀ d ∈ ds, d.1.length ≤ 4000 ∧ d.2.length ≤ 4000 ∧ ∀ a ∈ d.2, a.1.length ≤ 4000
  ml : ms.length ≤ 4000
  mn : ∀ m ∈ ms, m.length ≤ 4000
/-! ### first_fault -/
def ffV (ds : List (Str × List (Str × Str))) (ms : List Str) : V := if (ds.isEmpty || fltB (ds.map (·.1)) 4) = true then .str "dimensions" else if ds.any (fun d => fltB (d.2.map (·.1)) 5) = true then .str "attributes" else if fltB ms 4 = true then .str "measures" else .non
def spFirst (K : PySem.W.Frag) : Sp := fun vs H Q _ => ∃ (l m : Addr) (ds : List (Str × List (Str × Str))) (ms : List Str), vs = [.ref l, .ref m] ∧ DimsAt K H l ds ∧ Txs K H m ms ∧ Szd ds ms ∧ ∀ H', Same H H' → Q (ffV ds ms) H'
theorem sc_first : FnScope ["dimensions", "measures", "name", "attributes", "names", "attribute", "way"] ["dimensions", "measures"] (defScope s_first_fault) := ⟨rfl, rfl, rfl, by decide +kernel, rfl, by decide +kernel, by decide +kernel⟩
theorem ok_first {fF : Addr} {fdF : FuncData} (F : FnP K "first_fault" "first_fault" s_first_fault f fd) (GF : FnOk P w K mg base CX0 3 fF fdF ["names", "most"] (spFaulty K)) (kF : PySem.W.keepIn K (.ref fF) = true) (bF : Binds K fdF ["names", "most"] []) (gF : mg "are_faulty" = some (.ref fF))
    {t1 t2 t3 : Nat} (g1 : mg "MOST_DIMENSIONS" = some (.int 4 t1)) (g2 : mg "MOST_ATTRIBUTES" = some (.int 5 t2)) (g3 : mg "MOST_MEASURES" = some (.int 4 t3)) : FnOk P w K mg base CX0 4 f fd ["dimensions", "measures"] (spFirst K) := by
  refine F.ok sc_first (fun vs H Q E h => ?_) (fun cdv A outer s H vs Q E hr h => ?_)
  · obtain ⟨l, m, ds, ms, rfl, _⟩ := h
    rfl
  · obtain ⟨l, m, ds, ms, rfl, ⟨xs, hl, hp⟩, hm, sz, k⟩ := h
    have nd := sc_first.nd
    refine ⟨_, PSs.nox (pss_cons (ps_setLc (i := 4) (own := [("name", 2), ("attributes", 3)]) (g := gTup K 2 (gCons (gName 2) (gCons (gName 3) gNil))) (tt := tYes) rfl nd rfl rfl (sw_true rfl rfl rfl (by decide +kernel)) (pi_list (pv 0)) (blkOk_by (own := [("name", 2), ("attributes", 3)]) (N := ["dimensions", "measures", "name", "attributes", "names", "attribute", "way"]) (sc := defScope s_first_fault) (by decide +kernel))
        (fun _ _ _ _ _ => pg_tup rfl (pgs_cons (pg_name (i := 2) nd rfl (Or.inl rfl)) (pgs_cons (pg_name (i := 3) nd rfl (Or.inl rfl)) pgs_nil))) (fun _ _ _ _ _ => pts_nil) (fun _ _ _ _ _ => pv 2))
      (pss_cons (ps_if (PW.pt (pw_or (pt_not (pt_truth (pv 4) (by intro _; rfl))) (pw_or1 (pt_val (pe_call GF hr rfl gF kF bF .nil pass0 (pa_cons (pv 4) (pa_cons (pe_glob (v := .int 4) rfl g1 ⟨_, rfl⟩) pa_nil))))))) (pss_one (ps_ret pe_str)) pss_nil)
      (pss_cons (ps_for PassesOwn.never rfl (pi_list (pv 0)) (pg_tup rfl (pgs_cons (pg_name (i := 2) nd rfl (Or.inl rfl)) (pgs_cons (pg_name (i := 3) nd rfl (Or.inl rfl)) pgs_nil)))
        (pss_one (ps_if (pt_val (pe_call GF hr rfl gF kF bF .nil pass0 (pa_cons (pe_lc (own := [("attribute", 5), ("way", 6)]) (g := gTup K 2 (gCons (gName 5) (gCons (gName 6) gNil))) (tt := tYes) rfl nd (pi_tup (pv 3)) (blkOk_by (own := [("attribute", 5), ("way", 6)]) (N := ["dimensions", "measures", "name", "attributes", "names", "attribute", "way"]) (sc := defScope s_first_fault) (by decide +kernel))
          (fun _ _ _ _ _ => pg_tup rfl (pgs_cons (pg_name (i := 5) nd rfl (Or.inl rfl)) (pgs_cons (pg_name (i := 6) nd rfl (Or.inl rfl)) pgs_nil))) (fun _ _ _ _ _ => pts_nil) (fun _ _ _ _ _ => pv 5)) (pa_cons (pe_glob (v := .int 5) rfl g2 ⟨_, rfl⟩) pa_nil)))) (pss_one (ps_ret pe_str)) pss_nil)))
      (pss_cons (ps_if (pt_val (pe_call GF hr rfl gF kF bF .nil pass0 (pa_cons (pv 1) (pa_cons (pe_glob (v := .int 4) rfl g3 ⟨_, rfl⟩) pa_nil)))) (pss_one (ps_ret pe_str)) pss_nil)
      (pss_one (ps_ret pe_non)))))), ?_⟩
    refine ⟨_, rfl, l, rfl, ⟨_, hl⟩, fun D hD => lc_build (walk_list (K := K) (a := l)) hD (fun i ys R => Same H R ∧ ys = (ds.take i).map fun d => V.str d.1) ⟨Same.refl H, rfl⟩ (fun _ _ _ _ p => Same.seq (p.1.trans cd_sub) hl) ?_ ?_⟩
    · rintro i ys x H2 H2' hi e ly ⟨sm, rfl⟩ ⟨rfl, hy⟩
      obtain ⟨d, hd, p, q, rfl, h1, h2⟩ := paired_at hp hy
      have sz1 := sz.dl
      have hlen := hp.length
      refine ⟨p, _, rfl, Same.seqT (sm.trans cd_sub) h1, rfl, _, _, rfl, _, _, rfl, rfl, rfl, yes ?_⟩
      refine ⟨_, rfl, LcNx.add e ly (by omega) ⟨sm, take_snoc hd⟩⟩
    · rintro ys H2 e ly ⟨sm, rfl⟩
      have hlen := hp.length
      have eN : (ds.take xs.length).map (fun d => V.str d.1) = (ds.map (·.1)).map V.str := by
        rw [hlen, List.take_length, List.map_map]
        rfl
      rw [eN] at e
      have s2 : Same H H2 := sm.trans cd_sub
      have l1 := sz.dl
      have hnm : ∀ z ∈ ds.map (·.1), z.length ≤ 4000 := fun z hz => by
        obtain ⟨d, hd, rfl⟩ := List.mem_map.mp hz
        exact (sz.dn d hd).1
      refine ⟨_, rfl, _, .inl ⟨_, SqL.of e, rfl⟩, ?_⟩
      by_cases e0 : ds = []
      · subst e0
        exact iteT (iteT (k H2 s2))
      · have ne : (!((ds.map (·.1)).map V.str).isEmpty) = true := by
          cases ds with
          | nil => exact absurd rfl e0
          | cons d r => rfl
        rw [ne]
        refine iteF ⟨_, rfl, D, ds.map (·.1), 4, rfl, .inl (SqL.of e), by rw [List.length_map]; exact l1, hnm, fun H3 s3 => ⟨_, rfl, ?_⟩⟩
        have ie : ds.isEmpty = false := by
          cases ds with
          | nil => exact absurd rfl e0
          | cons d r => rfl
        have s03 : Same H H3 := s2.trans s3
        by_cases c1 : fltB (ds.map (·.1)) 4 = true
        · rw [c1]
          have ev : ffV ds ms = .str "dimensions" := by unfold ffV; rw [ie, c1]; rfl
          rw [ev] at k
          exact iteT (k H3 s03)
        · have c1 : fltB (ds.map (·.1)) 4 = false := by simpa using c1
          rw [c1]
          refine iteF ?_
          refine ⟨_, rfl, l, rfl, ⟨_, s03.seq hl⟩, for_list (K := K) (a := l) (xs := xs) (fun i σ H4 => ∃ u v, σ = [some (.ref l), some (.ref m), u, v, some (.ref D), none, none] ∧ Same H H4 ∧ (ds.take i).any (fun d => fltB (d.2.map (·.1)) 5) = false) ⟨_, _, rfl, s03, rfl⟩ (fun i σ H4 _ ⟨_, _, _, s4, _⟩ => s4.seq hl) ?_ ?_⟩
          · rintro i x σ H4 hi ⟨u, v, rfl, s4, na⟩
            obtain ⟨d, hd, p, q, rfl, h1, ys, h2, h3⟩ := paired_at hp hi
            have hdm := List.mem_of_getElem? hd
            obtain ⟨_, la, lz⟩ := sz.dn d hdm
            have hyl := h3.length
            refine ⟨p, _, rfl, Same.seqT s4 h1, rfl, _, _, rfl, _, _, rfl, rfl, ?_⟩
            refine ⟨_, rfl, q, rfl, ⟨_, Same.seqT s4 h2⟩, fun B hB => lc_build (walk_tup (K := K) (a := q)) hB (fun i ys R => Same H4 R ∧ ys = (d.2.take i).map fun d => V.str d.1) ⟨Same.refl H4, rfl⟩ (fun _ _ _ _ p => Same.seqT (s4.trans (p.1.trans cd_sub)) h2) ?_ ?_⟩
            · rintro j zs x H5 H5' hj e5 lz5 ⟨s5, rfl⟩ ⟨rfl, hy⟩
              obtain ⟨a, ha, r, rfl, h4⟩ := paired_at h3 hy
              refine ⟨r, _, rfl, Same.seqT (s4.trans (s5.trans cd_sub)) h4, rfl, _, _, rfl, _, _, rfl, rfl, rfl, yes ?_⟩
              refine ⟨_, rfl, LcNx.add e5 lz5 (by omega) ⟨s5, take_snoc ha⟩⟩
            · rintro zs H5 e5 lz5 ⟨s5, rfl⟩
              have eA : (d.2.take ys.length).map (fun d => V.str d.1) = (d.2.map (·.1)).map V.str := by
                rw [hyl, List.take_length, List.map_map]
                rfl
              rw [eA] at e5
              refine ⟨B, d.2.map (·.1), 5, rfl, .inl (SqL.of e5), by rw [List.length_map]; exact la, fun z hz => ?_, fun H6 s6 => ⟨_, rfl, ?_⟩⟩
              · obtain ⟨a, ha, rfl⟩ := List.mem_map.mp hz
                exact lz a ha
              · have s06 : Same H H6 := (s4.trans (s5.trans cd_sub)).trans s6
                by_cases c2 : fltB (d.2.map (·.1)) 5 = true
                · rw [c2]
                  have ea : ds.any (fun d => fltB (d.2.map (·.1)) 5) = true := List.any_eq_true.mpr ⟨d, hdm, c2⟩
                  have ev : ffV ds ms = .str "attributes" := by unfold ffV; rw [ie, c1, ea]; rfl
                  rw [ev] at k
                  exact iteT (k H6 s06)
                · have c2 : fltB (d.2.map (·.1)) 5 = false := by simpa using c2
                  rw [c2]
                  refine iteF ⟨_, _, rfl, s06, ?_⟩
                  obtain ⟨g1, g2⟩ := List.getElem?_eq_some_iff.mp hd
                  rw [List.take_succ_eq_append_getElem g1, List.any_append, na, g2]
                  simp [c2]
          · rintro σ H4 ⟨u, v, rfl, s4, na⟩
            rw [hlen, List.take_length] at na
            refine ⟨_, rfl, m, ms, 4, rfl, Same.txs s4 hm, sz.ml, sz.mn, fun H5 s5 => ⟨_, rfl, ?_⟩⟩
            have s05 : Same H H5 := s4.trans s5
            by_cases c3 : fltB ms 4 = true
            · rw [c3]
              have ev : ffV ds ms = .str "measures" := by unfold ffV; rw [ie, c1, na, c3]; rfl
              rw [ev] at k
              exact iteT (k H5 s05)
            · have c3 : fltB ms 4 = false := by simpa using c3
              rw [c3]
              have ev : ffV ds ms = .non := by unfold ffV; rw [ie, c1, na, c3]; rfl
              rw [ev] at k
              exact iteF (k H5 s05)
end
end Kd

namespace Kd
open PySem PySem.Spec PyProof.Rows L2
section
variable {P : Program} {w : World} {K : PySem.W.Frag} {mg : Str → Option Value} {base : Heap} {f : Addr} {fd : FuncData}
/-! ### the plan as an object -/
def plF (a b : Addr) : List (Str × V) := [("dimension_list", .ref a), ("measure_list", .ref b)]
theorem pl_ne : ¬ (("dimension_list" : Str) = "measure_list") := by decide +kernel
theorem pl_put (a b : Addr) : putF "measure_list" (.ref b) (putF "dimension_list" (.ref a) []) = plF a b := by
  show (if ("dimension_list" : Str) = "measure_list" then [(("dimension_list" : Str), V.ref b)] else (("dimension_list" : Str), V.ref a) :: putF "measure_list" (.ref b) []) = plF a b
  rw [if_neg pl_ne]
  rfl
theorem pl_dim (a b : Addr) : (plF a b).lookup ("dimension_list" : Str) = some (.ref a) := by
  unfold plF
  rw [List.lookup_cons]
  rw [show (("dimension_list" : Str) == "dimension_list") = true by decide +kernel]
theorem pl_mea (a b : Addr) : (plF a b).lookup ("measure_list" : Str) = some (.ref b) := by
  unfold plF
  rw [List.lookup_cons, show (("measure_list" : Str) == "dimension_list") = false by decide +kernel, List.lookup_cons, show (("measure_list" : Str) == "measure_list") = true by decide +kernel]
theorem pl_no0 {a b : Addr} {m : Str} (h1 : (m == ("dimension_list" : Str)) = false) (h2 : (m == ("measure_list" : Str)) = false) : (plF a b).lookup m = none := by
  unfold plF
  rw [List.lookup_cons, h1, List.lookup_cons, h2]
  rfl
/-- a Plan of ds and ms stands at x -/
structure PlanAt (K : PySem.W.Frag) (C : Addr) (H : Hp) (x : Addr) (ds : List (Str × List (Str × Str))) (ms : List Str) : Prop where
  ex : ∃ dx a b xs, H x = some (.ins C dx (plF a b)) ∧ H a = some (.lst xs) ∧ Paired (DimAt K H) xs ds ∧ H b = some (.lst (ms.map V.str))
theorem PlanAt.same {C x : Addr} {H H' : Hp} {ds : List (Str × List (Str × Str))} {ms : List Str} (e : Same H H') (h : PlanAt K C H x ds ms) : PlanAt K C H' x ds ms := by
  obtain ⟨dx, a, b, xs, h1, h2, h3, h4⟩ := h.ex
  exact ⟨dx, a, b, xs, e _ _ h1, e _ _ h2, PySem.Paired.mono (fun _ _ => DimAt.same e) h3, e _ _ h4⟩
/-! data do not lean on an instance -/
theorem seqL_cd {x C dx a : Addr} {H : Hp} {fs : List (Str × V)} {xs : List V} (hx : H x = some (.ins C dx fs)) (h : SqL K H a xs) : SqL K (cd x H) a xs := by
  rcases h with (q | ⟨o, q⟩) | q
  · exact .inl (.inl (cd_of q (ne_of q hx (fun z => nomatch z))))
  · exact .inl (.inr ⟨o, cd_of q (ne_of q hx (fun z => nomatch z))⟩)
  · exact .inr q
theorem seqT_cd {x C dx a : Addr} {H : Hp} {fs : List (Str × V)} {xs : List V} (hx : H x = some (.ins C dx fs)) (h : SqT K H a xs) : SqT K (cd x H) a xs := by
  rcases h with (q | ⟨o, q⟩) | q
  · exact .inl (.inl (cd_of q (ne_of q hx (fun z => nomatch z))))
  · exact .inl (.inr ⟨o, cd_of q (ne_of q hx (fun z => nomatch z))⟩)
  · exact .inr q
theorem txs_cd {x C dx a : Addr} {H : Hp} {fs : List (Str × V)} {xs : List Str} (hx : H x = some (.ins C dx fs)) (h : Txs K H a xs) : Txs K (cd x H) a xs := h.elim (fun q => .inl (seqL_cd hx q)) fun q => .inr (seqT_cd hx q)
theorem dim_cd {x C dx : Addr} {H : Hp} {fs : List (Str × V)} {y : V} {d : Str × List (Str × Str)} (hx : H x = some (.ins C dx fs)) : DimAt K H y d → DimAt K (cd x H) y d :=
  fun ⟨p, q, h1, h2, zs, h3, h4⟩ => ⟨p, q, h1, seqT_cd hx h2, zs, seqT_cd hx h3, PySem.Paired.mono (fun _ _ ⟨r, e1, e2⟩ => ⟨r, e1, seqT_cd hx e2⟩) h4⟩
structure PlTxt (K : PySem.W.Frag) (C : Addr) : Prop where
  cl : Cls K C
  nD : NoAttr K C "dimension_list"
  nM : NoAttr K C "measure_list"
def rTupOf (K : PySem.W.Frag) : List V → Hp → VK → Prop := fun xs H Q => ∃ p ys, xs = [.ref p] ∧ ((SqL K H p ys ∧ ∀ l, H l = none → Q (.ref l) (upd H l (.tup ys))) ∨ (SqT K H p ys ∧ Q (.ref p) H))
def spInit (K : PySem.W.Frag) (C : Addr) : Sp := fun vs H Q _ => ∃ (x dx l m : Addr) (ds : List (Str × List (Str × Str))) (ms : List Str), vs = [.ref x, .ref l, .ref m] ∧ H x = some (.ins C dx []) ∧ DimsAt K H l ds ∧ Txs K H m ms ∧ Szd ds ms ∧ ffV ds ms = .non ∧
  ∀ (H' : Hp) (a b : Addr) (xs : List V), H a = none → H b = none → H' x = some (.ins C dx (plF a b)) → H' a = some (.lst xs) → Paired (DimAt K H') xs ds → H' b = some (.lst (ms.map V.str)) → Same (cd x H) (cd x H') → Q .non H'
theorem sc_init : FnScope ["self", "dimensions", "measures", "fault", "name", "attributes"] ["self", "dimensions", "measures"] (defScope s_Plan_init) := ⟨rfl, rfl, rfl, by decide +kernel, rfl, by decide +kernel, by decide +kernel⟩
theorem ok_init {fF C : Addr} {fdF : FuncData} {dvs : List V} (F : FunD K "__init__" "Plan.__init__" (defArgs s_Plan_init) (defBody s_Plan_init) (defScope s_Plan_init) dvs [] f fd) (T : PlTxt K C) (GF : FnOk P w K mg base CX0 4 fF fdF ["dimensions", "measures"] (spFirst K)) (kF : PySem.W.keepIn K (.ref fF) = true) (bF : Binds K fdF ["dimensions", "measures"] []) (gF : mg "first_fault" = some (.ref fF))
    (gt : mg "tuple" = none) (gl : mg "list" = none) : FnOk P w K mg base CX0 5 f fd ["self", "dimensions", "measures"] (spInit K C) := by
  refine F.ok sc_init (fun vs H Q E h => ?_) (fun cdv A outer s H vs Q E hr h => ?_)
  · obtain ⟨x, dx, l, m, ds, ms, rfl, _⟩ := h
    rfl
  · obtain ⟨x, dx, l, m, ds, ms, rfl, hx, hl, hm, sz, ev, k⟩ := h
    have nd := sc_init.nd
    refine ⟨_, PSs.nox (pss_cons (ps_set (i := 3) nd rfl (Or.inl rfl) (pe_call GF hr rfl gF kF bF .nil pass0 (pa_cons (pv 1) (pa_cons (pv 2) pa_nil))))
      (pss_cons (ps_if (pt_cmp (pc_notN (pv 3))) (pss_one ps_never) pss_nil)
      (pss_cons (ps_fld (pv 0) (pe_lc (own := [("name", 4), ("attributes", 5)]) (g := gTup K 2 (gCons (gName 4) (gCons (gName 5) gNil))) (tt := tYes) (te := tTup (tCons (tVar 4) (tCons (tCB (rTupOf K) (tCons (tVar 5) tNil)) tNil))) rfl nd (pi_list (pv 1)) (blkOk_by (own := [("name", 4), ("attributes", 5)]) (N := ["self", "dimensions", "measures", "fault", "name", "attributes"]) (sc := defScope s_Plan_init) (by decide +kernel))
        (fun _ _ _ _ _ => pg_tup rfl (pgs_cons (pg_name (i := 4) nd rfl (Or.inl rfl)) (pgs_cons (pg_name (i := 5) nd rfl (Or.inl rfl)) pgs_nil))) (fun _ _ _ _ _ => pts_nil) (fun _ _ _ _ _ => pe_tup (pa_cons (pv 4) (pa_cons (pe_callTy call_tuple_of (by rfl) gt (by decide +kernel) (pa_cons (pv 5) pa_nil)) pa_nil)))) rfl)
      (pss_one (ps_fld (pv 0) (pe_callTy call_list_of (by rfl) gl (by decide +kernel) (pa_cons (pv 2) pa_nil)) rfl))))), ?_⟩
    refine ⟨_, rfl, _, rfl, l, m, ds, ms, rfl, hl, hm, sz, fun H1 s1 => ?_⟩
    rw [ev]
    refine ⟨_, rfl, _, rfl, ?_⟩
    refine iteF ?_
    obtain ⟨xs, hl1, hp⟩ := DimsAt.same s1 hl
    have hlen := hp.length
    have l1 := sz.dl
    refine ⟨_, rfl, l, rfl, ⟨_, hl1⟩, fun D hD => lc_build (walk_list (K := K) (a := l)) hD (fun i ys R => Same H1 R ∧ Paired (DimAt K R) ys (ds.take i)) ⟨Same.refl H1, .nil⟩ (fun _ _ _ _ p => Same.seq (p.1.trans cd_sub) hl1) ?_ ?_⟩
    · rintro i ys y H2 H2' hi e ly ⟨sm, py⟩ ⟨rfl, hy⟩
      obtain ⟨d, hd, p, q, rfl, h1, h2⟩ := paired_at hp hy
      refine ⟨p, _, rfl, Same.seqT (sm.trans cd_sub) h1, rfl, _, _, rfl, _, _, rfl, rfl, rfl, yes ?_⟩
      obtain ⟨zs, h3, h4⟩ := id h2
      refine ⟨_, rfl, _, rfl, q, zs, rfl, .inr ⟨Same.seqT (sm.trans cd_sub) h3, by show 2 ≤ sizeLine; decide, fun t ht => ?_⟩⟩
      have nDt : D ≠ t := ne_of_none e ht
      have s3 : Same (cd D H2') (cd D (upd H2' t (.tup [.str d.1, .ref q]))) := cd_same (same_new ht)
      refine LcNx.add (by rw [upd_ne nDt]; exact e) ly (by omega) ⟨sm.trans s3, ?_⟩
      obtain ⟨g1, g2⟩ := List.getElem?_eq_some_iff.mp hd
      rw [List.take_succ_eq_append_getElem g1, g2]
      exact PySem.Paired.snoc (PySem.Paired.mono (fun _ _ => DimAt.same s3) py) ⟨t, q, rfl, SqT.of (cd_of upd_same nDt.symm), AttsAt.same (sm.trans s3) h2⟩
    · rintro ys H2 e ly ⟨sm, py⟩
      rw [hlen, List.take_length] at py
      have s2 : Same H1 H2 := sm.trans cd_sub
      have hx2 : H2 x = some (.ins C dx []) := s2 _ _ (s1 _ _ hx)
      have nDx : D ≠ x := (ne_of_none (s1 _ _ hx) hD).symm
      refine ⟨_, rfl, x, C, dx, _, rfl, hx2, T.cl, T.nD, (by show 0 < 1000; decide), ?_⟩
      have s3 : Same (cd x H2) (upd H2 x (.ins C dx (putF "dimension_list" (.ref D) []))) := fun c o q => by rw [upd_ne (ct_ne q).1]; exact cd_sub _ _ q
      have hm3 : Txs K (upd H2 x (.ins C dx (putF "dimension_list" (.ref D) []))) m ms := Same.txs s3 (txs_cd hx2 (Same.txs (s1.trans s2) hm))
      refine ⟨_, rfl, m, ms.map V.str, rfl, hm3, fun b hb => ?_⟩
      have nxb : x ≠ b := ne_of_none upd_same hb
      have hDb : D ≠ b := fun z => by
        rw [← z, upd_ne nDx] at hb
        rw [e] at hb
        cases hb
      refine ⟨_, rfl, x, C, dx, _, rfl, (by rw [upd_ne nxb]; exact upd_same), T.cl, T.nM, (by show 1 < 1000; decide), ?_⟩
      have e1 : putF "measure_list" (V.ref b) (putF "dimension_list" (V.ref D) []) = plF D b := pl_put D b
      have s4 : Same (cd x H2) (upd (upd (upd H2 x (.ins C dx (putF "dimension_list" (.ref D) []))) b (.lst (ms.map V.str))) x (.ins C dx (putF "measure_list" (V.ref b) (putF "dimension_list" (V.ref D) [])))) := fun c o q => by
        have nc := (ct_ne q).1
        have qc := cd_sub _ _ q
        have ncb : c ≠ b := ne_of_none (show upd H2 x (.ins C dx (putF "dimension_list" (.ref D) [])) c = some o by rw [upd_ne nc]; exact qc) hb
        rw [upd_ne nc, upd_ne ncb, upd_ne nc]
        exact qc
      have py2 : Paired (DimAt K (cd x H2)) ys ds := PySem.Paired.mono (fun y d q => dim_cd hx2 (DimAt.same cd_sub q)) py
      refine k _ D b ys (s1.free hD) ?_ (Eq.trans upd_same (congrArg (fun z => some (HO.ins C dx z)) e1)) (s4 _ _ (cd_of e nDx)) (PySem.Paired.mono (fun _ _ => DimAt.same s4) py2) ?_ ?_
      · have hb2 : H2 b = none := by
          rw [upd_ne nxb.symm] at hb
          exact hb
        exact (s1.trans s2).free hb2
      · rw [upd_ne nxb.symm, upd_same]
      · have s5 : Same (cd x H) (cd x H2) := cd_same (s1.trans s2)
        have s6 := cd_same (D := x) s4
        exact s5.trans (fun c o q => s6 c o (cd_of q (ct_ne q).1))
end
end Kd
namespace Kd
open PySem PySem.Spec PyProof.Rows L2
section
variable {P : Program} {w : World} {K : PySem.W.Frag} {mg : Str → Option Value} {base : Heap} {f : Addr} {fd : FuncData}
def spDims (K : PySem.W.Frag) (C : Addr) : Sp := fun vs H Q _ => ∃ (x : Addr) (ds : List (Str × List (Str × Str))) (ms : List Str), vs = [.ref x] ∧ PlanAt K C H x ds ms ∧ ∀ l xs, H l = none → Paired (DimAt K H) xs ds → Q (.ref l) (upd H l (.lst xs))
def spMeas (K : PySem.W.Frag) (C : Addr) : Sp := fun vs H Q _ => ∃ (x : Addr) (ds : List (Str × List (Str × Str))) (ms : List Str), vs = [.ref x] ∧ PlanAt K C H x ds ms ∧ ∀ l, H l = none → Q (.ref l) (upd H l (.lst (ms.map V.str)))
theorem sc_dims : FnScope ["self"] ["self"] (defScope s_Plan_dimensions) := ⟨rfl, rfl, rfl, by decide +kernel, rfl, by decide +kernel, by decide +kernel⟩
theorem ok_dims {C : Addr} (F : FnP K "dimensions" "Plan.dimensions" s_Plan_dimensions f fd) (T : PlTxt K C) (gl : mg "list" = none) : FnOk P w K mg base CX0 1 f fd ["self"] (spDims K C) := by
  refine F.ok sc_dims (fun vs H Q E h => ?_) (fun cdv A outer s H vs Q E hr h => ?_)
  · obtain ⟨x, ds, ms, rfl, _⟩ := h
    rfl
  · obtain ⟨x, ds, ms, rfl, ⟨dx, a, b, xs, h1, h2, h3, h4⟩, k⟩ := h
    refine ⟨_, PSs.nox (pss_one (ps_ret (pe_callTy call_list_of (by rfl) gl (by decide +kernel) (pa_cons (pe_fld (pv 0) rfl) pa_nil)))), ?_⟩
    exact ⟨_, rfl, x, C, dx, _, _, rfl, h1, T.cl, T.nD, pl_dim a b, a, xs, rfl, .inl (SqL.of h2), fun l hl => k l xs hl h3⟩
theorem sc_meas : FnScope ["self"] ["self"] (defScope s_Plan_measures) := ⟨rfl, rfl, rfl, by decide +kernel, rfl, by decide +kernel, by decide +kernel⟩
theorem ok_meas {C : Addr} (F : FnP K "measures" "Plan.measures" s_Plan_measures f fd) (T : PlTxt K C) (gl : mg "list" = none) : FnOk P w K mg base CX0 1 f fd ["self"] (spMeas K C) := by
  refine F.ok sc_meas (fun vs H Q E h => ?_) (fun cdv A outer s H vs Q E hr h => ?_)
  · obtain ⟨x, ds, ms, rfl, _⟩ := h
    rfl
  · obtain ⟨x, ds, ms, rfl, ⟨dx, a, b, xs, h1, h2, h3, h4⟩, k⟩ := h
    refine ⟨_, PSs.nox (pss_one (ps_ret (pe_callTy call_list_of (by rfl) gl (by decide +kernel) (pa_cons (pe_fld (pv 0) rfl) pa_nil)))), ?_⟩
    exact ⟨_, rfl, x, C, dx, _, _, rfl, h1, T.cl, T.nM, pl_mea a b, b, _, rfl, .inl (SqL.of h4), fun l hl => k l hl⟩
end
end Kd

namespace Kd
open PySem PySem.Spec PyProof.Rows L2
/-- a tray of at most n draws stands at a, its list of great ones at g -/
structure Tray (H : Hp) (a g : Addr) (n : Nat) : Prop where
  ex : ∃ (c f m : Int) (gs : List Int), H a = some (.lst [.ref g, .int c, .int f, .int m]) ∧ H g = some (.lst (gs.map V.int)) ∧ (0 ≤ f ∧ f < 2305843009213693951) ∧ 0 ≤ m ∧ m ≤ n
section
variable {P : Program} {w : World} {K : PySem.W.Frag} {mg : Str → Option Value} {base : Heap} {f : Addr} {fd : FuncData}
def spTray (K : PySem.W.Frag) : Sp := fun vs H Q _ => ∃ (l : Addr) (ns : List Int), vs = [.ref l] ∧ SqL K H l (ns.map V.int) ∧ ns.length ≤ 63 ∧ ∀ a g H', H a = none → H g = none → Tray H' a g 0 → Same H H' → Q (.ref a) H'
theorem sc_tray : FnScope ["script", "fold", "great", "cell", "much"] ["script"] (defScope s_l_tray) := ⟨rfl, rfl, rfl, by decide +kernel, rfl, by decide +kernel, by decide +kernel⟩
theorem ints_at {xs : List Int} {i : Nat} {x : V} (h : (xs.map V.int)[i]? = some x) : ∃ z, x = .int z ∧ xs[i]? = some z := by
  rw [List.getElem?_map] at h
  cases e : xs[i]? with
  | none => rw [e] at h; cases h
  | some z => rw [e] at h; exact ⟨z, (Option.some.inj h).symm, rfl⟩
theorem ok_tray (F : FnP K "_law_tray" "_law_tray" s_l_tray f fd) (gm : mg "max" = none) : FnOk P w K mg base CX0 1 f fd ["script"] (spTray K) := by
  refine F.ok sc_tray (fun vs H Q E h => ?_) (fun cdv A outer s H vs Q E hr h => ?_)
  · obtain ⟨l, ns, rfl, _⟩ := h
    rfl
  · obtain ⟨l, ns, rfl, hS, hn, k⟩ := h
    have nd := sc_tray.nd
    refine ⟨_, PSs.nox (pss_cons (ps_set (i := 1) nd rfl (Or.inl rfl) pe_int)
      (pss_cons (ps_set (i := 2) nd rfl (Or.inl rfl) (pe_lst pa_nil))
      (pss_cons (ps_for PassesOwn.never rfl (pi_list (pv 0)) (pg_name (i := 3) nd rfl (Or.inl rfl))
        (pss_cons (ps_set (i := 1) nd rfl (Or.inl rfl) (pe_op op_mod (pe_op op_add (pe_op op_mul (pv 1) pe_int) (pv 3)) (pe_op op_sub (pe_op op_pow pe_int pe_int) pe_int)))
        (pss_cons (ps_set (i := 4) nd rfl (Or.inl rfl) (pe_callB (call_max2 rfl) (by rfl) gm (by decide +kernel) (pa_cons (pv 3) (pa_cons (pe_op op_sub pe_int (pv 3)) pa_nil))))
        (pss_one (ps_if (pt_cmpR op_ge (pv 4) (pe_op op_pow pe_int pe_int) (nomark _)) (pss_one (ps_expr (pe_bm PySem.F.plainAttrs_list PySem.F.slot_list_append PySem.F.type_list_append mt_append (pv 2) (pa_cons (pe_op op_sub (pv 4) (pe_op op_pow pe_int pe_int)) pa_nil)))) pss_nil)))))
      (pss_one (ps_ret (pe_lst (pa_cons (pv 2) (pa_cons pe_int (pa_cons (pv 1) (pa_cons pe_int pa_nil)))))))))), ?_⟩
    refine ⟨by show 0 ≤ sizeLine; decide, fun g hg => ?_⟩
    refine ⟨_, rfl, l, rfl, ⟨_, (same_new hg).seq hS⟩, for_list (K := K) (a := l) (xs := ns.map V.int) (fun i σ H2 => ∃ (fo : Int) (gs : List Int) (u v : Option V), σ = [some (.ref l), some (.int fo), some (.ref g), u, v] ∧ Same H H2 ∧ H2 g = some (.lst (gs.map V.int)) ∧ gs.length ≤ i ∧ 0 ≤ fo ∧ fo < 2305843009213693951)
      ⟨_, [], _, _, rfl, same_new hg, upd_same, Nat.le_refl _, by decide, by decide⟩ (fun i σ H2 _ ⟨_, _, _, _, _, s2, _⟩ => s2.seq hS) ?_ ?_⟩
    · rintro i x σ H2 hi ⟨fo, gs, u, v, rfl, s2, h2, l2, f0, f1⟩
      have hil : i < (ns.map V.int).length := (List.getElem?_eq_some_iff.mp hi).1
      rw [List.length_map] at hil
      obtain ⟨z, rfl, hz⟩ := ints_at hi
      refine ⟨_, rfl, _, _, rfl, rfl, .inl ⟨by omega, by omega⟩, _, rfl, _, _, rfl, rfl, _, _, rfl, rfl, ⟨by decide, by decide, by decide⟩, _, _, rfl, rfl, _, _, rfl, rfl, ?_, ?_⟩
      · show (0 : Int) < 2 ^ 61 - 1
        decide
      · have fb : 0 ≤ (fo * 1000003 + z) % (2 ^ Int.toNat 61 - 1) ∧ (fo * 1000003 + z) % (2 ^ Int.toNat 61 - 1) < 2305843009213693951 :=
          ⟨Int.emod_nonneg _ (by decide), Int.lt_of_lt_of_le (Int.emod_lt_of_pos _ (by decide)) (by decide)⟩
        refine ⟨_, rfl, _, rfl, _, _, rfl, rfl, _, _, rfl, ?_⟩
        refine ⟨_, rfl, _, _, rfl, rfl, ⟨by decide, by decide, by decide⟩, _, _, rfl, rfl, _, rfl, ?_⟩
        refine ite2 (fun _ => ?_) (fun _ => ?_)
        · refine ⟨_, rfl, .inl ⟨rfl, _, SqL.of h2⟩, _, rfl, _, _, rfl, rfl, ⟨by decide, by decide, by decide⟩, _, _, rfl, rfl, g, _, _, rfl, rfl, h2, small1000 (by rw [List.length_map]; omega), ?_⟩
          exact ⟨_, gs ++ [_], _, _, rfl, Same.upd s2 hg, by rw [upd_same, List.map_append]; rfl, by rw [List.length_append]; show gs.length + 1 ≤ i + 1; omega, fb.1, fb.2⟩
        · exact ⟨_, gs, _, _, rfl, s2, h2, by omega, fb.1, fb.2⟩
    · rintro σ H2 ⟨fo, gs, u, v, rfl, s2, h2, l2, f0, f1⟩
      refine ⟨_, rfl, _, rfl, by show 4 ≤ sizeLine; decide, fun a ha => ?_⟩
      refine k a g _ (s2.free ha) hg ⟨0, fo, 0, gs, upd_same, by rw [upd_ne (ne_of_none h2 ha)]; exact h2, ⟨f0, f1⟩, by decide, by decide⟩ (Same.to_new s2 ha)
def spDraw : Sp := fun vs H Q _ => ∃ (a g : Addr) (n : Nat) (many : Int), vs = [.ref a, .int many] ∧ Tray H a g n ∧ n ≤ 1000000 ∧ 0 < many ∧ many < 2 ^ 60 ∧ ∀ (r : Int) H', 0 ≤ r → r < many → Tray H' a g (n + 1) → Same (ct a g H) (ct a g H') → Q (.int r) H'
theorem sc_draw : FnScope ["tray", "many", "found", "mixed"] ["tray", "many"] (defScope s_l_draw) := ⟨rfl, rfl, rfl, by decide +kernel, rfl, by decide +kernel, by decide +kernel⟩
theorem DpAll.ints {K : PySem.W.Frag} {H : Hp} : ∀ (xs : List Int), DpAll K H (xs.map V.int) (xs.map PyData.int)
  | [] => .nil
  | x :: xs => .cons (.int x) (DpAll.ints xs)
theorem lay_ints : ∀ xs : List Int, PyData.canLayAll0 (xs.map PyData.int) = true ∧ PyData.depthAll (xs.map PyData.int) = 0
  | [] => ⟨rfl, rfl⟩
  | x :: xs => by
    obtain ⟨h1, h2⟩ := lay_ints xs
    constructor
    · simp only [List.map_cons, PyData.canLayAll0, PyData.canLay0, h1, Bool.and_self]
    · simp only [List.map_cons, PyData.depthAll, PyData.depth, h2, Nat.max_self]
theorem shaped_ints (xs : List Int) : SeqAt.shaped (.list (xs.map PyData.int)) = true := by
  obtain ⟨h1, h2⟩ := lay_ints xs
  simp [SeqAt.shaped, PyData.canLay0, PyData.depth, h1, h2]
theorem mix_lt {x : Int} : (x % (2 ^ Int.toNat 61 - 1)).natAbs < 2 ^ 64 := by
  have h0 : 0 ≤ x % (2 ^ Int.toNat 61 - 1) := Int.emod_nonneg _ (by decide)
  have h1 : x % (2 ^ Int.toNat 61 - 1) < 2 ^ Int.toNat 61 - 1 := Int.emod_lt_of_pos _ (by decide)
  have h2 : (2 : Int) ^ Int.toNat 61 - 1 = 2305843009213693951 := by decide
  rw [h2] at *
  omega
def lenAt (g : Addr) (H : Hp) : Nat := match H g with
  | some (.lst xs) => xs.length
  | _ => 0
theorem lenAt_of {g : Addr} {H : Hp} {xs : List V} (h : H g = some (.lst xs)) : lenAt g H = xs.length := by unfold lenAt; rw [h]
theorem tray_ne {H : Hp} {a g : Addr} {c f m : Int} {gs : List Int} (h1 : H a = some (.lst [.ref g, .int c, .int f, .int m])) (h2 : H g = some (.lst (gs.map V.int))) : a ≠ g := ne_of h1 h2 (fun z => by
  have e : [V.ref g, V.int c, V.int f, V.int m] = gs.map V.int := by injection z
  cases gs with
  | nil => cases e
  | cons x r => cases e)
theorem ok_draw (F : FnP K "_law_draw" "_law_draw" s_l_draw f fd) : FnOk P w K mg base CX0 1 f fd ["tray", "many"] spDraw := by
  refine F.ok sc_draw (fun vs H Q E h => ?_) (fun cdv A outer s H vs Q E hr h => ?_)
  · obtain ⟨a, g, n, many, rfl, _⟩ := h
    rfl
  · obtain ⟨a, g, n, many, rfl, hT, hn, m0, m1, k⟩ := h
    have nd := sc_draw.nd
    refine ⟨_, PSs.nox (pss_cons (ps_while PassesOwn.never (PW.pt (pw_and (pt_cmpR op_lt (pe_ix ix_list (pv 0) pe_int (fun _ _ => rfl)) pe_int (nomark _)) (pw_and1 (pt_cmpR (op_neD hr.units) (pe_ix ix_list (pv 0) pe_int (fun _ _ => rfl)) (pe_lst pa_nil) (nomark _)))))
        (pss_one (ps_asg (pe_bm PySem.F.plainAttrs_list PySem.F.slot_list_pop PySem.F.type_list_pop mt_popAt (pe_ix ix_list (pv 0) pe_int (fun _ _ => rfl)) (pa_cons pe_int pa_nil)) (pg_sub (pv 0) pe_int set_list))))
      (pss_cons (ps_if (pt_cmpR op_ge (pe_ix ix_list (pv 0) pe_int (fun _ _ => rfl)) pe_int (nomark _))
        (pss_cons (ps_set (i := 2) nd rfl (Or.inl rfl) (pe_op op_mod (pe_ix ix_list (pv 0) pe_int (fun _ _ => rfl)) (pv 1)))
        (pss_cons (ps_asg (pe_op op_fdivW (pe_ix ix_list (pv 0) pe_int (fun _ _ => rfl)) (pv 1)) (pg_sub (pv 0) pe_int set_list))
        (pss_one (ps_ret (pv 2))))) pss_nil)
      (pss_cons (ps_asg (pe_op op_add (pe_ix ix_list (pv 0) pe_int (fun _ _ => rfl)) pe_int) (pg_sub (pv 0) pe_int set_list))
      (pss_cons (ps_set (i := 3) nd rfl (Or.inl rfl) (pe_op op_mod (pe_op op_add (pe_op op_mul (pe_op op_add (pe_ix ix_list (pv 0) pe_int (fun _ _ => rfl)) pe_int) (pe_op op_pow (pe_op op_add (pe_ix ix_list (pv 0) pe_int (fun _ _ => rfl)) pe_int) pe_int)) (pe_op op_mul pe_int (pe_ix ix_list (pv 0) pe_int (fun _ _ => rfl)))) (pe_op op_sub (pe_op op_pow pe_int pe_int) pe_int)))
      (pss_one (ps_ret (pe_op op_mod (pe_op op_fdiv (pe_op op_mod (pe_op op_pow (pv 3) pe_int) (pe_op op_add (pe_op op_pow pe_int pe_int) pe_int)) pe_int) (pv 1)))))))), ?_⟩
    refine while_by (fun σ H2 => σ = [some (.ref a), some (.int many), none, none] ∧ Tray H2 a g n ∧ Same (ct a g H) (ct a g H2)) (fun _ H2 => lenAt g H2) ⟨rfl, hT, Same.refl _⟩ ?_ ?_
    · rintro σ H2 ⟨rfl, ⟨c, fo, m, gs, h1, h2, hf, hm⟩, s2⟩
      have nag := tray_ne h1 h2
      have eT : ∀ H3, H3 a = some (.lst [.ref g, .int c, .int fo, .int m]) → H3 g = some (.lst (gs.map V.int)) → Same (ct a g H) (ct a g H3) → Tray H3 a g n := fun H3 q1 q2 _ => ⟨c, fo, m, gs, q1, q2, hf, hm⟩
      refine ⟨_, rfl, a, _, _, _, rfl, rfl, SqL.of h1, atI_nat (j := 1) rfl, _, _, rfl, rfl, _, rfl, ?_⟩
      refine ite2 (fun c1 => ?_) (fun c1 => ?_)
      · refine ⟨_, rfl, a, _, _, _, rfl, rfl, SqL.of h1, atI_nat (j := 0) rfl, by show 0 ≤ sizeLine; decide, fun p hp => ?_⟩
        have npa : a ≠ p := ne_of_none h1 hp
        have npg : g ≠ p := ne_of_none h2 hp
        have h1p : upd H2 p (.lst []) a = some (.lst [.ref g, .int c, .int fo, .int m]) := by rw [upd_ne npa]; exact h1
        have h2p : upd H2 p (.lst []) g = some (.lst (gs.map V.int)) := by rw [upd_ne npg]; exact h2
        have s3 : Same (ct a g H) (ct a g (upd H2 p (.lst []))) := s2.trans (ct_same (same_new hp))
        refine ⟨.list (gs.map PyData.int), .list [], .lst (SqL.of h2p) (DpAll.ints gs), .lst (SqL.of upd_same) .nil, shaped_ints gs, by decide, _, rfl, ?_⟩
        cases gs with
        | nil =>
          refine iteF ?_
          refine ⟨_, rfl, a, _, _, _, rfl, rfl, SqL.of h1p, atI_nat (j := 1) rfl, _, _, rfl, rfl, _, rfl, ?_⟩
          refine ite2 (fun c2 => ?_) (fun c2 => ?_)
          · refine ⟨_, rfl, a, _, _, _, rfl, rfl, SqL.of h1p, atI_nat (j := 1) rfl, _, rfl, _, _, rfl, rfl, m0, ?_⟩
            refine ⟨_, rfl, a, _, _, _, rfl, rfl, SqL.of h1p, atI_nat (j := 1) rfl, _, rfl, _, _, rfl, rfl, wide_div (b := 60) m0 (by omega) (by decide) (by decide), _, rfl, a, _, _, 1, rfl, rfl, h1p, rfl, ?_⟩
            exact ⟨_, rfl, k _ _ (Int.emod_nonneg _ (by omega)) (Int.emod_lt_of_pos _ m0) ⟨_, fo, m, _, upd_same, by rw [upd_ne nag.symm]; exact h2p, hf, hm.1, by omega⟩ (by rw [ct_upda]; exact s3)⟩
          · refine ⟨_, rfl, a, _, _, _, rfl, rfl, SqL.of h1p, atI_nat (j := 3) rfl, _, _, rfl, rfl, _, rfl, a, _, _, 3, rfl, rfl, h1p, rfl, ?_⟩
            have q0 := hf.1
            have q1 := hf.2
            have q2 := hm.1
            have q3 := hm.2
            refine ⟨_, rfl, a, _, _, _, rfl, rfl, SqL.of upd_same, atI_nat (j := 2) rfl, _, _, rfl, rfl, _, rfl, a, _, _, _, rfl, rfl, SqL.of upd_same, atI_nat (j := 3) rfl, _, _, rfl, rfl, _, _, rfl, rfl, ⟨by decide, by decide, by omega⟩, _, _, rfl, rfl, .inl ⟨by omega, by omega⟩,
              _, rfl, a, _, _, _, rfl, rfl, SqL.of upd_same, atI_nat (j := 3) rfl, _, _, rfl, rfl, .inl ⟨by decide, by decide⟩, _, _, rfl, rfl, _, _, rfl, rfl, ⟨by decide, by decide, by decide⟩, _, _, rfl, rfl, _, _, rfl, rfl, (by show (0 : Int) < 2 ^ 61 - 1; decide), ?_⟩
            refine ⟨_, rfl, _, _, rfl, rfl, ⟨by decide, by decide, mix_lt⟩, _, _, rfl, rfl, ⟨by decide, by decide, by decide⟩, _, _, rfl, rfl, _, _, rfl, rfl, (by show (0 : Int) < 10 ^ 18 + 9; decide), _, _, rfl, rfl, ⟨by decide, by decide⟩, _, rfl, _, _, rfl, rfl, m0, ?_⟩
            exact k _ _ (Int.emod_nonneg _ (by omega)) (Int.emod_lt_of_pos _ m0) ⟨c, fo, m + 1, _, upd_same, by rw [upd_ne nag.symm]; exact h2p, hf, by omega, by omega⟩ (by rw [ct_upda]; exact s3)
        | cons z zs =>
          refine iteT ?_
          refine ⟨_, rfl, a, _, _, _, rfl, rfl, SqL.of h1p, atI_nat (j := 0) rfl, .inl ⟨rfl, _, SqL.of h2p⟩, g, _, 0, 0, _, rfl, rfl, h2p, by decide, by decide, by simp [seqIndex?], rfl, ?_⟩
          refine ⟨_, rfl, a, _, _, 1, rfl, rfl, (by rw [upd_ne nag]; exact h1p), rfl, ?_⟩
          refine ⟨⟨rfl, ⟨z, fo, m, zs, upd_same, by rw [upd_ne nag.symm, upd_same]; rfl, hf, hm⟩, by rw [ct_upda, ct_updg]; exact s3⟩, ?_⟩
          show lenAt g _ < lenAt g H2
          rw [lenAt_of h2, lenAt_of (g := g) (xs := zs.map V.int) (by rw [upd_ne nag.symm, upd_same]; rfl), List.length_map, List.length_map]
          exact Nat.lt_succ_self _
      · have h1p := h1
        have h2p := h2
        have s3 := s2
        refine iteF ?_
        refine ⟨_, rfl, a, _, _, _, rfl, rfl, SqL.of h1p, atI_nat (j := 1) rfl, _, _, rfl, rfl, _, rfl, ?_⟩
        refine ite2 (fun c2 => ?_) (fun c2 => ?_)
        · refine ⟨_, rfl, a, _, _, _, rfl, rfl, SqL.of h1p, atI_nat (j := 1) rfl, _, rfl, _, _, rfl, rfl, m0, ?_⟩
          refine ⟨_, rfl, a, _, _, _, rfl, rfl, SqL.of h1p, atI_nat (j := 1) rfl, _, rfl, _, _, rfl, rfl, wide_div (b := 60) m0 (by omega) (by decide) (by decide), _, rfl, a, _, _, 1, rfl, rfl, h1p, rfl, ?_⟩
          exact ⟨_, rfl, k _ _ (Int.emod_nonneg _ (by omega)) (Int.emod_lt_of_pos _ m0) ⟨_, fo, m, _, upd_same, by rw [upd_ne nag.symm]; exact h2p, hf, hm.1, by omega⟩ (by rw [ct_upda]; exact s3)⟩
        · have a1 : ¬ c < 2 := fun q => c1 (decide_eq_true q)
          have a2 : ¬ (2 : Int) ≤ c := fun q => c2 (decide_eq_true q)
          exfalso
          omega
    · rintro σ H2 Q1 Q2 hQ ⟨v, e0, p, xs, i, x, e1, e2, hs, ha, i2, j2, e3, e4, b, e5, q⟩
      refine ⟨v, e0, p, xs, i, x, e1, e2, hs, ha, i2, j2, e3, e4, b, e5, ?_⟩
      cases b with
      | false => exact iteF (hQ _ _ (by simpa using q))
      | true =>
        have q := (if_pos rfl : (if true = true then _ else _) = _).mp q
        obtain ⟨v, e0, p, xs, i, x, e1, e2, hs, ha, hl, hp⟩ := q
        refine iteT ⟨v, e0, p, xs, i, x, e1, e2, hs, ha, hl, fun p np => ?_⟩
        obtain ⟨d, e, d1, d2, d3, d4, b, e6, q⟩ := hp p np
        exact ⟨d, e, d1, d2, d3, d4, b, e6, hQ _ _ q⟩
end
end Kd

namespace Kd
open PySem PySem.Spec PyProof.Rows L2
/-- data less than n deep, of short lists -/
def Okd : Nat → PyData → Prop
  | 0, _ => False
  | n + 1, .list ds => ds.length ≤ 4000 ∧ ∀ d ∈ ds, Okd n d
  | n + 1, .tuple ds => ds.length ≤ 4000 ∧ ∀ d ∈ ds, Okd n d
  | _ + 1, .dict _ => False
  | _ + 1, _ => True
section
variable {P : Program} {w : World} {K : PySem.W.Frag} {mg : Str → Option Value} {base : Heap} {f : Addr} {fd : FuncData}
theorem eqT {x : V} {q : Decidable (x = x)} {Q : VK} {H : Hp} (h : Q (.bl true) H) : Q (.bl (@decide (x = x) q)) H := by
  rw [decide_eq_true rfl]
  exact h
def spAlike (K : PySem.W.Frag) (n : Nat) : Sp := fun vs H Q _ => ∃ (x y : V) (d : PyData), vs = [x, y] ∧ Dp K H x d ∧ Dp K H y d ∧ Okd n d ∧ ∀ H', Same H H' → Q (.bl true) H'
theorem sc_alike : FnScope ["found", "due", "k"] ["found", "due"] (defScope s_l_alike) := ⟨rfl, rfl, rfl, by decide +kernel, rfl, by decide +kernel, by decide +kernel⟩
theorem ok_alike (F : FnP K "_law_alike" "_law_alike" s_l_alike f fd) (kA : PySem.W.keepIn K (.ref f) = true) (bA : Binds K fd ["found", "due"] []) (gA : mg "_law_alike" = some (.ref f)) (gi : mg "isinstance" = none) (gb : mg "bool" = none) (gn : mg "int" = none) (gs : mg "str" = none) (gl : mg "list" = none) (gt : mg "tuple" = none) (ge : mg "len" = none) (gr : mg "range" = none) :
    ∀ n, FnOk P w K mg base CX0 (n + 1) f fd ["found", "due"] (spAlike K n)
  | 0 => by
    refine F.ok sc_alike (fun vs H Q E h => ?_) (fun cdv A outer s H vs Q E hr h => ?_)
    · obtain ⟨x, y, d, rfl, _⟩ := h
      rfl
    · obtain ⟨x, y, d, rfl, _, _, h, _⟩ := h
      exact h.elim
  | n + 1 => by
    have G := ok_alike F kA bA gA gi gb gn gs gl gt ge gr n
    refine F.ok sc_alike (fun vs H Q E h => ?_) (fun cdv A outer s H vs Q E hr h => ?_)
    · obtain ⟨x, y, d, rfl, _⟩ := h
      rfl
    · obtain ⟨x, y, d, rfl, hx, hy, ho, k⟩ := h
      have nd := sc_alike.nd
      refine ⟨_, PSs.nox (pss_cons (ps_if (pt_cmp (pc_isN (pv 1))) (pss_one (ps_ret (pe_cmp (pc_isN (pv 0)) rfl))) pss_nil)
        (pss_cons (ps_if (pt_val (pe_callB call_isi (by rfl) gi (by decide +kernel) (pa_cons (pv 1) (pa_cons (pe_bltn (v := .ty "bool") (by rfl) gb (by decide +kernel) rfl) pa_nil)))) (pss_one (ps_ret (pe_and (pe_callB call_isi (by rfl) gi (by decide +kernel) (pa_cons (pv 0) (pa_cons (pe_bltn (v := .ty "bool") (by rfl) gb (by decide +kernel) rfl) pa_nil))) (pe_one (pe_cmpR op_eq (pv 0) (pv 1) (nomark _)))))) pss_nil)
        (pss_cons (ps_if (pt_val (pe_callB call_isi (by rfl) gi (by decide +kernel) (pa_cons (pv 1) (pa_cons (pe_bltn (v := .ty "int") (by rfl) gn (by decide +kernel) rfl) pa_nil)))) (pss_one (ps_ret (pe_and (pe_callB call_isi (by rfl) gi (by decide +kernel) (pa_cons (pv 0) (pa_cons (pe_bltn (v := .ty "int") (by rfl) gn (by decide +kernel) rfl) pa_nil))) (pe_and (pe_not (pe_callB call_isi (by rfl) gi (by decide +kernel) (pa_cons (pv 0) (pa_cons (pe_bltn (v := .ty "bool") (by rfl) gb (by decide +kernel) rfl) pa_nil)))) (pe_one (pe_cmpR op_eq (pv 0) (pv 1) (nomark _))))))) pss_nil)
        (pss_cons (ps_if (pt_val (pe_callB call_isi (by rfl) gi (by decide +kernel) (pa_cons (pv 1) (pa_cons (pe_bltn (v := .ty "str") (by rfl) gs (by decide +kernel) rfl) pa_nil)))) (pss_one (ps_ret (pe_and (pe_callB call_isi (by rfl) gi (by decide +kernel) (pa_cons (pv 0) (pa_cons (pe_bltn (v := .ty "str") (by rfl) gs (by decide +kernel) rfl) pa_nil))) (pe_one (pe_cmpR op_eq (pv 0) (pv 1) (nomark _)))))) pss_nil)
        (pss_cons (ps_if (PW.pt (pw_or (pt_cmpR op_ne (pe_callB call_isi (by rfl) gi (by decide +kernel) (pa_cons (pv 0) (pa_cons (pe_bltn (v := .ty "list") (by rfl) gl (by decide +kernel) rfl) pa_nil))) (pe_callB call_isi (by rfl) gi (by decide +kernel) (pa_cons (pv 1) (pa_cons (pe_bltn (v := .ty "list") (by rfl) gl (by decide +kernel) rfl) pa_nil))) (nomark _))
            (pw_or1 (pt_cmpR op_ne (pe_callB call_isi (by rfl) gi (by decide +kernel) (pa_cons (pv 0) (pa_cons (pe_bltn (v := .ty "tuple") (by rfl) gt (by decide +kernel) rfl) pa_nil))) (pe_callB call_isi (by rfl) gi (by decide +kernel) (pa_cons (pv 1) (pa_cons (pe_bltn (v := .ty "tuple") (by rfl) gt (by decide +kernel) rfl) pa_nil))) (nomark _))))) (pss_one (ps_ret pe_bl)) pss_nil)
        (pss_cons (ps_if (pt_cmpR op_ne (pe_callB call_len_seq (by rfl) ge boot_len (pa_cons (pv 0) pa_nil)) (pe_callB call_len_seq (by rfl) ge boot_len (pa_cons (pv 1) pa_nil)) (nomark _)) (pss_one (ps_ret pe_bl)) pss_nil)
        (pss_cons (ps_for PassesOwn.never rfl (pi_range1 rfl gr (pa_cons (pe_callB call_len_seq (by rfl) ge boot_len (pa_cons (pv 1) pa_nil)) pa_nil)) (pg_name (i := 2) nd rfl (Or.inl rfl))
          (pss_one (ps_if (pt_not (pt_val (pe_call G hr rfl gA kA bA .nil pass0 (pa_cons (pe_ix ix_seq (pv 0) (pv 2) (fun _ _ => rfl)) (pa_cons (pe_ix ix_seq (pv 1) (pv 2) (fun _ _ => rfl)) pa_nil))))) (pss_one (ps_ret pe_bl)) pss_nil)))
        (pss_one (ps_ret pe_bl))))))))), ?_⟩
      cases d with
      | none =>
        cases hx
        cases hy
        exact ⟨_, rfl, _, rfl, iteT ⟨_, rfl, k H (Same.refl H)⟩⟩
      | bool b =>
        cases hx
        cases hy
        refine ⟨_, rfl, _, rfl, iteF ?_⟩
        refine ⟨_, rfl, _, _, _, _, _, rfl, ClsV.ty _, .base (.bl _), kit_ty (by decide +kernel), _, rfl, iteT ?_⟩
        refine ⟨_, rfl, _, _, _, _, _, rfl, ClsV.ty _, .base (.bl _), kit_ty (by decide +kernel), _, rfl, iteT ?_⟩
        refine ⟨_, rfl, _, rfl, rfl, ?_⟩
        exact eqT (k H (Same.refl H))
      | int i =>
        cases hx
        cases hy
        refine ⟨_, rfl, _, rfl, iteF ?_⟩
        refine ⟨_, rfl, _, _, _, _, _, rfl, ClsV.ty _, .base (.int _), kit_ty (by decide +kernel), _, rfl, iteF ?_⟩
        refine ⟨_, rfl, _, _, _, _, _, rfl, ClsV.ty _, .base (.int _), kit_ty (by decide +kernel), _, rfl, iteT ?_⟩
        refine ⟨_, rfl, _, _, _, _, _, rfl, ClsV.ty _, .base (.int _), kit_ty (by decide +kernel), _, rfl, iteT ?_⟩
        refine ⟨_, rfl, _, _, _, _, _, rfl, ClsV.ty _, .base (.int _), kit_ty (r := false) (by decide +kernel), _, rfl, _, rfl, iteT ?_⟩
        refine ⟨_, rfl, _, rfl, rfl, ?_⟩
        exact eqT (k H (Same.refl H))
      | str z =>
        cases hx
        cases hy
        refine ⟨_, rfl, _, rfl, iteF ?_⟩
        refine ⟨_, rfl, _, _, _, _, _, rfl, ClsV.ty _, .base (.str _), kit_ty (by decide +kernel), _, rfl, iteF ?_⟩
        refine ⟨_, rfl, _, _, _, _, _, rfl, ClsV.ty _, .base (.str _), kit_ty (by decide +kernel), _, rfl, iteF ?_⟩
        refine ⟨_, rfl, _, _, _, _, _, rfl, ClsV.ty _, .base (.str _), kit_ty (by decide +kernel), _, rfl, iteT ?_⟩
        refine ⟨_, rfl, _, _, _, _, _, rfl, ClsV.ty _, .base (.str _), kit_ty (by decide +kernel), _, rfl, iteT ?_⟩
        refine ⟨_, rfl, _, rfl, rfl, ?_⟩
        exact eqT (k H (Same.refl H))
      | list ds =>
        cases hx with
        | lst qx rx =>
        cases hy with
        | lst qy ry =>
          rename_i p xs q ys
          have lx := DpAll.len rx
          have ly := DpAll.len ry
          have ho1 : ds.length ≤ 4000 := ho.1
          refine ⟨_, rfl, _, rfl, iteF ?_⟩
          refine ⟨_, rfl, _, _, _, _, _, rfl, ClsV.ty _, tyL qy, kit_ty (by decide +kernel), _, rfl, iteF ?_⟩
          refine ⟨_, rfl, _, _, _, _, _, rfl, ClsV.ty _, tyL qy, kit_ty (by decide +kernel), _, rfl, iteF ?_⟩
          refine ⟨_, rfl, _, _, _, _, _, rfl, ClsV.ty _, tyL qy, kit_ty (by decide +kernel), _, rfl, iteF ?_⟩
          refine ⟨_, rfl, _, _, _, _, _, rfl, ClsV.ty _, tyL qx, kit_ty (r := true) (by decide +kernel), _, rfl, _, _, _, _, _, rfl, ClsV.ty _, tyL qy, kit_ty (r := true) (by decide +kernel), rfl, _, rfl, ?_⟩
          refine iteNS rfl ?_
          refine ⟨_, rfl, _, _, _, _, _, rfl, ClsV.ty _, tyL qx, kit_ty (r := false) (by decide +kernel), _, rfl, _, _, _, _, _, rfl, ClsV.ty _, tyL qy, kit_ty (r := false) (by decide +kernel), rfl, _, rfl, ?_⟩
          refine iteNS rfl ?_
          refine ⟨_, rfl, _, _, rfl, .inl qx, _, rfl, _, _, rfl, .inl qy, rfl, _, rfl, ?_⟩
          refine iteNS (by rw [lx, ly]) ?_
          refine ⟨_, rfl, _, _, rfl, .inl qy, _, rfl, by omega, by omega, for_range (fun i σ H2 => ∃ u, σ = [some (.ref p), some (.ref q), u] ∧ Same H H2) ⟨_, rfl, Same.refl H⟩ ?_ ?_⟩
          · rintro i σ H2 hi ⟨u, rfl, s2⟩
            rw [Int.toNat_natCast] at hi
            have e0 : (0 : Int) + (i : Int) = (i : Int) := Int.zero_add _
            obtain ⟨vy, hvy⟩ : ∃ v, ys[i]? = some v := ⟨ys[i], List.getElem?_eq_getElem hi⟩
            obtain ⟨vx, hvx⟩ : ∃ v, xs[i]? = some v := ⟨xs[i], List.getElem?_eq_getElem (by omega)⟩
            obtain ⟨d1, g1, dx⟩ := DpAll.at_ rx hvx
            obtain ⟨d2, g2, dy⟩ := DpAll.at_ ry hvy
            rw [g1] at g2
            cases g2
            refine ⟨_, rfl, _, rfl, .inl ⟨p, xs, _, vx, rfl, rfl, Same.seq s2 qx, (by rw [e0]; exact atI_nat hvx), _, rfl, _, rfl, .inl ⟨q, ys, _, vy, rfl, rfl, Same.seq s2 qy, (by rw [e0]; exact atI_nat hvy), ?_⟩⟩⟩
            refine ⟨vx, vy, d1, rfl, Dp.same s2 _ _ dx, Dp.same s2 _ _ dy, ho.2 d1 (List.mem_of_getElem? g1), fun H3 s3 => ⟨_, rfl, iteF ⟨_, rfl, s2.trans s3⟩⟩⟩
          · rintro σ H2 ⟨u, rfl, s2⟩
            exact k H2 s2
      | tuple ds =>
        cases hx with
        | tup qx rx =>
        cases hy with
        | tup qy ry =>
          rename_i p xs q ys
          have lx := DpAll.len rx
          have ly := DpAll.len ry
          have ho1 : ds.length ≤ 4000 := ho.1
          refine ⟨_, rfl, _, rfl, iteF ?_⟩
          refine ⟨_, rfl, _, _, _, _, _, rfl, ClsV.ty _, tyT qy, kit_ty (by decide +kernel), _, rfl, iteF ?_⟩
          refine ⟨_, rfl, _, _, _, _, _, rfl, ClsV.ty _, tyT qy, kit_ty (by decide +kernel), _, rfl, iteF ?_⟩
          refine ⟨_, rfl, _, _, _, _, _, rfl, ClsV.ty _, tyT qy, kit_ty (by decide +kernel), _, rfl, iteF ?_⟩
          refine ⟨_, rfl, _, _, _, _, _, rfl, ClsV.ty _, tyT qx, kit_ty (r := false) (by decide +kernel), _, rfl, _, _, _, _, _, rfl, ClsV.ty _, tyT qy, kit_ty (r := false) (by decide +kernel), rfl, _, rfl, ?_⟩
          refine iteNS rfl ?_
          refine ⟨_, rfl, _, _, _, _, _, rfl, ClsV.ty _, tyT qx, kit_ty (r := true) (by decide +kernel), _, rfl, _, _, _, _, _, rfl, ClsV.ty _, tyT qy, kit_ty (r := true) (by decide +kernel), rfl, _, rfl, ?_⟩
          refine iteNS rfl ?_
          refine ⟨_, rfl, _, _, rfl, .inr qx, _, rfl, _, _, rfl, .inr qy, rfl, _, rfl, ?_⟩
          refine iteNS (by rw [lx, ly]) ?_
          refine ⟨_, rfl, _, _, rfl, .inr qy, _, rfl, by omega, by omega, for_range (fun i σ H2 => ∃ u, σ = [some (.ref p), some (.ref q), u] ∧ Same H H2) ⟨_, rfl, Same.refl H⟩ ?_ ?_⟩
          · rintro i σ H2 hi ⟨u, rfl, s2⟩
            rw [Int.toNat_natCast] at hi
            have e0 : (0 : Int) + (i : Int) = (i : Int) := Int.zero_add _
            obtain ⟨vy, hvy⟩ : ∃ v, ys[i]? = some v := ⟨ys[i], List.getElem?_eq_getElem hi⟩
            obtain ⟨vx, hvx⟩ : ∃ v, xs[i]? = some v := ⟨xs[i], List.getElem?_eq_getElem (by omega)⟩
            obtain ⟨d1, g1, dx⟩ := DpAll.at_ rx hvx
            obtain ⟨d2, g2, dy⟩ := DpAll.at_ ry hvy
            rw [g1] at g2
            cases g2
            refine ⟨_, rfl, _, rfl, .inr (.inl ⟨p, xs, _, vx, rfl, rfl, Same.seqT s2 qx, (by rw [e0]; exact atI_nat hvx), _, rfl, _, rfl, .inr (.inl ⟨q, ys, _, vy, rfl, rfl, Same.seqT s2 qy, (by rw [e0]; exact atI_nat hvy), ?_⟩)⟩)⟩
            refine ⟨vx, vy, d1, rfl, Dp.same s2 _ _ dx, Dp.same s2 _ _ dy, ho.2 d1 (List.mem_of_getElem? g1), fun H3 s3 => ⟨_, rfl, iteF ⟨_, rfl, s2.trans s3⟩⟩⟩
          · rintro σ H2 ⟨u, rfl, s2⟩
            exact k H2 s2
      | dict _ => exact (show False from ho).elim
end
end Kd

namespace Kd
open PySem PySem.Spec PyProof.Rows L2
/-! ### text * number -/
theorem op_rep_str {X : Cx} : OpR X (binaryOp .Mult) (fun x y H Q => ∃ z n, x = .str z ∧ y = .int n ∧ MulOk z n ∧ Q (.str (Txt.mul z n)) H) := by
  intro pins s σ H x y v u Q I rx ry h
  obtain ⟨z, n, rfl, rfl, hz, q⟩ := h
  obtain ⟨t, rfl⟩ := rx
  obtain ⟨t2, rfl⟩ := ry
  exact SB.mul hz fun t3 k => ⟨.str (Txt.mul z n), H, I.tok _, ⟨_, rfl⟩, q⟩
/-! ### trays -/
section
variable {H H' H1 H2 H3 : Hp} {a g p D b : Addr} {n m : Nat} {o : HO}
theorem Tray.same (s : Same H H') (t : Tray H a g n) : Tray H' a g n := by
  obtain ⟨c, f, k, gs, h1, h2, h3⟩ := t.ex
  exact ⟨c, f, k, gs, s _ _ h1, s _ _ h2, h3⟩
theorem Tray.new (t : Tray H a g n) (h : H p = Option.none) : Tray (upd H p o) a g n := t.same (same_new h)
theorem Tray.mono (t : Tray H a g n) (h : n ≤ m) : Tray H a g m := by
  obtain ⟨c, f, k, gs, h1, h2, h3, h4, h5⟩ := t.ex
  exact ⟨c, f, k, gs, h1, h2, h3, h4, by omega⟩
theorem Tray.na (t : Tray H a g n) (h : H p = Option.none) : p ≠ a ∧ p ≠ g := by
  obtain ⟨c, f, k, gs, h1, h2, _⟩ := t.ex
  exact ⟨(ne_of_none h1 h).symm, (ne_of_none h2 h).symm⟩
theorem Tray.cd (t : Tray H a g n) (ha : D ≠ a) (hg : D ≠ g) : Tray (cd D H) a g n := by
  obtain ⟨c, f, k, gs, h1, h2, h3⟩ := t.ex
  exact ⟨c, f, k, gs, cd_of h1 ha.symm, cd_of h2 hg.symm, h3⟩
theorem ctnew (h : H p = Option.none) : Same (ct a g H) (ct a g (upd H p o)) := ct_same (same_new h)
theorem ctcd (hD : H1 D = Option.none) (s1 : Same (ct a g H1) (ct a g (cd D H2))) (s2 : Same (ct a g H2) (ct a g H3)) : Same (ct a g H1) (ct a g (cd D H3)) := fun b o e => by
  obtain ⟨na, ng⟩ := ct_ne e
  have nD : b ≠ D := ne_of_none (ct_sub _ _ e) hD
  have e2 := ct_sub _ _ (s1 b o e)
  exact ct_of (cd_of (ct_sub _ _ (s2 b o (ct_of (cd_sub _ _ e2) na ng))) nD) na ng
/-- an object that is no part of the tray stays over a draw -/
theorem ctkeep (s : Same (ct a g H) (ct a g H')) (e : H b = some o) (ha : b ≠ a) (hg : b ≠ g) : H' b = some o := ct_sub _ _ (s b o (ct_of e ha hg))
end
/-! ### names -/
theorem nm_iff {z : Str} : nmB z = true ↔ IsNm z := by
  unfold nmB
  rw [Bool.and_eq_true, Bool.and_eq_true, decide_eq_true_iff, decide_eq_true_iff, List.all_eq_true]
  constructor
  · rintro ⟨h1, h2, h3⟩
    exact ⟨fun c hc => of_decide_eq_true (h3 c hc), h1, h2⟩
  · rintro ⟨h1, h2, h3⟩
    exact ⟨h2, h3, fun c hc => decide_eq_true (h1 c hc)⟩
/-- a name, or the empty text -/
structure Nm0 (z : Str) : Prop where
  low : Low z
  le8 : z.length ≤ 8
theorem IsNm.nm0 {z : Str} (h : IsNm z) : Nm0 z := ⟨h.low, h.le8⟩
theorem Nm0.nm {z : Str} (h : Nm0 z) (ne : z ≠ Str.empty) : IsNm z := ⟨h.low, by
  rcases Nat.eq_zero_or_pos z.length with e | e
  · refine absurd (Str.ext' (Array.eq_empty_of_size_eq_zero e)) ne
  · exact e, h.le8⟩
theorem cut8 (z : Str) : (cutS z none (some 8)).length ≤ 8 := by
  show (((z.cps.toList.drop (HT.sIx z.length 0 none)).take (HT.sIx z.length z.length (some 8) - HT.sIx z.length 0 none)).toArray).size ≤ 8
  rw [List.size_toArray, List.length_take, HT.sIx_none]
  have e : HT.sIx z.length z.length (some ((8 : Nat) : Int)) = min 8 z.length := HT.sIx_nat _ _ _
  have e2 : HT.sIx z.length z.length (some 8) = min 8 z.length := e
  rw [e2]
  omega
theorem flat_len : ∀ (parts : List Str), (∀ z ∈ parts, z.length = 1) → ((parts.map fun z => z.cps.toList).flatten).length = parts.length
  | [], _ => rfl
  | z :: r, h => by
    have ih := flat_len r fun y hy => h y (List.mem_cons_of_mem _ hy)
    have h1 := h z (List.mem_cons_self ..)
    have h2 : z.cps.toList.length = 1 := by rw [Array.length_toList]; exact h1
    rw [List.map_cons, List.flatten_cons, List.length_append, ih, h2, List.length_cons]
    omega
theorem joined {y : Str} (hy : y.cps.toList = []) (parts : List Str) (h1 : ∀ z ∈ parts, z.length = 1) (h2 : ∀ z ∈ parts, Low z) : Low (Txt.join y parts) ∧ (Txt.join y parts).length = parts.length := by
  have e := join_list_eq y hy parts
  constructor
  · intro c hc
    rw [e] at hc
    obtain ⟨l, hl, hcl⟩ := List.mem_flatten.mp hc
    obtain ⟨z, hz, rfl⟩ := List.mem_map.mp hl
    exact h2 z hz c hcl
  · have e2 : (Txt.join y parts).length = (Txt.join y parts).cps.toList.length := by rw [Array.length_toList]; rfl
    rw [e2, e]
    exact flat_len parts h1
theorem sum_ones : ∀ (parts : List Str), (∀ z ∈ parts, z.length = 1) → (parts.map (·.length)).sum = parts.length
  | [], _ => rfl
  | z :: r, h => by
    have ih := sum_ones r fun y hy => h y (List.mem_cons_of_mem _ hy)
    rw [List.map_cons, List.sum_cons, ih, h z (List.mem_cons_self ..), List.length_cons]
    omega
/-- one sign so many times -/
theorem mul_one (c : Nat) (n : Nat) (hn : 2 ≤ n) : Txt.mul ⟨#[c]⟩ (n : Int) = ⟨(List.replicate n c).toArray⟩ := by
  unfold Txt.mul
  have e : ((n : Int) == 1 || (⟨#[c]⟩ : Str).length == 0) = false := by
    have h1 : ((n : Int) == 1) = false := by simp; omega
    have h2 : ((⟨#[c]⟩ : Str).length == 0) = false := rfl
    rw [h1, h2]
    rfl
  rw [if_neg (by omega), e, if_neg Bool.false_ne_true, Int.toNat_natCast]
  have h : ∀ (k : Nat) (acc : List Nat), (List.replicate k #[c]).foldl (· ++ ·) acc.toArray = (acc ++ List.replicate k c).toArray := fun k => by
    induction k with
    | zero => intro acc; simp
    | succ k ih =>
      intro acc
      rw [List.replicate_succ, List.foldl_cons]
      have e2 : acc.toArray ++ #[c] = (acc ++ [c]).toArray := by simp
      rw [e2, ih, List.replicate_succ, List.append_assoc]
      rfl
  have h2 := h n []
  congr 1
theorem mul_nm0 {c : Nat} (hc : 97 ≤ c ∧ c ≤ 122) {n : Nat} (h1 : 2 ≤ n) (h2 : n ≤ 8) : Nm0 (Txt.mul ⟨#[c]⟩ (n : Int)) := by
  rw [mul_one c n h1]
  refine ⟨fun d hd => ?_, ?_⟩
  · have e : d = c := List.eq_of_mem_replicate hd
    rw [e]
    exact hc
  · show (List.replicate n c).toArray.size ≤ 8
    rw [List.size_toArray, List.length_replicate]
    exact h2
theorem mulOk_one (c : Nat) {n : Nat} (h : n ≤ 8) : MulOk ⟨#[c]⟩ (n : Int) := by
  refine ⟨?_, fun h1 _ => ?_, fun _ _ => ?_⟩
  · rw [Bool.or_eq_false_iff]
    exact ⟨decide_eq_false (by omega), decide_eq_false (by omega)⟩
  · show ¬ ((1 : Int) > (2 ^ 63 - 1) / (n : Int))
    have : (1 : Int) ≤ (2 ^ 63 - 1) / (n : Int) := by
      rw [Int.le_ediv_iff_mul_le (by omega)]
      omega
    omega
  · show Builtin.Str.tooLong (1 * (n : Int).toNat) = false
    rw [Int.toNat_natCast, Nat.one_mul]
    have : ∀ k, k ≤ 8 → Builtin.Str.tooLong k = false := by decide
    exact this n h
end Kd

namespace Kd
open PySem PySem.Spec PyProof.Rows L2
section
variable {P : Program} {w : World} {K : PySem.W.Frag} {mg : Str → Option Value} {base : Heap} {f : Addr} {fd : FuncData}
def spName (K : PySem.W.Frag) : Sp := fun vs H Q _ => ∃ (a g u : Addr) (n : Nat) (us : List Str), vs = [.ref a, .ref u] ∧ Tray H a g n ∧ n ≤ 900000 ∧ SqL K (ct a g H) u (us.map V.str) ∧ us.length ≤ 20 ∧ (∀ z ∈ us, IsNm z) ∧
  ∀ z H', IsNm z → z ∉ us → Tray H' a g (n + 13) → Same (ct a g H) (ct a g H') → Q (.str z) H'
abbrev nmN : List Str := ["tray", "used", "letters", "lot", "letter", "k", "name", "words", "old", "at", "one", "some"]
theorem sc_name : FnScope nmN ["tray", "used"] (defScope s_l_name) := ⟨rfl, rfl, rfl, by decide +kernel, rfl, by decide +kernel, by decide +kernel⟩
abbrev rMulS : R2 := fun x y H Q => ∃ z n, x = .str z ∧ y = .int n ∧ MulOk z n ∧ Q (.str (Txt.mul z n)) H
abbrev tDraw (i : Int) : TE := tCall spDraw [] E0 (tCons (tVar 0) (tCons (tC (.int i)) tNil))
/-! #### the last two statements -/
def tTail (K : PySem.W.Frag) : TS := tSeq (tAsg (tOp rCat (tOp rCat (tOp rCat (tLst (tCons (tVar 6) tNil)) (tLc (iStr (tVar 2)) (gName 10) tYes (tVar 10) [10])) (tLc (iStr (tVar 2)) (gName 10) tYes (tOp rMulS (tVar 10) (tC (.int 3))) [10])) (tLc (iStr (tVar 2)) (gName 10) tYes (tOp rMulS (tVar 10) (tC (.int 5))) [10])) (gName 11))
  (tRet (tOp (rIxL K) (tLc (iList K (tVar 11)) (gName 10) (tAnd (tTest (tOp rNe (tVar 10) (tC (.str Str.empty)))) (tTest (tOp (rIn K true) (tVar 10) (tVar 1)))) (tVar 10) [10]) (tC (.int 0))))
theorem cd_is {D : Addr} {H H0 : Hp} (e : cd D H = H0) : Same H0 H := by rw [← e]; exact cd_sub
def tens (F : Nat → Str) (i : Nat) : List V := ((abc.cps.toList.take i).map F).map V.str
theorem tens_add {F : Nat → Str} {i c : Nat} (h : abc.cps[i]? = some c) : tens F i ++ [.str (F c)] = tens F (i + 1) := by
  have h2 : abc.cps.toList[i]? = some c := by rw [Array.getElem?_toList]; exact h
  obtain ⟨h3, h4⟩ := List.getElem?_eq_some_iff.mp h2
  unfold tens
  rw [List.take_succ_eq_append_getElem h3, List.map_append, List.map_append, h4]
  rfl
theorem tens_all (F : Nat → Str) : tens F abc.cps.size = ((List.range' 97 26).map F).map V.str := by
  unfold tens
  rw [List.take_of_length_le (by rw [Array.length_toList]; exact Nat.le_refl _), abc_list]
/-- a comprehension over the letters that makes nothing but texts -/
theorem lc_abc {te : TE} {σ : L2.St} {H1 : Hp} {D : Addr} {Qd : Hp → Prop} (F : Nat → Str) (hD : H1 D = none) (h10 : wipe ((wipe σ [10]).set 10 none) [10] = wipe σ [10])
    (hw : ∀ v, wipe ((wipe σ [10]).set 10 v) [10] = wipe σ [10]) (hte : ∀ (c : Nat) (H2 : Hp) (Q : VK), 97 ≤ c ∧ c ≤ 122 → Q (.str (F c)) H2 → te ((wipe σ [10]).set 10 (some (.str ⟨#[c]⟩))) H2 Q)
    (hd : ∀ H2, H2 D = some (.lst (((List.range' 97 26).map F).map V.str)) → cd D H2 = H1 → Qd H2) :
    ∃ W : Nat → Nat → Hp → Prop, (∃ m, W 0 m (upd H1 D (.lst []))) ∧ ∀ i m H, W i m H →
      ((Its abc).stop i H ∧ Qd H) ∨ ((Its abc).go i H ∧ ∃ Nx : Hp → Prop, (∀ H', Nx H' → ∃ m', m' < m ∧ W (i + 1) m' H') ∧ ∀ x H', (Its abc).yld i H x H' → gName 10 x (wipe σ [10]) H' fun σ2 H2 => wipe σ2 [10] = wipe σ [10] ∧ tYes σ2 H2 fun b H3 =>
        if b = true then te σ2 H3 fun y H4 => ∃ acc, H4 D = some (.lst acc) ∧ acc.length < sizeLine ∧ Nx (upd H4 D (.lst (acc ++ [y]))) else Nx H3) := by
  refine lc_build walk_str hD (fun i ys R => R = H1 ∧ ys = tens F i) ⟨rfl, rfl⟩ (fun _ _ _ _ _ => trivial) ?_ ?_
  · rintro i ys x H2 H2' hi e l ⟨e1, rfl⟩ ⟨rfl, c, hc, rfl⟩
    have hc2 : c ∈ abc.cps.toList := by
      have h2 : abc.cps.toList[i]? = some c := by rw [Array.getElem?_toList]; exact hc
      exact List.mem_of_getElem? h2
    refine ⟨hw _, yes (hte c _ _ (mem_abc.mp hc2) (LcNx.add e l ?_ ⟨e1, tens_add hc⟩))⟩
    have h3 : abc.cps.size = 26 := abc_len
    omega
  · rintro ys H2 e l ⟨e1, rfl⟩
    rw [tens_all] at e
    exact hd H2 e e1
theorem inV_strs (z : Str) : ∀ us : List Str, inV (.str z) (us.map V.str) = decide (z ∈ us)
  | [] => by simp [inV]
  | y :: us => by
    have ih := inV_strs z us
    unfold inV at ih ⊢
    rw [List.map_cons, List.any_cons, ih]
    have e : eqV (.str y) (.str z) = decide (z = y) := by
      show (y == z) = decide (z = y)
      by_cases q : z = y
      · simp [q]
      · have q2 : ¬ y = z := fun h => q h.symm
        simp [q, q2]
    rw [e]
    simp [List.mem_cons]
theorem flat_strs : ∀ us : List Str, (us.map V.str).all flatV = true
  | [] => rfl
  | _ :: us => by
    rw [List.map_cons, List.all_cons, flat_strs us]
    rfl
def keepB (us : List Str) (z : Str) : Bool := !decide (z = Str.empty) && !decide (z ∈ us)
theorem free_letter {us : List Str} (h : us.length ≤ 20) : ∃ c, 97 ≤ c ∧ c ≤ 122 ∧ (⟨#[c]⟩ : Str) ∉ us := by
  apply Classical.byContradiction
  intro hn
  have h1 : ∀ z ∈ (List.range' 97 26).map (fun c => (⟨#[c]⟩ : Str)), z ∈ us := fun z hz => by
    obtain ⟨c, hc, rfl⟩ := List.mem_map.mp hz
    rw [List.mem_range'_1] at hc
    apply Classical.byContradiction
    intro hq
    exact hn ⟨c, by omega, by omega, hq⟩
  have h2 : ((List.range' 97 26).map (fun c => (⟨#[c]⟩ : Str))).Nodup := by decide +kernel
  have h3 := List.Nodup.length_le_of_subset h2 h1
  rw [List.length_map, List.length_range'] at h3
  omega
theorem tail_ok {a g u : Addr} {n m : Nat} {us : List Str} {z : Str} {x3 x4 x5 x7 x8 x9 x10 x11 : Option V} {H Hx : Hp} {Q : VK} {nx : L2.St → Hp → Prop} (hT : Tray Hx a g m) (hm : m ≤ n + 13) (hu : SqL K (ct a g H) u (us.map V.str)) (hs : Same (ct a g H) (ct a g Hx)) (hul : us.length ≤ 20) (hz : Nm0 z)
    (k : ∀ z H', IsNm z → z ∉ us → Tray H' a g (n + 13) → Same (ct a g H) (ct a g H') → Q (.str z) H') :
    tTail K { nx := nx, rt := Q } [some (.ref a), some (.ref u), some (.str abc), x3, x4, x5, some (.str z), x7, x8, x9, x10, x11] Hx := by
  refine ⟨_, rfl, by show 1 ≤ sizeLine; decide, fun p1 n1 => ?_⟩
  refine ⟨_, rfl, abc, rfl, fun D1 d1 => lc_abc (fun c => ⟨#[c]⟩) d1 rfl (fun _ => rfl) (fun c H2 Q2 _ q => ⟨_, rfl, q⟩) fun H2 e2 c2 => ?_⟩
  have s2 := cd_is c2
  have h2 : H2 p1 = some (.lst [.str z]) := s2 _ _ upd_same
  refine ⟨p1, D1, _, _, rfl, rfl, h2, e2, le_line (by simp), fun p3 n3 => ?_⟩
  refine ⟨_, rfl, abc, rfl, fun D4 d4 => lc_abc (fun c => Txt.mul ⟨#[c]⟩ 3) d4 rfl (fun _ => rfl) (fun c H2 Q2 _ q => ⟨_, rfl, _, _, rfl, rfl, mulOk_one c (n := 3) (by decide), q⟩) fun H4 e4 c4 => ?_⟩
  have s4 := cd_is c4
  refine ⟨p3, D4, _, _, rfl, rfl, s4 _ _ upd_same, e4, le_line (by simp), fun p5 n5 => ?_⟩
  refine ⟨_, rfl, abc, rfl, fun D6 d6 => lc_abc (fun c => Txt.mul ⟨#[c]⟩ 5) d6 rfl (fun _ => rfl) (fun c H2 Q2 _ q => ⟨_, rfl, _, _, rfl, rfl, mulOk_one c (n := 5) (by decide), q⟩) fun H6 e6 c6 => ?_⟩
  have s6 := cd_is c6
  refine ⟨p5, D6, _, _, rfl, rfl, s6 _ _ upd_same, e6, le_line (by simp), fun p7 n7 => ?_⟩
  have sx : Same Hx (upd H6 p7 (.lst ([.str z] ++ ((List.range' 97 26).map fun c => (⟨#[c]⟩ : Str)).map V.str ++ ((List.range' 97 26).map fun c => Txt.mul ⟨#[c]⟩ 3).map V.str ++ ((List.range' 97 26).map fun c => Txt.mul ⟨#[c]⟩ 5).map V.str))) :=
    (((((same_new n1).trans s2).trans (same_new n3)).trans s4).trans (same_new n5)).trans (s6.trans (same_new n7))
  have eS : ([V.str z] ++ ((List.range' 97 26).map fun c => (⟨#[c]⟩ : Str)).map V.str ++ ((List.range' 97 26).map fun c => Txt.mul ⟨#[c]⟩ 3).map V.str ++ ((List.range' 97 26).map fun c => Txt.mul ⟨#[c]⟩ 5).map V.str) =
      (z :: ((List.range' 97 26).map (fun c => (⟨#[c]⟩ : Str)) ++ (List.range' 97 26).map (fun c => Txt.mul ⟨#[c]⟩ 3) ++ (List.range' 97 26).map (fun c => Txt.mul ⟨#[c]⟩ 5))).map V.str := by
    simp only [List.map_cons, List.map_append, List.singleton_append, List.cons_append, List.nil_append]
  rw [eS] at sx ⊢
  generalize hSd : z :: ((List.range' 97 26).map (fun c => (⟨#[c]⟩ : Str)) ++ (List.range' 97 26).map (fun c => Txt.mul ⟨#[c]⟩ 3) ++ (List.range' 97 26).map (fun c => Txt.mul ⟨#[c]⟩ 5)) = S at sx ⊢
  have hSl : S.length ≤ 4000 := by rw [← hSd]; simp
  have hS0 : ∀ y ∈ S, Nm0 y := fun y hy => by
    rw [← hSd] at hy
    rcases List.mem_cons.mp hy with rfl | hy
    · exact hz
    · rcases List.mem_append.mp hy with hy | hy
      · rcases List.mem_append.mp hy with hy | hy
        · obtain ⟨c, hc, rfl⟩ := List.mem_map.mp hy
          rw [List.mem_range'_1] at hc
          exact (IsNm.one (by omega)).nm0
        · obtain ⟨c, hc, rfl⟩ := List.mem_map.mp hy
          rw [List.mem_range'_1] at hc
          exact mul_nm0 (n := 3) (by omega) (by decide) (by decide)
      · obtain ⟨c, hc, rfl⟩ := List.mem_map.mp hy
        rw [List.mem_range'_1] at hc
        exact mul_nm0 (n := 5) (by omega) (by decide) (by decide)
  have hS1 : ∀ c, 97 ≤ c ∧ c ≤ 122 → (⟨#[c]⟩ : Str) ∈ S := fun c hc => by
    rw [← hSd]
    refine List.mem_cons_of_mem _ (List.mem_append_left _ (List.mem_append_left _ (List.mem_map.mpr ⟨c, ?_, rfl⟩)))
    rw [List.mem_range'_1]
    omega
  refine ⟨_, rfl, p7, rfl, ⟨_, SqL.of upd_same⟩, fun D hD => lc_build (walk_list (K := K) (a := p7) (xs := S.map V.str)) hD (fun i ys R => R = upd H6 p7 (.lst (S.map V.str)) ∧ ys = ((S.take i).filter (keepB us)).map V.str) ⟨rfl, rfl⟩ (fun i ys H2 _ p => SqL.of (cd_is p.1 _ _ upd_same)) ?_ ?_⟩
  · rintro i ys x H2 H2' hi e l ⟨c, rfl⟩ ⟨rfl, hy⟩
    obtain ⟨y, rfl, hy2⟩ := strs_at hy
    rw [List.length_map] at hi
    have hu2 : SqL K H2' u (us.map V.str) := (((hs.trans (ct_same sx)).trans ct_sub).trans (cd_is c)).seq hu
    refine ⟨rfl, _, rfl, rfl, _, rfl, ?_⟩
    obtain ⟨g1, g2⟩ := List.getElem?_eq_some_iff.mp hy2
    have et : (S.take (i + 1)).filter (keepB us) = (S.take i).filter (keepB us) ++ [y].filter (keepB us) := by
      rw [List.take_succ_eq_append_getElem g1, List.filter_append, g2]
    by_cases c1 : y = Str.empty
    · have e1 : keepB us y = false := by unfold keepB; rw [decide_eq_true c1]; rfl
      rw [c1]
      refine iteNS rfl ?_
      refine iteF (LcNx.skip e l ⟨c, ?_⟩)
      rw [et, List.filter_cons_of_neg (by rw [e1]; decide), List.filter_nil, List.append_nil]
    · have e0 : (!decide (V.str y = V.str Str.empty)) = true := by
        rw [decide_eq_false (fun q => c1 (by injection q))]
        rfl
      rw [e0]
      refine iteT ⟨_, rfl, _, rfl, u, _, rfl, .inl hu2, rfl, flat_strs us, _, rfl, ?_⟩
      rw [inV_strs]
      by_cases c2 : y ∈ us
      · have e1 : keepB us y = false := by unfold keepB; rw [decide_eq_true c2, Bool.not_true, Bool.and_false]
        rw [decide_eq_true c2]
        refine iteF (LcNx.skip e l ⟨c, ?_⟩)
        rw [et, List.filter_cons_of_neg (by rw [e1]; decide), List.filter_nil, List.append_nil]
      · have e1 : keepB us y = true := by unfold keepB; rw [decide_eq_false c2, decide_eq_false c1]; rfl
        rw [decide_eq_false c2]
        refine iteT ⟨_, rfl, LcNx.add e l (by omega) ⟨c, ?_⟩⟩
        rw [et, List.filter_cons_of_pos e1, List.filter_nil, List.map_append]
        rfl
  · rintro ys H2 e l ⟨c, rfl⟩
    rw [List.length_map, List.take_length] at e
    obtain ⟨c1, c2, c3, c4⟩ := free_letter hul
    have hmem : (⟨#[c1]⟩ : Str) ∈ S.filter (keepB us) := List.mem_filter.mpr ⟨hS1 c1 ⟨c2, c3⟩, by
      unfold keepB
      rw [decide_eq_false c4, decide_eq_false (fun q => by
        have q2 : (#[c1] : Array Nat) = #[] := congrArg Str.cps q
        exact absurd (congrArg Array.size q2) (show ¬ (1 : Nat) = 0 by decide))]
      rfl⟩
    cases hf : S.filter (keepB us) with
    | nil => rw [hf] at hmem; cases hmem
    | cons y r =>
      rw [hf] at e
      have hy : y ∈ S.filter (keepB us) := by rw [hf]; exact List.mem_cons_self ..
      obtain ⟨hy1, hy2⟩ := List.mem_filter.mp hy
      unfold keepB at hy2
      rw [Bool.and_eq_true, Bool.not_eq_true', Bool.not_eq_true', decide_eq_false_iff_not, decide_eq_false_iff_not] at hy2
      have s9 : Same Hx H2 := sx.trans (cd_is c)
      refine ⟨D, _, _, _, rfl, rfl, SqL.of e, atI_nat (j := 0) rfl, ?_⟩
      exact k y H2 ((hS0 y hy1).nm hy2.1) hy2.2 ((hT.same s9).mono hm) (hs.trans (ct_same s9))
theorem words_at {j : Nat} (h : j < 12) : ∃ z, (([V.str "dim", V.str "sum", V.str "kind", V.str "fact", V.str "forget", V.str "first", V.str "last", V.str "day", V.str "before", V.str "none", V.str "known", V.str "ok"] : List V)[j]? = some (.str z)) ∧ IsNm z := by
  have h1 : ∀ z ∈ (["dim", "sum", "kind", "fact", "forget", "first", "last", "day", "before", "none", "known", "ok"] : List Str), nmB z = true := by decide +kernel
  have h2 : (["dim", "sum", "kind", "fact", "forget", "first", "last", "day", "before", "none", "known", "ok"] : List Str)[j]? = some ((["dim", "sum", "kind", "fact", "forget", "first", "last", "day", "before", "none", "known", "ok"] : List Str)[j]'h) := List.getElem?_eq_getElem h
  refine ⟨_, ?_, nm_iff.mp (h1 _ (List.getElem_mem h))⟩
  have h3 := congrArg (Option.map V.str) h2
  rw [← List.getElem?_map] at h3
  exact h3
theorem Low.ok {z : Str} (h : Low z) : PyData.strOk z = true := by
  unfold PyData.strOk
  rw [Array.all_eq_true']
  intro c hc
  have := h c (Array.mem_toList_iff.mpr hc)
  exact decide_eq_true (by omega)
theorem lay_strs : ∀ xs : List Str, (∀ z ∈ xs, Low z) → PyData.canLayAll0 (xs.map PyData.str) = true ∧ PyData.depthAll (xs.map PyData.str) = 0
  | [], _ => ⟨rfl, rfl⟩
  | x :: xs, h => by
    obtain ⟨h1, h2⟩ := lay_strs xs fun z hz => h z (List.mem_cons_of_mem _ hz)
    have h3 := (h x (List.mem_cons_self ..)).ok
    constructor
    · simp only [List.map_cons, PyData.canLayAll0, PyData.canLay0, h1, h3, Bool.and_self]
    · simp only [List.map_cons, PyData.depthAll, PyData.depth, h2, Nat.max_self]
theorem shaped_strs (xs : List Str) (h : ∀ z ∈ xs, Low z) : SeqAt.shaped (.list (xs.map PyData.str)) = true := by
  obtain ⟨h1, h2⟩ := lay_strs xs h
  simp [SeqAt.shaped, PyData.canLay0, PyData.depth, h1, h2]
theorem ok_name {fD : Addr} {fdD : FuncData} (F : FnP K "_law_name" "_law_name" s_l_name f fd) (GD : FnOk P w K mg base CX0 1 fD fdD ["tray", "many"] spDraw) (kD : PySem.W.keepIn K (.ref fD) = true) (bD : Binds K fdD ["tray", "many"] []) (gD : mg "_law_draw" = some (.ref fD)) (gr : mg "range" = none) (ge : mg "len" = none) :
    FnOk P w K mg base CX0 2 f fd ["tray", "used"] (spName K) := by
  refine F.ok sc_name (fun vs H Q E h => ?_) (fun cdv A outer s H vs Q E hr h => ?_)
  · obtain ⟨a, g, u, n, us, rfl, _⟩ := h
    rfl
  · obtain ⟨a, g, u, n, us, rfl, hT, hn, hu, hul, hus, k⟩ := h
    have nd := sc_name.nd
    refine ⟨_, PSs.nox (pss_cons (ps_set (i := 2) nd rfl (Or.inr rfl) pe_str)
      (pss_cons (ps_set (i := 3) nd rfl (Or.inl rfl) (pe_call GD hr rfl gD kD bD .nil pass0 (pa_cons (pv 0) (pa_cons pe_int pa_nil))))
      (pss_cons (ps_set (i := 4) nd rfl (Or.inl rfl) (pe_ix ix_str (pv 2) (pe_call GD hr rfl gD kD bD .nil pass0 (pa_cons (pv 0) (pa_cons pe_int pa_nil))) (fun _ _ => rfl)))
      (pss_cons (ps_set (i := 6) nd rfl (Or.inl rfl) (pe_join pe_str (pe_lc (own := [("k", 5)]) (g := gName 5) (tt := tYes) (te := tOp rIxS (tVar 2) (tDraw 26)) rfl nd (pi_range1 rfl gr (pa_cons (pe_op op_add pe_int (pe_call GD hr rfl gD kD bD .nil pass0 (pa_cons (pv 0) (pa_cons pe_int pa_nil)))) pa_nil)) (blkOk_by (own := [("k", 5)]) (N := nmN) (sc := defScope s_l_name) (by decide +kernel))
        (fun _ _ _ _ _ => pg_name (i := 5) nd rfl (Or.inl rfl)) (fun _ _ _ _ _ => pts_nil) (fun _ _ _ _ _ => pe_ix ix_str (pv 2) (pe_call GD hr rfl gD kD bD .nil pass0 (pa_cons (pv 0) (pa_cons pe_int pa_nil))) (fun _ _ => rfl)))))
      (pss_cons (ps_if (pt_cmpR op_eq (pv 3) pe_int (nomark _))
        (pss_cons (ps_set (i := 7) nd rfl (Or.inl rfl) (pe_lst (pa_cons pe_str (pa_cons pe_str (pa_cons pe_str (pa_cons pe_str (pa_cons pe_str (pa_cons pe_str (pa_cons pe_str (pa_cons pe_str (pa_cons pe_str (pa_cons pe_str (pa_cons pe_str (pa_cons pe_str pa_nil))))))))))))))
        (pss_one (ps_set (i := 6) nd rfl (Or.inl rfl) (pe_ix ix_list (pv 7) (pe_call GD hr rfl gD kD bD .nil pass0 (pa_cons (pv 0) (pa_cons pe_int pa_nil))) (fun _ _ => rfl)))))
        (pss_one (ps_if (PW.pt (pw_and (pt_cmpR op_gt (pv 3) pe_int (nomark _)) (pw_and1 (pt_cmpR (op_neD hr.units) (pv 1) (pe_lst pa_nil) (nomark _)))))
          (pss_cons (ps_set (i := 8) nd rfl (Or.inl rfl) (pe_ix ix_list (pv 1) (pe_call GD hr rfl gD kD bD .nil pass0 (pa_cons (pv 0) (pa_cons (pe_callB call_len_seq (by rfl) ge boot_len (pa_cons (pv 1) pa_nil)) pa_nil))) (fun _ _ => rfl)))
          (pss_cons (ps_set (i := 9) nd rfl (Or.inl rfl) (pe_call GD hr rfl gD kD bD .nil pass0 (pa_cons (pv 0) (pa_cons (pe_op op_add (pe_callB call_len_str (by rfl) ge boot_len (pa_cons (pv 8) pa_nil)) pe_int) pa_nil))))
          (pss_one (ps_set (i := 6) nd rfl (Or.inl rfl) (pe_slice sl_str (pe_op op_add_str (pe_op op_add_str (pe_slice sl_str (pv 8) po_none (po_some (pv 9))) (pe_ix ix_list (pe_lst (pa_cons (pv 4) (pa_cons (pv 4) (pa_cons pe_str pa_nil)))) (pe_op op_sub (pv 3) pe_int) (fun _ _ => rfl)))
            (pe_slice sl_str (pv 8) (po_some (pe_op op_add (pv 9) (pe_ix ix_list (pe_lst (pa_cons pe_int (pa_cons pe_int (pa_cons pe_int pa_nil)))) (pe_op op_sub (pv 3) pe_int) (fun _ _ => rfl)))) po_none)) po_none (po_some pe_int)))))) pss_nil)))
      (pss_cons (ps_set (i := 11) nd rfl (Or.inl rfl) (pe_op op_cat (pe_op op_cat (pe_op op_cat (pe_lst (pa_cons (pv 6) pa_nil))
          (pe_lc (own := [("one", 10)]) (g := gName 10) (tt := tYes) rfl nd (pi_str (pv 2)) (blkOk_by (own := [("one", 10)]) (N := nmN) (sc := defScope s_l_name) (by decide +kernel)) (fun _ _ _ _ _ => pg_name (i := 10) nd rfl (Or.inl rfl)) (fun _ _ _ _ _ => pts_nil) (fun _ _ _ _ _ => pv 10)))
          (pe_lc (own := [("one", 10)]) (g := gName 10) (tt := tYes) (te := tOp rMulS (tVar 10) (tC (.int 3))) rfl nd (pi_str (pv 2)) (blkOk_by (own := [("one", 10)]) (N := nmN) (sc := defScope s_l_name) (by decide +kernel)) (fun _ _ _ _ _ => pg_name (i := 10) nd rfl (Or.inl rfl)) (fun _ _ _ _ _ => pts_nil) (fun _ _ _ _ _ => pe_op op_rep_str (pv 10) pe_int)))
          (pe_lc (own := [("one", 10)]) (g := gName 10) (tt := tYes) (te := tOp rMulS (tVar 10) (tC (.int 5))) rfl nd (pi_str (pv 2)) (blkOk_by (own := [("one", 10)]) (N := nmN) (sc := defScope s_l_name) (by decide +kernel)) (fun _ _ _ _ _ => pg_name (i := 10) nd rfl (Or.inl rfl)) (fun _ _ _ _ _ => pts_nil) (fun _ _ _ _ _ => pe_op op_rep_str (pv 10) pe_int))))
      (pss_one (ps_ret (pe_ix ix_list (pe_lc (own := [("one", 10)]) (g := gName 10) (tt := tAnd (tTest (tOp rNe (tVar 10) (tC (.str Str.empty)))) (tTest (tOp (rIn K true) (tVar 10) (tVar 1)))) rfl nd (pi_list (pv 11)) (blkOk_by (own := [("one", 10)]) (N := nmN) (sc := defScope s_l_name) (by decide +kernel)) (fun _ _ _ _ _ => pg_name (i := 10) nd rfl (Or.inl rfl))
          (fun _ _ _ _ _ => pts_one (PW.pt (pw_and (pt_cmpR op_ne (pv 10) pe_str (nomark _)) (pw_and1 (pt_cmpR op_notIn_seq (pv 10) (pv 1) (by rfl)))))) (fun _ _ _ _ _ => pv 10)) pe_int (fun _ _ => rfl)))))))))), ?_⟩
    refine ⟨_, rfl, a, g, n, 5, rfl, hT, by omega, by decide, by decide, fun lot H1 l0 l1 T1 s1 => ?_⟩
    refine ⟨_, rfl, _, rfl, a, g, n + 1, 26, rfl, T1, by omega, by decide, by decide, fun cl H2 c0 c1 T2 s2 => ?_⟩
    obtain ⟨jl, rfl⟩ : ∃ j : Nat, cl = (j : Int) := ⟨cl.toNat, by omega⟩
    refine ⟨abc, _, _, rfl, rfl, le_line (by rw [abc_len]; decide), atI_nat (abc_at (by omega)), ?_⟩
    refine ⟨⟨_, rfl⟩, _, rfl, a, g, n + 1 + 1, 8, rfl, T2, by omega, by decide, by decide, fun r H3 r0 r1 T3 s3 => ?_⟩
    obtain ⟨jr, rfl⟩ : ∃ j : Nat, r = (j : Int) := ⟨r.toNat, by omega⟩
    refine ⟨_, _, rfl, rfl, _, rfl, by omega, by omega, fun D hD => ?_⟩
    have eN : ((1 : Int) + (jr : Int)).toNat = 1 + jr := by omega
    rw [eN]
    obtain ⟨nDa, nDg⟩ := T3.na hD
    refine lc_build (walk_range (lo := 0)) hD (fun i ys R => ∃ parts : List Str, ys = parts.map V.str ∧ parts.length = i ∧ (∀ z ∈ parts, z.length = 1 ∧ Low z) ∧ Tray R a g (n + 3 + i) ∧ Same (ct a g H3) (ct a g R)) ⟨[], rfl, rfl, fun _ h => (nomatch h), T3.mono (by omega), Same.refl _⟩ (fun _ _ _ _ _ => trivial) ?_ ?_
    · rintro i ys x Ha Hb hi e l ⟨parts, rfl, lp, pz, Tp, sp⟩ ⟨rfl, rfl⟩
      refine ⟨rfl, yes ?_⟩
      refine ⟨_, rfl, _, rfl, a, g, n + 3 + i, 26, rfl, Tp.same cd_sub, by omega, by decide, by decide, fun ch Hc h0 h1 Tc sc => ?_⟩
      obtain ⟨jc, rfl⟩ : ∃ j : Nat, ch = (j : Int) := ⟨ch.toNat, by omega⟩
      refine ⟨abc, _, _, rfl, rfl, le_line (by rw [abc_len]; decide), atI_nat (abc_at (by omega)), LcNx.add (ctkeep sc e nDa nDg) l (by omega) ⟨parts ++ [⟨#[97 + jc]⟩], by rw [List.map_append]; rfl, by rw [List.length_append]; show parts.length + 1 = i + 1; omega, fun z hz => ?_, (Tc.cd nDa nDg).mono (by omega), ctcd hD sp sc⟩⟩
      rcases List.mem_append.mp hz with hz | hz
      · exact pz z hz
      · rw [List.mem_singleton.mp hz]
        exact ⟨rfl, Low.one (by omega)⟩
    · rintro ys H4 e l ⟨parts, rfl, lp, pz, Tp, sp⟩
      obtain ⟨jlow, jlen⟩ := joined (y := Str.ofString "") (by decide +kernel) parts (fun z hz => (pz z hz).1) fun z hz => (pz z hz).2
      refine ⟨_, D, parts, rfl, rfl, .inl (SqL.of e), ?_, ?_⟩
      · rw [sum_ones parts fun z hz => (pz z hz).1]
        have e0 : (Str.ofString "").length = 0 := by decide +kernel
        rw [e0]
        omega
      have T4 : Tray H4 a g (n + 11) := (Tp.same cd_sub).mono (by omega)
      have s4 : Same (ct a g H) (ct a g H4) := ((s1.trans s2).trans s3).trans (sp.trans (ct_same cd_sub))
      have hu4 : SqL K H4 u (us.map V.str) := (s4.trans ct_sub).seq hu
      have hu4' : ∀ {p o}, H4 p = none → SqL K (upd H4 p o) u (us.map V.str) := fun h => (same_new h).seq hu4
      have hz4 : Nm0 (Txt.join (Str.ofString "") parts) := ⟨jlow, by omega⟩
      refine ⟨_, rfl, rfl, _, rfl, ?_⟩
      refine ite2 (fun c4 => ?_) (fun c4 => ?_)
      · refine ⟨by show 12 ≤ sizeLine; decide, fun pw nw => ?_⟩
        obtain ⟨nwa, nwg⟩ := T4.na nw
        refine ⟨_, rfl, _, rfl, a, g, n + 11, 12, rfl, T4.new nw, by omega, by decide, by decide, fun q H5 q0 q1 T5 s5 => ?_⟩
        obtain ⟨jq, rfl⟩ : ∃ j : Nat, q = (j : Int) := ⟨q.toNat, by omega⟩
        obtain ⟨wz, w1, w2⟩ := words_at (j := jq) (by omega)
        refine ⟨pw, _, _, _, rfl, rfl, SqL.of (ctkeep s5 upd_same nwa nwg), atI_nat w1, ?_⟩
        exact tail_ok (T5) (by omega) hu ((s4.trans (ctnew nw)).trans s5) hul w2.nm0 k
      · refine ⟨_, rfl, _, _, rfl, rfl, _, rfl, ?_⟩
        have c4 : ¬ lot = 4 := fun q => c4 (decide_eq_true (congrArg V.int q))
        refine ite2 (fun c5 => ?_) (fun c5 => ?_)
        · have c5 : 0 < lot := of_decide_eq_true c5
          refine ⟨_, rfl, by show 0 ≤ sizeLine; decide, fun pe ne => ?_⟩
          refine ⟨.list (us.map PyData.str), .list [], .lst ((hu4' ne)) (DpAll.strs us), .lst (SqL.of upd_same) .nil, shaped_strs us (fun z hz => (hus z hz).low), by decide, _, rfl, ?_⟩
          cases us with
          | nil =>
            refine iteF ?_
            exact tail_ok (T4.new ne) (by omega) hu (s4.trans (ctnew ne)) hul hz4 k
          | cons y0 yr =>
            refine iteT ?_
            have l1 : ((y0 :: yr).map V.str).length = (y0 :: yr).length := List.length_map ..
            refine ⟨_, rfl, _, rfl, _, rfl, u, _, rfl, .inl (hu4' ne), a, g, n + 11, _, rfl, T4.new ne, by omega, by rw [l1]; show (0 : Int) < ((yr.length + 1 : Nat) : Int); omega, by rw [l1]; omega, fun q H5 q0 q1 T5 s5 => ?_⟩
            obtain ⟨jq, rfl⟩ : ∃ j : Nat, q = (j : Int) := ⟨q.toNat, by omega⟩
            have hjq : jq < (y0 :: yr).length := by rw [l1] at q1; omega
            have s45 : Same (ct a g H) (ct a g H5) := (s4.trans (ctnew ne)).trans s5
            have hold := hus _ (List.getElem_mem hjq)
            generalize ho : (y0 :: yr)[jq] = old at hold
            have go : ((y0 :: yr).map V.str)[jq]? = some (.str old) := by rw [List.getElem?_map, List.getElem?_eq_getElem hjq, ho]; rfl
            refine ⟨u, _, _, _, rfl, rfl, (s45.trans ct_sub).seq hu, atI_nat go, ?_⟩
            have lo8 := hold.le8
            refine ⟨_, rfl, _, rfl, old, rfl, le_line (by omega), _, _, rfl, rfl, a, g, n + 11 + 1, _, rfl, T5, by omega, by omega, by omega, fun at_ H6 a0 a1 T6 s6 => ?_⟩
            have l31 : lot = 1 ∨ lot = 2 ∨ lot = 3 := by omega
            have sz0 : ∀ lo hi, (cutS old lo hi).length ≤ 8 := fun lo hi => Nat.le_trans (cutS_length old lo hi) lo8
            have fin : ∀ (t : Str) (lo : Int), Low t → Nm0 (cutS (cutS old none (some at_) ++ t ++ cutS old (some lo) none) none (some 8)) := fun t lo ht => ⟨(((hold.low.cut _ _).append ht).append (hold.low.cut _ _)).cut _ _, cut8 _⟩
            have ll : Low (⟨#[97 + jl]⟩ : Str) := Low.one (by omega)
            have le0 : Low (Str.ofString "") := fun c hc => by
              have e0 : (Str.ofString "").cps.toList = [] := by decide +kernel
              rw [e0] at hc
              cases hc
            have lz0 : (Str.ofString "").length = 0 := by decide +kernel
            have sz1 := sz0 none (some at_)
            rcases l31 with rfl | rfl | rfl
            all_goals
              refine ⟨_, rfl, _, rfl, _, rfl, old, rfl, le_line (by omega), _, rfl, _, rfl, by show 3 ≤ sizeLine; decide, fun p8 n8 => ?_⟩
              refine ⟨_, rfl, _, _, rfl, rfl, p8, _, _, _, rfl, rfl, SqL.of upd_same, rfl, _, _, rfl, rfl, le_line (by first | (show (cutS old none (some at_)).length + 1 ≤ 4000; omega) | (rw [lz0]; omega)), ?_⟩
              refine ⟨_, rfl, _, rfl, by show 3 ≤ sizeLine; decide, fun p9 n9 => ?_⟩
              refine ⟨_, rfl, _, _, rfl, rfl, p9, _, _, _, rfl, rfl, SqL.of upd_same, rfl, _, _, rfl, rfl, _, rfl, old, rfl, le_line (by omega), _, _, rfl, rfl, ?_, ?_⟩
              · refine le_line ?_
                have := sz0 (some (at_ + 0)) none
                have := sz0 (some (at_ + 1)) none
                rw [len_append]
                first | (show (cutS old none (some at_)).length + 1 + _ ≤ 4000; omega) | (rw [lz0]; omega)
              · refine ⟨_, rfl, _, rfl, ?_, ?_⟩
                · refine le_line ?_
                  have := sz0 (some (at_ + 0)) none
                  have := sz0 (some (at_ + 1)) none
                  rw [len_append, len_append]
                  first | (show (cutS old none (some at_)).length + 1 + _ ≤ 4000; omega) | (rw [lz0]; omega)
                · exact tail_ok ((T6.new n8).new n9) (by omega) hu (((s45.trans s6).trans (ctnew n8)).trans (ctnew n9)) hul (fin _ _ (by first | exact ll | exact le0)) k
        · exact tail_ok T4 (by omega) hu s4 hul hz4 k
end
end Kd

namespace Kd
open PySem PySem.Spec PyProof.Rows L2
section
variable {P : Program} {w : World} {K : PySem.W.Frag} {mg : Str → Option Value} {base : Heap} {f : Addr} {fd : FuncData}
/-- a change at an object that was not there ahead -/
theorem ctupd {a g l : Addr} {H0 H : Hp} {o : HO} (s : Same (ct a g H0) (ct a g H)) (hl : H0 l = none) (ha : l ≠ a) (hg : l ≠ g) : Same (ct a g H0) (ct a g (upd H l o)) := by
  rw [ct_upd ha hg]
  exact Same.upd s (ct_none hl)
theorem Tray.updo {a g l : Addr} {H : Hp} {o : HO} {n : Nat} (t : Tray H a g n) (ha : l ≠ a) (hg : l ≠ g) : Tray (upd H l o) a g n := by
  obtain ⟨c, f, k, gs, h1, h2, h3⟩ := t.ex
  exact ⟨c, f, k, gs, by rw [upd_ne ha.symm]; exact h1, by rw [upd_ne hg.symm]; exact h2, h3⟩
def spNames (K : PySem.W.Frag) : Sp := fun vs H Q _ => ∃ (a g : Addr) (n : Nat) (many : Nat), vs = [.ref a, .int (many : Int)] ∧ Tray H a g n ∧ n ≤ 800000 ∧ many ≤ 10 ∧
  ∀ (l : Addr) (xs : List Str) (H' : Hp), H l = none → H' l = some (.lst (xs.map V.str)) → xs.length = many → (∀ z ∈ xs, IsNm z) → xs.Nodup → Tray H' a g (n + 13 * many) → Same (ct a g H) (ct a g H') → Q (.ref l) H'
theorem sc_names : FnScope ["tray", "many", "found", "k"] ["tray", "many"] (defScope s_l_names) := ⟨rfl, rfl, rfl, by decide +kernel, rfl, by decide +kernel, by decide +kernel⟩
theorem ok_names {fN : Addr} {fdN : FuncData} (F : FnP K "_law_names" "_law_names" s_l_names f fd) (GN : FnOk P w K mg base CX0 2 fN fdN ["tray", "used"] (spName K)) (kN : PySem.W.keepIn K (.ref fN) = true) (bN : Binds K fdN ["tray", "used"] []) (gN : mg "_law_name" = some (.ref fN)) (gr : mg "range" = none) :
    FnOk P w K mg base CX0 3 f fd ["tray", "many"] (spNames K) := by
  refine F.ok sc_names (fun vs H Q E h => ?_) (fun cdv A outer s H vs Q E hr h => ?_)
  · obtain ⟨a, g, n, many, rfl, _⟩ := h
    rfl
  · obtain ⟨a, g, n, many, rfl, hT, hn, hm, k⟩ := h
    have nd := sc_names.nd
    refine ⟨_, PSs.nox (pss_cons (ps_set (i := 2) nd rfl (Or.inl rfl) (pe_lst pa_nil))
      (pss_cons (ps_for PassesOwn.never rfl (pi_range1 rfl gr (pa_cons (pv 1) pa_nil)) (pg_name (i := 3) nd rfl (Or.inl rfl))
        (pss_one (ps_expr (pe_bm PySem.F.plainAttrs_list PySem.F.slot_list_append PySem.F.type_list_append mt_append (pv 2) (pa_cons (pe_call GN hr rfl gN kN bN .nil pass0 (pa_cons (pv 0) (pa_cons (pv 2) pa_nil))) pa_nil)))))
      (pss_one (ps_ret (pv 2))))), ?_⟩
    refine ⟨by show 0 ≤ sizeLine; decide, fun l hl => ?_⟩
    obtain ⟨nla, nlg⟩ := hT.na hl
    refine ⟨_, rfl, _, rfl, by omega, by omega, ?_⟩
    rw [Int.toNat_natCast]
    refine for_range (lo := 0) (n := many) (fun i σ H2 => ∃ (xs : List Str) (u : Option V), σ = [some (.ref a), some (.int many), some (.ref l), u] ∧ H2 l = some (.lst (xs.map V.str)) ∧ xs.length = i ∧ (∀ z ∈ xs, IsNm z) ∧ xs.Nodup ∧ Tray H2 a g (n + 13 * i) ∧ Same (ct a g H) (ct a g H2))
      ⟨[], _, rfl, upd_same, rfl, fun _ h => (nomatch h), List.nodup_nil, hT.new hl, ctnew hl⟩ ?_ ?_
    · rintro i σ H2 hi ⟨xs, u, rfl, h2, lx, hx, hd, T2, s2⟩
      refine ⟨_, rfl, .inl ⟨rfl, _, SqL.of h2⟩, _, rfl, _, rfl, a, g, l, n + 13 * i, xs, rfl, T2, by omega, SqL.of (ct_of h2 nla nlg), by omega, hx, fun z H3 hz hz2 T3 s3 => ?_⟩
      have h3 := ctkeep s3 h2 nla nlg
      refine ⟨l, _, _, rfl, rfl, h3, small1000 (by rw [List.length_map]; omega), ?_⟩
      refine ⟨xs ++ [z], _, rfl, by rw [upd_same, List.map_append]; rfl, by rw [List.length_append]; show xs.length + 1 = i + 1; omega, fun y hy => ?_, ?_, (T3.updo nla nlg).mono (by omega), ctupd (s2.trans s3) hl nla nlg⟩
      · rcases List.mem_append.mp hy with hy | hy
        · exact hx y hy
        · rw [List.mem_singleton.mp hy]
          exact hz
      · refine List.nodup_append.mpr ⟨hd, List.nodup_cons.mpr ⟨List.not_mem_nil, List.nodup_nil⟩, fun y hy q hq e => hz2 ?_⟩
        rw [List.mem_singleton.mp hq] at e
        rw [← e]
        exact hy
    · rintro σ H2 ⟨xs, u, rfl, h2, lx, hx, hd, T2, s2⟩
      exact ⟨_, rfl, k l xs H2 hl h2 lx hx hd T2 s2⟩
/-! ### what is drawn is a plan -/
structure Good (ds : List (Str × List (Str × Str))) (ms : List Str) : Prop where
  d1 : 1 ≤ ds.length
  d4 : ds.length ≤ 4
  dn : ∀ d ∈ ds, IsNm d.1
  du : (ds.map (·.1)).Nodup
  al : ∀ d ∈ ds, d.2.length ≤ 5
  an : ∀ d ∈ ds, ∀ a ∈ d.2, IsNm a.1 ∧ IsWay a.2
  au : ∀ d ∈ ds, (d.2.map (·.1)).Nodup
  m4 : ms.length ≤ 4
  mn : ∀ m ∈ ms, IsNm m
  mu : ms.Nodup
theorem flt_false {xs : List Str} {m : Int} (h1 : (xs.length : Int) ≤ m) (h2 : ∀ z ∈ xs, IsNm z) (h3 : xs.Nodup) : fltB xs m = false := by
  unfold fltB
  rw [KdS.dcn_nodup h3 xs.length (Nat.le_refl _), decide_eq_false (by omega), decide_eq_false (by omega), List.all_eq_true.mpr (fun z hz => nm_iff.mpr (h2 z hz))]
  rfl
theorem Good.ff {ds : List (Str × List (Str × Str))} {ms : List Str} (h : Good ds ms) : ffV ds ms = .non := by
  have e1 : ds.isEmpty = false := by
    cases ds with
    | nil => exact absurd h.d1 (by decide)
    | cons _ _ => rfl
  have e2 : fltB (ds.map (·.1)) 4 = false := flt_false (by rw [List.length_map]; have := h.d4; omega) (fun z hz => by
    obtain ⟨d, hd, rfl⟩ := List.mem_map.mp hz
    exact h.dn d hd) h.du
  have e3 : ds.any (fun d => fltB (d.2.map (·.1)) 5) = false := by
    rw [List.any_eq_false]
    intro d hd
    rw [flt_false (by rw [List.length_map]; have := h.al d hd; omega) (fun z hz => by
      obtain ⟨a, ha, rfl⟩ := List.mem_map.mp hz
      exact (h.an d hd a ha).1) (h.au d hd)]
    decide
  have e4 : fltB ms 4 = false := flt_false (by have := h.m4; omega) h.mn h.mu
  unfold ffV
  rw [e1, e2, e3, e4]
  rfl
theorem Good.szd {ds : List (Str × List (Str × Str))} {ms : List Str} (h : Good ds ms) : Szd ds ms where
  dl := by have := h.d4; omega
  dn := fun d hd => ⟨by have := (h.dn d hd).le8; omega, by have := h.al d hd; omega, fun a ha => by have := (h.an d hd a ha).1.le8; omega⟩
  ml := by have := h.m4; omega
  mn := fun m hm => by have := (h.mn m hm).le8; omega
end
end Kd

namespace Kd
open PySem PySem.Spec PyProof.Rows L2
section
variable {P : Program} {w : World} {K : PySem.W.Frag} {mg : Str → Option Value} {base : Heap} {f : Addr} {fd : FuncData}
/-- what lists hands back: l a list of ds, m one of ms, no part of the tray -/
structure Lsts (K : PySem.W.Frag) (H : Hp) (a g l m : Addr) (ds : List (Str × List (Str × Str))) (ms : List Str) : Prop where
  dl : DimsAt K (ct a g H) l ds
  ml : ct a g H m = some (.lst (ms.map V.str))
  ok : Good ds ms
/-! tuples do not lean on lists -/
theorem seqT_list {H : Hp} {l r : Addr} {L xs : List V} (hl : H l = some (.lst L)) (h : SqT K H r xs) : SqT K (cd l H) r xs := by
  rcases h with (q | ⟨o, q⟩) | q
  · exact .inl (.inl (cd_of q (ne_of q hl (fun z => nomatch z))))
  · exact .inl (.inr ⟨o, cd_of q (ne_of q hl (fun z => nomatch z))⟩)
  · exact .inr q
theorem seqT_ct {H : Hp} {a g r : Addr} {n : Nat} {xs : List V} (t : Tray H a g n) (h : SqT K H r xs) : SqT K (ct a g H) r xs := by
  obtain ⟨c, f, k, gs, h1, h2, _⟩ := t.ex
  rcases h with (q | ⟨o, q⟩) | q
  · exact .inl (.inl (ct_of q (ne_of q h1 (fun z => nomatch z)) (ne_of q h2 (fun z => nomatch z))))
  · exact .inl (.inr ⟨o, ct_of q (ne_of q h1 (fun z => nomatch z)) (ne_of q h2 (fun z => nomatch z))⟩)
  · exact .inr q
theorem att_list {H : Hp} {l : Addr} {L : List V} {y : V} {d : Str × Str} (hl : H l = some (.lst L)) : AttAt K H y d → AttAt K (cd l H) y d := fun ⟨r, e1, e2⟩ => ⟨r, e1, seqT_list hl e2⟩
theorem dim_list {H : Hp} {l : Addr} {L : List V} {y : V} {d : Str × List (Str × Str)} (hl : H l = some (.lst L)) : DimAt K H y d → DimAt K (cd l H) y d :=
  fun ⟨p, q, h1, h2, zs, h3, h4⟩ => ⟨p, q, h1, seqT_list hl h2, zs, seqT_list hl h3, PySem.Paired.mono (fun _ _ => att_list hl) h4⟩
theorem att_ct {H : Hp} {a g : Addr} {n : Nat} {y : V} {d : Str × Str} (t : Tray H a g n) : AttAt K H y d → AttAt K (ct a g H) y d := fun ⟨r, e1, e2⟩ => ⟨r, e1, seqT_ct t e2⟩
theorem dim_ct {H : Hp} {a g : Addr} {n : Nat} {y : V} {d : Str × List (Str × Str)} (t : Tray H a g n) : DimAt K H y d → DimAt K (ct a g H) y d :=
  fun ⟨p, q, h1, h2, zs, h3, h4⟩ => ⟨p, q, h1, seqT_ct t h2, zs, seqT_ct t h3, PySem.Paired.mono (fun _ _ => att_ct t) h4⟩
/-- over a draw -/
theorem dim_draw {H H' : Hp} {a g : Addr} {n : Nat} {y : V} {d : Str × List (Str × Str)} (t : Tray H a g n) (s : Same (ct a g H) (ct a g H')) (h : DimAt K H y d) : DimAt K H' y d := (dim_ct t h).same (s.trans ct_sub)
/-- over a store to a list -/
theorem dim_store {H : Hp} {l : Addr} {L : List V} {o : HO} {y : V} {d : Str × List (Str × Str)} (hl : H l = some (.lst L)) (h : DimAt K H y d) : DimAt K (upd H l o) y d :=
  (dim_list hl h).same fun b u e => by rw [upd_ne (ct_ne e).1]; exact cd_sub _ _ e
theorem ctcd2 {a g l : Addr} {H H' : Hp} (s : Same (ct a g H) (ct a g H')) : Same (ct a g (cd l H)) (ct a g (cd l H')) := fun b o e => by
  obtain ⟨na, ng⟩ := ct_ne e
  have e2 := ct_sub _ _ e
  exact ct_of (cd_of (ct_sub _ _ (s b o (ct_of (cd_sub _ _ e2) na ng))) (ct_ne e2).1) na ng
def AttOk (ds : List (Str × List (Str × Str))) : Prop := ∀ d ∈ ds, d.2.length ≤ 5 ∧ (∀ a ∈ d.2, IsNm a.1 ∧ IsWay a.2) ∧ (d.2.map (·.1)).Nodup
theorem ways_at {j : Nat} (h : j < 5) : ∃ z, (([V.str "first", V.str "last", V.str "day", V.str "day", V.str "before"] : List V)[j]? = some (.str z)) ∧ IsWay z := by
  have h1 : ∀ z ∈ (["first", "last", "day", "day", "before"] : List Str), z ∈ (["first", "last", "day", "before"] : List Str) := by decide +kernel
  have h2 : (["first", "last", "day", "day", "before"] : List Str)[j]? = some ((["first", "last", "day", "day", "before"] : List Str)[j]'h) := List.getElem?_eq_getElem h
  refine ⟨_, ?_, h1 _ (List.getElem_mem h)⟩
  have h3 := congrArg (Option.map V.str) h2
  rw [← List.getElem?_map] at h3
  exact h3
theorem two_at {wide : Nat} (hw : wide ≤ 1) (x y : Nat) : ∃ v : Nat, atI [V.int (x : Int), V.int (y : Int)] (wide : Int) = some (.int (v : Int)) ∧ (v = x ∨ v = y) := by
  have : wide = 0 ∨ wide = 1 := by omega
  rcases this with rfl | rfl
  · exact ⟨x, atI_nat (j := 0) rfl, .inl rfl⟩
  · exact ⟨y, atI_nat (j := 1) rfl, .inr rfl⟩
def spLists (K : PySem.W.Frag) : Sp := fun vs H Q _ => ∃ (a g : Addr) (n most : Nat) (wide : Nat), vs = [.ref a, .int (most : Int), .int (wide : Int)] ∧ Tray H a g n ∧ n ≤ 700000 ∧ 1 ≤ most ∧ most ≤ 4 ∧ wide ≤ 1 ∧
  ∀ (r l m : Addr) (ds : List (Str × List (Str × Str))) (ms : List Str) (H' : Hp), ct a g H' r = some (.lst [.ref l, .ref m]) → Lsts K H' a g l m ds ms → Tray H' a g (n + 420) → Same (ct a g H) (ct a g H') → Q (.ref r) H'
abbrev liN : List Str := ["tray", "most", "wide", "found", "name", "some", "one", "ways", "k"]
theorem sc_lists : FnScope liN ["tray", "most", "wide"] (defScope s_l_lists) := ⟨rfl, rfl, rfl, by decide +kernel, rfl, by decide +kernel, by decide +kernel⟩
theorem ok_lists {fD fN : Addr} {fdD fdN : FuncData} (F : FnP K "_law_lists" "_law_lists" s_l_lists f fd) (GD : FnOk P w K mg base CX0 1 fD fdD ["tray", "many"] spDraw) (kD : PySem.W.keepIn K (.ref fD) = true) (bD : Binds K fdD ["tray", "many"] []) (gD : mg "_law_draw" = some (.ref fD))
    (GN : FnOk P w K mg base CX0 3 fN fdN ["tray", "many"] (spNames K)) (kN : PySem.W.keepIn K (.ref fN) = true) (bN : Binds K fdN ["tray", "many"] []) (gN : mg "_law_names" = some (.ref fN)) (gr : mg "range" = none) (ge : mg "len" = none) (gt : mg "tuple" = none) :
    FnOk P w K mg base CX0 4 f fd ["tray", "most", "wide"] (spLists K) := by
  refine F.ok sc_lists (fun vs H Q E h => ?_) (fun cdv A outer s H vs Q E hr h => ?_)
  · obtain ⟨a, g, n, most, wide, rfl, _⟩ := h
    rfl
  · obtain ⟨a, g, n, most, wide, rfl, hT, hn, m1, m4, hw, k⟩ := h
    have nd := sc_lists.nd
    have hr1 : Room 1 _ := hr.mono (by decide)
    refine ⟨_, PSs.nox (pss_cons (ps_set (i := 3) nd rfl (Or.inl rfl) (pe_lst pa_nil))
      (pss_cons (ps_for PassesOwn.never rfl (pi_list (pe_call GN hr rfl gN kN bN .nil pass0 (pa_cons (pv 0) (pa_cons (pe_op op_add pe_int (pe_call GD hr1 rfl gD kD bD .nil pass0 (pa_cons (pv 0) (pa_cons (pv 1) pa_nil)))) pa_nil)))) (pg_name (i := 4) nd rfl (Or.inl rfl))
        (pss_cons (ps_set (i := 5) nd rfl (Or.inr rfl) (pe_call GN hr rfl gN kN bN .nil pass0 (pa_cons (pv 0) (pa_cons (pe_call GD hr1 rfl gD kD bD .nil pass0 (pa_cons (pv 0) (pa_cons (pe_ix ix_list (pe_lst (pa_cons pe_int (pa_cons pe_int pa_nil))) (pv 2) (fun _ _ => rfl)) pa_nil))) pa_nil))))
        (pss_cons (ps_set (i := 7) nd rfl (Or.inr rfl) (pe_lc (own := [("one", 6)]) (g := gName 6) (tt := tYes) (te := tOp (rIxL K) (tLst (tCons (tC (.str "first")) (tCons (tC (.str "last")) (tCons (tC (.str "day")) (tCons (tC (.str "day")) (tCons (tC (.str "before")) tNil)))))) (tDraw 5)) rfl nd (pi_list (pv 5)) (blkOk_by (own := [("one", 6)]) (N := liN) (sc := defScope s_l_lists) (by decide +kernel))
          (fun _ _ _ _ _ => pg_name (i := 6) nd rfl (Or.inl rfl)) (fun _ _ _ _ _ => pts_nil) (fun _ _ _ _ _ => pe_ix ix_list (pe_lst (pa_cons pe_str (pa_cons pe_str (pa_cons pe_str (pa_cons pe_str (pa_cons pe_str pa_nil)))))) (pe_call GD hr1 rfl gD kD bD .nil pass0 (pa_cons (pv 0) (pa_cons pe_int pa_nil))) (fun _ _ => rfl))))
        (pss_one (ps_expr (pe_bm PySem.F.plainAttrs_list PySem.F.slot_list_append PySem.F.type_list_append mt_append (pv 3) (pa_cons (pe_tup (pa_cons (pv 4) (pa_cons (pe_callTy call_tuple_of (by rfl) gt (by decide +kernel) (pa_cons
            (pe_lc (own := [("k", 8)]) (g := gName 8) (tt := tYes) (te := tTup (tCons (tOp (rIxL K) (tVar 5) (tVar 8)) (tCons (tOp (rIxL K) (tVar 7) (tVar 8)) tNil))) rfl nd (pi_range1 rfl gr (pa_cons (pe_callB call_len_seq (by rfl) ge boot_len (pa_cons (pv 5) pa_nil)) pa_nil)) (blkOk_by (own := [("k", 8)]) (N := liN) (sc := defScope s_l_lists) (by decide +kernel))
              (fun _ _ _ _ _ => pg_name (i := 8) nd rfl (Or.inl rfl)) (fun _ _ _ _ _ => pts_nil) (fun _ _ _ _ _ => pe_tup (pa_cons (pe_ix ix_list (pv 5) (pv 8) (fun _ _ => rfl)) (pa_cons (pe_ix ix_list (pv 7) (pv 8) (fun _ _ => rfl)) pa_nil)))) pa_nil)) pa_nil))) pa_nil)))))))
      (pss_one (ps_ret (pe_lst (pa_cons (pv 3) (pa_cons (pe_call GN hr rfl gN kN bN .nil pass0 (pa_cons (pv 0) (pa_cons (pe_call GD hr1 rfl gD kD bD .nil pass0 (pa_cons (pv 0) (pa_cons (pe_ix ix_list (pe_lst (pa_cons pe_int (pa_cons pe_int pa_nil))) (pv 2) (fun _ _ => rfl)) pa_nil))) pa_nil))) pa_nil))))))), ?_⟩
    obtain ⟨w1, hw1, hw1b⟩ := two_at hw 4 6
    obtain ⟨w2, hw2, hw2b⟩ := two_at hw 4 5
    refine ⟨by show 0 ≤ sizeLine; decide, fun lf hf => ?_⟩
    obtain ⟨nfa, nfg⟩ := hT.na hf
    have T1 : Tray (upd H lf (.lst [])) a g n := hT.new hf
    refine ⟨_, rfl, _, rfl, _, rfl, a, g, n, most, rfl, T1, by omega, by omega, by omega, fun r H2 r0 r1 T2 s2 => ?_⟩
    obtain ⟨jr, rfl⟩ : ∃ j : Nat, r = (j : Int) := ⟨r.toNat, by omega⟩
    have f2 : H2 lf = some (.lst []) := ctkeep s2 upd_same nfa nfg
    refine ⟨_, _, rfl, rfl, a, g, n + 1, 1 + jr, by show [V.ref a, V.int (1 + (jr : Int))] = [V.ref a, V.int ((1 + jr : Nat) : Int)]; rw [Int.natCast_add]; rfl, T2, by omega, by omega, fun nl ns H3 hnl h3 l3 hz3 hd3 T3 s3 => ?_⟩
    obtain ⟨nna, nng⟩ := T2.na hnl
    have nnf : nl ≠ lf := (ne_of_none f2 hnl).symm
    have f3 : H3 lf = some (.lst []) := ctkeep s3 f2 nfa nfg
    have hB : ct a g (cd lf H3) nl = some (.lst (ns.map V.str)) := ct_of (cd_of h3 nnf) nna nng
    have s0B : Same (ct a g H) (ct a g (cd lf H3)) := fun b o e => by
      obtain ⟨na, ng⟩ := ct_ne e
      have nl : b ≠ lf := ne_of_none (ct_sub _ _ e) hf
      have e3 := s3 b o (s2 b o (ctnew hf b o e))
      exact ct_of (cd_of (ct_sub _ _ e3) nl) na ng
    refine ⟨nl, rfl, ⟨_, SqL.of h3⟩, for_list (K := K) (a := nl) (xs := ns.map V.str) (fun i σ H4 => ∃ (ds : List (Str × List (Str × Str))) (xs : List V) (x4 x5 x6 x7 x8 : Option V), σ = [some (.ref a), some (.int most), some (.int wide), some (.ref lf), x4, x5, x6, x7, x8] ∧ H4 lf = some (.lst xs) ∧ Paired (DimAt K H4) xs ds ∧ ds.map (·.1) = ns.take i ∧ AttOk ds ∧ Tray H4 a g (n + 60 + 75 * i) ∧ Same (ct a g (cd lf H3)) (ct a g (cd lf H4)) ∧ xs.length = i)
      ⟨[], [], _, _, _, _, _, rfl, f3, .nil, rfl, fun _ h => (nomatch h), T3.mono (by omega), Same.refl _, rfl⟩ (fun i σ H4 _ ⟨_, _, _, _, _, _, _, _, _, _, _, _, _, s4, _⟩ => SqL.of (cd_sub _ _ (ct_sub _ _ (s4 _ _ hB)))) ?_ ?_⟩
    · rintro i x σ H4 hi ⟨ds, xs, x4, x5, x6, x7, x8, rfl, f4, p4, e4, a4, T4, s4, l4⟩
      have hil : i < (ns.map V.str).length := (List.getElem?_eq_some_iff.mp hi).1
      rw [List.length_map] at hil
      obtain ⟨z, rfl, hz⟩ := strs_at hi
      have hzn := hz3 z (List.mem_of_getElem? hz)
      refine ⟨_, rfl, _, rfl, by show 2 ≤ sizeLine; decide, fun p5 n5 => ?_⟩
      refine ⟨_, rfl, p5, _, _, _, rfl, rfl, SqL.of upd_same, hw1, a, g, n + 60 + 75 * i, w1, rfl, T4.new n5, by omega, by omega, by omega, fun c H5 c0 c1 T5 s5 => ?_⟩
      obtain ⟨jc, rfl⟩ : ∃ j : Nat, c = (j : Int) := ⟨c.toNat, by omega⟩
      refine ⟨a, g, n + 60 + 75 * i + 1, jc, rfl, T5, by omega, by omega, fun sl ss H6 hsl h6 l6 hz6 hd6 T6 s6 => ?_⟩
      obtain ⟨nsa, nsg⟩ := T5.na hsl
      have s46 : Same (ct a g H4) (ct a g H6) := ((ctnew n5).trans s5).trans s6
      have f6 : H6 lf = some (.lst xs) := ctkeep s46 f4 nfa nfg
      refine ⟨_, rfl, sl, rfl, ⟨_, SqL.of h6⟩, fun D hD => lc_build (walk_list (K := K) (a := sl) (xs := ss.map V.str)) hD (fun j ys R => ∃ ws : List Str, ys = ws.map V.str ∧ ws.length = j ∧ (∀ z ∈ ws, IsWay z) ∧ Tray R a g (n + 60 + 75 * i + 1 + 13 * jc + j) ∧ Same (ct a g H6) (ct a g R))
        ⟨[], rfl, rfl, fun _ h => (nomatch h), T6, Same.refl _⟩ (fun j ys H7 _ ⟨_, _, _, _, _, s7⟩ => SqL.of (cd_sub _ _ (ct_sub _ _ (s7 _ _ (ct_of h6 nsa nsg))))) ?_ ?_⟩
      · rintro j ys y H7 H7' hj e7 l7 ⟨ws, rfl, lw, hw7, T7, s7⟩ ⟨rfl, hy⟩
        obtain ⟨nDa, nDg⟩ := T6.na hD
        rw [List.length_map] at hj
        refine ⟨rfl, yes ?_⟩
        refine ⟨by show 5 ≤ sizeLine; decide, fun p8 n8 => ?_⟩
        obtain ⟨npa, npg⟩ := (T7.same cd_sub).na n8
        refine ⟨_, rfl, a, g, n + 60 + 75 * i + 1 + 13 * jc + j, 5, rfl, (T7.same cd_sub).new n8, by omega, by decide, by decide, fun q H8 q0 q1 T8 s8 => ?_⟩
        obtain ⟨jq, rfl⟩ : ∃ j : Nat, q = (j : Int) := ⟨q.toNat, by omega⟩
        obtain ⟨wz, v1, v2⟩ := ways_at (j := jq) (by omega)
        have s78 := (ctnew (a := a) (g := g) n8).trans s8
        refine ⟨p8, _, _, _, rfl, rfl, SqL.of (ctkeep s8 upd_same npa npg), atI_nat v1, LcNx.add (ctkeep s78 e7 nDa nDg) l7 (by omega) ⟨ws ++ [wz], by rw [List.map_append]; rfl, by rw [List.length_append]; show ws.length + 1 = j + 1; omega, fun y hy => ?_, (T8.cd nDa nDg).mono (by omega), ctcd hD s7 s78⟩⟩
        rcases List.mem_append.mp hy with hy | hy
        · exact hw7 y hy
        · rw [List.mem_singleton.mp hy]
          exact v2
      · rintro ys H7 e7 l7 ⟨ws, rfl, lw, hw7, T7, s7⟩
        obtain ⟨nDa, nDg⟩ := T6.na hD
        rw [List.length_map] at lw
        have s67 : Same (ct a g H6) (ct a g H7) := s7.trans (ct_same cd_sub)
        have h7 : H7 sl = some (.lst (ss.map V.str)) := ctkeep s67 h6 nsa nsg
        have f7 : H7 lf = some (.lst xs) := ctkeep s67 f6 nfa nfg
        have T7' : Tray H7 a g (n + 60 + 75 * (i + 1)) := (T7.same cd_sub).mono (by rw [List.length_map]; omega)
        refine ⟨_, rfl, .inl ⟨rfl, _, SqL.of f7⟩, _, rfl, _, rfl, sl, _, rfl, .inl (SqL.of h7), _, rfl, by rw [List.length_map]; omega, by rw [List.length_map]; omega, fun D2 hD2 => ?_⟩
        rw [List.length_map, Int.toNat_natCast]
        refine lc_build (walk_range (lo := 0)) hD2 (fun j ys R => Same H7 R ∧ Paired (AttAt K R) ys ((ss.zip ws).take j)) ⟨Same.refl _, .nil⟩ (fun _ _ _ _ _ => trivial) ?_ ?_
        · rintro j ys y H8 H8' hj e8 l8 ⟨s8, p8⟩ ⟨rfl, rfl⟩
          have e0 : (0 : Int) + (j : Int) = (j : Int) := Int.zero_add _
          have hjw : j < ws.length := by omega
          have g1 : (ss.map V.str)[j]? = some (.str ss[j]) := by rw [List.getElem?_map, List.getElem?_eq_getElem hj]; rfl
          have g2 : (ws.map V.str)[j]? = some (.str ws[j]) := by rw [List.getElem?_map, List.getElem?_eq_getElem hjw]; rfl
          have s8' := s8.trans cd_sub
          refine ⟨rfl, yes ?_⟩
          refine ⟨_, rfl, _, rfl, sl, _, _, _, rfl, rfl, SqL.of (s8' _ _ h7), (by rw [e0]; exact atI_nat g1), _, rfl, _, rfl, D, _, _, _, rfl, rfl, SqL.of (s8' _ _ e7), (by rw [e0]; exact atI_nat g2), by show 2 ≤ sizeLine; decide, fun t nt => ?_⟩
          have nDt : D2 ≠ t := ne_of_none e8 nt
          have s9 : Same (cd D2 H8') (cd D2 (upd H8' t (.tup [.str ss[j], .str ws[j]]))) := cd_same (same_new nt)
          refine LcNx.add (by rw [upd_ne nDt]; exact e8) l8 (by omega) ⟨s8.trans s9, ?_⟩
          have hjz : j < (ss.zip ws).length := by rw [List.length_zip]; omega
          rw [List.take_succ_eq_append_getElem hjz, List.getElem_zip]
          exact PySem.Paired.snoc (PySem.Paired.mono (fun _ _ => AttAt.same s9) p8) ⟨t, rfl, SqT.of (cd_of upd_same nDt.symm)⟩
        · rintro ys H8 e8 l8 ⟨s8, p8⟩
          rw [List.take_of_length_le (by rw [List.length_zip]; omega)] at p8
          have s8' := s8.trans cd_sub
          refine ⟨D2, ys, rfl, .inl ⟨SqL.of e8, fun q hq => ?_⟩⟩
          refine ⟨by show 2 ≤ sizeLine; decide, fun t ht => ?_⟩
          have s9 : Same H8 (upd (upd H8 q (.tup ys)) t (.tup [.str z, .ref q])) := (same_new hq).trans (same_new ht)
          have f9 := s9 _ _ (s8' _ _ f7)
          refine ⟨lf, _, _, rfl, rfl, f9, small1000 (by omega), ?_⟩
          have s79 := s8'.trans s9
          have dnew : DimAt K (upd (upd H8 q (.tup ys)) t (.tup [.str z, .ref q])) (.ref t) (z, ss.zip ws) := ⟨t, q, rfl, SqT.of upd_same, ys, SqT.of (same_new ht _ _ upd_same), PySem.Paired.mono (fun _ _ h => (AttAt.same cd_sub h).same s9) p8⟩
          refine ⟨ds ++ [(z, ss.zip ws)], xs ++ [.ref t], _, _, _, _, _, rfl, upd_same, ?_, ?_, ?_, (T7'.same s79).updo nfa nfg, ?_, by rw [List.length_append]; show xs.length + 1 = i + 1; omega⟩
          · refine PySem.Paired.snoc (PySem.Paired.mono (fun y d h => dim_store f9 ((dim_draw T4 (s46.trans s67) h).same s79)) p4) (dim_store f9 dnew)
          · obtain ⟨g1, g2⟩ := List.getElem?_eq_some_iff.mp hz
            rw [List.map_append, e4, List.take_succ_eq_append_getElem g1, g2]
            rfl
          · intro d hd
            rcases List.mem_append.mp hd with hd | hd
            · exact a4 d hd
            · rw [List.mem_singleton.mp hd]
              refine ⟨by show (ss.zip ws).length ≤ 5; rw [List.length_zip]; omega, fun y hy => ?_, ?_⟩
              · exact ⟨hz6 y.1 (List.of_mem_zip hy).1, hw7 y.2 (List.of_mem_zip hy).2⟩
              · show ((ss.zip ws).map (·.1)).Nodup
                rw [show (ss.zip ws).map (·.1) = ss from List.map_fst_zip (by omega)]
                exact hd6
          · have e1 : ∀ o, ct a g (cd lf (upd (upd (upd H8 q (.tup ys)) t (.tup [.str z, .ref q])) lf o)) = ct a g (cd lf (upd (upd H8 q (.tup ys)) t (.tup [.str z, .ref q]))) := fun o => by rw [cd_upd]
            rw [e1]
            exact (s4.trans (ctcd2 (s46.trans s67))).trans (ct_same (cd_same s79))
    · rintro σ H4 ⟨ds, xs, x4, x5, x6, x7, x8, rfl, f4, p4, e4, a4, T4, s4, l4⟩
      rw [List.length_map] at e4 T4 l4
      rw [List.take_length] at e4
      refine ⟨_, rfl, _, rfl, _, rfl, by show 2 ≤ sizeLine; decide, fun p5 n5 => ?_⟩
      refine ⟨_, rfl, p5, _, _, _, rfl, rfl, SqL.of upd_same, hw2, a, g, n + 60 + 75 * ns.length, w2, rfl, T4.new n5, by omega, by omega, by omega, fun c H5 c0 c1 T5 s5 => ?_⟩
      obtain ⟨jc, rfl⟩ : ∃ j : Nat, c = (j : Int) := ⟨c.toNat, by omega⟩
      refine ⟨a, g, n + 60 + 75 * ns.length + 1, jc, rfl, T5, by omega, by omega, fun ml ms H6 hml h6 l6 hz6 hd6 T6 s6 => ?_⟩
      obtain ⟨nma, nmg⟩ := T5.na hml
      refine ⟨by show 2 ≤ sizeLine; decide, fun r nr => ?_⟩
      obtain ⟨nra, nrg⟩ := T6.na nr
      have s46 : Same (ct a g H4) (ct a g H6) := ((ctnew n5).trans s5).trans s6
      have f6 : H6 lf = some (.lst xs) := ctkeep s46 f4 nfa nfg
      have T7 := T6.new (o := .lst [.ref lf, .ref ml]) nr
      have hlen : ds.length = ns.length := by
        have := p4.length
        omega
      refine k r lf ml ds ms _ (ct_of upd_same nra nrg) ⟨⟨xs, SqL.of (ct_of (same_new nr _ _ f6) nfa nfg), PySem.Paired.mono (fun y d h => dim_ct T7 ((dim_draw T4 s46 h).same (same_new nr))) p4⟩, ct_of (same_new nr _ _ h6) nma nmg, ?_⟩ (T7.mono (by omega)) ?_
      · exact ⟨by omega, by omega, fun d hd => hz3 d.1 (by rw [← e4]; exact List.mem_map_of_mem hd), by rw [e4]; exact hd3, fun d hd => (a4 d hd).1, fun d hd => (a4 d hd).2.1, fun d hd => (a4 d hd).2.2, by omega, hz6, hd6⟩
      · have e1 : Same (ct a g H) (ct a g H4) := (s0B.trans s4).trans (ct_same cd_sub)
        exact (e1.trans s46).trans (ctnew nr)
end
end Kd

namespace Kd
open PySem PySem.Spec PyProof.Rows L2
/-! ### the lists as data -/
def attD (a : Str × Str) : PyData := .tuple [.str a.1, .str a.2]
def dimD (d : Str × List (Str × Str)) : PyData := .tuple [.str d.1, .tuple (d.2.map attD)]
def dimsD (ds : List (Str × List (Str × Str))) : PyData := .list (ds.map dimD)
section
variable {K : PySem.W.Frag} {H : Hp}
theorem atts_dp : ∀ {ys : List V} {as : List (Str × Str)}, Paired (AttAt K H) ys as → DpAll K H ys (as.map attD)
  | _, _, .nil => .nil
  | _, _, .cons ⟨r, e1, e2⟩ t => by
    subst e1
    exact .cons (.tup e2 (.cons (.str _) (.cons (.str _) .nil))) (atts_dp t)
theorem dims_dp : ∀ {xs : List V} {ds : List (Str × List (Str × Str))}, Paired (DimAt K H) xs ds → DpAll K H xs (ds.map dimD)
  | _, _, .nil => .nil
  | _, _, .cons ⟨p, q, e1, e2, zs, e3, e4⟩ t => by
    subst e1
    exact .cons (.tup e2 (.cons (.str _) (.cons (.tup e3 (atts_dp e4)) .nil))) (dims_dp t)
theorem DimsAt.dp {l : Addr} {ds : List (Str × List (Str × Str))} (h : DimsAt K H l ds) : Dp K H (.ref l) (dimsD ds) := by
  obtain ⟨xs, h1, h2⟩ := h
  exact .lst h1 (dims_dp h2)
theorem strs_dp {l : Addr} {xs : List Str} (h : SqL K H l (xs.map V.str)) : Dp K H (.ref l) (.list (xs.map PyData.str)) := .lst h (DpAll.strs xs)
end
theorem dims_okd {ds : List (Str × List (Str × Str))} {ms : List Str} (h : Good ds ms) : Okd 5 (dimsD ds) := by
  refine ⟨by rw [List.length_map]; have := h.d4; omega, fun d hd => ?_⟩
  obtain ⟨e, he, rfl⟩ := List.mem_map.mp hd
  refine ⟨by show 2 ≤ 4000; decide, fun x hx => ?_⟩
  rcases List.mem_cons.mp hx with rfl | hx
  · exact trivial
  · rw [List.mem_singleton.mp hx]
    refine ⟨by rw [List.length_map]; have := h.al e he; omega, fun y hy => ?_⟩
    obtain ⟨a, ha, rfl⟩ := List.mem_map.mp hy
    refine ⟨by show 2 ≤ 4000; decide, fun z hz => ?_⟩
    rcases List.mem_cons.mp hz with rfl | hz
    · exact trivial
    · rw [List.mem_singleton.mp hz]
      exact trivial
theorem strs_okd {ms : List Str} (h : ms.length ≤ 4) : Okd 5 (.list (ms.map PyData.str)) := by
  refine ⟨by rw [List.length_map]; omega, fun d hd => ?_⟩
  obtain ⟨e, he, rfl⟩ := List.mem_map.mp hd
  exact trivial
theorem lay_atts : ∀ as : List (Str × Str), (∀ a ∈ as, Low a.1 ∧ Low a.2) → PyData.canLayAll0 (as.map attD) = true ∧ PyData.depthAll (as.map attD) ≤ 1
  | [], _ => ⟨rfl, by decide⟩
  | a :: as, h => by
    obtain ⟨h1, h2⟩ := lay_atts as fun z hz => h z (List.mem_cons_of_mem _ hz)
    obtain ⟨h3, h4⟩ := h a (List.mem_cons_self ..)
    constructor
    · simp only [List.map_cons, attD, PyData.canLayAll0, PyData.canLay0, h1, h3.ok, h4.ok, Bool.and_self]
    · simp only [List.map_cons, attD, PyData.depthAll, PyData.depth]
      omega
theorem lay_dims : ∀ ds : List (Str × List (Str × Str)), (∀ d ∈ ds, Low d.1 ∧ ∀ a ∈ d.2, Low a.1 ∧ Low a.2) → PyData.canLayAll0 (ds.map dimD) = true ∧ PyData.depthAll (ds.map dimD) ≤ 3
  | [], _ => ⟨rfl, by decide⟩
  | d :: ds, h => by
    obtain ⟨h1, h2⟩ := lay_dims ds fun z hz => h z (List.mem_cons_of_mem _ hz)
    obtain ⟨h3, h4⟩ := h d (List.mem_cons_self ..)
    obtain ⟨h5, h6⟩ := lay_atts d.2 h4
    constructor
    · simp only [List.map_cons, dimD, PyData.canLayAll0, PyData.canLay0, h1, h3.ok, h5, Bool.and_self]
    · simp only [List.map_cons, dimD, PyData.depthAll, PyData.depth]
      omega
theorem shaped_dims {ds : List (Str × List (Str × Str))} {ms : List Str} (h : Good ds ms) : SeqAt.shaped (dimsD ds) = true := by
  obtain ⟨h1, h2⟩ := lay_dims ds fun d hd => ⟨(h.dn d hd).low, fun a ha => ⟨(h.an d hd a ha).1.low, (h.an d hd a ha).2.nm.1⟩⟩
  unfold SeqAt.shaped
  rw [Bool.and_eq_true]
  refine ⟨by unfold dimsD; rw [PyData.canLay0]; exact h1, decide_eq_true ?_⟩
  unfold dimsD
  rw [PyData.depth]
  omega
theorem eqv_self {d : PyData} (h : SeqAt.shaped d = true) : PyData.eqv d d = true := SeqAt.eqv_refl d (SeqAt.canLay_of_shaped h)
end Kd

namespace Kd
open PySem PySem.Spec PyProof.Rows L2
/-! ### slices by whole numbers that are not below 0 -/
theorem cutTo (xs : List V) (j : Nat) : cutV xs none (some (j : Int)) = xs.take j := by
  unfold cutV
  rw [HT.sIx_none, HT.sIx_nat, List.drop_zero, Nat.sub_zero]
  by_cases h : j ≤ xs.length
  · rw [Nat.min_eq_left h]
  · rw [Nat.min_eq_right (by omega), List.take_of_length_le (by omega), List.take_of_length_le (by omega)]
theorem cutFrom (xs : List V) (i : Nat) : cutV xs (some (i : Int)) none = xs.drop i := by
  unfold cutV
  rw [HT.sIx_none, HT.sIx_nat]
  by_cases h : i ≤ xs.length
  · rw [Nat.min_eq_left h, List.take_of_length_le (by rw [List.length_drop]; omega)]
  · rw [Nat.min_eq_right (by omega), List.drop_of_length_le (by omega), List.drop_of_length_le (by omega), List.take_nil]
theorem cutMid (xs : List V) (i j : Nat) : cutV xs (some (i : Int)) (some (j : Int)) = (xs.drop i).take (j - i) := by
  unfold cutV
  rw [HT.sIx_nat, HT.sIx_nat]
  by_cases h : i ≤ xs.length
  · rw [Nat.min_eq_left h]
    by_cases h2 : j ≤ xs.length
    · rw [Nat.min_eq_left h2]
    · rw [Nat.min_eq_right (by omega), List.take_of_length_le (by rw [List.length_drop]; omega), List.take_of_length_le (by rw [List.length_drop]; omega)]
  · rw [List.drop_of_length_le (show xs.length ≤ min i xs.length by omega), List.drop_of_length_le (show xs.length ≤ i by omega), List.take_nil, List.take_nil]
/-! ### pairs -/
theorem paired_app2 {α β : Type} {R : α → β → Prop} : ∀ {a c : List α} {b d : List β}, Paired R a b → Paired R c d → Paired R (a ++ c) (b ++ d)
  | _, _, _, _, .nil, h => h
  | _, _, _, _, .cons x t, h => .cons x (paired_app2 t h)
theorem paired_rev2 {α β : Type} {R : α → β → Prop} : ∀ {a : List α} {b : List β}, Paired R a b → Paired R a.reverse b.reverse
  | _, _, .nil => .nil
  | _, _, .cons x t => by
    rw [List.reverse_cons, List.reverse_cons]
    exact paired_app2 (paired_rev2 t) (.cons x .nil)
theorem paired_take2 {α β : Type} {R : α → β → Prop} : ∀ (n : Nat) {a : List α} {b : List β}, Paired R a b → Paired R (a.take n) (b.take n)
  | 0, _, _, _ => by rw [List.take_zero, List.take_zero]; exact .nil
  | n + 1, _, _, .nil => .nil
  | n + 1, _, _, .cons h t => .cons h (paired_take2 n t)
theorem paired_drop2 {α β : Type} {R : α → β → Prop} : ∀ (n : Nat) {a : List α} {b : List β}, Paired R a b → Paired R (a.drop n) (b.drop n)
  | 0, _, _, h => h
  | n + 1, _, _, .nil => .nil
  | n + 1, _, _, .cons h t => paired_drop2 n t
/-! ### a list with one out, or two turned about -/
def trn {α : Type} (b : Bool) (at_ : Nat) (xs : List α) : List α := if b = true then xs.take at_ ++ xs.drop (at_ + 1) else xs.take at_ ++ ((xs.drop at_).take 2).reverse ++ xs.drop (at_ + 2)
theorem trn_mem {α : Type} {b : Bool} {at_ : Nat} {xs : List α} {x : α} (h : x ∈ trn b at_ xs) : x ∈ xs := by
  unfold trn at h
  split at h
  · rcases List.mem_append.mp h with h | h
    · exact List.mem_of_mem_take h
    · exact List.mem_of_mem_drop h
  · rcases List.mem_append.mp h with h | h
    · rcases List.mem_append.mp h with h | h
      · exact List.mem_of_mem_take h
      · exact List.mem_of_mem_drop (List.mem_of_mem_take (List.mem_reverse.mp h))
    · exact List.mem_of_mem_drop h
theorem trn_len {α : Type} (b : Bool) (at_ : Nat) (xs : List α) : (trn b at_ xs).length ≤ xs.length := by
  unfold trn
  split
  · simp only [List.length_append, List.length_take, List.length_drop]
    omega
  · simp only [List.length_append, List.length_take, List.length_drop, List.length_reverse]
    omega
theorem trn_paired {α β : Type} {R : α → β → Prop} {b : Bool} {at_ : Nat} {xs : List α} {ys : List β} (h : Paired R xs ys) : Paired R (trn b at_ xs) (trn b at_ ys) := by
  unfold trn
  split
  · exact paired_app2 (paired_take2 _ h) (paired_drop2 _ h)
  · exact paired_app2 (paired_app2 (paired_take2 _ h) (paired_rev2 (paired_take2 _ (paired_drop2 _ h)))) (paired_drop2 _ h)
theorem trn_map {α β : Type} (f : α → β) (b : Bool) (at_ : Nat) (xs : List α) : trn b at_ (xs.map f) = (trn b at_ xs).map f := by
  unfold trn
  split <;> simp [List.map_take, List.map_drop]
/-- a text and a text -/
def rAddS : R2 := fun x y H Q => ∃ a b, x = .str a ∧ y = .str b ∧ a.length + b.length ≤ sizeLine ∧ Q (.str (a ++ b)) H
/-- len(x) -/
def rLenQ (K : PySem.W.Frag) : List V → Hp → VK → Prop := fun xs H Q => ∃ p ys, xs = [.ref p] ∧ (SqL K H p ys ∨ SqT K H p ys) ∧ Q (.int (ys.length : Nat)) H
/-- list(x): a new one -/
def rListOf (K : PySem.W.Frag) : List V → Hp → VK → Prop := fun xs H Q => ∃ p ys, xs = [.ref p] ∧ (SqL K H p ys ∨ SqT K H p ys) ∧ ∀ l, H l = none → Q (.ref l) (upd H l (.lst ys))
/-- a new object stands, what was there stands too -/
theorem seqL_new {K : PySem.W.Frag} {H : Hp} {a p : Addr} {o : HO} {xs : List V} (h : SqL K H a xs) (np : H p = none) : SqL K (upd H p o) a xs := Same.seq (same_new np) h
theorem seqT_new {K : PySem.W.Frag} {H : Hp} {a p : Addr} {o : HO} {xs : List V} (h : SqT K H a xs) (np : H p = none) : SqT K (upd H p o) a xs := Same.seqT (same_new np) h
end Kd

namespace KdEx
open PySem PySem.Spec PyProof.Rows L2
section
variable {prog : Program} {w : World} {A : Around} {E : Value → Shared → Prop} {s : Shared}
/-- repr of a tuple, whatever is under way: some text -/
theorem repr_tuple {a : Addr} {o : Obj} {items : Array Value} {n : Nat} {ts : List Str} {Q : Value → Shared → Prop} (hu : A.units + 8 < cLine) (ha : s.heap.get? a = some o) (hc : o.cls = .type "tuple") (hd : o.data = .seq items n) (hT : ReprAll prog w items.toList ts) (hsz : (tupleText ts).length ≤ sizeLine)
    (h : ∀ (m : Str) (u tk : Tok), m.length ≤ (tupleText ts).length + 5 → Q (.str m u) { s with toks := tk }) : wpAny (model prog w) A (call (.builtin "repr") [.ref a]) Q E s :=
  call_repr_slot (by omega) ⟨o, ha, hc⟩ F.slot_tuple_repr (fmt_tuple_repr ha hc hd hT hsz fun m u tk hm => ⟨m, u, rfl, h m u tk hm⟩)
end
section
variable {X : Cx}
/-- a value of which repr is known whatever is under way, and its text -/
def flatT : V → Str
  | .str z => reprText z
  | .non => "None"
  | .int i => toString i
  | _ => ""
def Flat1 : V → Prop
  | .str z => (∀ c ∈ z.cps.toList, c < 16 ^ 8) ∧ z.length ≤ 4000
  | .non => True
  | _ => False
theorem flat_len {v : V} (h : Flat1 v) : (flatT v).length ≤ 50000 := by
  cases v with
  | str z =>
    have := StrLaws.reprText_len z h.1
    show (reprText z).length ≤ 50000
    have h2 := h.2
    omega
  | non => show ("None" : Str).length ≤ 50000; decide +kernel
  | _ => exact h.elim
theorem reprs {prog : Program} {w : World} : ∀ {ys : List V} {its : List Value}, Vals ys its → (∀ y ∈ ys, Flat1 y) → ReprAll prog w its (ys.map flatT)
  | [], _, r, _ => by
    cases r
    exact .nil
  | y :: l, _, r, h => by
    cases r with
    | cons r1 r2 =>
      have ih := reprs (prog := prog) (w := w) r2 fun z hz => h z (List.mem_cons_of_mem _ hz)
      have hy := h y (List.mem_cons_self ..)
      have hl := flat_len hy
      cases y with
      | str z =>
        obtain ⟨t, rfl⟩ := r1
        exact .cons (ReprIs.str z t (Nat.le_trans hl (by decide))) ih
      | non =>
        cases r1
        exact .cons ReprIs.none ih
      | _ => exact hy.elim
theorem piled_le : ∀ (ts : List Str), (∀ t ∈ ts, t.length ≤ 50000) → piled ts ≤ 60000 * ts.length
  | [], _ => Nat.zero_le _
  | t :: ts, h => by
    have ih := piled_le ts fun z hz => h z (List.mem_cons_of_mem _ hz)
    have h1 := h t (List.mem_cons_self ..)
    have e : piled (t :: ts) ≤ t.length + 2 + piled ts := by
      unfold piled
      simp
      try omega
    rw [List.length_cons]
    omega
/-- repr of a text, or of a short tuple of texts and None: some text -/
def rRepr (K : PySem.W.Frag) : List V → Hp → VK → Prop := fun xs H Q => ∃ x, xs = [x] ∧ ((∃ z : Str, x = .str z ∧ Flat1 x) ∨ ∃ (a : Addr) (ys : List V), x = .ref a ∧ SqT K H a ys ∧ ys.length ≤ 8 ∧ ∀ y ∈ ys, Flat1 y) ∧ ∀ m : Str, Q (.str m) H
theorem cr_repr (hu : X.A.units + 64 < cLine) : CallR X (.builtin "repr") (rRepr X.K) := by
  intro pins s σ H xs us Q I r h
  obtain ⟨x, rfl, hx, q⟩ := h
  obtain ⟨u, rfl, rx⟩ := vals1 r
  rcases hx with ⟨z, rfl, hz⟩ | ⟨a, ys, rfl, ht, hl, hy⟩
  · obtain ⟨t, rfl⟩ := rx
    refine PySem.P.repr_of_str ⟨.str _, H, I.tok _, ⟨_, rfl⟩, q _⟩ (Nat.le_trans (flat_len (v := .str z) hz) (by decide))
  · cases rx
    obtain ⟨its, rv, ⟨o, ho, hcl, n, hd⟩, _⟩ := I.tuple ht
    have htx := fmt_text (ys.map flatT)
    have hp := piled_le (ys.map flatT) fun t ht => by
      obtain ⟨y, hym, rfl⟩ := List.mem_map.mp ht
      exact flat_len (hy y hym)
    rw [List.length_map] at hp
    have hsl : sizeLine = sizeLine := rfl
    refine repr_tuple (ts := ys.map flatT) (by omega) ho hcl hd (reprs rv hy) (Nat.le_trans (show _ ≤ 500000 by omega) (by decide)) fun m u tk hm => ⟨.str m, H, I.tok _, ⟨u, rfl⟩, q m⟩
end
section
variable {X : Cx} {CX : CXT} {k : Nat} {f C : Addr} {fd : FuncData} {ps : List Str} {sp : Sp} {dvs : List V} {ds : List Value} {E : XK} {x m : Str} {p1 p2 pos : Pos} {e : Expr} {es : List Expr} {t : TA}
/-- C.m(e, ..), C a class of the program, m a def of it -/
structure ClsFn (K : PySem.W.Frag) (C f : Addr) (m : Str) : Prop where
  sp : PySem.W.specialIn K (.ref C) "__getattribute__" = some (some (.builtin "type.__getattribute__"))
  rd : PySem.W.readsIn K C (.type "type") = true
  fi : PySem.W.findCls K (.ref C) (.type "type") m = some (.val (.ref f))
  kp : PySem.W.keepIn K (.ref f) = true
theorem pe_clsfn {pl : Sem Bool} (hg : Gl X x) (hm : X.mg x = some (.ref C)) (T : ClsFn X.K C f m) (F : FnOk X.prog X.w X.K X.mg X.base CX k f fd ps sp) (hr : Room k X.A) (hb : Binds X.K fd ps ds) (hd : Vals dvs ds) (hx : Passes CX X E) (ha : PA X (e :: es) t)
    (hdb : (x == ("__debug__" : Str)) = false := by decide)
    (hc : eval (.Call (.Attribute (.Name x p1) m p2) (e :: es) [] pos) X.env = (do
      let ov ← eval (.Name x p1) X.env
      standAt p2.atName
      let (f, first) ← holding [ov] (getMethod ov m pl)
      callWith pos f first (backTo pos (starEach (e :: es) X.env)) (backToKw pos (keywordEach [] X.env))) := by rfl)
    (he : starEach (e :: es) X.env = (false, eval e X.env) :: starEach es X.env := by rfl) (hpl : (backTo pos (starEach es X.env)).any (·.1) = false := by rfl) :
    PE X (.Call (.Attribute (.Name x p1) m p2) (e :: es) [] pos) (tCall sp dvs E t) := by
  refine ⟨fun pins s σ H Q I h => ?_⟩
  refine PySem.W.methodCall_KW (ld_glob I hg hm ?_ hdb) hc
  refine PySem.W.method_cls I.kIn T.sp ?_
  refine PySem.W.cls_value I.kIn T.rd T.fi rfl ?_
  show wpAny _ _ (callWith pos (Value.ref f) [] (backTo pos (starEach (e :: es) X.env)) []) _ _ _
  refine PySem.W.callWith_K (h₀ := X.base) I.ok.mod.kin T.kp (thn (ha.run pos pins _ σ H _ (I.tok _) h) fun us s1 ⟨vs, H1, I1, r, q⟩ => ⟨I1.kIn, ?_⟩) he hpl
  exact run_fn F hr hb hd hx I1 r q
end
/-! ### == and != by an own def -/
section
variable {X : Cx} {CX : CXT} {n : Nat} {C f : Addr} {fd : FuncData} {ps : List Str} {sp : Sp} {E : XK} {op : CmpOp}
def rOwn (C : Addr) (sp : Sp) (E : XK) : R2 := fun x y H Q => ∃ a b dx dy fs gs, x = .ref a ∧ y = .ref b ∧ H a = some (.ins C dx fs) ∧ H b = some (.ins C dy gs) ∧ sp [.ref a, .ref b] H (fun v H' => ∃ r, v = .bl r ∧ Q (.bl r) H') E
theorem rich_own (F : FnOk X.prog X.w X.K X.mg X.base CX n f fd ps sp) (hs : PySem.W.findIn X.K (.ref C) (cmpInfo op).2.1 = some (some (.ref f))) (hf : PySem.W.isFn X.K (.ref f) = true) (hb : Binds X.K fd ps []) (hx : Passes CX X E) (hr : Room n X.A)
    {pins : List (Addr × Obj)} {s : Shared} {σ : L2.St} {H : Hp} {x y : V} {v u : Value} {Q : VK} (I : Inv X pins σ H s) (rx : RelV x v) (ry : RelV y u) (h : rOwn C sp E x y H Q) : wpAny (model X.prog X.w) X.A (richCompare op v u) (EP X pins σ Q) X.xe s := by
  obtain ⟨a, b, dx, dy, fs, gs, rfl, rfl, ha, hb', hsp⟩ := h
  cases rx
  cases ry
  obtain ⟨mA, J, _⟩ := ins_get I.hok ha
  obtain ⟨mB, J', _⟩ := ins_get I.hok hb'
  obtain ⟨od, J, _⟩ := J.look
  obtain ⟨od', J', _⟩ := J'.look
  obtain ⟨m, hF⟩ := I.fr
  refine PySem.W.cmp_K (op := op) (tb := .ref C) hr.units0 hF I.ok.mod.kin J J'.type (by simp [PySem.W.notFirst]) hs hf ?_
  have hl := F.len _ _ _ _ hsp
  have r2 : Vals [V.ref a, V.ref b] [Value.ref a, Value.ref b] := .cons rfl (.cons rfl .nil)
  refine wpAny_call (codeAny_mono (F.run X.A X.stack s H ⟨[.ref a, .ref b], []⟩ [.ref a, .ref b] [.ref a, .ref b] _ E hr I.env0 (by
    have := hb s [.ref a, .ref b] I.kIn (by simpa using hl)
    simpa using this) r2 hsp) fun r s' hq => ?_)
  cases r with
  | error e => exact hx pins σ H s e s' I hq
  | ok fl =>
    cases fl with
    | ret w =>
      obtain ⟨z, H', I', rz, r, ez, q⟩ := I.after hq
      subst ez
      cases rz
      exact ⟨.bl r, H', I', rfl, q⟩
    | next => exact False.elim hq
    | brk => exact False.elim hq
    | cont => exact False.elim hq
theorem op_eqOwn (F : FnOk X.prog X.w X.K X.mg X.base CX n f fd ps sp) (hs : PySem.W.findIn X.K (.ref C) "__eq__" = some (some (.ref f))) (hf : PySem.W.isFn X.K (.ref f) = true) (hb : Binds X.K fd ps []) (hx : Passes CX X E) (hr : Room n X.A) : OpR X (compareOp .Eq) (rOwn C sp E) := by
  intro pins s σ H x y v u Q I rx ry h
  exact rich_own (op := .Eq) F hs hf hb hx hr I rx ry h
theorem op_neOwn (F : FnOk X.prog X.w X.K X.mg X.base CX n f fd ps sp) (hs : PySem.W.findIn X.K (.ref C) "__ne__" = some (some (.ref f))) (hf : PySem.W.isFn X.K (.ref f) = true) (hb : Binds X.K fd ps []) (hx : Passes CX X E) (hr : Room n X.A) : OpR X (compareOp .NotEq) (rOwn C sp E) := by
  intro pins s σ H x y v u Q I rx ry h
  exact rich_own (op := .NotEq) F hs hf hb hx hr I rx ry h
end
end KdEx

namespace Kd
open PySem PySem.Spec PyProof.Rows L2
/-! ### a whole number in figures -/
abbrev numT (i : Int) : Str := Str.ofString (toString i)
theorem tl_pos (n : Nat) : TL.tl (numT (n : Int)) = TL.numL n := TL.tl_num n
theorem tl_neg (m : Nat) : TL.tl (numT (Int.negSucc m)) = 45 :: TL.numL (m + 1) := by
  have e : toString (Int.negSucc m) = "-" ++ Nat.repr (m + 1) := rfl
  show TL.tl (Str.ofString (toString (Int.negSucc m))) = _
  rw [e, TL.tl_ofString, String.toList_append, List.map_append]
  have e2 : TL.numL (m + 1) = (Nat.repr (m + 1)).toList.map Char.toNat := by rw [Nat.toList_repr]; rfl
  rw [e2]
  rfl
/-- the signs of a number: figures, - ahead where it is below 0 -/
theorem tl_cases (i : Int) : (∃ n : Nat, i = (n : Int) ∧ TL.tl (numT i) = TL.numL n) ∨ ∃ m : Nat, i = -((m + 1 : Nat) : Int) ∧ TL.tl (numT i) = 45 :: TL.numL (m + 1) := by
  cases i with
  | ofNat n => exact .inl ⟨n, rfl, tl_pos n⟩
  | negSucc m => exact .inr ⟨m, rfl, tl_neg m⟩
theorem num_sign {i : Int} {c : Nat} (h : c ∈ TL.tl (numT i)) : c = 45 ∨ (48 ≤ c ∧ c ≤ 57) := by
  rcases tl_cases i with ⟨n, _, e⟩ | ⟨m, _, e⟩
  · rw [e] at h
    exact .inr (TL.numL_digits n c h)
  · rw [e] at h
    rcases List.mem_cons.mp h with h | h
    · exact .inl h
    · exact .inr (TL.numL_digits _ c h)
theorem num_free {i : Int} {c : Nat} (h : c ≠ 45) (h2 : c < 48 ∨ 57 < c) : c ∉ TL.tl (numT i) := fun q => by
  rcases num_sign q with e | e
  · exact h e
  · omega
theorem numL_pos (n : Nat) : 1 ≤ (TL.numL n).length := List.length_pos_iff.mpr (TL.numL_ne n)
def Wh (i : Int) : Prop := i.natAbs < 10 ^ 60
theorem num_len {i : Int} (h : Wh i) : (numT i).length ≤ 61 := by
  rw [TL.len_tl]
  have h : i.natAbs < 10 ^ 60 := h
  rcases tl_cases i with ⟨n, e1, e⟩ | ⟨m, e1, e⟩
  · rw [e]
    have := TL.numL_len (n := n) (k := 60) (by decide) (by rw [e1] at h; simpa using h)
    omega
  · rw [e]
    have := TL.numL_len (n := m + 1) (k := 60) (by decide) (by rw [e1, Int.natAbs_neg, Int.natAbs_natCast] at h; exact h)
    rw [List.length_cons]
    omega
theorem num_back {i : Int} (h : (numT i).length ≤ 4300) : intText? (numT i) = some i := by
  rcases tl_cases i with ⟨n, rfl, e⟩ | ⟨m, rfl, e⟩
  · rw [intText_digits (by show NumText.AllDigits (TL.tl (numT _)); rw [e]; exact TL.numL_digits n) (by show TL.tl (numT _) ≠ []; rw [e]; exact TL.numL_ne n) h]
    show some ((NumText.digitsVal (TL.tl (numT _)) : Nat) : Int) = _
    rw [e, TL.numL_val]
  · rw [intText_neg (cs := TL.numL (m + 1)) (by show TL.tl (numT _) = _; rw [e]) (TL.numL_digits _) (TL.numL_ne _) h, TL.numL_val]
theorem num_inj {i j : Int} (h : numT i = numT j) : i = j := by
  have e := congrArg TL.tl h
  rcases tl_cases i with ⟨n, h1, e1⟩ | ⟨n, h1, e1⟩ <;> rcases tl_cases j with ⟨m, h2, e2⟩ | ⟨m, h2, e2⟩ <;> rw [e1, e2] at e
  · rw [h1, h2, TL.numL_inj e]
  · exfalso
    have h3 := TL.numL_digits n 45 (by rw [e]; exact List.mem_cons_self ..)
    omega
  · exfalso
    have h3 := TL.numL_digits m 45 (by rw [← e]; exact List.mem_cons_self ..)
    omega
  · injection e with _ e
    rw [h1, h2, TL.numL_inj e]
/-- how a word is looked at as a number: what is behind one - ahead -/
def figL : List Nat → List Nat
  | 45 :: r => r
  | l => l
theorem tl_minus : TL.tl ("-" : Str) = [45] := by decide +kernel
theorem len_minus : ("-" : Str).length = 1 := by decide +kernel
theorem tl_affix {x : Str} {lo hi : Nat} : TL.tl (Txt.affix x (some (lo, hi))) = (if hi - lo == x.length then TL.tl x else ((TL.tl x).take hi).drop lo) := by
  show TL.tl (if hi - lo == x.length then x else Builtin.Str.strSub x lo hi) = _
  split
  · rfl
  · show (x.cps.extract lo hi).toList = _
    rw [Array.toList_extract]
    unfold List.extract
    rw [List.drop_take]
theorem tl_rem (x : Str) : TL.tl (Txt.removeprefix x "-") = figL (TL.tl x) := by
  unfold Txt.removeprefix
  rw [StrLaws.subAt_eq]
  have hl : ("-" : Str).length = 1 := by decide +kernel
  have ht : ("-" : Str).cps.toList = [45] := by decide +kernel
  rw [hl, ht]
  have hx : x.length = (TL.tl x).length := TL.len_tl x
  have e0 : x.cps.toList = TL.tl x := rfl
  rw [e0]
  cases e : TL.tl x with
  | nil =>
    show TL.tl (Txt.affix x none) = _
    exact e
  | cons c r =>
    by_cases hc : c = 45
    · subst hc
      show TL.tl (Txt.affix x (some (1, x.length))) = r
      rw [tl_affix, e, hx, e, List.length_cons]
      have : (r.length + 1 - 1 == r.length + 1) = false := by simp
      rw [this]
      simp
    · have e3 : (((c :: r).drop 0).take 1 == [45]) = false := by simp [hc]
      rw [e3]
      show TL.tl (Txt.affix x none) = _
      show TL.tl x = _
      rw [e]
      unfold figL
      split
      · rename_i h
        injection h with h1 _
        exact absurd h1 hc
      · rfl
def digB (l : List Nat) : Bool := l.all fun c => decide (48 ≤ c ∧ c ≤ 57)
theorem digB_iff {l : List Nat} : digB l = true ↔ NumText.AllDigits l := by
  unfold digB
  rw [List.all_eq_true]
  constructor
  · intro h c hc
    exact of_decide_eq_true (h c hc)
  · intro h c hc
    exact decide_eq_true (h c hc)
theorem digits_lt : ∀ (l : List Nat) (a : Nat), NumText.AllDigits l → l.foldl (fun acc c => acc * 10 + (c - 48)) a < (a + 1) * 10 ^ l.length
  | [], a, _ => by simp
  | c :: r, a, h => by
    rw [List.foldl_cons]
    have ih := digits_lt r (a * 10 + (c - 48)) h.tail
    have hc := h.head
    refine Nat.lt_of_lt_of_le ih ?_
    rw [List.length_cons, Nat.pow_succ, Nat.mul_comm (10 ^ r.length) 10, ← Nat.mul_assoc]
    exact Nat.mul_le_mul_right _ (by omega)
theorem digitsVal_lt {l : List Nat} {k : Nat} (h : NumText.AllDigits l) (hl : l.length ≤ k) : NumText.digitsVal l < 10 ^ k := by
  have := digits_lt l 0 h
  rw [Nat.zero_add, Nat.one_mul] at this
  exact Nat.lt_of_lt_of_le this (Nat.pow_le_pow_right (by decide) hl)
/-- a good look: it reads as a number of at most sixty figures -/
theorem fig_read {x : Str} (h1 : 1 ≤ (figL (TL.tl x)).length) (h2 : (figL (TL.tl x)).length ≤ 60) (h3 : digB (figL (TL.tl x)) = true) : ∃ n, intText? x = some n ∧ Wh n ∧ x.length ≤ 61 := by
  have hd := digB_iff.mp h3
  have hx : x.length = (TL.tl x).length := TL.len_tl x
  have hv := digitsVal_lt hd h2
  by_cases hc : ∃ r, TL.tl x = 45 :: r
  · obtain ⟨r, e⟩ := hc
    rw [e] at hd h1 h2 hv hx
    have hne : r ≠ [] := fun z => by rw [z] at h1; exact absurd h1 (by decide)
    have hd : NumText.AllDigits r := hd
    have h2 : r.length ≤ 60 := h2
    have hv : NumText.digitsVal r < 10 ^ 60 := hv
    rw [List.length_cons] at hx
    exact ⟨_, intText_neg (x := x) e hd hne (by omega), by show (-((NumText.digitsVal r : Nat) : Int)).natAbs < 10 ^ 60; rw [Int.natAbs_neg]; exact hv, by omega⟩
  · have e : figL (TL.tl x) = TL.tl x := by
      unfold figL
      split
      · rename_i r h
        exact absurd ⟨r, h⟩ hc
      · rfl
    rw [e] at hd h1 h2 hv
    exact ⟨_, intText_digits (x := x) hd (fun z => by have z : TL.tl x = [] := z; rw [z] at h1; exact absurd h1 (by decide)) (by omega), hv, by omega⟩
/-- the writing of a number passes the look -/
theorem fig_num {i : Int} (h : Wh i) : 1 ≤ (figL (TL.tl (numT i))).length ∧ (figL (TL.tl (numT i))).length ≤ 60 ∧ digB (figL (TL.tl (numT i))) = true := by
  have h : i.natAbs < 10 ^ 60 := h
  rcases tl_cases i with ⟨n, e1, e⟩ | ⟨m, e1, e⟩
  · have ef : figL (TL.numL n) = TL.numL n := by
      unfold figL
      split
      · rename_i r z
        have := TL.numL_digits n 45 (by rw [z]; exact List.mem_cons_self ..)
        omega
      · rfl
    rw [e, ef]
    exact ⟨numL_pos n, TL.numL_len (by decide) (by rw [e1] at h; simpa using h), digB_iff.mpr (TL.numL_digits n)⟩
  · rw [e]
    exact ⟨numL_pos _, TL.numL_len (by decide) (by rw [e1, Int.natAbs_neg, Int.natAbs_natCast] at h; exact h), digB_iff.mpr (TL.numL_digits _)⟩
end Kd

namespace KdRp
open PySem PySem.Spec PyProof.Rows L2
section
variable {prog : Program} {w : World}
/-- what repr makes of x in this heap is some text of at most L signs -/
def RepW (prog : Program) (w : World) (h : Heap) (d : Nat) (x : Value) (L : Nat) : Prop :=
  ∀ (A : Around) (s : Shared), A.units + d < cLine → s.heap = h → ∀ b, b + L ≤ sizeLine → ∀ (E : Value → Shared → Prop) (Q : Str → Shared → Prop), (∀ t tk, t.length ≤ L → Q t { s with toks := tk }) → wpAny (model prog w) A (pyReprUnder b x) Q E s
theorem RepW.flat {h : Heap} {d L : Nat} {x : Value} {t : Str} (r : ReprIs prog w x t) (hl : t.length ≤ L) : RepW prog w h d x L := fun A s _ _ b hb E Q q => r b (by omega) A E s Q fun tk => q t tk hl
theorem fold_w {h : Heap} {d L : Nat} {A : Around} {E : Value → Shared → Prop} (hu : A.units + d < cLine) : ∀ (l : List Value) (acc : Array Str) (n : Nat) (s : Shared) (Q : (Array Str × Nat) → Shared → Prop), s.heap = h → (∀ x ∈ l, RepW prog w h d x L) → n + 1 + (L + 2) * l.length ≤ sizeLine →
    (∀ (ts : List Str) (m : Nat) (tk : Nat), ts.length = l.length → (∀ t ∈ ts, t.length ≤ L) → Q ⟨acc ++ ts.toArray, m⟩ { s with toks := tk }) → wpAny (model prog w) A (forIn l (⟨acc, n⟩ : (Array Str × Nat)) tupBody) Q E s := by
  intro l
  induction l with
  | nil =>
    intro acc n s Q _ _ _ q
    have q0 := q [] n s.toks rfl (fun _ z => (nomatch z))
    simp only [List.forIn_nil]
    exact wpAny_pure (by simpa using q0)
  | cons x l ih =>
    intro acc n s Q hs hx hn q
    rw [List.length_cons, Nat.mul_succ] at hn
    rw [List.forIn_cons]
    refine wpAny_bind (wpAny_bind (hx x (List.mem_cons_self ..) A s hu hs (n + 1) (by omega) E _ fun t tk ht => wpAny_pure ?_))
    refine ih (acc.push t) (n + (t.length + 2)) { s with toks := tk } Q hs (fun y hy => hx y (List.mem_cons_of_mem _ hy)) (by omega) fun ts m tk' hl hts => ?_
    have q1 := q (t :: ts) m tk' (by rw [List.length_cons, hl, List.length_cons]) fun y hy => by
      rcases List.mem_cons.mp hy with rfl | hy
      · exact ht
      · exact hts y hy
    simpa using q1
theorem piled_of : ∀ (ts : List Str) {L : Nat}, (∀ t ∈ ts, t.length ≤ L) → piled ts ≤ (L + 2) * ts.length
  | [], _, _ => Nat.zero_le _
  | t :: ts, L, h => by
    have ih := piled_of ts fun y hy => h y (List.mem_cons_of_mem _ hy)
    have h1 := h t (List.mem_cons_self ..)
    rw [piled_cons, List.length_cons, Nat.mul_succ]
    omega
theorem join_le (ts : List Str) {L : Nat} (h : ∀ t ∈ ts, t.length ≤ L) : (Str.join ", " ts).length ≤ (L + 2) * ts.length := by
  have p := piled_of ts h
  cases ts with
  | nil => show (Str.join ", " []).length ≤ _; exact Nat.zero_le _
  | cons t ts =>
    have e := join_length_add (t :: ts) (by simp)
    omega
/-- a tuple's signs -/
abbrev tupL (L n : Nat) : Nat := (L + 2) * n + 8
theorem at_w {h : Heap} {d L b : Nat} {A : Around} {E : Value → Shared → Prop} {s : Shared} {a : Addr} {o : Obj} {items : Array Value} {n : Nat} {Q : Fin → Shared → Prop} (hu : A.units + d < cLine) (hs : s.heap = h) (ha : h.get? a = some o) (hd : o.data = .seq items n)
    (hx : ∀ x ∈ items.toList, RepW prog w h d x L) (hb : b + tupL L items.size ≤ sizeLine) (q : ∀ m u tk, m.length ≤ tupL L items.size → Q (.done (.ret (.str m u))) { s with toks := tk }) : wpAny (model prog w) A (Builtin.tupleReprAt b ⟨[.ref a], []⟩) Q E s := by
  have hb' : b + ((L + 2) * items.size + 8) ≤ sizeLine := hb
  rw [tuple_repr_tree]
  refine wpAny_bind (fmt_underWay fun c => ?_)
  cases c with
  | true =>
    refine PySem.W.KFB.if_so rfl ?_
    refine wpAny_bind (wpAny_rule ?_)
    refine wpAny_bind (wpAny_mkStr (wpAny_pure ?_) (by decide +kernel))
    exact q "(...)" _ _ (Nat.le_trans fmt_way (by show 5 ≤ (L + 2) * items.size + 8; omega))
  | false =>
    refine PySem.W.KFB.if_not rfl ?_
    unfold tupleReprRest Builtin.Tuple.tupleItemsOf
    refine wpAny_bind (wpAny_bind (wpAny_seqItems (by rw [hs]; exact ha) hd (wpAny_pure ?_)))
    rw [← Array.forIn_toList]
    have el : items.toList.length = items.size := Array.length_toList
    refine wpAny_bind (fold_w hu _ _ _ _ _ hs hx (by rw [el]; omega) fun ts m tk hl hts => ?_)
    have hj := join_le ts hts
    rw [hl, el] at hj
    have e1 : ((("(" : String) : Str)).length = 1 := rfl
    have e3 : (((if items.size == 1 then ",)" else ")" : String) : Str)).length ≤ 2 := by split <;> decide +kernel
    have e4 : (#[] ++ ts.toArray).toList = ts := by simp
    have hm : ((("(" : Str) ++ Str.join ", " ts ++ ((if items.size == 1 then ",)" else ")" : String) : Str)) : Str).length ≤ tupL L items.size := by
      rw [strLen_append, strLen_append, e1]
      show _ ≤ (L + 2) * items.size + 8
      omega
    have hz := Nat.le_trans hm (Nat.le_trans (Nat.le_add_left _ b) hb)
    refine wpAny_bind (wpAny_mkStr (wpAny_pure ?_) (by simpa using hz))
    have q1 := q _ tk (tk + 1) hm
    simpa using q1
/-- a tuple within -/
theorem RepW.tup {h : Heap} {d L : Nat} {a : Addr} {o : Obj} {items : Array Value} {n : Nat} (ha : h.get? a = some o) (hc : o.cls = .type "tuple") (hd : o.data = .seq items n) (hx : ∀ x ∈ items.toList, RepW prog w h d x L) : RepW prog w h (d + 2) (.ref a) (tupL L items.size) := by
  intro A s hu hs b hb E Q q
  have hT : s.TypeIs (.ref a) "tuple" := ⟨o, by rw [hs]; exact ha, hc⟩
  refine wpAny_pyReprUnder_ref (by omega) (wpAny_pyReprObjUnder_twin (twin := "tuple.__repr__.under") hT F.slot_tuple_repr rfl (by omega) ?_)
  refine call_twin_own (F.quiet_tuple_repr_under _) F.entry_tuple_repr_under F.check_tuple_repr_under hT F.slot_tuple_repr (F.args_tuple_repr_1 _) (wpOwn_of_wpAny ?_)
  refine at_w (by rw [units_under_tuple_repr_under]; omega) hs ha hd hx hb fun m u tk hm => ?_
  exact ⟨⟨m, u, rfl⟩, m, u, rfl, q m tk hm⟩
/-- repr(t) -/
theorem repr_w {h : Heap} {d L : Nat} {A : Around} {E : Value → Shared → Prop} {s : Shared} {a : Addr} {o : Obj} {items : Array Value} {n : Nat} {Q : Value → Shared → Prop} (hu : A.units + (d + 8) < cLine) (hs : s.heap = h) (ha : h.get? a = some o) (hc : o.cls = .type "tuple") (hd : o.data = .seq items n)
    (hx : ∀ x ∈ items.toList, RepW prog w h d x L) (hb : tupL L items.size ≤ sizeLine) (q : ∀ (m : Str) (u tk : Tok), Q (.str m u) { s with toks := tk }) : wpAny (model prog w) A (call (.builtin "repr") [.ref a]) Q E s := by
  have hT : s.TypeIs (.ref a) "tuple" := ⟨o, by rw [hs]; exact ha, hc⟩
  refine call_repr_slot (by omega) hT F.slot_tuple_repr ?_
  refine wpAny_call (codeAny_call_builtin_own (Code.quiet_builtin _ (by decide +kernel)) F.entry_tuple_repr (F.slot_tuple_repr.check _ _ _ _ _ _ _ _ hT (F.args_tuple_repr_1 _) (wpOwn_of_wpAny ?_)))
  refine at_w (b := 0) (by
    have e : A.in1.units ≤ A.units + 1 := by first | exact Nat.le_refl _ | (simp [Around.in1])
    rw [units_under_tuple_repr]
    omega) hs ha hd hx (by omega) fun m u tk _ => ?_
  exact ⟨m, u, rfl, q m u tk⟩
end
/-! ### repr of what a refusal keeps -/
theorem RepW.mono {prog : Program} {w : World} {h : Heap} {d d' L L' : Nat} {x : Value} (r : RepW prog w h d x L) (hd : d ≤ d') (hl : L ≤ L') : RepW prog w h d' x L' :=
  fun A s hu hs b hb E Q q => r A s (by omega) hs b (by omega) E Q fun t tk ht => q t tk (by omega)
/-- a value without parts, of a few signs -/
def FlatS : V → Prop
  | .str z => (∀ c ∈ z.cps.toList, c < 16 ^ 8) ∧ z.length ≤ 100
  | .int i => i.natAbs.log2 < 1920
  | .non => True
  | _ => False
theorem flat_w {prog : Program} {w : World} {h : Heap} {v : V} {u : Value} (r : RelV v u) (f : FlatS v) : RepW prog w h 0 u 2000 := by
  cases v with
  | str z =>
    obtain ⟨t, rfl⟩ := r
    have := StrLaws.reprText_len z f.1
    have f2 := f.2
    have hl : (reprText z).length ≤ 2000 := by omega
    exact .flat (ReprIs.str z t (Nat.le_trans hl (by decide))) hl
  | int i =>
    obtain ⟨t, rfl⟩ := r
    exact .flat (ReprIs.int t f) (Nat.le_trans (int_text_len_1921 f) (by decide))
  | non =>
    cases r
    exact .flat ReprIs.none (by decide +kernel)
  | _ => exact f.elim
theorem flats_w {prog : Program} {w : World} {h : Heap} : ∀ {ys : List V} {us : List Value}, Vals ys us → (∀ y ∈ ys, FlatS y) → ∀ u ∈ us, RepW prog w h 0 u 2000
  | [], _, r, _, u, hu => by
    cases r
    cases hu
  | y :: ys, _, r, hy, u, hu => by
    cases r with
    | cons r1 r2 =>
      rcases List.mem_cons.mp hu with rfl | hu
      · exact flat_w r1 (hy y (List.mem_cons_self ..))
      · exact flats_w r2 (fun z hz => hy z (List.mem_cons_of_mem _ hz)) u hu
/-- a tuple of such -/
def Tup1 (K : PySem.W.Frag) (H : Hp) (y : V) : Prop := ∃ (b : Addr) (zs : List V), y = .ref b ∧ SqT K H b zs ∧ zs.length ≤ 40 ∧ ∀ z ∈ zs, FlatS z
def Rep2 (K : PySem.W.Frag) (x : V) (H : Hp) : Prop := (∃ z : Str, x = .str z ∧ KdEx.Flat1 (.str z)) ∨ (∃ i : Int, x = .int i ∧ i.natAbs.log2 < 1920) ∨ x = .non ∨ ∃ (a : Addr) (ys : List V), x = .ref a ∧ SqT K H a ys ∧ ys.length ≤ 40 ∧ ∀ y ∈ ys, FlatS y ∨ Tup1 K H y
section
variable {X : Cx} {pins : List (Addr × Obj)} {σ : L2.St} {H : Hp} {s : Shared}
theorem parts_w (I : Inv X pins σ H s) : ∀ {ys : List V} {us : List Value}, Vals ys us → (∀ y ∈ ys, FlatS y ∨ Tup1 X.K H y) → ∀ u ∈ us, RepW X.prog X.w s.heap 2 u 80100
  | [], _, r, _, u, hu => by
    cases r
    cases hu
  | y :: ys, _, r, hy, u, hu => by
    cases r with
    | cons r1 r2 =>
      rcases List.mem_cons.mp hu with rfl | hu
      · rcases hy y (List.mem_cons_self ..) with f | ⟨b, zs, rfl, hb, hl, hz⟩
        · exact (flat_w r1 f).mono (by decide) (by decide)
        · cases r1
          obtain ⟨its, rv, ⟨o, ho, hcl, n, hd⟩, _⟩ := I.tuple hb
          have el : its.toArray.size = zs.length := by rw [List.size_toArray, ← rv.length]
          refine RepW.mono (RepW.tup (d := 0) (L := 2000) ho hcl hd (by simpa using flats_w rv hz)) (by decide) ?_
          show (2000 + 2) * its.toArray.size + 8 ≤ 80100
          rw [el]
          omega
      · exact parts_w I r2 (fun z hz => hy z (List.mem_cons_of_mem _ hz)) u hu
def rRep2 (K : PySem.W.Frag) : List V → Hp → VK → Prop := fun xs H Q => ∃ x, xs = [x] ∧ Rep2 K x H ∧ ∀ m : Str, Q (.str m) H
theorem cr_rep2 (hu : X.A.units + 64 < cLine) : CallR X (.builtin "repr") (rRep2 X.K) := by
  intro pins s σ H xs us Q I r h
  obtain ⟨x, rfl, hx, q⟩ := h
  obtain ⟨u, rfl, rx⟩ := vals1 r
  rcases hx with ⟨z, rfl, hz⟩ | ⟨i, rfl, hi⟩ | rfl | ⟨a, ys, rfl, ht, hl, hy⟩
  · obtain ⟨t, rfl⟩ := rx
    exact PySem.P.repr_of_str ⟨.str _, H, I.tok _, ⟨_, rfl⟩, q _⟩ (Nat.le_trans (KdEx.flat_len (v := .str z) hz) (by decide))
  · obtain ⟨t, rfl⟩ := rx
    exact PySem.P.repr_of_int hi ⟨.str _, H, I.tok _, ⟨_, rfl⟩, q _⟩
  · cases rx
    exact PySem.P.repr_of_none ⟨.str _, H, I.tok _, ⟨_, rfl⟩, q _⟩
  · cases rx
    obtain ⟨its, rv, ⟨o, ho, hcl, n, hd⟩, _⟩ := I.tuple ht
    have el : its.toArray.size = ys.length := by rw [List.size_toArray, ← rv.length]
    refine repr_w (d := 2) (L := 80100) (by omega) rfl ho hcl hd (by simpa using parts_w I rv hy) (Nat.le_trans (show (80100 + 2) * its.toArray.size + 8 ≤ 4000000 by rw [el]; omega) (by decide)) fun m u tk => ⟨.str m, H, I.tok _, ⟨u, rfl⟩, q m⟩
end
end KdRp

namespace Kd
open PySem PySem.Spec PyProof.Rows L2
/-! ### kinds -/
/-- a value as the laws draw it -/
inductive Fv where
  | i (z : Int)
  | s (z : Str)
  deriving DecidableEq
def Fv.v : Fv → V
  | .i z => .int z
  | .s z => .str z
def Fv.d : Fv → PyData
  | .i z => .int z
  | .s z => .str z
theorem Fv.v_inj {a b : Fv} (h : a.v = b.v) : a = b := by
  cases a <;> cases b <;> simp [Fv.v] at h <;> rw [h]
theorem Fv.scal (a b : Fv) : L2.scal a.v b.v = true := by
  cases a <;> cases b <;> rfl
theorem Fv.ne (a b : Fv) : (!decide (a.v = b.v)) = !decide (a = b) := by
  by_cases h : a = b
  · rw [h]
    simp
  · have h2 : ¬ a.v = b.v := fun q => h (Fv.v_inj q)
    rw [decide_eq_false h, decide_eq_false h2]
theorem Fv.flat (a : Fv) : flatV a.v = true := by cases a <;> rfl
abbrev Kind := Int × List Fv
section
variable {P : Program} {w : World} {K : PySem.W.Frag} {mg : Str → Option Value} {base : Heap} {f : Addr} {fd : FuncData}
theorem Fv.dp {H : Hp} (a : Fv) : Dp K H a.v a.d := by
  cases a
  · exact .int _
  · exact .str _
def KindAt (K : PySem.W.Frag) (H : Hp) (x : V) (k : Kind) : Prop := ∃ p q, x = .ref p ∧ SqT K H p [.int k.1, .ref q] ∧ SqT K H q (k.2.map Fv.v)
theorem KindAt.same {H H' : Hp} {x : V} {k : Kind} (e : Same H H') : KindAt K H x k → KindAt K H' x k := fun ⟨p, q, h1, h2, h3⟩ => ⟨p, q, h1, Same.seqT e h2, Same.seqT e h3⟩
def KindsAt (K : PySem.W.Frag) (H : Hp) (l : Addr) (ks : List Kind) : Prop := ∃ xs, SqL K H l xs ∧ Paired (KindAt K H) xs ks
theorem KindsAt.same {H H' : Hp} {l : Addr} {ks : List Kind} (e : Same H H') : KindsAt K H l ks → KindsAt K H' l ks := fun ⟨xs, h1, h2⟩ => ⟨xs, e.seq h1, PySem.Paired.mono (fun _ _ => KindAt.same e) h2⟩
theorem map_at {α β : Type} {g : α → β} {l : List α} {i : Nat} (h : i < l.length) : (l.map g)[i]? = some (g l[i]) := by rw [List.getElem?_map, List.getElem?_eq_getElem h]; rfl
end
/-! ### rows -/
inductive Rw where
  | kind (d key : Str) (day : Int) (vals : List Fv)
  | fact (name : Str) (day : Int) (keys : List Str) (nums : List Int)
  | forget (name : Str)
def Rw.at (K : PySem.W.Frag) (H : Hp) (p : Addr) : Rw → Prop
  | .kind d key day vals => ∃ q, SqT K H p [.str "kind", .str d, .str key, .int day, .ref q] ∧ SqT K H q (vals.map Fv.v)
  | .fact name day keys nums => ∃ q1 q2, SqT K H p [.str "fact", .str name, .int day, .ref q1, .ref q2] ∧ SqT K H q1 (keys.map V.str) ∧ SqT K H q2 (nums.map V.int)
  | .forget name => SqT K H p [.str "forget", .str name]
theorem Rw.same {K : PySem.W.Frag} {H H' : Hp} {p : Addr} (e : Same H H') : ∀ {r : Rw}, r.at K H p → r.at K H' p
  | .kind .., ⟨q, h1, h2⟩ => ⟨q, Same.seqT e h1, Same.seqT e h2⟩
  | .fact .., ⟨q1, q2, h1, h2, h3⟩ => ⟨q1, q2, Same.seqT e h1, Same.seqT e h2, Same.seqT e h3⟩
  | .forget .., h => Same.seqT e h
/-- a short text of letters and figures, and more -/
structure Tx (z : Str) : Prop where
  le : z.length ≤ 14
  ok : ∀ c ∈ z.cps.toList, c < 128
def Nu (i : Int) : Prop := i.natAbs < 2 ^ 210
def Fv.ok : Fv → Prop
  | .i z => Nu z
  | .s z => Tx z
def Rw.ok : Rw → Prop
  | .kind d key day vals => Tx d ∧ Tx key ∧ Nu day ∧ vals.length ≤ 10 ∧ ∀ v ∈ vals, v.ok
  | .fact name day keys nums => Tx name ∧ Nu day ∧ (keys.length ≤ 10 ∧ ∀ z ∈ keys, Tx z) ∧ nums.length ≤ 10 ∧ ∀ i ∈ nums, Nu i
  | .forget name => Tx name
theorem IsNm.tx {z : Str} (h : IsNm z) : Tx z := ⟨by have := h.le8; omega, fun c hc => by have := h.low c hc; omega⟩
theorem Tx.sok {z : Str} (h : Tx z) : PyData.strOk z = true := by
  unfold PyData.strOk
  rw [Array.all_eq_true']
  intro c hc
  have := h.ok c (Array.mem_toList_iff.mpr hc)
  exact decide_eq_true (by omega)
theorem Tx.flat {z : Str} (h : Tx z) : KdRp.FlatS (.str z) := ⟨fun c hc => Nat.lt_of_lt_of_le (h.ok c hc) (by decide), by have := h.le; omega⟩
theorem Nu.flat {i : Int} (h : Nu i) : KdRp.FlatS (.int i) := by
  show i.natAbs.log2 < 1920
  by_cases z : i.natAbs = 0
  · rw [z]
    decide
  · exact Nat.lt_trans ((Nat.log2_lt z).mpr h) (by decide)
theorem Fv.ok.flat : ∀ {v : Fv}, v.ok → KdRp.FlatS v.v
  | .i _, h => Nu.flat h
  | .s _, h => Tx.flat h
theorem tx_kind : Tx ("kind" : Str) := ⟨by decide +kernel, by decide +kernel⟩
theorem tx_fact : Tx ("fact" : Str) := ⟨by decide +kernel, by decide +kernel⟩
theorem tx_forget : Tx ("forget" : Str) := ⟨by decide +kernel, by decide +kernel⟩
/-- repr of a row is some text -/
theorem Rw.rep {K : PySem.W.Frag} {H : Hp} {p : Addr} : ∀ {r : Rw}, r.at K H p → r.ok → KdRp.Rep2 K (.ref p) H
  | .kind d key day vals, ⟨q, h1, h2⟩, ⟨o1, o2, o3, o4, o5⟩ => .inr (.inr (.inr ⟨p, _, rfl, h1, by show 5 ≤ 40; decide, fun y hy => by
      simp only [List.mem_cons, List.not_mem_nil, or_false] at hy
      rcases hy with rfl | rfl | rfl | rfl | rfl
      · exact .inl tx_kind.flat
      · exact .inl o1.flat
      · exact .inl o2.flat
      · exact .inl o3.flat
      · exact .inr ⟨q, _, rfl, h2, by rw [List.length_map]; omega, fun z hz => by
          obtain ⟨v, hv, rfl⟩ := List.mem_map.mp hz
          exact (o5 v hv).flat⟩⟩))
  | .fact name day keys nums, ⟨q1, q2, h1, h2, h3⟩, ⟨o1, o2, ⟨o3, o4⟩, o5, o6⟩ => .inr (.inr (.inr ⟨p, _, rfl, h1, by show 5 ≤ 40; decide, fun y hy => by
      simp only [List.mem_cons, List.not_mem_nil, or_false] at hy
      rcases hy with rfl | rfl | rfl | rfl | rfl
      · exact .inl tx_fact.flat
      · exact .inl o1.flat
      · exact .inl o2.flat
      · exact .inr ⟨q1, _, rfl, h2, by rw [List.length_map]; omega, fun z hz => by
          obtain ⟨v, hv, rfl⟩ := List.mem_map.mp hz
          exact (o4 v hv).flat⟩
      · exact .inr ⟨q2, _, rfl, h3, by rw [List.length_map]; omega, fun z hz => by
          obtain ⟨v, hv, rfl⟩ := List.mem_map.mp hz
          exact (o6 v hv).flat⟩⟩))
  | .forget name, h1, o1 => .inr (.inr (.inr ⟨p, _, rfl, h1, by show 2 ≤ 40; decide, fun y hy => by
      simp only [List.mem_cons, List.not_mem_nil, or_false] at hy
      rcases hy with rfl | rfl
      · exact .inl tx_forget.flat
      · exact .inl (Tx.flat o1)⟩))
/-- a small letter or a figure -/
def KeyC (c : Nat) : Prop := (97 ≤ c ∧ c ≤ 122) ∨ (48 ≤ c ∧ c ≤ 57)
structure Ky (z : Str) : Prop where
  ok : ∀ c ∈ z.cps.toList, KeyC c
  ge : 1 ≤ z.length
  le : z.length ≤ 12
theorem Ky.tx {z : Str} (h : Ky z) : Tx z := ⟨by have := h.le; omega, fun c hc => by rcases h.ok c hc with q | q <;> omega⟩
theorem Wh.nu {i : Int} (h : Wh i) : Nu i := Nat.lt_of_lt_of_le h (by decide)
def Fv.good : Fv → Prop
  | .i z => Wh z
  | .s z => Ky z
theorem Fv.good.ok : ∀ {v : Fv}, v.good → v.ok
  | .i _, h => Wh.nu h
  | .s _, h => Ky.tx h
abbrev figs : Str := "abcdefghijklmnopqrstuvwxyz0123456789"
theorem figs_len : figs.length = 36 := by decide +kernel
theorem figs_at {i : Nat} (h : i < 36) : ∃ c, figs.cps.toList[i]? = some c ∧ KeyC c := by
  have hl : i < figs.cps.toList.length := by
    have e : figs.cps.toList.length = 36 := by decide +kernel
    rw [e]
    exact h
  refine ⟨figs.cps.toList[i], List.getElem?_eq_getElem hl, ?_⟩
  have hall : figs.cps.toList.all (fun c => decide ((97 ≤ c ∧ c ≤ 122) ∨ (48 ≤ c ∧ c ≤ 57))) = true := by decide +kernel
  have := of_decide_eq_true (List.all_eq_true.mp hall _ (List.getElem_mem hl))
  exact this
def wordsK : List Str := [("a" : Str), ("b" : Str), ("ab" : Str), ("a1" : Str), ("1" : Str), ("01" : Str), ("x9" : Str), ("abcdefghijkl" : Str), ("abcdefghijkm" : Str)]
theorem wordsK_at {j : Nat} (h : j < 9) : ∃ z, (wordsK.map V.str)[j]? = some (.str z) ∧ Ky z := by
  have hl : j < wordsK.length := h
  refine ⟨wordsK[j], by rw [List.getElem?_map, List.getElem?_eq_getElem hl]; rfl, ?_⟩
  have hall : wordsK.all (fun z => (z.cps.toList.all fun c => decide ((97 ≤ c ∧ c ≤ 122) ∨ (48 ≤ c ∧ c ≤ 57))) && (decide (1 ≤ z.length) && decide (z.length ≤ 12))) = true := by decide +kernel
  obtain ⟨h1, h2⟩ := Bool.and_eq_true_iff.mp (List.all_eq_true.mp hall _ (List.getElem_mem hl))
  obtain ⟨h2, h3⟩ := Bool.and_eq_true_iff.mp h2
  exact ⟨fun c hc => by
    have := of_decide_eq_true (List.all_eq_true.mp h1 c hc)
    exact this, of_decide_eq_true h2, of_decide_eq_true h3⟩
/-- a row of a plan of these lists -/
def Rw.good (ds : List Dm) (ms : List Str) : Rw → Prop
  | .kind d key day vals => (∃ e ∈ ds, d = e.1 ∧ vals.length = e.2.length) ∧ Ky key ∧ Wh day ∧ ∀ v ∈ vals, v.good
  | .fact name day keys nums => Ky name ∧ Wh day ∧ (keys.length = ds.length ∧ ∀ z ∈ keys, Ky z) ∧ nums.length = ms.length ∧ ∀ i ∈ nums, Wh i
  | .forget name => Ky name

/-! ### the writing of rows, as a mirror -/
def valT : Fv → Str
  | .i z => numT z
  | .s z => ("'" : Str) ++ z ++ ("'" : Str)
def rwW : Rw → List Str
  | .kind d key day vals => [("kind" : Str), d, key, numT day] ++ vals.map valT
  | .fact name day keys nums => [("fact" : Str), name, numT day] ++ keys ++ nums.map numT
  | .forget name => [("forget" : Str), name]
def rwT (r : Rw) : Str := Txt.join " " (rwW r)
def rowsT (rs : List Rw) : Str := if rs.isEmpty = true then ("-" : Str) else Txt.join "; " (rs.map rwT)
theorem tl_apo : TL.tl ("'" : Str) = [39] := by decide +kernel
theorem len_apo : ("'" : Str).length = 1 := by decide +kernel
theorem tl_quo (z : Str) : TL.tl (("'" : Str) ++ z ++ ("'" : Str)) = 39 :: (TL.tl z ++ [39]) := by
  rw [TL.tl_append, TL.tl_append, tl_apo]
  rfl
theorem Ky.free {z : Str} (h : Ky z) {c : Nat} (hc : c < 48 ∨ (57 < c ∧ c < 97) ∨ 122 < c) : c ∉ TL.tl z := fun q => by
  rcases h.ok c q with e | e <;> omega
theorem val_free {v : Fv} (h : v.good) {c : Nat} (hc : c = 32 ∨ c = 59) : c ∉ TL.tl (valT v) := by
  cases v with
  | i z => exact num_free (by omega) (by omega)
  | s z =>
    intro q
    rw [show valT (.s z) = ("'" : Str) ++ z ++ ("'" : Str) from rfl, tl_quo] at q
    rcases List.mem_cons.mp q with q | q
    · omega
    · rcases List.mem_append.mp q with q | q
      · exact Ky.free h (by omega) q
      · rw [List.mem_singleton.mp q] at hc
        omega
theorem word_free {z : Str} (h : z = "kind" ∨ z = "fact" ∨ z = "forget") {c : Nat} (hc : c = 32 ∨ c = 59) : c ∉ TL.tl z := by
  rcases h with rfl | rfl | rfl <;> rcases hc with rfl | rfl <;> decide +kernel
/-- a row of good parts, whatever the plan -/
def Rw.fine : Rw → Prop
  | .kind d key day vals => IsNm d ∧ Ky key ∧ Wh day ∧ vals.length ≤ 5 ∧ ∀ v ∈ vals, v.good
  | .fact name day keys nums => Ky name ∧ Wh day ∧ (keys.length ≤ 4 ∧ ∀ z ∈ keys, Ky z) ∧ nums.length ≤ 4 ∧ ∀ i ∈ nums, Wh i
  | .forget name => Ky name
theorem rwW_free {r : Rw} (h : r.fine) {c : Nat} (hc : c = 32 ∨ c = 59) : ∀ p ∈ rwW r, c ∉ TL.tl p := fun p hp => by
  cases r with
  | kind d key day vals =>
    obtain ⟨h1, h2, h3, _, h4⟩ := h
    rcases List.mem_append.mp (show p ∈ [("kind" : Str), d, key, numT day] ++ vals.map valT from hp) with hp | hp
    · simp only [List.mem_cons, List.not_mem_nil, or_false] at hp
      rcases hp with rfl | rfl | rfl | rfl
      · exact word_free (.inl rfl) hc
      · exact h1.low.free (by omega)
      · exact h2.free (by omega)
      · exact num_free (by omega) (by omega)
    · obtain ⟨v, hv, rfl⟩ := List.mem_map.mp hp
      exact val_free (h4 v hv) hc
  | fact name day keys nums =>
    obtain ⟨h1, h2, ⟨_, h3⟩, _, h4⟩ := h
    rcases List.mem_append.mp (show p ∈ [("fact" : Str), name, numT day] ++ keys ++ nums.map numT from hp) with hp | hp
    · rcases List.mem_append.mp hp with hp | hp
      · simp only [List.mem_cons, List.not_mem_nil, or_false] at hp
        rcases hp with rfl | rfl | rfl
        · exact word_free (.inr (.inl rfl)) hc
        · exact h1.free (by omega)
        · exact num_free (by omega) (by omega)
      · exact (h3 p hp).free (by omega)
    · obtain ⟨v, hv, rfl⟩ := List.mem_map.mp hp
      exact num_free (by omega) (by omega)
  | forget name =>
    rcases List.mem_cons.mp (show p ∈ [("forget" : Str), name] from hp) with rfl | hp
    · exact word_free (.inr (.inr rfl)) hc
    · rw [List.mem_singleton.mp hp]
      exact Ky.free h (by omega)
theorem rwW_ne (r : Rw) : rwW r ≠ [] := by cases r <;> simp [rwW]
theorem split_row {r : Rw} (h : r.fine) : Txt.split (rwT r) " " = rwW r := TL.split_join tl_blank (by decide +kernel) (rwW_ne r) (rwW_free h (.inl rfl))
theorem rwT_free {r : Rw} (h : r.fine) : 59 ∉ TL.tl (rwT r) := free_join (by rw [tl_blank]; decide) (rwW_free h (.inr rfl))
theorem split_rows {rs : List Rw} (hn : rs ≠ []) (h : ∀ r ∈ rs, r.fine) : Txt.split (rowsT rs) "; " = rs.map rwT := by
  have e : rowsT rs = Txt.join "; " (rs.map rwT) := by
    unfold rowsT
    rw [if_neg (by simpa using hn)]
  rw [e]
  refine TL.split_join tl_semi (by decide +kernel) (by simpa using hn) fun p hp => ?_
  obtain ⟨r, hr, rfl⟩ := List.mem_map.mp hp
  exact rwT_free (h r hr)
theorem val_len {v : Fv} (h : v.good) : (valT v).length ≤ 61 := by
  cases v with
  | i z => exact num_len h
  | s z =>
    show (("'" : Str) ++ z ++ ("'" : Str)).length ≤ 61
    rw [len_append, len_append, len_apo]
    have := Ky.le h
    omega
theorem rwW_len {r : Rw} (h : r.fine) : ∀ p ∈ rwW r, p.length ≤ 61 := fun p hp => by
  have k1 : ("kind" : Str).length = 4 := by decide +kernel
  have k2 : ("fact" : Str).length = 4 := by decide +kernel
  have k3 : ("forget" : Str).length = 6 := by decide +kernel
  cases r with
  | kind d key day vals =>
    obtain ⟨h1, h2, h3, _, h4⟩ := h
    rcases List.mem_append.mp (show p ∈ [("kind" : Str), d, key, numT day] ++ vals.map valT from hp) with hp | hp
    · simp only [List.mem_cons, List.not_mem_nil, or_false] at hp
      have a1 := h1.le8
      have a2 := h2.le
      rcases hp with rfl | rfl | rfl | rfl
      · omega
      · omega
      · omega
      · exact num_len h3
    · obtain ⟨v, hv, rfl⟩ := List.mem_map.mp hp
      exact val_len (h4 v hv)
  | fact name day keys nums =>
    obtain ⟨h1, h2, ⟨_, h3⟩, _, h4⟩ := h
    rcases List.mem_append.mp (show p ∈ [("fact" : Str), name, numT day] ++ keys ++ nums.map numT from hp) with hp | hp
    · rcases List.mem_append.mp hp with hp | hp
      · simp only [List.mem_cons, List.not_mem_nil, or_false] at hp
        have a1 := h1.le
        rcases hp with rfl | rfl | rfl
        · omega
        · omega
        · exact num_len h2
      · have := (h3 p hp).le
        omega
    · obtain ⟨v, hv, rfl⟩ := List.mem_map.mp hp
      exact num_len (h4 v hv)
  | forget name =>
    rcases List.mem_cons.mp (show p ∈ [("forget" : Str), name] from hp) with rfl | hp
    · omega
    · rw [List.mem_singleton.mp hp]
      have := Ky.le h
      omega
theorem rwW_many {r : Rw} (h : r.fine) : (rwW r).length ≤ 11 := by
  cases r with
  | kind d key day vals =>
    have h4 := h.2.2.2.1
    show ([("kind" : Str), d, key, numT day] ++ vals.map valT).length ≤ 11
    rw [List.length_append, List.length_map]
    show 4 + _ ≤ 11
    omega
  | fact name day keys nums =>
    obtain ⟨_, _, ⟨h3, _⟩, h5, _⟩ := h
    show ([("fact" : Str), name, numT day] ++ keys ++ nums.map numT).length ≤ 11
    rw [List.length_append, List.length_append, List.length_map]
    show 3 + _ + _ ≤ 11
    omega
  | forget name => show 2 ≤ 11; decide
theorem rwT_len {r : Rw} (h : r.fine) : (rwT r).length ≤ 682 := by
  have h1 := join_len (y := (" " : Str)) (rwW_len h)
  have h2 := rwW_many h
  have h3 : (" " : Str).length = 1 := by decide +kernel
  rw [h3] at h1
  unfold rwT
  omega
theorem rwW_fit {r : Rw} (h : r.fine) : ((rwW r).map (·.length)).sum + (rwW r).length * (" " : Str).length ≤ 16777216 := by
  have h1 := sum_le (rwW_len h)
  have h2 := rwW_many h
  have h3 : (" " : Str).length = 1 := by decide +kernel
  rw [h3]
  omega
theorem rows_fit {rs : List Rw} (h : ∀ r ∈ rs, r.fine) (hl : rs.length ≤ 200) : ((rs.map rwT).map (·.length)).sum + (rs.map rwT).length * ("; " : Str).length ≤ 16777216 := by
  have h1 := sum_le (xs := rs.map rwT) (b := 682) fun p hp => by
    obtain ⟨r, hr, rfl⟩ := List.mem_map.mp hp
    exact rwT_len (h r hr)
  have h3 : ("; " : Str).length = 2 := by decide +kernel
  rw [h3]
  rw [List.length_map] at h1 ⊢
  omega
theorem rows_len {rs : List Rw} (h : ∀ r ∈ rs, r.fine) (hl : rs.length ≤ 200) : (rowsT rs).length ≤ 200000 := by
  unfold rowsT
  split
  · have := len_minus
    omega
  · have h1 := join_len (y := ("; " : Str)) (xs := rs.map rwT) (b := 682) fun p hp => by
      obtain ⟨r, hr, rfl⟩ := List.mem_map.mp hp
      exact rwT_len (h r hr)
    have h3 : ("; " : Str).length = 2 := by decide +kernel
    rw [h3, List.length_map] at h1
    omega
/-! ### one writing for each -/
theorem val_inj {u v : Fv} (h : valT u = valT v) : u = v := by
  have e := congrArg TL.tl h
  cases u with
  | i a =>
    cases v with
    | i b => rw [num_inj h]
    | s b =>
      exfalso
      rw [show valT (.s b) = ("'" : Str) ++ b ++ ("'" : Str) from rfl, tl_quo] at e
      have : (39 : Nat) ∈ TL.tl (numT a) := by
        show 39 ∈ TL.tl (valT (.i a))
        rw [e]
        exact List.mem_cons_self ..
      exact num_free (by decide) (by decide) this
  | s a =>
    cases v with
    | i b =>
      exfalso
      rw [show valT (.s a) = ("'" : Str) ++ a ++ ("'" : Str) from rfl, tl_quo] at e
      have : (39 : Nat) ∈ TL.tl (numT b) := by
        show 39 ∈ TL.tl (valT (.i b))
        rw [← e]
        exact List.mem_cons_self ..
      exact num_free (by decide) (by decide) this
    | s b =>
      rw [show valT (.s a) = ("'" : Str) ++ a ++ ("'" : Str) from rfl, show valT (.s b) = ("'" : Str) ++ b ++ ("'" : Str) from rfl, tl_quo, tl_quo] at e
      injection e with _ e
      rw [TL.ext_tl (List.append_cancel_right e)]
theorem map_inj {α β : Type} {f : α → β} (h : ∀ a b, f a = f b → a = b) : ∀ {xs ys : List α}, xs.map f = ys.map f → xs = ys
  | [], [], _ => rfl
  | [], _ :: _, e => by simp at e
  | _ :: _, [], e => by simp at e
  | x :: xs, y :: ys, e => by
    rw [List.map_cons, List.map_cons] at e
    injection e with e1 e2
    rw [h x y e1, map_inj h e2]
theorem w_kf : ¬ (("kind" : Str) = "fact") := by decide +kernel
theorem w_kg : ¬ (("kind" : Str) = "forget") := by decide +kernel
theorem w_fg : ¬ (("fact" : Str) = "forget") := by decide +kernel
theorem rwW_inj {ds : List Dm} {ms : List Str} {r s : Rw} (hr : r.good ds ms) (hs : s.good ds ms) (h : rwW r = rwW s) : r = s := by
  cases r with
  | kind d key day vals =>
    cases s with
    | kind d' key' day' vals' =>
      have h : [("kind" : Str), d, key, numT day] ++ vals.map valT = [("kind" : Str), d', key', numT day'] ++ vals'.map valT := h
      simp only [List.cons_append, List.nil_append, List.cons.injEq, true_and] at h
      obtain ⟨rfl, rfl, h1, h2⟩ := h
      rw [num_inj h1, map_inj (fun _ _ => val_inj) h2]
    | fact name day' keys nums =>
      have h : [("kind" : Str), d, key, numT day] ++ vals.map valT = [("fact" : Str), name, numT day'] ++ keys ++ nums.map numT := h
      simp only [List.cons_append, List.nil_append, List.cons.injEq] at h
      exact absurd h.1 w_kf
    | forget name =>
      have h : [("kind" : Str), d, key, numT day] ++ vals.map valT = [("forget" : Str), name] := h
      simp only [List.cons_append, List.nil_append, List.cons.injEq] at h
      exact absurd h.1 w_kg
  | fact name day keys nums =>
    cases s with
    | kind d' key' day' vals' =>
      have h : [("fact" : Str), name, numT day] ++ keys ++ nums.map numT = [("kind" : Str), d', key', numT day'] ++ vals'.map valT := h
      simp only [List.cons_append, List.nil_append, List.cons.injEq] at h
      exact absurd h.1.symm w_kf
    | fact name' day' keys' nums' =>
      have h : [("fact" : Str), name, numT day] ++ keys ++ nums.map numT = [("fact" : Str), name', numT day'] ++ keys' ++ nums'.map numT := h
      simp only [List.cons_append, List.nil_append, List.cons.injEq, true_and] at h
      obtain ⟨rfl, h1, h2⟩ := h
      have hl : keys.length = keys'.length := by rw [hr.2.2.1.1, hs.2.2.1.1]
      obtain ⟨e1, e2⟩ := List.append_inj h2 hl
      rw [num_inj h1, e1, map_inj (fun _ _ => num_inj) e2]
    | forget name' =>
      have h : [("fact" : Str), name, numT day] ++ keys ++ nums.map numT = [("forget" : Str), name'] := h
      simp only [List.cons_append, List.nil_append, List.cons.injEq] at h
      exact absurd h.1 w_fg
  | forget name =>
    cases s with
    | kind d' key' day' vals' =>
      have h : [("forget" : Str), name] = [("kind" : Str), d', key', numT day'] ++ vals'.map valT := h
      simp only [List.cons_append, List.nil_append, List.cons.injEq] at h
      exact absurd h.1.symm w_kg
    | fact name' day' keys' nums' =>
      have h : [("forget" : Str), name] = [("fact" : Str), name', numT day'] ++ keys' ++ nums'.map numT := h
      simp only [List.cons_append, List.nil_append, List.cons.injEq] at h
      exact absurd h.1.symm w_fg
    | forget name' =>
      have h : [("forget" : Str), name] = [("forget" : Str), name'] := h
      simp only [List.cons.injEq, true_and, and_true] at h
      rw [h]
/-! ### rows as data -/
def rwD : Rw → PyData
  | .kind d key day vals => .tuple [.str "kind", .str d, .str key, .int day, .tuple (vals.map Fv.d)]
  | .fact name day keys nums => .tuple [.str "fact", .str name, .int day, .tuple (keys.map PyData.str), .tuple (nums.map PyData.int)]
  | .forget name => .tuple [.str "forget", .str name]
section
variable {K : PySem.W.Frag}
theorem fvs_dp {H : Hp} : ∀ vs : List Fv, DpAll K H (vs.map Fv.v) (vs.map Fv.d)
  | [] => .nil
  | v :: vs => .cons v.dp (fvs_dp vs)
theorem ints_dpA {H : Hp} : ∀ vs : List Int, DpAll K H (vs.map V.int) (vs.map PyData.int)
  | [] => .nil
  | v :: vs => .cons (.int v) (ints_dpA vs)
theorem strs_dpA {H : Hp} : ∀ vs : List Str, DpAll K H (vs.map V.str) (vs.map PyData.str)
  | [] => .nil
  | v :: vs => .cons (.str v) (strs_dpA vs)
theorem Rw.dp {H : Hp} {p : Addr} : ∀ {r : Rw}, r.at K H p → Dp K H (.ref p) (rwD r)
  | .kind d key day vals, ⟨q, h1, h2⟩ => .tup h1 (.cons (.str _) (.cons (.str _) (.cons (.str _) (.cons (.int _) (.cons (.tup h2 (fvs_dp vals)) .nil)))))
  | .fact name day keys nums, ⟨q1, q2, h1, h2, h3⟩ => .tup h1 (.cons (.str _) (.cons (.str _) (.cons (.int _) (.cons (.tup h2 (strs_dpA keys)) (.cons (.tup h3 (ints_dpA nums)) .nil)))))
  | .forget name, h => .tup h (.cons (.str _) (.cons (.str _) .nil))
theorem lay_fvs : ∀ vs : List Fv, (∀ v ∈ vs, v.ok) → PyData.canLayAll0 (vs.map Fv.d) = true ∧ PyData.depthAll (vs.map Fv.d) = 0
  | [], _ => ⟨rfl, rfl⟩
  | v :: vs, h => by
    obtain ⟨h1, h2⟩ := lay_fvs vs fun z hz => h z (List.mem_cons_of_mem _ hz)
    have h3 := h v (List.mem_cons_self ..)
    cases v with
    | i z =>
      constructor
      · simp only [List.map_cons, Fv.d, PyData.canLayAll0, PyData.canLay0, h1, Bool.and_self]
      · simp only [List.map_cons, Fv.d, PyData.depthAll, PyData.depth, h2]
        rfl
    | s z =>
      have h4 : Tx z := h3
      constructor
      · simp only [List.map_cons, Fv.d, PyData.canLayAll0, PyData.canLay0, h1, h4.sok, Bool.and_self]
      · simp only [List.map_cons, Fv.d, PyData.depthAll, PyData.depth, h2]
        rfl
theorem lay_txs : ∀ vs : List Str, (∀ v ∈ vs, Tx v) → PyData.canLayAll0 (vs.map PyData.str) = true ∧ PyData.depthAll (vs.map PyData.str) = 0
  | [], _ => ⟨rfl, rfl⟩
  | v :: vs, h => by
    obtain ⟨h1, h2⟩ := lay_txs vs fun z hz => h z (List.mem_cons_of_mem _ hz)
    have h3 := h v (List.mem_cons_self ..)
    constructor
    · simp only [List.map_cons, PyData.canLayAll0, PyData.canLay0, h1, h3.sok, Bool.and_self]
    · simp only [List.map_cons, PyData.depthAll, PyData.depth, h2]
      rfl
theorem lay_intsA : ∀ xs : List Int, PyData.canLayAll0 (xs.map PyData.int) = true ∧ PyData.depthAll (xs.map PyData.int) = 0
  | [] => ⟨rfl, rfl⟩
  | x :: xs => by
    obtain ⟨h1, h2⟩ := lay_intsA xs
    constructor
    · simp only [List.map_cons, PyData.canLayAll0, PyData.canLay0, h1, Bool.and_self]
    · simp only [List.map_cons, PyData.depthAll, PyData.depth, h2, Nat.max_self]
theorem lay_rw : ∀ {r : Rw}, r.ok → PyData.canLay0 (rwD r) = true ∧ (rwD r).depth ≤ 2
  | .kind d key day vals, ⟨o1, o2, o3, o4, o5⟩ => by
    obtain ⟨h1, h2⟩ := lay_fvs vals o5
    constructor
    · simp only [rwD, PyData.canLayAll0, PyData.canLay0, h1, o1.sok, o2.sok, tx_kind.sok, Bool.and_self]
    · simp only [rwD, PyData.depthAll, PyData.depth, h2]
      decide
  | .fact name day keys nums, ⟨o1, o2, ⟨o3, o4⟩, o5, o6⟩ => by
    obtain ⟨h1, h2⟩ := lay_txs keys o4
    obtain ⟨h3, h4⟩ := lay_intsA nums
    constructor
    · simp only [rwD, PyData.canLayAll0, PyData.canLay0, h1, h3, o1.sok, tx_fact.sok, Bool.and_self]
    · simp only [rwD, PyData.depthAll, PyData.depth, h2, h4]
      decide
  | .forget name, o => by
    have o : Tx name := o
    constructor
    · simp only [rwD, PyData.canLayAll0, PyData.canLay0, o.sok, tx_forget.sok, Bool.and_self]
    · simp only [rwD, PyData.depthAll, PyData.depth]
      decide
theorem Rw.fine.ok : ∀ {r : Rw}, r.fine → r.ok
  | .kind d key day vals, ⟨h1, h2, h3, h4, h5⟩ => ⟨h1.tx, h2.tx, h3.nu, by omega, fun v hv => (h5 v hv).ok⟩
  | .fact name day keys nums, ⟨h1, h2, ⟨h3, h4⟩, h5, h6⟩ => ⟨h1.tx, h2.nu, ⟨by omega, fun z hz => (h4 z hz).tx⟩, by omega, fun i hi => (h6 i hi).nu⟩
  | .forget name, h => Ky.tx h
/-- a list of rows stands at l -/
def RwAt (K : PySem.W.Frag) (H : Hp) (x : V) (r : Rw) : Prop := ∃ p, x = .ref p ∧ r.at K H p
def RwsAt (K : PySem.W.Frag) (H : Hp) (l : Addr) (rs : List Rw) : Prop := ∃ xs, SqL K H l xs ∧ Paired (RwAt K H) xs rs
theorem RwAt.same {H H' : Hp} {x : V} {r : Rw} (e : Same H H') : RwAt K H x r → RwAt K H' x r := fun ⟨p, h1, h2⟩ => ⟨p, h1, Rw.same e h2⟩
theorem RwsAt.same {H H' : Hp} {l : Addr} {rs : List Rw} (e : Same H H') : RwsAt K H l rs → RwsAt K H' l rs := fun ⟨xs, h1, h2⟩ => ⟨xs, e.seq h1, PySem.Paired.mono (fun _ _ => RwAt.same e) h2⟩
theorem rws_dp {H : Hp} : ∀ {xs : List V} {rs : List Rw}, Paired (RwAt K H) xs rs → DpAll K H xs (rs.map rwD)
  | _, _, .nil => .nil
  | _, _, .cons ⟨p, e1, e2⟩ t => by
    subst e1
    exact .cons (Rw.dp e2) (rws_dp t)
theorem RwsAt.dp {H : Hp} {l : Addr} {rs : List Rw} (h : RwsAt K H l rs) : Dp K H (.ref l) (.list (rs.map rwD)) := by
  obtain ⟨xs, h1, h2⟩ := h
  exact .lst h1 (rws_dp h2)
theorem lay_rws : ∀ {rs : List Rw}, (∀ r ∈ rs, r.ok) → PyData.canLayAll0 (rs.map rwD) = true ∧ PyData.depthAll (rs.map rwD) ≤ 2
  | [], _ => ⟨rfl, Nat.zero_le _⟩
  | r :: rs, h => by
    obtain ⟨h1, h2⟩ := lay_rws fun z hz => h z (List.mem_cons_of_mem _ hz)
    obtain ⟨h3, h4⟩ := lay_rw (h r (List.mem_cons_self ..))
    constructor
    · simp only [List.map_cons, PyData.canLayAll0, h1, h3, Bool.and_self]
    · simp only [List.map_cons, PyData.depthAll]
      omega
theorem rws_shaped {rs : List Rw} (h : ∀ r ∈ rs, r.ok) : SeqAt.shaped (.list (rs.map rwD)) = true := by
  obtain ⟨h1, h2⟩ := lay_rws h
  simp [SeqAt.shaped, PyData.canLay0, PyData.depth, h1]
  omega
theorem eqv_nil (L : List PyData) : PyData.eqv (.list L) (.list []) = L.isEmpty := by
  cases L <;> simp [PyData.eqv, PyData.eqvAll]
theorem sh_nil : SeqAt.shaped (.list []) = true := by decide
end
end Kd

namespace Kd
open PySem PySem.Spec PyProof.Rows L2
def rJoin (K : PySem.W.Frag) : V → List V → Hp → VK → Prop := fun x xs H Q => ∃ a p, ∃ ys : List Str, x = .str a ∧ xs = [.ref p] ∧ (SqL K H p (ys.map V.str) ∨ SqT K H p (ys.map V.str)) ∧ (ys.map (·.length)).sum + ys.length * a.length ≤ 16777216 ∧ Q (.str (Txt.join a ys)) H
def rIntS : List V → Hp → VK → Prop := fun xs H Q => ∃ a n, xs = [.str a] ∧ PySem.intText? a = some n ∧ a.length ≤ 640 ∧ Q (.int n) H
end Kd
namespace KdSt
open PySem PySem.Spec PyProof.Rows L2
section
variable {prog : Program} {w : World} {A : Around} {E : Value → Shared → Prop} {s : Shared}
/-- str of a tuple: some text -/
theorem str_tup {a : Addr} {o : Obj} {items : Array Value} {n : Nat} {ts : List Str} {Q : Value → Shared → Prop} (hu : A.units + 8 < cLine) (ha : s.heap.get? a = some o) (hc : o.cls = .type "tuple") (hd : o.data = .seq items n) (hT : ∀ (prog : Program) (w : World), ReprAll prog w items.toList ts) (hsz : (tupleText ts).length ≤ sizeLine)
    (h : ∀ (m : Str) (u tk : Tok), m.length ≤ (tupleText ts).length + 5 → Q (.str m u) { s with toks := tk }) : wpAny (model prog w) A (call (.type "str") [.ref a]) Q E s :=
  callType_new F.called_str (by decide) (F.typeCall_str_1 _) (F.newCall_str_1 _) (fun obj => F.args_object_init_2 obj _) F.entry_str_new
    (meets_str_new (S := fun A' R s' => A'.units + 5 < cLine ∧ s'.heap.get? a = some o ∧ ∀ (m : Str) (u tk : Tok), m.length ≤ (tupleText ts).length + 5 → R (.ok (.ret (.str m u))) { s' with toks := tk })
      fun prog' w' A' R s' q => wpAny_strOf_slot rfl (by show A'.units + 1 + 1 < cLine; have := q.1; omega) ⟨o, q.2.1, hc⟩ F.slot_tuple_str F.slot_tuple_repr
        (fmt_tuple_repr q.2.1 hc hd (hT prog' w') hsz fun m u tk hm => ⟨m, u, rfl, q.2.2 m u tk hm⟩))
    ⟨by show A.units + 1 + 5 < cLine; omega, ha, fun m u tk hm => ⟨typeIs_str _ _ _, h m u tk hm⟩⟩
end
section
variable {X : Cx}
/-- str of a number, of a text, of a short tuple of texts -/
def rStrA (K : PySem.W.Frag) : List V → Hp → VK → Prop := fun xs H Q => (∃ i : Int, xs = [.int i] ∧ i.natAbs.log2 < 1920 ∧ Q (.str (Kd.numT i)) H) ∨ (∃ z : Str, xs = [.str z] ∧ Q (.str z) H) ∨
  ∃ (a : Addr) (ys : List V), xs = [.ref a] ∧ SqT K H a ys ∧ ys.length ≤ 8 ∧ (∀ y ∈ ys, KdEx.Flat1 y) ∧ ∀ m : Str, Q (.str m) H
theorem cr_strA (hu : X.A.units + 64 < cLine) : CallR X (.type "str") (rStrA X.K) := by
  intro pins s σ H xs us Q I r h
  rcases h with ⟨i, rfl, hz, q⟩ | ⟨z, rfl, q⟩ | ⟨a, ys, rfl, ht, hl, hy, q⟩
  · exact call_str_int pins s σ H [.int i] us Q I r ⟨i, rfl, hz, q⟩
  · exact SkE.call_str_str pins s σ H [.str z] us Q I r ⟨z, rfl, q⟩
  · obtain ⟨u, rfl, rx⟩ := vals1 r
    cases rx
    obtain ⟨its, rv, ⟨o, ho, hcl, n, hd⟩, _⟩ := I.tuple ht
    have htx := fmt_text (ys.map KdEx.flatT)
    have hp := KdEx.piled_le (ys.map KdEx.flatT) fun t ht => by
      obtain ⟨y, hym, rfl⟩ := List.mem_map.mp ht
      exact KdEx.flat_len (hy y hym)
    rw [List.length_map] at hp
    refine str_tup (ts := ys.map KdEx.flatT) (by omega) ho hcl hd (fun _ _ => KdEx.reprs rv hy) (Nat.le_trans (show _ ≤ 500000 by omega) (by decide)) fun m u tk hm => ⟨.str m, H, I.tok _, ⟨u, rfl⟩, q m⟩
end
end KdSt

namespace Kd
open PySem PySem.Spec PyProof.Rows L2
theorem wh_log {i : Int} (h : Wh i) : i.natAbs.log2 < 1920 := Nu.flat (Wh.nu h)
theorem Ky.flat1 {z : Str} (h : Ky z) : KdEx.Flat1 (.str z) := ⟨fun c hc => by rcases h.ok c hc with e | e <;> exact Nat.lt_of_lt_of_le (show c < 128 by omega) (by decide), by have := h.le; omega⟩
theorem take_snocF {α β : Type} {f : α → β} {xs : List α} {i : Nat} {z : α} (h : xs[i]? = some z) : ((xs.take i).map f) ++ [f z] = (xs.take (i + 1)).map f := by
  obtain ⟨h1, h2⟩ := List.getElem?_eq_some_iff.mp h
  rw [List.take_succ_eq_append_getElem h1, List.map_append, h2]
  rfl
theorem map_atF {α β : Type} {f : α → β} {xs : List α} {i : Nat} {x : β} (h : (xs.map f)[i]? = some x) : ∃ z, x = f z ∧ xs[i]? = some z := by
  rw [List.getElem?_map] at h
  cases e : xs[i]? with
  | none => rw [e] at h; cases h
  | some z => rw [e] at h; exact ⟨z, (Option.some.inj h).symm, rfl⟩
theorem take_all {α β : Type} {f : α → β} {xs : List α} : (xs.take (xs.map f).length) = xs := by rw [List.length_map, List.take_length]
theorem iteNT {c A B : Prop} [Decidable c] (hc : ¬ c) (h : A) : if (!decide c) = true then A else B := by
  rw [decide_eq_false hc]
  exact iteT h
theorem u64 {A : Around} {k : Nat} (hr : Room k A) : A.units + 64 < cLine := by
  have := hr.un
  omega
theorem u65 {A : Around} {k : Nat} (hr : Room k A) : A.units + 65 < cLine := by
  have := hr.un
  omega
theorem atI_end {α : Type} {xs : List α} {a : α} (h : xs.getLast? = some a) : atI xs (-1) = some a := by
  obtain ⟨r, rfl⟩ := List.getLast?_eq_some_iff.mp h
  exact atI_last r a
theorem cutLast (xs : List V) : cutV xs none (some (-1)) = xs.take (xs.length - 1) := by
  unfold cutV
  rw [HT.sIx_none]
  have e : HT.sIx xs.length xs.length (some (-1)) = xs.length - 1 := by
    unfold HT.sIx
    simp
    omega
  rw [e]
  simp
theorem cutR1 (a : V) (xs : List V) : cutV (a :: xs) (some 1) none = xs := by
  unfold cutV
  rw [HT.sIx_none]
  have e : HT.sIx (a :: xs).length 0 (some ((1 : Nat) : Int)) = min 1 (a :: xs).length := HT.sIx_nat _ _ _
  have e2 : HT.sIx (a :: xs).length 0 (some 1) = min 1 (a :: xs).length := e
  rw [e2, Nat.min_eq_left (by show 1 ≤ xs.length + 1; omega)]
  simp
/-- a def of the module, its promise and how it is called -/
structure Fun (P : Program) (w : World) (K : PySem.W.Frag) (mg : Str → Option Value) (base : Heap) (x : Str) (n : Nat) (ps : List Str) (sp : Sp) (f : Addr) (fd : FuncData) : Prop where
  G : FnOk P w K mg base CX0 n f fd ps sp
  k : PySem.W.keepIn K (.ref f) = true
  b : Binds K fd ps []
  g : mg x = some (.ref f)
theorem st_eq {t : L2.St → Hp → Prop} {σ σ' : L2.St} {H : Hp} (e : σ = σ') (h : t σ' H) : t σ H := by
  rw [e]
  exact h
theorem set_st {i : Nat} {σ σ' : L2.St} {K : L2.St → Hp → Prop} {v : V} {H : Hp} (e : σ.set i (some v) = σ') (h : K σ' H) : (fun x H1 => gName i x σ H1 K) v H := by
  show K (σ.set i (some v)) H
  rw [e]
  exact h
theorem intEq {x y : Int} (c : decide (V.int x = V.int y) = true) : x = y := V.int.inj (of_decide_eq_true c)
theorem intNe {x y : Int} (h : x ≠ y) : ¬ decide (V.int x = V.int y) = true := fun c => h (intEq c)
theorem iteF0 {c : Prop} [Decidable c] {A B : Prop} (h : ¬ c) (b : B) : if c then A else B := by
  rw [if_neg h]
  exact b
theorem iteT0 {c : Prop} [Decidable c] {A B : Prop} (h : c) (b : A) : if c then A else B := by
  rw [if_pos h]
  exact b
section
variable {P : Program} {w : World} {K : PySem.W.Frag} {mg : Str → Option Value} {base : Heap} {f : Addr} {fd : FuncData}
theorem seqL_ct {H : Hp} {a g l : Addr} {xs : List V} (h : SqL K (ct a g H) l xs) : SqL K H l xs := Same.seq ct_sub h
theorem ct_back {a g p : Addr} {H H' : Hp} (s : Same (ct a g H) (ct a g H')) (h : ct a g H' p = none) : ct a g H p = none := by
  cases e : ct a g H p with
  | none => rfl
  | some o =>
    rw [s _ _ e] at h
    cases h
/-- a new object beside the tray -/
structure NewAt (H H3 : Hp) (p : Addr) (o : HO) (a g : Addr) (n : Nat) : Prop where
  f : H3 p = some o
  T : Tray H3 a g n
  s : Same H H3
  c : Same (ct a g H) (ct a g H3)
  na : p ≠ a
  ng : p ≠ g
theorem newAt {H H3 : Hp} {p : Addr} {o : HO} {a g : Addr} {n : Nat} (T : Tray H a g n) (np : H p = none) (e : upd H p o = H3) : NewAt H H3 p o a g n := by
  subst e
  exact ⟨upd_same, T.new np, same_new np, ctnew np, (T.na np).1, (T.na np).2⟩
theorem NewAt.fc {H H3 : Hp} {p : Addr} {o : HO} {a g : Addr} {n : Nat} (h : NewAt H H3 p o a g n) : ct a g H3 p = some o := ct_of h.f h.na h.ng
/-- a new object, no tray asked -/
structure NewO (H H3 : Hp) (p : Addr) (o : HO) : Prop where
  f : H3 p = some o
  s : Same H H3
theorem newO {H H3 : Hp} {p : Addr} {o : HO} (np : H p = none) (e : upd H p o = H3) : NewO H H3 p o := by
  subst e
  exact ⟨upd_same, same_new np⟩
abbrev InitD (K : PySem.W.Frag) (e f : Addr) (fd : FuncData) : Prop := FunD K "__init__" "Plan.__init__" (defArgs s_Plan_init) (defBody s_Plan_init) (defScope s_Plan_init) [.ref e] [] f fd
theorem init_b2 {e : Addr} (F : InitD K e f fd) : ∃ ds, Vals [V.ref e] ds ∧ Binds K fd ["self", "dimensions", "measures"] ds :=
  F.binds1 (ps := ["self", "dimensions", "measures"]) 2 0 (by simp) rfl fun T kV doc pm an cdv ct us its h1 h2 => match us, its, h1, h2 with
    | [_, _], [_], _, _ => ⟨_, rfl, rfl⟩
theorem init_b3 {e : Addr} (F : InitD K e f fd) : ∃ ds, Vals [] ds ∧ Binds K fd ["self", "dimensions", "measures"] ds :=
  F.binds1 (ps := ["self", "dimensions", "measures"]) 3 1 (by simp) rfl fun T kV doc pm an cdv ct us its h1 h2 => match us, its, h1, h2 with
    | [_, _, _], [_], _, _ => ⟨_, rfl, rfl⟩
/-- the class Plan, and how it is called -/
structure PlanC (P : Program) (w : World) (K : PySem.W.Frag) (mg : Str → Option Value) (base : Heap) (C e fI : Addr) (fdI : FuncData) : Prop where
  T : PlTxt K C
  M : Mk K C fI
  GI : FnOk P w K mg base CX0 5 fI fdI ["self", "dimensions", "measures"] (spInit K C)
  gC : mg "Plan" = some (.ref C)
  I : InitD K e fI fdI
theorem seqT_cdl {D r : Addr} {H : Hp} {A xs : List V} (h1 : H D = some (.lst A)) (h : SqT K H r xs) : SqT K (cd D H) r xs := by
  rcases h with (q | ⟨o, q⟩) | q
  · exact .inl (.inl (cd_of q (ne_of q h1 (fun z => nomatch z))))
  · exact .inl (.inr ⟨o, cd_of q (ne_of q h1 (fun z => nomatch z))⟩)
  · exact .inr q
theorem dim_cdl {D : Addr} {H : Hp} {A : List V} {y : V} {d : Str × List (Str × Str)} (e1 : H D = some (.lst A)) : DimAt K H y d → DimAt K (cd D H) y d :=
  fun ⟨p, q, h1, h2, zs, h3, h4⟩ => ⟨p, q, h1, seqT_cdl e1 h2, zs, seqT_cdl e1 h3, PySem.Paired.mono (fun _ _ ⟨r, q1, q2⟩ => ⟨r, q1, seqT_cdl e1 q2⟩) h4⟩
/-- a Plan that is new behind H -/
structure PlanN (K : PySem.W.Frag) (C : Addr) (H H' : Hp) (x : Addr) (ds : List Dm) (ms : List Str) : Prop where
  ex : ∃ dx a b xs, H' x = some (.ins C dx (plF a b)) ∧ H' a = some (.lst xs) ∧ Paired (DimAt K H') xs ds ∧ H' b = some (.lst (ms.map V.str)) ∧ H x = none ∧ H a = none ∧ H b = none
  s : Same H H'
theorem PlanN.ct {C x a g : Addr} {H H' : Hp} {n : Nat} {ds : List Dm} {ms : List Str} (h : PlanN K C H H' x ds ms) (T : Tray H a g n) : PlanAt K C (ct a g H') x ds ms := by
  obtain ⟨dx, pa, pb, xs, e1, e2, e3, e4, n1, n2, n3⟩ := h.ex
  exact ⟨dx, pa, pb, xs, ct_of e1 (T.na n1).1 (T.na n1).2, ct_of e2 (T.na n2).1 (T.na n2).2, PySem.Paired.mono (fun _ _ => dim_ct (T.same h.s)) e3, ct_of e4 (T.na n3).1 (T.na n3).2⟩
theorem init_good {C hp bp x dx : Addr} {H5 : Hp} {ds : List Dm} {ms : List Str} {B : Hp → Prop} {E : XK} (hd : DimsAt K H5 hp ds) (hm : Txs K H5 bp ms) (sz : Szd ds ms) (ff : ffV ds ms = .non) (nx : H5 x = none) (ndx : H5 dx = none) (nex : dx ≠ x) (k : ∀ H7, PlanN K C H5 H7 x ds ms → B H7) :
    spInit K C [.ref x, .ref hp, .ref bp] (upd (upd H5 dx (.own x)) x (.ins C dx [])) (fun v H2 => v = .non ∧ B H2) E := by
  have sx : Same H5 (upd (upd H5 dx (.own x)) x (.ins C dx [])) := fun b o q => by rw [upd_ne (ne_of_none q nx), upd_ne (ne_of_none q ndx)]; exact q
  refine ⟨x, dx, hp, bp, ds, ms, rfl, upd_same, DimsAt.same sx hd, Same.txs sx hm, sz, ff, fun H7 pa pb px npa npb e1 e2 e3 e4 s7 => ⟨rfl, ?_⟩⟩
  have s57 : Same H5 H7 := fun b o e => cd_sub _ _ (s7 b o (cd_of (sx b o e) (ne_of_none e nx)))
  exact k H7 ⟨⟨dx, pa, pb, px, e1, e2, e3, e4, nx, sx.free npa, sx.free npb⟩, s57⟩
end
end Kd

namespace Kd
open PySem PySem.Spec PyProof.Rows L2
/-! ### what a word reads as -/
open Classical in
noncomputable def readN (z : Str) : Option Int := if h : ∃ i, Wh i ∧ z = numT i then some h.choose else none
theorem readN_iff {z : Str} {i : Int} : readN z = some i ↔ Wh i ∧ z = numT i := by
  unfold readN
  constructor
  · intro h
    split at h
    · rename_i q
      have e := Option.some.inj h
      rw [← e]
      exact q.choose_spec
    · cases h
  · intro h
    rw [dif_pos ⟨i, h⟩]
    have q := (⟨i, h⟩ : ∃ i, Wh i ∧ z = numT i).choose_spec
    rw [num_inj (q.2.symm.trans h.2)]
theorem readN_none {z : Str} : readN z = none ↔ ∀ i, Wh i → z ≠ numT i := by
  constructor
  · intro h i hi e
    rw [readN_iff.mpr ⟨hi, e⟩] at h
    cases h
  · intro h
    cases e : readN z with
    | none => rfl
    | some i => exact absurd (readN_iff.mp e).2 (h i (readN_iff.mp e).1)
open Classical in
noncomputable def readV (z : Str) : Option Fv := if h : ∃ v : Fv, v.good ∧ z = valT v then some h.choose else none
theorem readV_iff {z : Str} {v : Fv} : readV z = some v ↔ v.good ∧ z = valT v := by
  unfold readV
  constructor
  · intro h
    split at h
    · rename_i q
      have e := Option.some.inj h
      rw [← e]
      exact q.choose_spec
    · cases h
  · intro h
    rw [dif_pos ⟨v, h⟩]
    have q := (⟨v, h⟩ : ∃ v : Fv, v.good ∧ z = valT v).choose_spec
    rw [val_inj (q.2.symm.trans h.2)]
theorem readV_num {z : Str} (h : ∀ y, Ky y → z ≠ valT (.s y)) : readV z = (readN z).map Fv.i := by
  cases e : readN z with
  | some i => exact readV_iff.mpr (readN_iff.mp e)
  | none =>
    cases e2 : readV z with
    | none => rfl
    | some v =>
      obtain ⟨h1, h2⟩ := readV_iff.mp e2
      cases v with
      | i j => exact absurd h2 (readN_none.mp e j h1)
      | s y => exact absurd h2 (h y h1)
open Classical in
noncomputable def readR (ds : List Dm) (ms : List Str) (ws : List Str) : Option Rw := if h : ∃ r : Rw, r.good ds ms ∧ ws = rwW r then some h.choose else none
theorem readR_iff {ds : List Dm} {ms ws : List Str} {r : Rw} : readR ds ms ws = some r ↔ r.good ds ms ∧ ws = rwW r := by
  unfold readR
  constructor
  · intro h
    split at h
    · rename_i q
      have e := Option.some.inj h
      rw [← e]
      exact q.choose_spec
    · cases h
  · intro h
    rw [dif_pos ⟨r, h⟩]
    have q := (⟨r, h⟩ : ∃ r : Rw, r.good ds ms ∧ ws = rwW r).choose_spec
    rw [rwW_inj q.1 h.1 (q.2.symm.trans h.2)]
theorem readR_none {ds : List Dm} {ms ws : List Str} (h : ∀ r : Rw, r.good ds ms → ws ≠ rwW r) : readR ds ms ws = none := by
  cases e : readR ds ms ws with
  | none => rfl
  | some r => exact absurd (readR_iff.mp e).2 (h r (readR_iff.mp e).1)
/-! ### None or a value -/
def oI : Option Int → V
  | none => .non
  | some i => .int i
def oV : Option Fv → V
  | none => .non
  | some v => v.v
theorem oI_flat (o : Option Int) : flatV (oI o) = true := by cases o <;> rfl
theorem oV_flat (o : Option Fv) : flatV (oV o) = true := by
  cases o with
  | none => rfl
  | some v => exact v.flat
theorem oI_in (os : List (Option Int)) : inV .non (os.map oI) = os.any Option.isNone := by
  unfold inV
  rw [List.any_map]
  congr 1
  funext o
  cases o <;> rfl
theorem oV_in (os : List (Option Fv)) : inV .non (os.map oV) = os.any Option.isNone := by
  unfold inV
  rw [List.any_map]
  congr 1
  funext o
  cases o with
  | none => rfl
  | some v => cases v <;> rfl
theorem some_all {α : Type} : ∀ {os : List (Option α)}, os.any Option.isNone = false → ∃ xs : List α, os = xs.map some
  | [], _ => ⟨[], rfl⟩
  | none :: os, h => by simp at h
  | some x :: os, h => by
    obtain ⟨xs, e⟩ := some_all (os := os) (by simpa using h)
    exact ⟨x :: xs, by rw [e]; rfl⟩
theorem none_of {α β : Type} {f : β → Option α} {ws : List β} (h : (ws.map f).any Option.isNone = true) : ∃ w ∈ ws, f w = none := by
  obtain ⟨o, ho, h2⟩ := List.any_eq_true.mp h
  obtain ⟨w, hw, rfl⟩ := List.mem_map.mp ho
  exact ⟨w, hw, by simpa using h2⟩
/-! ### keys -/
def keyB (z : Str) : Bool := decide (1 ≤ z.length) && (decide (z.length ≤ 12) && z.cps.toList.all fun c => decide ((97 ≤ c ∧ c ≤ 122) ∨ (48 ≤ c ∧ c ≤ 57)))
theorem keyB_iff {z : Str} : keyB z = true ↔ Ky z := by
  unfold keyB
  rw [Bool.and_eq_true, Bool.and_eq_true, decide_eq_true_iff, decide_eq_true_iff, List.all_eq_true]
  constructor
  · rintro ⟨h1, h2, h3⟩
    exact ⟨fun c hc => (show (97 ≤ c ∧ c ≤ 122) ∨ (48 ≤ c ∧ c ≤ 57) from of_decide_eq_true (h3 c hc)), h1, h2⟩
  · intro h
    exact ⟨h.ge, h.le, fun c hc => decide_eq_true (show (97 ≤ c ∧ c ≤ 122) ∨ (48 ≤ c ∧ c ≤ 57) from h.ok c hc)⟩
abbrev abcF : Str := ("abcdefghijklmnopqrstuvwxyz" : Str) ++ ("0123456789" : Str)
theorem mem_figs {c : Nat} : c ∈ ("0123456789" : Str).cps.toList ↔ 48 ≤ c ∧ c ≤ 57 := by
  have e : ("0123456789" : Str).cps.toList = List.range' 48 10 := by decide +kernel
  rw [e, List.mem_range'_1]
  omega
theorem mem_abcF {c : Nat} : c ∈ abcF.cps.toList ↔ (97 ≤ c ∧ c ≤ 122) ∨ (48 ≤ c ∧ c ≤ 57) := by
  have e : abcF.cps.toList = abc.cps.toList ++ ("0123456789" : Str).cps.toList := TL.tl_append _ _
  rw [e, List.mem_append, mem_abc, mem_figs]
/-! ### a text between apostrophes -/
theorem starts_iff (x : Str) : Txt.startswith x "'" = decide ((TL.tl x).head? = some 39) := by
  unfold Txt.startswith
  rw [StrLaws.subAt_eq, len_apo]
  have ht : ("'" : Str).cps.toList = [39] := by decide +kernel
  have hx : x.length = (TL.tl x).length := TL.len_tl x
  have e0 : x.cps.toList = TL.tl x := rfl
  rw [ht, hx, e0]
  cases TL.tl x with
  | nil => rfl
  | cons c r =>
    simp
    by_cases h : c = 39 <;> simp [h]
theorem ends_iff (x : Str) : Txt.endswith x "'" = decide ((TL.tl x).getLast? = some 39) := by
  unfold Txt.endswith
  rw [StrLaws.subAt_eq, len_apo]
  have ht : ("'" : Str).cps.toList = [39] := by decide +kernel
  have hx : x.length = (TL.tl x).length := TL.len_tl x
  have e0 : x.cps.toList = TL.tl x := rfl
  rw [ht, hx, e0]
  rcases List.eq_nil_or_concat (TL.tl x) with e | ⟨r, c, e⟩
  · rw [e]
    rfl
  · rw [e, List.concat_eq_append, List.getLast?_append]
    simp
    by_cases h : c = 39 <;> simp [h]
theorem cutQ (x : Str) : TL.tl (cutS x (some 1) (some (-1))) = ((TL.tl x).drop 1).take ((TL.tl x).length - 2) := by
  have hx : x.length = (TL.tl x).length := TL.len_tl x
  show ((x.cps.toList.drop (HT.sIx x.length 0 (some 1))).take (HT.sIx x.length x.length (some (-1)) - HT.sIx x.length 0 (some 1))) = _
  have e1 : HT.sIx x.length 0 (some 1) = min 1 x.length := HT.sIx_nat _ 0 1
  have e2 : HT.sIx x.length x.length (some (-1)) = x.length - 1 := by
    unfold HT.sIx
    simp
    omega
  rw [e1, e2, hx]
  have e0 : x.cps.toList = TL.tl x := rfl
  rw [e0]
  cases TL.tl x with
  | nil => simp
  | cons c r =>
    have : min 1 (c :: r).length = 1 := by rw [List.length_cons]; omega
    rw [this]
    congr 1
theorem quo_of {x : Str} (h1 : Txt.startswith x "'" = true) (h2 : Txt.endswith x "'" = true) (h3 : keyB (cutS x (some 1) (some (-1))) = true) : x = valT (.s (cutS x (some 1) (some (-1)))) := by
  rw [starts_iff] at h1
  rw [ends_iff] at h2
  have h1 := of_decide_eq_true h1
  have h2 := of_decide_eq_true h2
  have hk := keyB_iff.mp h3
  have hg := hk.ge
  rw [TL.len_tl, cutQ] at hg
  apply TL.ext_tl
  rw [show valT (.s (cutS x (some 1) (some (-1)))) = ("'" : Str) ++ cutS x (some 1) (some (-1)) ++ ("'" : Str) from rfl, tl_quo, cutQ]
  cases e : TL.tl x with
  | nil => rw [e] at h1; cases h1
  | cons c r =>
    rw [e] at h1 h2 hg
    cases h1
    rcases List.eq_nil_or_concat r with e2 | ⟨q, d, e2⟩
    · rw [e2] at hg
      exact absurd hg (by decide)
    · subst e2
      rw [List.concat_eq_append] at h2 ⊢
      rw [List.getLast?_cons, List.getLast?_append] at h2
      simp at h2
      subst h2
      simp
theorem of_quo {y : Str} (h : Ky y) : Txt.startswith (valT (.s y)) "'" = true ∧ Txt.endswith (valT (.s y)) "'" = true ∧ cutS (valT (.s y)) (some 1) (some (-1)) = y := by
  have e : TL.tl (valT (.s y)) = 39 :: (TL.tl y ++ [39]) := tl_quo y
  refine ⟨?_, ?_, ?_⟩
  · rw [starts_iff, e]
    rfl
  · rw [ends_iff, e, List.getLast?_cons, List.getLast?_append]
    rfl
  · apply TL.ext_tl
    rw [cutQ, e]
    simp
end Kd

namespace Kd
open PySem PySem.Spec PyProof.Rows L2
section
variable {P : Program} {w : World} {K : PySem.W.Frag} {mg : Str → Option Value} {base : Heap} {f : Addr} {fd : FuncData}
/-! ### attributes_of -/
def spAttr (K : PySem.W.Frag) (C : Addr) : Sp := fun vs H Q _ => ∃ (x : Addr) (n : Str) (ds : List (Str × List (Str × Str))) (ms : List Str), vs = [.ref x, .str n] ∧ PlanAt K C H x ds ms ∧
  (∀ d q H', ds.find? (fun d => decide (d.1 = n)) = some d → AttsAt K H' q d.2 → Same H H' → Q (.ref q) H') ∧ (ds.find? (fun d => decide (d.1 = n)) = none → ∀ H', Same H H' → Q .non H')
theorem sc_attr : FnScope ["plan", "dimension", "name", "attributes"] ["plan", "dimension"] (defScope s_attributes_of) := ⟨rfl, rfl, rfl, by decide +kernel, rfl, by decide +kernel, by decide +kernel⟩
theorem ok_attr {C fd1 : Addr} {fdd : FuncData} (F : FnP K "attributes_of" "attributes_of" s_attributes_of f fd) (T : PlTxt K C) (GD : FnOk P w K mg base CX0 1 fd1 fdd ["self"] (spDims K C)) (bD : Binds K fdd ["self"] []) (mD : Meth K C "dimensions" fd1) : FnOk P w K mg base CX0 2 f fd ["plan", "dimension"] (spAttr K C) := by
  refine F.ok sc_attr (fun vs H Q E h => ?_) (fun cdv A outer s H vs Q E hr h => ?_)
  · obtain ⟨x, n, ds, ms, rfl, _⟩ := h
    rfl
  · obtain ⟨x, n, ds, ms, rfl, hp, k1, k2⟩ := h
    have nd := sc_attr.nd
    obtain ⟨dx, pa, pb, px, e1, e2, e3, e4⟩ := id hp.ex
    refine ⟨_, PSs.nox (pss_cons (ps_for PassesOwn.never rfl (pi_list (pe_meth0 (pv 0) T.cl mD GD hr bD .nil pass0)) (pg_tup rfl (pgs_cons (pg_name (i := 2) nd rfl (Or.inl rfl)) (pgs_cons (pg_name (i := 3) nd rfl (Or.inl rfl)) pgs_nil)))
        (pss_one (ps_if (pt_cmpR op_eq (pv 2) (pv 1) (nomark _)) (pss_one (ps_ret (pv 3))) pss_nil)))
      (pss_one (ps_ret pe_non))), ?_⟩
    refine ⟨_, rfl, x, dx, _, rfl, e1, pl_no0 (by decide +kernel) (by decide +kernel), x, ds, ms, rfl, hp, fun l xs nl pl => ?_⟩
    have s1 : Same H (upd H l (.lst xs)) := same_new nl
    refine ⟨l, rfl, ⟨_, SqL.of upd_same⟩, for_list (K := K) (a := l) (xs := xs) (fun i σ H2 => ∃ u v, σ = [some (.ref x), some (.str n), u, v] ∧ Same (upd H l (.lst xs)) H2 ∧ (ds.take i).find? (fun d => decide (d.1 = n)) = none) ⟨_, _, rfl, Same.refl _, rfl⟩ (fun i σ H2 _ ⟨_, _, _, s2, _⟩ => SqL.of (s2 _ _ upd_same)) ?_ ?_⟩
    · rintro i y σ H2 hi ⟨u, v, rfl, s2, na⟩
      obtain ⟨d, hd, p, q, rfl, h1, h2⟩ := paired_at pl hi
      have s02 := s1.trans s2
      refine ⟨p, _, rfl, Same.seqT s02 h1, rfl, _, _, rfl, _, _, rfl, rfl, ?_⟩
      refine ⟨_, rfl, _, rfl, rfl, _, rfl, ?_⟩
      obtain ⟨g1, g2⟩ := List.getElem?_eq_some_iff.mp hd
      by_cases c : d.1 = n
      · rw [decide_eq_true (congrArg V.str c)]
        refine iteT ⟨_, rfl, k1 d q H2 ?_ (h2.same s02) s02⟩
        rw [← List.take_append_drop i ds, List.find?_append, na, List.drop_eq_getElem_cons g1, g2, List.find?_cons_of_pos (by simp [c])]
        rfl
      · rw [decide_eq_false (fun z => c (by injection z))]
        refine iteF ⟨_, _, rfl, s2, ?_⟩
        rw [List.take_succ_eq_append_getElem g1, List.find?_append, na, g2, List.find?_cons_of_neg (by simp [c])]
        rfl
    · rintro σ H2 ⟨u, v, rfl, s2, na⟩
      have hl := pl.length
      rw [hl, List.take_length] at na
      exact k2 na H2 (s1.trans s2)
end
end Kd

namespace Kd
open PySem PySem.Spec PyProof.Rows L2
theorem figB (z : Str) : madeB z "0123456789" = digB (TL.tl z) := by
  unfold madeB digB
  show (TL.tl z).all _ = _
  congr 1
  funext c
  simp only [mem_figs]
theorem keyM (z : Str) : madeB z abcF = z.cps.toList.all fun c => decide ((97 ≤ c ∧ c ≤ 122) ∨ (48 ≤ c ∧ c ≤ 57)) := by
  unfold madeB
  congr 1
  funext c
  simp only [mem_abcF]
section
variable {P : Program} {w : World} {K : PySem.W.Frag} {mg : Str → Option Value} {base : Heap} {f : Addr} {fd : FuncData}
/-! ### is_key -/
def spIsKey : Sp := fun vs H Q _ => ∃ z : Str, vs = [.str z] ∧ z.length ≤ 4000 ∧ ∀ H', Same H H' → Q (.bl (keyB z)) H'
abbrev N_is_key : List Str := ["text"]
theorem sc_is_key : FnScope N_is_key ["text"] (defScope s_is_key) := ⟨rfl, rfl, rfl, by decide +kernel, rfl, by decide +kernel, by decide +kernel⟩
/-! slots: 0 text; cells:  -/
theorem ok_is_key {fM : Addr} {fdM : FuncData} (F : FnP K "is_key" "is_key" s_is_key f fd) (c_is_made_of : Fun P w K mg base "is_made_of" 1 ["text", "signs"] spMade fM fdM) (z_len : mg "len" = none) {t1 t2 t3 : Nat} (g_SMALL_LETTERS : mg "SMALL_LETTERS" = some (.str "abcdefghijklmnopqrstuvwxyz" t1)) (g_FIGURES : mg "FIGURES" = some (.str "0123456789" t2)) (g_LONGEST_KEY : mg "LONGEST_KEY" = some (.int 12 t3)) : FnOk P w K mg base CX0 2 f fd ["text"] spIsKey := by
  refine F.ok sc_is_key (fun vs H Q E h => ?_) (fun cdv A outer s H vs Q E hr h => ?_)
  · obtain ⟨z, rfl, _⟩ := h
    rfl
  · obtain ⟨z, rfl, hz, k⟩ := h
    have nd := sc_is_key.nd
    refine ⟨_, PSs.nox (pss_one (ps_ret (pe_and (pe_chain op_le op_le pe_int (pe_callB call_len_str (by rfl) z_len boot_len (pa_cons (pv 0) pa_nil)) (pe_glob (v := .int 12) rfl g_LONGEST_KEY ⟨_, rfl⟩)) (pe_one (pe_call c_is_made_of.G (hr.mono (by decide)) rfl c_is_made_of.g c_is_made_of.k c_is_made_of.b .nil pass0 (pa_cons (pv 0) (pa_cons (pe_op op_add_str (pe_glob (v := .str "abcdefghijklmnopqrstuvwxyz") rfl g_SMALL_LETTERS ⟨_, rfl⟩) (pe_glob (v := .str "0123456789") rfl g_FIGURES ⟨_, rfl⟩)) pa_nil))))))), ?_⟩
    refine ⟨_, rfl, z, rfl, le_line hz, _, _, rfl, rfl, _, rfl, ?_⟩
    refine ite2 (fun c1 => ?_) (fun c1 => ?_)
    · have c1 : (1 : Int) ≤ (z.length : Int) := of_decide_eq_true c1
      refine ⟨_, _, rfl, rfl, _, rfl, ?_⟩
      refine ite2 (fun c2 => ?_) (fun c2 => ?_)
      · have c2 : (z.length : Int) ≤ 12 := of_decide_eq_true c2
        refine ⟨_, rfl, _, _, rfl, rfl, by decide +kernel, z, abcF, rfl, hz, fun H2 s2 => ?_⟩
        have e1 : keyB z = madeB z abcF := by
          unfold keyB
          rw [keyM, decide_eq_true (by omega : 1 ≤ z.length), decide_eq_true (by omega : z.length ≤ 12)]
          simp only [Bool.true_and]
        rw [← e1]
        exact k H2 s2
      · have c2 : ¬ (z.length : Int) ≤ 12 := fun q => c2 (decide_eq_true q)
        have e1 : keyB z = false := by
          unfold keyB
          rw [decide_eq_false (by omega : ¬ z.length ≤ 12), Bool.false_and, Bool.and_false]
        rw [e1] at k
        exact k H (Same.refl H)
    · have c1 : ¬ (1 : Int) ≤ (z.length : Int) := fun q => c1 (decide_eq_true q)
      have e1 : keyB z = false := by
        unfold keyB
        rw [decide_eq_false (by omega : ¬ 1 ≤ z.length), Bool.false_and]
      rw [e1] at k
      exact ⟨_, rfl, iteF (k H (Same.refl H))⟩
/-! ### read_number -/
def spReadN : Sp := fun vs H Q _ => ∃ z : Str, vs = [.str z] ∧ z.length ≤ 4000 ∧ ∀ H', Same H H' → Q (oI (readN z)) H'
abbrev N_read_number : List Str := ["word", "figures", "number"]
theorem sc_read_number : FnScope N_read_number ["word"] (defScope s_read_number) := ⟨rfl, rfl, rfl, by decide +kernel, rfl, by decide +kernel, by decide +kernel⟩
/-! slots: 0 word 1 figures 2 number; cells:  -/
theorem ok_readN {fM : Addr} {fdM : FuncData} (F : FnP K "read_number" "read_number" s_read_number f fd) (c_is_made_of : Fun P w K mg base "is_made_of" 1 ["text", "signs"] spMade fM fdM) (z_len : mg "len" = none) (z_int : mg "int" = none) (z_str : mg "str" = none) {t2 t3 : Nat} (g_FIGURES : mg "FIGURES" = some (.str "0123456789" t2)) (g_MOST_FIGURES : mg "MOST_FIGURES" = some (.int 60 t3)) : FnOk P w K mg base CX0 2 f fd ["word"] spReadN := by
  refine F.ok sc_read_number (fun vs H Q E h => ?_) (fun cdv A outer s H vs Q E hr h => ?_)
  · obtain ⟨z, rfl, _⟩ := h
    rfl
  · obtain ⟨z, rfl, hz, k⟩ := h
    have nd := sc_read_number.nd
    refine ⟨_, PSs.nox (pss_cons (ps_set (i := 1) nd rfl (Or.inl rfl) (pe_m1 PySem.F.slot_str_removeprefix PySem.F.type_str_removeprefix mt_removeprefix (pv 0) pe_str))
      (pss_cons (ps_if (PW.pt (pw_or (pt_not (pt_chain op_le op_le pe_int (pe_callB call_len_str (by rfl) z_len boot_len (pa_cons (pv 1) pa_nil)) (pe_glob (v := .int 60) rfl g_MOST_FIGURES ⟨_, rfl⟩))) (pw_or1 (pt_not (pt_val (pe_call c_is_made_of.G (hr.mono (by decide)) rfl c_is_made_of.g c_is_made_of.k c_is_made_of.b .nil pass0 (pa_cons (pv 1) (pa_cons (pe_glob (v := .str "0123456789") rfl g_FIGURES ⟨_, rfl⟩) pa_nil))))))))
        (pss_one (ps_ret pe_non))
        pss_nil)
      (pss_cons (ps_set (i := 2) nd rfl (Or.inl rfl) (pe_callTy call_int_str (by rfl) z_int (by decide +kernel) (pa_cons (pv 0) pa_nil)))
      (pss_one (ps_ret (pe_ifExp (pt_cmpR op_eq (pe_callTy (KdSt.cr_strA (u64 hr)) (by rfl) z_str (by decide +kernel) (pa_cons (pv 2) pa_nil)) (pv 0) (nomark _)) (pv 2) pe_non)))))), ?_⟩
    have hf : TL.tl (Txt.removeprefix z "-") = figL (TL.tl z) := tl_rem z
    have hfl : (Txt.removeprefix z "-").length = (figL (TL.tl z)).length := by rw [TL.len_tl, hf]
    have hfz : (figL (TL.tl z)).length ≤ z.length := by
      rw [TL.len_tl]
      unfold figL
      split
      · rename_i e
        rw [e, List.length_cons]
        omega
      · exact Nat.le_refl _
    refine ⟨_, rfl, ⟨_, rfl⟩, z, _, rfl, rfl, le_line hz, ?_⟩
    generalize Txt.removeprefix z "-" = y at hf hfl ⊢
    refine set_st (σ' := [some (.str z), some (.str y), none]) rfl ?_
    have bad : ¬ (1 ≤ (figL (TL.tl z)).length ∧ (figL (TL.tl z)).length ≤ 60 ∧ digB (figL (TL.tl z)) = true) → readN z = none := fun hb => readN_none.mpr fun i hi e => hb (by rw [e]; exact fig_num hi)
    refine ⟨_, rfl, y, rfl, le_line (by omega), _, _, rfl, rfl, _, rfl, ?_⟩
    refine ite2 (fun c1 => ?_) (fun c1 => ?_)
    · have c1 : (1 : Int) ≤ (y.length : Int) := of_decide_eq_true c1
      refine ⟨_, _, rfl, rfl, _, rfl, ?_⟩
      refine ite2 (fun c2 => ?_) (fun c2 => ?_)
      · have c2 : ¬ (y.length : Int) ≤ 60 := fun q => by
          have c2 : (!decide ((y.length : Int) ≤ 60)) = true := c2
          rw [decide_eq_true q] at c2
          cases c2
        have e := bad (fun q => by omega)
        rw [e] at k
        exact k H (Same.refl H)
      · have c2 : (y.length : Int) ≤ 60 := Classical.byContradiction fun q => by
          have c2 : ¬ (!decide ((y.length : Int) ≤ 60)) = true := c2
          rw [decide_eq_false q] at c2
          exact c2 rfl
        refine ⟨_, rfl, y, _, rfl, by omega, fun H2 s2 => ⟨_, rfl, ?_⟩⟩
        rw [figB, hf]
        cases c3 : digB (figL (TL.tl z)) with
        | false =>
          have e := bad (fun q => by rw [c3] at q; exact Bool.noConfusion q.2.2)
          rw [e] at k
          exact iteT0 rfl (k H2 s2)
        | true =>
          refine iteF0 (by decide) ?_
          obtain ⟨n, hn1, hn2, hn3⟩ := fig_read (x := z) (by omega) (by omega) c3
          refine ⟨_, rfl, z, n, rfl, hn1, by omega, ?_⟩
          refine set_st (σ' := [some (.str z), some (.str y), some (.int n)]) rfl ?_
          refine ⟨_, rfl, .inl ⟨n, rfl, Nu.flat (Wh.nu hn2), _, rfl, rfl, _, rfl, ?_⟩⟩
          by_cases c4 : numT n = z
          · rw [decide_eq_true (congrArg V.str c4)]
            have e := readN_iff.mpr ⟨hn2, c4.symm⟩
            rw [e] at k
            exact iteT ⟨_, rfl, k H2 s2⟩
          · rw [decide_eq_false (fun q => c4 (by injection q))]
            have e : readN z = none := readN_none.mpr fun i hi e => c4 (by
              have h1 := num_back (i := i) (by have := num_len hi; omega)
              rw [← e, hn1] at h1
              rw [Option.some.inj h1, ← e])
            rw [e] at k
            exact iteF (k H2 s2)
    · have c1 : ¬ (1 : Int) ≤ (y.length : Int) := fun q => c1 (decide_eq_true q)
      have e := bad (fun q => by omega)
      rw [e] at k
      exact ⟨_, rfl, iteT (k H (Same.refl H))⟩
/-! ### read_value -/
def spReadV : Sp := fun vs H Q _ => ∃ z : Str, vs = [.str z] ∧ z.length ≤ 4000 ∧ ∀ H', Same H H' → Q (oV (readV z)) H'
abbrev N_read_value : List Str := ["word"]
theorem sc_read_value : FnScope N_read_value ["word"] (defScope s_read_value) := ⟨rfl, rfl, rfl, by decide +kernel, rfl, by decide +kernel, by decide +kernel⟩
/-! slots: 0 word; cells:  -/
theorem oV_map (o : Option Int) : oV (o.map Fv.i) = oI o := by cases o <;> rfl
theorem ok_readV {fK fN : Addr} {fdK fdN : FuncData} (F : FnP K "read_value" "read_value" s_read_value f fd) (c_is_key : Fun P w K mg base "is_key" 2 ["text"] spIsKey fK fdK) (c_read_number : Fun P w K mg base "read_number" 2 ["word"] spReadN fN fdN) : FnOk P w K mg base CX0 3 f fd ["word"] spReadV := by
  refine F.ok sc_read_value (fun vs H Q E h => ?_) (fun cdv A outer s H vs Q E hr h => ?_)
  · obtain ⟨z, rfl, _⟩ := h
    rfl
  · obtain ⟨z, rfl, hz, k⟩ := h
    have nd := sc_read_value.nd
    refine ⟨_, PSs.nox (pss_cons (ps_if (PW.pt (pw_and (pt_val (pe_m1 PySem.F.slot_str_startswith PySem.F.type_str_startswith mt_startswith (pv 0) pe_str)) (pw_and (pt_val (pe_m1 PySem.F.slot_str_endswith PySem.F.type_str_endswith mt_endswith (pv 0) pe_str)) (pw_and1 (pt_val (pe_call c_is_key.G (hr.mono (by decide)) rfl c_is_key.g c_is_key.k c_is_key.b .nil pass0 (pa_cons (pe_slice sl_str (pv 0) (po_some pe_int) (po_some (pe_un un_neg pe_int))) pa_nil)))))))
        (pss_one (ps_ret (pe_slice sl_str (pv 0) (po_some pe_int) (po_some (pe_un un_neg pe_int)))))
        pss_nil)
      (pss_one (ps_ret (pe_call c_read_number.G (hr.mono (by decide)) rfl c_read_number.g c_read_number.k c_read_number.b .nil pass0 (pa_cons (pv 0) pa_nil))))), ?_⟩
    have other : ∀ {H2 : Hp}, Same H H2 → ¬ (Txt.startswith z "'" = true ∧ Txt.endswith z "'" = true ∧ keyB (cutS z (some 1) (some (-1))) = true) → ∃ v, ([some (V.str z)] : L2.St)[0]? = some (some v) ∧ spReadN [v] H2 Q E0 := fun {H2} s2 hb => by
      refine ⟨_, rfl, z, rfl, hz, fun H3 s3 => ?_⟩
      have e : readV z = (readN z).map Fv.i := readV_num fun y hy e => hb (by
        obtain ⟨h1, h2, h3⟩ := of_quo hy
        rw [e, h3]
        exact ⟨h1, h2, keyB_iff.mpr hy⟩)
      rw [← oV_map, ← e]
      exact k H3 (s2.trans s3)
    refine ⟨_, rfl, ⟨_, rfl⟩, z, _, rfl, rfl, _, rfl, ?_⟩
    cases c1 : Txt.startswith z "'" with
    | false => exact iteF (other (Same.refl H) (fun q => by rw [c1] at q; exact Bool.noConfusion q.1))
    | true =>
      refine iteT ⟨_, rfl, ⟨_, rfl⟩, z, _, rfl, rfl, _, rfl, ?_⟩
      cases c2 : Txt.endswith z "'" with
      | false => exact iteF (other (Same.refl H) (fun q => by rw [c2] at q; exact Bool.noConfusion q.2.1))
      | true =>
        refine iteT ⟨_, rfl, _, rfl, _, rfl, _, rfl, z, rfl, le_line hz, ?_⟩
        have hc := cutS_length z (some 1) (some (-1))
        refine ⟨_, rfl, by omega, fun H2 s2 => ⟨_, rfl, ?_⟩⟩
        cases c3 : keyB (cutS z (some 1) (some (-1))) with
        | false => exact iteF (other s2 (fun q => by rw [c3] at q; exact Bool.noConfusion q.2.2))
        | true =>
          refine iteT ⟨_, rfl, _, rfl, _, rfl, _, rfl, z, rfl, le_line hz, ?_⟩
          have e := readV_iff.mpr ⟨(show (Fv.s (cutS z (some 1) (some (-1)))).good from keyB_iff.mp c3), quo_of c1 c2 c3⟩
          rw [e] at k
          exact k H2 s2
end
end Kd

namespace Kd
open PySem PySem.Spec PyProof.Rows L2
/-- words of a row, and dimensions, as they may be read -/
structure Wd (ds : List Dm) (ws : List Str) : Prop where
  ne : ws ≠ []
  nd : (ds.map (·.1)).Nodup
  hw : ∀ z ∈ ws, z.length ≤ 4000
  hl : ws.length ≤ 4001
def RowV (K : PySem.W.Frag) (H : Hp) (v : V) : Option Rw → Prop
  | none => v = .non
  | some r => ∃ p, v = .ref p ∧ r.at K H p
theorem RowV.same {K : PySem.W.Frag} {H H' : Hp} {v : V} {o : Option Rw} (e : Same H H') (h : RowV K H v o) : RowV K H' v o := by
  cases o with
  | none => exact h
  | some r =>
    obtain ⟨p, h1, h2⟩ := h
    exact ⟨p, h1, Rw.same e h2⟩
theorem find_uniq {ds : List Dm} {e : Dm} (h : e ∈ ds) (hn : (ds.map (·.1)).Nodup) : ds.find? (fun d => decide (d.1 = e.1)) = some e := by
  induction ds with
  | nil => cases h
  | cons x r ih =>
    rw [List.map_cons, List.nodup_cons] at hn
    rcases List.mem_cons.mp h with rfl | h
    · simp
    · have ne : ¬ x.1 = e.1 := fun q => hn.1 (by rw [q]; exact List.mem_map_of_mem h)
      rw [List.find?_cons_of_neg (by simpa using ne)]
      exact ih h hn.2
section
variable {P : Program} {w : World} {K : PySem.W.Frag} {mg : Str → Option Value} {base : Heap} {f : Addr} {fd : FuncData}
def spReadH (K : PySem.W.Frag) (C : Addr) (hd : Str) : Sp := fun vs H Q _ => ∃ (x l : Addr) (ws : List Str) (ds : List Dm) (ms : List Str), vs = [.ref x, .ref l] ∧ PlanAt K C H x ds ms ∧ SqL K H l (ws.map V.str) ∧ Wd ds ws ∧ ws.head? = some hd ∧ ∀ v H', Same H H' → RowV K H' v (readR ds ms ws) → Q v H'
/-! ### read_kind -/
abbrev N_read_kind : List Str := ["plan", "words", "dimension", "key", "attributes", "day", "word", "values"]
theorem sc_read_kind : FnScope N_read_kind ["plan", "words"] (defScope s_read_kind) := ⟨rfl, rfl, rfl, by decide +kernel, rfl, by decide +kernel, by decide +kernel⟩
/-! slots: 0 plan 1 words 2 dimension 3 key 4 attributes 5 day 6 word 7 values; cells:  -/
/-- words that begin a kind -/
theorem kind_of {ds : List Dm} {ms ws : List Str} {r : Rw} (hr : r.good ds ms) (h0 : ws.head? = some "kind") (e : ws = rwW r) : ∃ d key day vals, r = .kind d key day vals := by
  cases r with
  | kind d key day vals => exact ⟨_, _, _, _, rfl⟩
  | fact name day keys nums =>
    rw [e] at h0
    exact absurd (Option.some.inj h0).symm w_kf
  | forget name =>
    rw [e] at h0
    exact absurd (Option.some.inj h0).symm w_kg
set_option maxHeartbeats 0 in
theorem ok_readK {C fA fK fN fV : Addr} {fdA fdK fdN fdV : FuncData} (F : FnP K "read_kind" "read_kind" s_read_kind f fd) (c_attributes_of : Fun P w K mg base "attributes_of" 2 ["plan", "dimension"] (spAttr K C) fA fdA) (c_is_key : Fun P w K mg base "is_key" 2 ["text"] spIsKey fK fdK) (c_read_number : Fun P w K mg base "read_number" 2 ["word"] spReadN fN fdN) (c_read_value : Fun P w K mg base "read_value" 3 ["word"] spReadV fV fdV)
    (z_len : mg "len" = none) (z_tuple : mg "tuple" = none) : FnOk P w K mg base CX0 4 f fd ["plan", "words"] (spReadH K C "kind") := by
  refine F.ok sc_read_kind (fun vs H Q E h => ?_) (fun cdv A outer s H vs Q E hr h => ?_)
  · obtain ⟨x, l, ws, ds, ms, rfl, _⟩ := h
    rfl
  · obtain ⟨x, l, ws, ds, ms, rfl, hp, hl, W, h0, k⟩ := h
    have nd := sc_read_kind.nd
    refine ⟨_, PSs.nox (pss_cons (ps_if (pt_cmpR op_lt (pe_callB call_len_seq (by rfl) z_len boot_len (pa_cons (pv 1) pa_nil)) pe_int (nomark _))
        (pss_one (ps_ret pe_non))
        pss_nil)
      (pss_cons (ps_par (i := 2) (j := 3) rfl nd rfl rfl (by decide) rfl rfl (pa_cons (pe_ix ix_list (pv 1) pe_int (fun _ _ => rfl)) (pa_cons (pe_ix ix_list (pv 1) pe_int (fun _ _ => rfl)) pa_nil)) (by rfl))
      (pss_cons (ps_set (i := 4) nd rfl (Or.inl rfl) (pe_call c_attributes_of.G (hr.mono (by decide)) rfl c_attributes_of.g c_attributes_of.k c_attributes_of.b .nil pass0 (pa_cons (pv 0) (pa_cons (pv 2) pa_nil))))
      (pss_cons (ps_if (PW.pt (pw_or (pt_cmp (pc_isN (pv 4))) (pw_or (pt_not (pt_val (pe_call c_is_key.G (hr.mono (by decide)) rfl c_is_key.g c_is_key.k c_is_key.b .nil pass0 (pa_cons (pv 3) pa_nil)))) (pw_or1 (pt_cmpR op_ne (pe_callB call_len_seq (by rfl) z_len boot_len (pa_cons (pv 1) pa_nil)) (pe_op op_add pe_int (pe_callB call_len_seq (by rfl) z_len boot_len (pa_cons (pv 4) pa_nil))) (nomark _))))))
        (pss_one (ps_ret pe_non))
        pss_nil)
      (pss_cons (ps_set (i := 5) nd rfl (Or.inl rfl) (pe_call c_read_number.G (hr.mono (by decide)) rfl c_read_number.g c_read_number.k c_read_number.b .nil pass0 (pa_cons (pe_ix ix_list (pv 1) pe_int (fun _ _ => rfl)) pa_nil)))
      (pss_cons (ps_setLc (i := 7) (own := [("word", 6)]) (g := gName 6) (tt := tYes) (te := tCall spReadV [] E0 (tCons (tVar 6) tNil)) rfl nd rfl rfl (sw_true rfl rfl rfl (by decide +kernel)) (pi_list (pe_slice sl_list (pv 1) (po_some pe_int) po_none)) (blkOk_by (own := [("word", 6)]) (N := N_read_kind) (sc := defScope s_read_kind) (by decide +kernel))
        (fun _ _ _ _ _ => pg_name (i := 6) nd rfl (Or.inl rfl)) (fun _ _ _ _ _ => pts_nil) (fun _ _ _ _ _ => pe_call c_read_value.G (hr.mono (by decide)) rfl c_read_value.g c_read_value.k c_read_value.b .nil pass0 (pa_cons (pv 6) pa_nil)))
      (pss_cons (ps_if (PW.pt (pw_or (pt_cmp (pc_isN (pv 5))) (pw_or1 (pt_cmpR op_in_seq pe_non (pv 7) (by rfl)))))
        (pss_one (ps_ret pe_non))
        pss_nil)
      (pss_one (ps_ret (pe_tup (pa_cons pe_str (pa_cons (pv 2) (pa_cons (pv 3) (pa_cons (pv 5) (pa_cons (pe_callTy call_tuple_of (by rfl) z_tuple (by decide +kernel) (pa_cons (pv 7) pa_nil)) pa_nil))))))))))))))), ?_⟩
    have no : ∀ {H2 : Hp}, Same H H2 → (∀ d key day vals, (Rw.kind d key day vals).good ds ms → ws ≠ rwW (.kind d key day vals)) → Q .non H2 := fun {H2} s2 hb => by
      have e : readR ds ms ws = none := readR_none fun r hr e => by
        obtain ⟨d, key, day, vals, rfl⟩ := kind_of hr h0 e
        exact hb d key day vals hr e
      exact k .non H2 s2 (by rw [e]; rfl)
    have wl := W.hl
    refine ⟨_, rfl, l, _, rfl, .inl hl, _, _, rfl, rfl, _, rfl, ?_⟩
    refine ite2 (fun c => ?_) (fun c => ?_)
    · have c : (((ws.map V.str).length : Nat) : Int) < 4 := of_decide_eq_true c
      rw [List.length_map] at c
      refine no (Same.refl H) fun d key day vals _ e => ?_
      rw [e] at c
      have c : (((vals.map valT).length + 4 : Nat) : Int) < 4 := c
      omega
    have c : ¬ (((ws.map V.str).length : Nat) : Int) < 4 := fun q => c (decide_eq_true q)
    rw [List.length_map] at c
    obtain ⟨w1, w2, w3, rest, rfl⟩ : ∃ (w1 w2 w3 : Str) (rest : List Str), ws = ("kind" : Str) :: w1 :: w2 :: w3 :: rest := by
      match ws, h0, c with
      | [a], h, c => exact absurd (show (1 : Int) < 4 by decide) c
      | [a, b], h, c => exact absurd (show (2 : Int) < 4 by decide) c
      | [a, b, d], h, c => exact absurd (show (3 : Int) < 4 by decide) c
      | a :: b :: d :: e :: r, h, _ => exact ⟨b, d, e, r, by rw [Option.some.inj h]⟩
    have l1 := W.hw w1 (by simp)
    have l2 := W.hw w2 (by simp)
    have l3 := W.hw w3 (by simp)
    have hl : SqL K H l (.str "kind" :: .str w1 :: .str w2 :: .str w3 :: rest.map V.str) := hl
    refine ⟨_, rfl, l, _, _, _, rfl, rfl, hl, atI_nat (j := 1) rfl, _, rfl, l, _, _, _, rfl, rfl, hl, atI_nat (j := 2) rfl, _, _, rfl, ?_⟩
    refine st_eq (σ' := [some (.ref x), some (.ref l), some (.str w1), some (.str w2), none, none, none, none]) rfl ?_
    refine ⟨_, rfl, _, rfl, x, w1, ds, ms, rfl, hp, fun e qa H2 he ha s2 => ?_, fun he H2 s2 => ?_⟩
    · obtain ⟨za, a1, a2⟩ := ha
      have la := a2.length
      have s02 := s2
      refine set_st (σ' := [some (.ref x), some (.ref l), some (.str w1), some (.str w2), some (.ref qa), none, none, none]) rfl ?_
      refine ⟨_, rfl, _, rfl, iteF ?_⟩
      refine ⟨_, rfl, w2, rfl, l2, fun H3 s3 => ⟨_, rfl, ?_⟩⟩
      have s03 := s02.trans s3
      have hem : e ∈ ds := List.mem_of_find?_eq_some he
      have he1 : e.1 = w1 := by have := List.find?_some he; simpa using this
      cases ck : keyB w2 with
      | false =>
        refine iteT0 rfl (no s03 fun d key day vals hg q => ?_)
        have q : ("kind" : Str) :: w1 :: w2 :: w3 :: rest = [("kind" : Str), d, key, numT day] ++ vals.map valT := q
        simp only [List.cons_append, List.nil_append, List.cons.injEq, true_and] at q
        rw [q.2.1, keyB_iff.mpr hg.2.1] at ck
        cases ck
      | true =>
      refine iteF0 (by decide) ?_
      refine ⟨_, rfl, l, _, rfl, .inl (s03.seq hl), _, rfl, qa, _, rfl, .inr (Same.seqT s3 a1), _, _, rfl, rfl, rfl, _, rfl, ?_⟩
      by_cases cn : rest.length = e.2.length
      · refine iteNS ?_ ?_
        · show V.int (((rest.map V.str).length + 4 : Nat) : Int) = V.int (4 + (za.length : Int))
          rw [List.length_map, la]
          congr 1
          omega
        refine ⟨_, rfl, l, _, _, _, rfl, rfl, s03.seq hl, atI_nat (j := 3) rfl, w3, rfl, l3, fun H4 s4 => ?_⟩
        have s04 := s03.trans s4
        refine set_st (σ' := [some (.ref x), some (.ref l), some (.str w1), some (.str w2), some (.ref qa), some (oI (readN w3)), none, none]) rfl ?_
        refine ⟨_, rfl, _, rfl, l, _, rfl, s04.seq hl, fun p1 n1 => ?_⟩
        have ecut : cutV (.str "kind" :: .str w1 :: .str w2 :: .str w3 :: rest.map V.str) (some 4) none = rest.map V.str := cutFrom _ 4
        rw [ecut]
        generalize e5 : upd H4 p1 _ = H5
        have N5 := newO n1 e5
        have s05 := s04.trans N5.s
        refine ⟨p1, rfl, ⟨_, SqL.of N5.f⟩, fun D hD => lc_build (walk_list (K := K) (a := p1)) hD (fun i ys R => Same H5 R ∧ ys = (rest.take i).map fun z => oV (readV z)) ⟨Same.refl _, rfl⟩ (fun _ _ _ _ z => SqL.of ((z.1.trans cd_sub) _ _ N5.f)) ?_ ?_⟩
        · rintro i ys y H6 H6' hi e6 ly ⟨s6, rfl⟩ ⟨rfl, hy⟩
          rw [List.length_map] at hi
          obtain ⟨z, rfl, hzi⟩ := map_atF hy
          refine ⟨rfl, yes ⟨_, rfl, z, rfl, W.hw z (List.mem_cons_of_mem _ (List.mem_cons_of_mem _ (List.mem_cons_of_mem _ (List.mem_cons_of_mem _ (List.mem_of_getElem? hzi))))), fun H7 s7 => ?_⟩⟩
          have hrl : rest.length + 4 ≤ 4001 := wl
          exact LcNx.add (s7 _ _ e6) ly (by omega) ⟨s6.trans (cd_same s7), take_snocF hzi⟩
        · rintro ys H6 e6 ly ⟨s6, rfl⟩
          rw [take_all] at e6
          have em : (rest.map fun z => oV (readV z)) = (rest.map readV).map oV := by rw [List.map_map]; rfl
          rw [em] at e6
          have s06 := s05.trans (s6.trans cd_sub)
          refine set_st (σ' := [some (.ref x), some (.ref l), some (.str w1), some (.str w2), some (.ref qa), some (oI (readN w3)), none, some (.ref D)]) rfl ?_
          cases cd : readN w3 with
          | none =>
            refine ⟨_, rfl, _, rfl, iteT (no s06 fun d key day vals hg q => ?_)⟩
            have q : ("kind" : Str) :: w1 :: w2 :: w3 :: rest = [("kind" : Str), d, key, numT day] ++ vals.map valT := q
            simp only [List.cons_append, List.nil_append, List.cons.injEq, true_and] at q
            exact readN_none.mp cd day hg.2.2.1 q.2.2.1
          | some day =>
            obtain ⟨hd1, hd2⟩ := readN_iff.mp cd
            refine ⟨_, rfl, _, rfl, iteF ?_⟩
            refine ⟨_, rfl, D, _, rfl, .inl (SqL.of e6), rfl, ?_, _, rfl, ?_⟩
            · rw [List.all_eq_true]
              intro v hv
              obtain ⟨o, _, rfl⟩ := List.mem_map.mp hv
              exact oV_flat o
            rw [show (if false = true then !inV V.non ((rest.map readV).map oV) else inV V.non ((rest.map readV).map oV)) = inV V.non ((rest.map readV).map oV) from rfl, oV_in]
            cases cv : (rest.map readV).any Option.isNone with
            | true =>
              refine iteT (no s06 fun d key day vals hg q => ?_)
              have q : ("kind" : Str) :: w1 :: w2 :: w3 :: rest = [("kind" : Str), d, key, numT day] ++ vals.map valT := q
              simp only [List.cons_append, List.nil_append, List.cons.injEq, true_and] at q
              obtain ⟨wd, hwd, hno⟩ := none_of cv
              rw [q.2.2.2] at hwd
              obtain ⟨v, hv, rfl⟩ := List.mem_map.mp hwd
              rw [readV_iff.mpr ⟨hg.2.2.2 v hv, rfl⟩] at hno
              cases hno
            | false =>
              obtain ⟨vals, hvals⟩ := some_all cv
              rw [hvals] at e6
              have e6' : H6 D = some (.lst (vals.map Fv.v)) := by
                rw [e6, List.map_map]
                rfl
              have hval : rest = vals.map valT ∧ ∀ v ∈ vals, v.good := by
                have hlen : rest.length = vals.length := by
                  have := congrArg List.length hvals
                  simpa using this
                constructor
                · refine List.ext_getElem (by rw [List.length_map]; exact hlen) fun i h1 h2 => ?_
                  have h3 : i < vals.length := by omega
                  have e := congrArg (fun z : List (Option Fv) => z[i]?) hvals
                  simp only [List.getElem?_map, List.getElem?_eq_getElem h1, List.getElem?_eq_getElem h3, Option.map_some, Option.some.injEq] at e
                  rw [List.getElem_map]
                  exact (readV_iff.mp e).2
                · intro v hv
                  obtain ⟨i, hi, rfl⟩ := List.mem_iff_getElem.mp hv
                  have e := congrArg (fun z : List (Option Fv) => z[i]?) hvals
                  simp only [List.getElem?_map, List.getElem?_eq_getElem (show i < rest.length by omega), List.getElem?_eq_getElem hi, Option.map_some, Option.some.injEq] at e
                  exact (readV_iff.mp e).1
              refine iteF ?_
              refine ⟨_, rfl, _, rfl, _, rfl, _, rfl, D, _, rfl, .inl ⟨SqL.of e6', fun q nq => ?_⟩⟩
              generalize e7 : upd H6 q _ = H7
              have N7 := newO nq e7
              refine ⟨by show 5 ≤ sizeLine; decide, fun p np => ?_⟩
              generalize e8 : upd H7 p _ = H8
              have N8 := newO np e8
              have er : readR ds ms ("kind" :: w1 :: w2 :: w3 :: rest) = some (.kind w1 w2 day vals) := readR_iff.mpr ⟨⟨⟨e, hem, he1.symm, by rw [hval.1, List.length_map] at cn; exact cn⟩, keyB_iff.mp ck, hd1, hval.2⟩, by
                show _ = [("kind" : Str), w1, w2, numT day] ++ vals.map valT
                rw [hd2, hval.1]
                rfl⟩
              refine k _ H8 ((s06.trans N7.s).trans N8.s) ?_
              rw [er]
              exact ⟨p, rfl, q, SqT.of N8.f, SqT.of (N8.s _ _ N7.f)⟩
      · refine iteNT ?_ (no s03 fun d key day vals hg q => ?_)
        · show ¬ V.int (((rest.map V.str).length + 4 : Nat) : Int) = V.int (4 + (za.length : Int))
          rw [List.length_map, la]
          intro z
          have := V.int.inj z
          omega
        · have q : ("kind" : Str) :: w1 :: w2 :: w3 :: rest = [("kind" : Str), d, key, numT day] ++ vals.map valT := q
          simp only [List.cons_append, List.nil_append, List.cons.injEq, true_and] at q
          obtain ⟨⟨e', he', hd', hl'⟩, _⟩ := hg
          have hu := find_uniq he' W.nd
          rw [← hd', ← q.1, he] at hu
          cases hu
          rw [q.2.2.2, List.length_map] at cn
          exact cn hl'
    · refine set_st (σ' := [some (.ref x), some (.ref l), some (.str w1), some (.str w2), some .non, none, none, none]) rfl ?_
      refine ⟨_, rfl, _, rfl, iteT (no s2 fun d key day vals hg q => ?_)⟩
      have q : ("kind" : Str) :: w1 :: w2 :: w3 :: rest = [("kind" : Str), d, key, numT day] ++ vals.map valT := q
      simp only [List.cons_append, List.nil_append, List.cons.injEq, true_and] at q
      obtain ⟨⟨e', he', hd', hl'⟩, _⟩ := hg
      have hu := find_uniq he' W.nd
      rw [← hd', ← q.1, he] at hu
      cases hu
end
end Kd

namespace Kd
open PySem PySem.Spec PyProof.Rows L2
theorem spl_ne (S : List Nat) : ∀ (l : List Nat) (k : Nat) (acc : List Nat), TL.spl S k acc l ≠ []
  | [], k, acc => by rw [TL.spl_nil]; simp
  | c :: r, 0, acc => by
    show (if TL.pre S (c :: r) = true then acc :: TL.spl S (S.length - 1) [] r else TL.spl S 0 (acc ++ [c]) r) ≠ []
    split
    · simp
    · exact spl_ne S r 0 _
  | c :: r, k + 1, acc => by
    show TL.spl S k acc r ≠ []
    exact spl_ne S r k acc
theorem split_ne {x y : Str} (hy : TL.tl y ≠ []) (hk : y.cps.all (· < 256) = true) : Txt.split x y ≠ [] := fun e => by
  have h := TL.split_spl x y hy (TL.kind_ok hk)
  rw [e] at h
  exact spl_ne _ _ _ _ h.symm
theorem blank_ok : TL.tl (" " : Str) ≠ [] ∧ (" " : Str).cps.all (· < 256) = true := by decide +kernel
theorem semi_ok : TL.tl ("; " : Str) ≠ [] ∧ ("; " : Str).cps.all (· < 256) = true := by decide +kernel
theorem join_of_split (x y : Str) : Txt.join y (Txt.split x y) = x := by rw [TL.join_eq, StrLaws.join_split]
theorem mem_sum : ∀ {l : List Nat} {n : Nat}, n ∈ l → n ≤ l.sum
  | [], _, h => by cases h
  | a :: l, n, h => by
    rw [List.sum_cons]
    rcases List.mem_cons.mp h with rfl | h
    · omega
    · have := mem_sum h
      omega
theorem part_len {x y p : Str} (hy : 1 ≤ y.length) (h : p ∈ Txt.split x y) : p.length ≤ x.length := by
  have h1 := split_weight x y hy
  obtain ⟨i, hi, rfl⟩ := List.mem_iff_getElem.mp h
  have h2 : ((Txt.split x y)[i]).length ≤ ((Txt.split x y).map (·.length)).sum := by
    refine mem_sum (List.mem_map_of_mem (List.getElem_mem hi))
  omega
theorem split_many {x y : Str} (hy : 1 ≤ y.length) : (Txt.split x y).length ≤ x.length + 1 := by
  have := split_weight x y hy
  omega
/-! ### rows of a text -/
theorem rows_inj {ds : List Dm} {ms : List Str} {rs qs : List Rw} (h1 : ∀ r ∈ rs, r.good ds ms ∧ r.fine) (h2 : ∀ r ∈ qs, r.good ds ms ∧ r.fine) (h : rowsT rs = rowsT qs) : rs = qs := by
  have key : ∀ (r : Rw) (rs : List Rw), (∀ q ∈ r :: rs, q.fine) → rowsT (r :: rs) ≠ ("-" : Str) := fun r rs hf e => by
    have h := split_rows (rs := r :: rs) (by simp) hf
    rw [e] at h
    have e2 : Txt.split ("-" : Str) "; " = [("-" : Str)] := by decide +kernel
    rw [e2, List.map_cons] at h
    injection h with h3 _
    have h4 := split_row (hf r (List.mem_cons_self ..))
    rw [← h3] at h4
    have e3 : Txt.split ("-" : Str) " " = [("-" : Str)] := by decide +kernel
    rw [e3] at h4
    cases r with
    | kind d key day vals =>
      have h4 : [("-" : Str)] = [("kind" : Str), d, key, numT day] ++ vals.map valT := h4
      simp at h4
    | fact name day keys nums =>
      have h4 : [("-" : Str)] = [("fact" : Str), name, numT day] ++ keys ++ nums.map numT := h4
      simp at h4
    | forget name =>
      have h4 : [("-" : Str)] = [("forget" : Str), name] := h4
      simp at h4
  cases rs with
  | nil =>
    cases qs with
    | nil => rfl
    | cons q qs => exact absurd h.symm (key q qs fun z hz => (h2 z hz).2)
  | cons r rs =>
    cases qs with
    | nil => exact absurd h (key r rs fun z hz => (h1 z hz).2)
    | cons q qs =>
      have e1 := split_rows (rs := r :: rs) (by simp) fun z hz => (h1 z hz).2
      have e2 := split_rows (rs := q :: qs) (by simp) fun z hz => (h2 z hz).2
      rw [h, e2] at e1
      have go : ∀ {a b : List Rw}, (∀ r ∈ a, r.good ds ms ∧ r.fine) → (∀ r ∈ b, r.good ds ms ∧ r.fine) → a.map rwT = b.map rwT → a = b := by
        intro a
        induction a with
        | nil =>
          intro b _ _ e
          cases b with
          | nil => rfl
          | cons _ _ => simp at e
        | cons x a ih =>
          intro b ha hb e
          cases b with
          | nil => simp at e
          | cons y b =>
            rw [List.map_cons, List.map_cons] at e
            injection e with e3 e4
            have e5 : rwW x = rwW y := by rw [← split_row (ha x (List.mem_cons_self ..)).2, ← split_row (hb y (List.mem_cons_self ..)).2, e3]
            rw [rwW_inj (ha x (List.mem_cons_self ..)).1 (hb y (List.mem_cons_self ..)).1 e5, ih (fun z hz => ha z (List.mem_cons_of_mem _ hz)) (fun z hz => hb z (List.mem_cons_of_mem _ hz)) e4]
      exact go h1 h2 e1.symm
/-- what a text reads as, by a plan -/
def RowsOf (ds : List Dm) (ms : List Str) (t : Str) (rs : List Rw) : Prop := (∀ r ∈ rs, r.good ds ms) ∧ t = rowsT rs
/-- the parts of a text, each read or not -/
noncomputable def partsR (ds : List Dm) (ms : List Str) (t : Str) : List (Option Rw) := (Txt.split t "; ").map fun p => readR ds ms (Txt.split p " ")
theorem parts_some {ds : List Dm} {ms : List Str} {t : Str} {rs : List Rw} (h : partsR ds ms t = rs.map some) : RowsOf ds ms t rs := by
  have hl : (Txt.split t "; ").length = rs.length := by
    have := congrArg List.length h
    unfold partsR at this
    simpa using this
  have hi : ∀ i (h1 : i < (Txt.split t "; ").length) (h2 : i < rs.length), rs[i].good ds ms ∧ (Txt.split t "; ")[i] = rwT rs[i] := fun i h1 h2 => by
    have e := congrArg (fun z : List (Option Rw) => z[i]?) h
    unfold partsR at e
    simp only [List.getElem?_map, List.getElem?_eq_getElem h1, List.getElem?_eq_getElem h2, Option.map_some, Option.some.injEq] at e
    obtain ⟨q1, q2⟩ := readR_iff.mp e
    refine ⟨q1, ?_⟩
    unfold rwT
    rw [← q2, join_of_split]
  constructor
  · intro r hr
    obtain ⟨i, h2, rfl⟩ := List.mem_iff_getElem.mp hr
    exact (hi i (by omega) h2).1
  · have e : Txt.split t "; " = rs.map rwT := by
      refine List.ext_getElem (by rw [List.length_map]; exact hl) fun i h1 h2 => ?_
      rw [List.getElem_map]
      exact (hi i h1 (by rw [List.length_map] at h2; exact h2)).2
    have hne : rs ≠ [] := fun z => by
      rw [z] at e
      exact split_ne semi_ok.1 semi_ok.2 e
    unfold rowsT
    rw [if_neg (by simpa using hne), ← e, join_of_split]
theorem parts_of {ds : List Dm} {ms : List Str} {rs : List Rw} (hn : rs ≠ []) (h : ∀ r ∈ rs, r.good ds ms ∧ r.fine) : partsR ds ms (rowsT rs) = rs.map some := by
  unfold partsR
  rw [split_rows hn fun r hr => (h r hr).2, List.map_map]
  refine List.map_congr_left fun r hr => ?_
  show readR ds ms (Txt.split (rwT r) " ") = some r
  rw [split_row (h r hr).2]
  exact readR_iff.mpr ⟨(h r hr).1, rfl⟩
theorem minus_rows : RowsOf ds ms "-" [] := ⟨fun _ h => (nomatch h), rfl⟩
/-- a text that reads as no rows -/
theorem parts_none {ds : List Dm} {ms : List Str} {t : Str} (hf : ∀ r : Rw, r.good ds ms → r.fine) (ht : t ≠ "-") (h : (partsR ds ms t).any Option.isNone = true) : ∀ rs, ¬ RowsOf ds ms t rs := by
  rintro rs ⟨h1, rfl⟩
  have hn : rs ≠ [] := fun z => ht (by rw [z]; rfl)
  rw [parts_of hn fun r hr => ⟨h1 r hr, hf r (h1 r hr)⟩] at h
  obtain ⟨o, ho, h2⟩ := List.any_eq_true.mp h
  obtain ⟨r, _, rfl⟩ := List.mem_map.mp ho
  cases h2
end Kd

namespace Kd
open PySem PySem.Spec PyProof.Rows L2
theorem fact_of {ds : List Dm} {ms ws : List Str} {r : Rw} (hr : r.good ds ms) (h0 : ws.head? = some "fact") (e : ws = rwW r) : ∃ name day keys nums, r = .fact name day keys nums := by
  cases r with
  | fact name day keys nums => exact ⟨_, _, _, _, rfl⟩
  | kind d key day vals =>
    rw [e] at h0
    exact absurd (Option.some.inj h0) w_kf
  | forget name =>
    rw [e] at h0
    exact absurd (Option.some.inj h0).symm w_fg
theorem all_map {α : Type} {f : α → Bool} {xs : List α} : ((xs.map f).all id) = xs.all f := by
  rw [List.all_map]
  rfl
section
variable {P : Program} {w : World} {K : PySem.W.Frag} {mg : Str → Option Value} {base : Heap} {f : Addr} {fd : FuncData}
/-! ### read_fact -/
abbrev N_read_fact : List Str := ["plan", "words", "keys_end", "name", "keys", "word", "day", "numbers"]
theorem sc_read_fact : FnScope N_read_fact ["plan", "words"] (defScope s_read_fact) := ⟨rfl, rfl, rfl, by decide +kernel, rfl, by decide +kernel, by decide +kernel⟩
/-! slots: 0 plan 1 words 2 keys_end 3 name 4 keys 5 word 6 day 7 numbers; cells:  -/
set_option maxHeartbeats 0 in
theorem ok_readF {C fD fM fK fN : Addr} {fdD fdM fdK fdN : FuncData} (F : FnP K "read_fact" "read_fact" s_read_fact f fd) (T : PlTxt K C) (GD : FnOk P w K mg base CX0 1 fD fdD ["self"] (spDims K C)) (bD : Binds K fdD ["self"] []) (mD : Meth K C "dimensions" fD) (GM : FnOk P w K mg base CX0 1 fM fdM ["self"] (spMeas K C)) (bM : Binds K fdM ["self"] []) (mM : Meth K C "measures" fM)
    (c_is_key : Fun P w K mg base "is_key" 2 ["text"] spIsKey fK fdK) (c_read_number : Fun P w K mg base "read_number" 2 ["word"] spReadN fN fdN) (z_len : mg "len" = none) (z_tuple : mg "tuple" = none) (z_all : mg "all" = none) : FnOk P w K mg base CX0 4 f fd ["plan", "words"] (spReadH K C "fact") := by
  refine F.ok sc_read_fact (fun vs H Q E h => ?_) (fun cdv A outer s H vs Q E hr h => ?_)
  · obtain ⟨x, l, ws, ds, ms, rfl, _⟩ := h
    rfl
  · obtain ⟨x, l, ws, ds, ms, rfl, hp, hl, W, h0, k⟩ := h
    have nd := sc_read_fact.nd
    refine ⟨_, PSs.nox (pss_cons (ps_set (i := 2) nd rfl (Or.inl rfl) (pe_op op_add pe_int (pe_callB call_len_seq (by rfl) z_len boot_len (pa_cons (pe_meth0 (pv 0) T.cl mD GD (hr.mono (by decide)) bD .nil pass0) pa_nil))))
      (pss_cons (ps_if (pt_cmpR op_ne (pe_callB call_len_seq (by rfl) z_len boot_len (pa_cons (pv 1) pa_nil)) (pe_op op_add (pv 2) (pe_callB call_len_seq (by rfl) z_len boot_len (pa_cons (pe_meth0 (pv 0) T.cl mM GM (hr.mono (by decide)) bM .nil pass0) pa_nil))) (nomark _))
        (pss_one (ps_ret pe_non))
        pss_nil)
      (pss_cons (ps_par (i := 3) (j := 4) rfl nd rfl rfl (by decide) rfl rfl (pa_cons (pe_ix ix_list (pv 1) pe_int (fun _ _ => rfl)) (pa_cons (pe_slice sl_list (pv 1) (po_some pe_int) (po_some (pv 2))) pa_nil)) (by rfl))
      (pss_cons (ps_if (pt_not (pt_val (pe_callB (cr_all rfl) (by rfl) z_all (by decide +kernel) (pa_cons (pe_lc (own := [("word", 5)]) (g := gName 5) (tt := tYes) (te := tCall spIsKey [] E0 (tCons (tVar 5) tNil)) rfl nd (pi_list (pe_op op_cat (pe_lst (pa_cons (pv 3) pa_nil)) (pv 4))) (blkOk_by (own := [("word", 5)]) (N := N_read_fact) (sc := defScope s_read_fact) (by decide +kernel))
        (fun _ _ _ _ _ => pg_name (i := 5) nd rfl (Or.inl rfl)) (fun _ _ _ _ _ => pts_nil) (fun _ _ _ _ _ => pe_call c_is_key.G (hr.mono (by decide)) rfl c_is_key.g c_is_key.k c_is_key.b .nil pass0 (pa_cons (pv 5) pa_nil))) pa_nil))))
        (pss_one (ps_ret pe_non))
        pss_nil)
      (pss_cons (ps_set (i := 6) nd rfl (Or.inl rfl) (pe_call c_read_number.G (hr.mono (by decide)) rfl c_read_number.g c_read_number.k c_read_number.b .nil pass0 (pa_cons (pe_ix ix_list (pv 1) pe_int (fun _ _ => rfl)) pa_nil)))
      (pss_cons (ps_setLc (i := 7) (own := [("word", 5)]) (g := gName 5) (tt := tYes) (te := tCall spReadN [] E0 (tCons (tVar 5) tNil)) rfl nd rfl rfl (sw_true rfl rfl rfl (by decide +kernel)) (pi_list (pe_slice sl_list (pv 1) (po_some (pv 2)) po_none)) (blkOk_by (own := [("word", 5)]) (N := N_read_fact) (sc := defScope s_read_fact) (by decide +kernel))
        (fun _ _ _ _ _ => pg_name (i := 5) nd rfl (Or.inl rfl)) (fun _ _ _ _ _ => pts_nil) (fun _ _ _ _ _ => pe_call c_read_number.G (hr.mono (by decide)) rfl c_read_number.g c_read_number.k c_read_number.b .nil pass0 (pa_cons (pv 5) pa_nil)))
      (pss_cons (ps_if (PW.pt (pw_or (pt_cmp (pc_isN (pv 6))) (pw_or1 (pt_cmpR op_in_seq pe_non (pv 7) (by rfl)))))
        (pss_one (ps_ret pe_non))
        pss_nil)
      (pss_one (ps_ret (pe_tup (pa_cons pe_str (pa_cons (pv 3) (pa_cons (pv 6) (pa_cons (pe_callTy call_tuple_of (by rfl) z_tuple (by decide +kernel) (pa_cons (pv 4) pa_nil)) (pa_cons (pe_callTy call_tuple_of (by rfl) z_tuple (by decide +kernel) (pa_cons (pv 7) pa_nil)) pa_nil))))))))))))))), ?_⟩
    have no : ∀ {H2 : Hp}, Same H H2 → (∀ name day keys nums, (Rw.fact name day keys nums).good ds ms → ws ≠ rwW (.fact name day keys nums)) → Q .non H2 := fun {H2} s2 hb => by
      have e : readR ds ms ws = none := readR_none fun r hr e => by
        obtain ⟨d, key, day, vals, rfl⟩ := fact_of hr h0 e
        exact hb d key day vals hr e
      exact k .non H2 s2 (by rw [e]; rfl)
    have wl := W.hl
    obtain ⟨dx, pa, pb, px, e1, e2, e3, e4⟩ := id hp.ex
    refine ⟨_, rfl, x, dx, _, rfl, e1, pl_no0 (by decide +kernel) (by decide +kernel), x, ds, ms, rfl, hp, fun l1 xs1 nl1 pl1 => ?_⟩
    have ln := pl1.length
    generalize q1 : upd H l1 _ = H1
    have N1 := newO nl1 q1
    refine ⟨l1, _, rfl, .inl (SqL.of N1.f), _, _, rfl, rfl, ?_⟩
    have ek : (3 : Int) + (xs1.length : Int) = ((3 + ds.length : Nat) : Int) := by rw [ln]; omega
    refine set_st (σ' := [some (.ref x), some (.ref l), some (.int ((3 + ds.length : Nat) : Int)), none, none, none, none, none]) (by rw [← ek]; rfl) ?_
    refine ⟨_, rfl, l, _, rfl, .inl (N1.s.seq hl), _, rfl, _, rfl, x, dx, _, rfl, N1.s _ _ e1, pl_no0 (by decide +kernel) (by decide +kernel), x, ds, ms, rfl, hp.same N1.s, fun l2 nl2 => ?_⟩
    generalize q2 : upd H1 l2 _ = H2
    have N2 := newO nl2 q2
    have s02 := N1.s.trans N2.s
    refine ⟨l2, _, rfl, .inl (SqL.of N2.f), _, _, rfl, rfl, rfl, _, rfl, ?_⟩
    by_cases cn : ws.length = 3 + ds.length + ms.length
    case neg =>
      refine iteNT ?_ (no s02 fun name day keys nums hg q => ?_)
      · show ¬ V.int (((ws.map V.str).length : Nat) : Int) = V.int (((3 + ds.length : Nat) : Int) + (((ms.map V.str).length : Nat) : Int))
        rw [List.length_map, List.length_map]
        intro z
        have := V.int.inj z
        omega
      · obtain ⟨_, _, ⟨g1, _⟩, g2, _⟩ := hg
        apply cn
        rw [q]
        show ([("fact" : Str), name, numT day] ++ keys ++ nums.map numT).length = _
        rw [List.length_append, List.length_append, List.length_map, g1, g2]
        rfl
    refine iteNS ?_ ?_
    · show V.int (((ws.map V.str).length : Nat) : Int) = V.int (((3 + ds.length : Nat) : Int) + (((ms.map V.str).length : Nat) : Int))
      rw [List.length_map, List.length_map]
      congr 1
      omega
    obtain ⟨w1, w2, rest, rfl⟩ : ∃ (w1 w2 : Str) (rest : List Str), ws = ("fact" : Str) :: w1 :: w2 :: rest := by
      match ws, h0, cn with
      | [a], h, c => exact absurd (show 1 = 3 + ds.length + ms.length from c) (by omega)
      | [a, b], h, c => exact absurd (show 2 = 3 + ds.length + ms.length from c) (by omega)
      | a :: b :: d :: r, h, _ => exact ⟨b, d, r, by rw [Option.some.inj h]⟩
    have cr : rest.length = ds.length + ms.length := by
      have : rest.length + 3 = 3 + ds.length + ms.length := cn
      omega
    have wl : rest.length + 3 ≤ 4001 := wl
    have l1' := W.hw w1 (by simp)
    have l2' := W.hw w2 (by simp)
    have lr : ∀ z ∈ rest, z.length ≤ 4000 := fun z hz => W.hw z (by simp [hz])
    have hl : SqL K H l (.str "fact" :: .str w1 :: .str w2 :: rest.map V.str) := hl
    have sq : ∀ {name : Str} {day : Int} {keys : List Str} {nums : List Int}, (Rw.fact name day keys nums).good ds ms → ("fact" : Str) :: w1 :: w2 :: rest = rwW (.fact name day keys nums) → name = w1 ∧ numT day = w2 ∧ keys = rest.take ds.length ∧ nums.map numT = rest.drop ds.length := fun {name day keys nums} hg q => by
      have q : ("fact" : Str) :: w1 :: w2 :: rest = [("fact" : Str), name, numT day] ++ keys ++ nums.map numT := q
      simp only [List.cons_append, List.nil_append, List.cons.injEq, true_and] at q
      obtain ⟨q1, q2, q3⟩ := q
      refine ⟨q1.symm, q2.symm, ?_, ?_⟩
      · rw [q3, ← hg.2.2.1.1, List.take_left']
        rfl
      · rw [q3, ← hg.2.2.1.1, List.drop_left']
        rfl
    refine ⟨_, rfl, l, _, _, _, rfl, rfl, s02.seq hl, atI_nat (j := 1) rfl, _, rfl, _, rfl, _, rfl, _, rfl, l, _, rfl, s02.seq hl, fun pk npk => ?_⟩
    have ecut : cutV (.str "fact" :: .str w1 :: .str w2 :: rest.map V.str) (some 3) (some ((3 + ds.length : Nat) : Int)) = (rest.take ds.length).map V.str := by
      have e := cutMid (.str "fact" :: .str w1 :: .str w2 :: rest.map V.str) 3 (3 + ds.length)
      rw [show (3 + ds.length - 3) = ds.length by omega] at e
      rw [List.map_take]
      exact e
    rw [ecut]
    generalize q3 : upd H2 pk _ = H3
    have N3 := newO npk q3
    have s03 := s02.trans N3.s
    refine ⟨_, _, rfl, ?_⟩
    refine st_eq (σ' := [some (.ref x), some (.ref l), some (.int ((3 + ds.length : Nat) : Int)), some (.str w1), some (.ref pk), none, none, none]) rfl ?_
    refine ⟨_, rfl, by show 1 ≤ sizeLine; decide, fun b nb => ?_⟩
    generalize q4 : upd H3 b _ = H4
    have N4 := newO nb q4
    have ltk : (rest.take ds.length).length ≤ rest.length := by rw [List.length_take]; omega
    refine ⟨_, rfl, b, pk, _, _, rfl, rfl, N4.f, N4.s _ _ N3.f, le_line (by rw [List.length_map]; show 1 + _ ≤ 4000; omega), fun c nc => ?_⟩
    have ec : [V.str w1] ++ (rest.take ds.length).map V.str = (w1 :: rest.take ds.length).map V.str := rfl
    rw [ec]
    generalize q5 : upd H4 c _ = H5
    have N5 := newO nc q5
    have s05 := (s03.trans N4.s).trans N5.s
    refine ⟨c, rfl, ⟨_, SqL.of N5.f⟩, fun D hD => lc_build (walk_list (K := K) (a := c)) hD (fun i ys R => Same H5 R ∧ ys = ((w1 :: rest.take ds.length).take i).map fun z => V.bl (keyB z)) ⟨Same.refl _, rfl⟩ (fun _ _ _ _ z => SqL.of ((z.1.trans cd_sub) _ _ N5.f)) ?_ ?_⟩
    · rintro i ys y H6 H6' hi e6 ly ⟨s6, rfl⟩ ⟨rfl, hy⟩
      rw [List.length_map, List.length_cons] at hi
      obtain ⟨z, rfl, hzi⟩ := map_atF hy
      have hz4 : z.length ≤ 4000 := by
        rcases List.mem_cons.mp (List.mem_of_getElem? hzi) with rfl | hz
        · exact l1'
        · exact lr z (List.mem_of_mem_take hz)
      refine ⟨rfl, yes ⟨_, rfl, z, rfl, hz4, fun H7 s7 => ?_⟩⟩
      exact LcNx.add (s7 _ _ e6) ly (by omega) ⟨s6.trans (cd_same s7), take_snocF hzi⟩
    · rintro ys H6 e6 ly ⟨s6, rfl⟩
      rw [take_all] at e6
      have s06 := s05.trans (s6.trans cd_sub)
      refine ⟨D, (w1 :: rest.take ds.length).map keyB, rfl, SqL.of (by rw [List.map_map]; exact e6), _, rfl, ?_⟩
      rw [all_map]
      cases ck : (w1 :: rest.take ds.length).all keyB with
      | false =>
        refine iteT0 rfl (no s06 fun name day keys nums hg q => ?_)
        obtain ⟨g1, g2, g3, g4⟩ := sq hg q
        have : (w1 :: rest.take ds.length).all keyB = true := by
          rw [← g1, ← g3, List.all_cons, keyB_iff.mpr hg.1, Bool.true_and, List.all_eq_true]
          exact fun z hz => keyB_iff.mpr (hg.2.2.1.2 z hz)
        rw [this] at ck
        cases ck
      | true =>
      refine iteF0 (by decide) ?_
      rw [List.all_cons, Bool.and_eq_true, List.all_eq_true] at ck
      refine ⟨_, rfl, l, _, _, _, rfl, rfl, s06.seq hl, atI_nat (j := 2) rfl, w2, rfl, l2', fun H7 s7 => ?_⟩
      have s07 := s06.trans s7
      have s37 : Same H3 H7 := ((N4.s.trans N5.s).trans (s6.trans cd_sub)).trans s7
      refine set_st (σ' := [some (.ref x), some (.ref l), some (.int ((3 + ds.length : Nat) : Int)), some (.str w1), some (.ref pk), none, some (oI (readN w2)), none]) rfl ?_
      refine ⟨_, rfl, _, rfl, _, rfl, l, _, rfl, s07.seq hl, fun p1 n1 => ?_⟩
      have ecut2 : cutV (.str "fact" :: .str w1 :: .str w2 :: rest.map V.str) (some ((3 + ds.length : Nat) : Int)) none = (rest.drop ds.length).map V.str := by
        have e := cutFrom (.str "fact" :: .str w1 :: .str w2 :: rest.map V.str) (3 + ds.length)
        rw [e, Nat.add_comm, List.map_drop]
        rfl
      rw [ecut2]
      generalize q8 : upd H7 p1 _ = H8
      have N8 := newO n1 q8
      refine ⟨p1, rfl, ⟨_, SqL.of N8.f⟩, fun D2 hD2 => lc_build (walk_list (K := K) (a := p1)) hD2 (fun i ys R => Same H8 R ∧ ys = ((rest.drop ds.length).take i).map fun z => oI (readN z)) ⟨Same.refl _, rfl⟩ (fun _ _ _ _ z => SqL.of ((z.1.trans cd_sub) _ _ N8.f)) ?_ ?_⟩
      · rintro i ys y H9 H9' hi e9 ly ⟨s9, rfl⟩ ⟨rfl, hy⟩
        rw [List.length_map, List.length_drop] at hi
        obtain ⟨z, rfl, hzi⟩ := map_atF hy
        refine ⟨rfl, yes ⟨_, rfl, z, rfl, lr z (List.mem_of_mem_drop (List.mem_of_getElem? hzi)), fun H10 s10 => ?_⟩⟩
        exact LcNx.add (s10 _ _ e9) ly (by omega) ⟨s9.trans (cd_same s10), take_snocF hzi⟩
      · rintro ys H9 e9 ly ⟨s9, rfl⟩
        rw [take_all] at e9
        have em : ((rest.drop ds.length).map fun z => oI (readN z)) = ((rest.drop ds.length).map readN).map oI := by rw [List.map_map]; rfl
        rw [em] at e9
        have s79 : Same H7 H9 := N8.s.trans (s9.trans cd_sub)
        have s09 := s07.trans s79
        refine set_st (σ' := [some (.ref x), some (.ref l), some (.int ((3 + ds.length : Nat) : Int)), some (.str w1), some (.ref pk), none, some (oI (readN w2)), some (.ref D2)]) rfl ?_
        cases cd : readN w2 with
        | none =>
          refine ⟨_, rfl, _, rfl, iteT (no s09 fun name day keys nums hg q => ?_)⟩
          obtain ⟨g1, g2, g3, g4⟩ := sq hg q
          exact readN_none.mp cd day hg.2.1 g2.symm
        | some day =>
          obtain ⟨hd1, hd2⟩ := readN_iff.mp cd
          refine ⟨_, rfl, _, rfl, iteF ?_⟩
          refine ⟨_, rfl, D2, _, rfl, .inl (SqL.of e9), rfl, ?_, _, rfl, ?_⟩
          · rw [List.all_eq_true]
            intro v hv
            obtain ⟨o, _, rfl⟩ := List.mem_map.mp hv
            exact oI_flat o
          rw [show (if false = true then !inV V.non (((rest.drop ds.length).map readN).map oI) else inV V.non (((rest.drop ds.length).map readN).map oI)) = inV V.non (((rest.drop ds.length).map readN).map oI) from rfl, oI_in]
          cases cv : ((rest.drop ds.length).map readN).any Option.isNone with
          | true =>
            refine iteT (no s09 fun name day keys nums hg q => ?_)
            obtain ⟨g1, g2, g3, g4⟩ := sq hg q
            obtain ⟨wd, hwd, hno⟩ := none_of cv
            rw [← g4] at hwd
            obtain ⟨v, hv, rfl⟩ := List.mem_map.mp hwd
            rw [readN_iff.mpr ⟨hg.2.2.2.2 v hv, rfl⟩] at hno
            cases hno
          | false =>
            obtain ⟨nums, hnums⟩ := some_all cv
            rw [hnums] at e9
            have e9' : H9 D2 = some (.lst (nums.map V.int)) := by
              rw [e9, List.map_map]
              rfl
            have hlen : (rest.drop ds.length).length = nums.length := by
              have := congrArg List.length hnums
              simpa using this
            have hnum : rest.drop ds.length = nums.map numT ∧ ∀ i ∈ nums, Wh i := by
              constructor
              · refine List.ext_getElem (by rw [List.length_map]; exact hlen) fun i h1 h2 => ?_
                have h3 : i < nums.length := by omega
                have e := congrArg (fun z : List (Option Int) => z[i]?) hnums
                simp only [List.getElem?_map, List.getElem?_eq_getElem h1, List.getElem?_eq_getElem h3, Option.map_some, Option.some.injEq] at e
                rw [List.getElem_map]
                exact (readN_iff.mp e).2
              · intro v hv
                obtain ⟨i, hi, rfl⟩ := List.mem_iff_getElem.mp hv
                have e := congrArg (fun z : List (Option Int) => z[i]?) hnums
                simp only [List.getElem?_map, List.getElem?_eq_getElem (show i < (rest.drop ds.length).length by omega), List.getElem?_eq_getElem hi, Option.map_some, Option.some.injEq] at e
                exact (readN_iff.mp e).1
            refine iteF ?_
            refine ⟨_, rfl, _, rfl, _, rfl, pk, _, rfl, .inl ⟨SqL.of (s79 _ _ (s37 _ _ N3.f)), fun t1 nt1 => ?_⟩⟩
            generalize q10 : upd H9 t1 _ = H10
            have N10 := newO nt1 q10
            refine ⟨_, rfl, D2, _, rfl, .inl ⟨SqL.of (N10.s _ _ e9'), fun t2 nt2 => ?_⟩⟩
            generalize q11 : upd H10 t2 _ = H11
            have N11 := newO nt2 q11
            refine ⟨by show 5 ≤ sizeLine; decide, fun p np => ?_⟩
            generalize q12 : upd H11 p _ = H12
            have N12 := newO np q12
            have er : readR ds ms (("fact" : Str) :: w1 :: w2 :: rest) = some (.fact w1 day (rest.take ds.length) nums) := readR_iff.mpr ⟨⟨keyB_iff.mp ck.1, hd1, ⟨by rw [List.length_take]; omega, fun z hz => keyB_iff.mp (ck.2 z hz)⟩, by rw [← hlen, List.length_drop]; omega, hnum.2⟩, by
              show _ = [("fact" : Str), w1, numT day] ++ rest.take ds.length ++ nums.map numT
              rw [← hd2, ← hnum.1, List.append_assoc, List.take_append_drop]
              rfl⟩
            refine k _ H12 (((s09.trans N10.s).trans N11.s).trans N12.s) ?_
            rw [er]
            exact ⟨p, rfl, t1, t2, SqT.of N12.f, SqT.of (N12.s _ _ (N11.s _ _ N10.f)), SqT.of (N12.s _ _ N11.f)⟩
/-! ### read_row -/
def spReadR (K : PySem.W.Frag) (C : Addr) : Sp := fun vs H Q _ => ∃ (x l : Addr) (ws : List Str) (ds : List Dm) (ms : List Str), vs = [.ref x, .ref l] ∧ PlanAt K C H x ds ms ∧ SqL K H l (ws.map V.str) ∧ Wd ds ws ∧ ∀ v H', Same H H' → RowV K H' v (readR ds ms ws) → Q v H'
abbrev N_read_row : List Str := ["plan", "words"]
theorem sc_read_row : FnScope N_read_row ["plan", "words"] (defScope s_read_row) := ⟨rfl, rfl, rfl, by decide +kernel, rfl, by decide +kernel, by decide +kernel⟩
/-! slots: 0 plan 1 words; cells:  -/
set_option maxHeartbeats 0 in
theorem ok_readR {C fK fF fI : Addr} {fdK fdF fdI : FuncData} (F : FnP K "read_row" "read_row" s_read_row f fd) (c_read_kind : Fun P w K mg base "read_kind" 4 ["plan", "words"] (spReadH K C "kind") fK fdK) (c_read_fact : Fun P w K mg base "read_fact" 4 ["plan", "words"] (spReadH K C "fact") fF fdF) (c_is_key : Fun P w K mg base "is_key" 2 ["text"] spIsKey fI fdI)
    (z_len : mg "len" = none) : FnOk P w K mg base CX0 5 f fd ["plan", "words"] (spReadR K C) := by
  refine F.ok sc_read_row (fun vs H Q E h => ?_) (fun cdv A outer s H vs Q E hr h => ?_)
  · obtain ⟨x, l, ws, ds, ms, rfl, _⟩ := h
    rfl
  · obtain ⟨x, l, ws, ds, ms, rfl, hp, hl, W, k⟩ := h
    have nd := sc_read_row.nd
    refine ⟨_, PSs.nox (pss_cons (ps_if (pt_cmpR op_eq (pe_ix ix_list (pv 1) pe_int (fun _ _ => rfl)) pe_str (nomark _))
        (pss_one (ps_ret (pe_call c_read_kind.G (hr.mono (by decide)) rfl c_read_kind.g c_read_kind.k c_read_kind.b .nil pass0 (pa_cons (pv 0) (pa_cons (pv 1) pa_nil)))))
        pss_nil)
      (pss_cons (ps_if (pt_cmpR op_eq (pe_ix ix_list (pv 1) pe_int (fun _ _ => rfl)) pe_str (nomark _))
        (pss_one (ps_ret (pe_call c_read_fact.G (hr.mono (by decide)) rfl c_read_fact.g c_read_fact.k c_read_fact.b .nil pass0 (pa_cons (pv 0) (pa_cons (pv 1) pa_nil)))))
        pss_nil)
      (pss_cons (ps_if (PW.pt (pw_and (pt_cmpR op_eq (pe_ix ix_list (pv 1) pe_int (fun _ _ => rfl)) pe_str (nomark _)) (pw_and (pt_cmpR op_eq (pe_callB call_len_seq (by rfl) z_len boot_len (pa_cons (pv 1) pa_nil)) pe_int (nomark _)) (pw_and1 (pt_val (pe_call c_is_key.G (hr.mono (by decide)) rfl c_is_key.g c_is_key.k c_is_key.b .nil pass0 (pa_cons (pe_ix ix_list (pv 1) pe_int (fun _ _ => rfl)) pa_nil)))))))
        (pss_one (ps_ret (pe_tup (pa_cons pe_str (pa_cons (pe_ix ix_list (pv 1) pe_int (fun _ _ => rfl)) pa_nil)))))
        pss_nil)
      (pss_one (ps_ret pe_non))))), ?_⟩
    obtain ⟨w0, rest, rfl⟩ := List.exists_cons_of_ne_nil W.ne
    have hl' : SqL K H l (.str w0 :: rest.map V.str) := hl
    refine ⟨_, rfl, l, _, _, _, rfl, rfl, hl', atI_nat (j := 0) rfl, rfl, _, rfl, ?_⟩
    by_cases c1 : w0 = "kind"
    · rw [decide_eq_true (congrArg V.str c1)]
      exact iteT ⟨_, rfl, _, rfl, x, l, _, ds, ms, rfl, hp, hl, W, by rw [c1]; rfl, k⟩
    rw [decide_eq_false (fun z => c1 (by injection z))]
    refine iteF ?_
    refine ⟨_, rfl, l, _, _, _, rfl, rfl, hl', atI_nat (j := 0) rfl, rfl, _, rfl, ?_⟩
    by_cases c2 : w0 = "fact"
    · rw [decide_eq_true (congrArg V.str c2)]
      exact iteT ⟨_, rfl, _, rfl, x, l, _, ds, ms, rfl, hp, hl, W, by rw [c2]; rfl, k⟩
    rw [decide_eq_false (fun z => c2 (by injection z))]
    refine iteF ?_
    have no : ∀ {H2 : Hp}, Same H H2 → (∀ name, (Rw.forget name).good ds ms → w0 :: rest ≠ rwW (.forget name)) → Q .non H2 := fun {H2} s2 hb => by
      have e : readR ds ms (w0 :: rest) = none := readR_none fun r hr e => by
        cases r with
        | kind d key day vals =>
          have e : w0 :: rest = ("kind" : Str) :: d :: key :: numT day :: vals.map valT := e
          injection e with e1 _
          exact c1 e1
        | fact name day keys nums =>
          have e : w0 :: rest = ("fact" : Str) :: ([name, numT day] ++ keys ++ nums.map numT) := e
          injection e with e1 _
          exact c2 e1
        | forget name => exact hb name hr e
      exact k .non H2 s2 (by rw [e]; rfl)
    refine ⟨_, rfl, l, _, _, _, rfl, rfl, hl', atI_nat (j := 0) rfl, rfl, _, rfl, ?_⟩
    by_cases c3 : w0 = "forget"
    case neg =>
      rw [decide_eq_false (fun z => c3 (by injection z))]
      refine iteF (no (Same.refl H) fun name _ e => ?_)
      have e : w0 :: rest = [("forget" : Str), name] := e
      injection e with e1 _
      exact c3 e1
    rw [decide_eq_true (congrArg V.str c3)]
    refine iteT ?_
    refine ⟨_, rfl, l, _, rfl, .inl hl', rfl, _, rfl, ?_⟩
    by_cases c4 : rest.length = 1
    case neg =>
      have c6 : ¬ V.int (((V.str w0 :: rest.map V.str).length : Nat) : Int) = V.int 2 := fun z => c4 (by
        have z := V.int.inj z
        rw [List.length_cons, List.length_map] at z
        omega)
      refine iteF0 (by rw [decide_eq_false c6]; decide) (no (Same.refl H) fun name _ e => ?_)
      have e : w0 :: rest = [("forget" : Str), name] := e
      injection e with _ e2
      rw [e2] at c4
      exact c4 rfl
    obtain ⟨w1, rfl⟩ : ∃ w1, rest = [w1] := by
      match rest, c4 with
      | [a], _ => exact ⟨a, rfl⟩
    refine iteT0 (decide_eq_true rfl) ?_
    refine ⟨_, rfl, l, _, _, _, rfl, rfl, hl', atI_nat (j := 1) rfl, w1, rfl, W.hw w1 (by simp), fun H2 s2 => ⟨_, rfl, ?_⟩⟩
    cases c5 : keyB w1 with
    | false =>
      refine iteF (no s2 fun name hg e => ?_)
      have e : [w0, w1] = [("forget" : Str), name] := e
      simp only [List.cons.injEq, and_true] at e
      have hg : Ky name := hg
      rw [e.2, keyB_iff.mpr hg] at c5
      cases c5
    | true =>
      refine iteT ⟨_, rfl, l, _, _, _, rfl, rfl, s2.seq hl', atI_nat (j := 1) rfl, by show 2 ≤ sizeLine; decide, fun p np => ?_⟩
      generalize q3 : upd H2 p _ = H3
      have N3 := newO np q3
      have er : readR ds ms [w0, w1] = some (.forget w1) := readR_iff.mpr ⟨keyB_iff.mp c5, by rw [c3]; rfl⟩
      refine k _ H3 (s2.trans N3.s) ?_
      rw [er]
      exact ⟨p, rfl, SqT.of N3.f⟩
end
end Kd

namespace Kd
open PySem PySem.Spec PyProof.Rows L2
/-- a row of a good plan's lists is fine -/
theorem Rw.good.fine {ds : List Dm} {ms : List Str} (h : Good ds ms) : ∀ {r : Rw}, r.good ds ms → r.fine
  | .kind d key day vals, ⟨⟨e, he, e1, e2⟩, h1, h2, h3⟩ => ⟨by rw [e1]; exact h.dn e he, h1, h2, by have := h.al e he; omega, h3⟩
  | .fact name day keys nums, ⟨h1, h2, ⟨h3, h4⟩, h5, h6⟩ => ⟨h1, h2, ⟨by have := h.d4; omega, h4⟩, by have := h.m4; omega, h6⟩
  | .forget name, h1 => h1
theorem le_big {n : Nat} (h : n ≤ 1000000) : n ≤ sizeLine := Nat.le_trans h (by decide)
def roD : Option Rw → PyData
  | none => .none
  | some r => rwD r
theorem rwD_tup (r : Rw) : PyData.eqv (rwD r) .none = false := by cases r <;> simp [rwD, PyData.eqv]
theorem none_rows (rs : List Rw) : ((rs.map rwD).any fun z => PyData.eqv z .none) = false := by
  rw [List.any_eq_false]
  intro z hz
  obtain ⟨r, _, rfl⟩ := List.mem_map.mp hz
  rw [rwD_tup]
  simp
theorem rw_okd {r : Rw} (h : r.fine) : Okd 4 (rwD r) := by
  have flat : ∀ d : PyData, (∃ z, d = .str z) ∨ (∃ i, d = .int i) → Okd 2 d := fun d hd => by
    rcases hd with ⟨z, rfl⟩ | ⟨i, rfl⟩ <;> exact trivial
  have flat3 : ∀ d : PyData, (∃ z, d = .str z) ∨ (∃ i, d = .int i) → Okd 3 d := fun d hd => by
    rcases hd with ⟨z, rfl⟩ | ⟨i, rfl⟩ <;> exact trivial
  cases r with
  | kind d key day vals =>
    refine ⟨by show 5 ≤ 4000; decide, fun x hx => ?_⟩
    simp only [List.mem_cons, List.not_mem_nil, or_false] at hx
    rcases hx with rfl | rfl | rfl | rfl | rfl
    · exact trivial
    · exact trivial
    · exact trivial
    · exact trivial
    · refine ⟨by rw [List.length_map]; have := h.2.2.2.1; omega, fun y hy => ?_⟩
      obtain ⟨v, _, rfl⟩ := List.mem_map.mp hy
      cases v <;> exact trivial
  | fact name day keys nums =>
    obtain ⟨_, _, ⟨h3, _⟩, h5, _⟩ := h
    refine ⟨by show 5 ≤ 4000; decide, fun x hx => ?_⟩
    simp only [List.mem_cons, List.not_mem_nil, or_false] at hx
    rcases hx with rfl | rfl | rfl | rfl | rfl
    · exact trivial
    · exact trivial
    · exact trivial
    · refine ⟨by rw [List.length_map]; omega, fun y hy => ?_⟩
      obtain ⟨v, _, rfl⟩ := List.mem_map.mp hy
      exact trivial
    · refine ⟨by rw [List.length_map]; omega, fun y hy => ?_⟩
      obtain ⟨v, _, rfl⟩ := List.mem_map.mp hy
      exact trivial
  | forget name =>
    refine ⟨by show 2 ≤ 4000; decide, fun x hx => ?_⟩
    simp only [List.mem_cons, List.not_mem_nil, or_false] at hx
    rcases hx with rfl | rfl <;> exact trivial
theorem rws_okd {rs : List Rw} (h : ∀ r ∈ rs, r.fine) (hl : rs.length ≤ 4000) : Okd 5 (.list (rs.map rwD)) := by
  refine ⟨by rw [List.length_map]; exact hl, fun d hd => ?_⟩
  obtain ⟨r, hr, rfl⟩ := List.mem_map.mp hd
  exact rw_okd (h r hr)
section
variable {P : Program} {w : World} {K : PySem.W.Frag} {mg : Str → Option Value} {base : Heap} {f : Addr} {fd : FuncData}
theorem rw_cdl {D p : Addr} {H : Hp} {A : List V} (hD : H D = some (.lst A)) : ∀ {r : Rw}, r.at K H p → r.at K (cd D H) p
  | .kind .., ⟨q, h1, h2⟩ => ⟨q, seqT_cdl hD h1, seqT_cdl hD h2⟩
  | .fact .., ⟨q1, q2, h1, h2, h3⟩ => ⟨q1, q2, seqT_cdl hD h1, seqT_cdl hD h2, seqT_cdl hD h3⟩
  | .forget .., h => seqT_cdl hD h
theorem rowV_cdl {D : Addr} {H : Hp} {A : List V} {v : V} {o : Option Rw} (hD : H D = some (.lst A)) (h : RowV K H v o) : RowV K (cd D H) v o := by
  cases o with
  | none => exact h
  | some r =>
    obtain ⟨p, h1, h2⟩ := h
    exact ⟨p, h1, rw_cdl hD h2⟩
theorem rowVs_some {H : Hp} : ∀ {ys : List V} {rs : List Rw}, Paired (RowV K H) ys (rs.map some) → Paired (RwAt K H) ys rs
  | _, [], h => by cases h; exact .nil
  | _, r :: rs, h => by
    cases h with
    | cons a t => exact .cons a (rowVs_some t)
theorem rowVs_dp {H : Hp} : ∀ {ys : List V} {os : List (Option Rw)}, Paired (RowV K H) ys os → DpAll K H ys (os.map roD)
  | _, _, .nil => .nil
  | _, _, .cons (b := none) a t => by
    have a : _ = V.non := a
    rw [a]
    exact .cons .non (rowVs_dp t)
  | _, _, .cons (b := some r) a t => by
    obtain ⟨p, e, h⟩ := a
    rw [e]
    exact .cons (Rw.dp h) (rowVs_dp t)
end
theorem lay_ros : ∀ {os : List (Option Rw)}, (∀ r, some r ∈ os → r.ok) → PyData.canLayAll0 (os.map roD) = true ∧ PyData.depthAll (os.map roD) ≤ 2
  | [], _ => ⟨rfl, Nat.zero_le _⟩
  | none :: os, h => by
    obtain ⟨h1, h2⟩ := lay_ros (os := os) fun r hr => h r (List.mem_cons_of_mem _ hr)
    constructor
    · simp only [List.map_cons, roD, PyData.canLayAll0, PyData.canLay0, h1, Bool.and_self]
    · simp only [List.map_cons, roD, PyData.depthAll, PyData.depth]
      omega
  | some r :: os, h => by
    obtain ⟨h1, h2⟩ := lay_ros (os := os) fun r hr => h r (List.mem_cons_of_mem _ hr)
    obtain ⟨h3, h4⟩ := lay_rw (h r (List.mem_cons_self ..))
    constructor
    · simp only [List.map_cons, roD, PyData.canLayAll0, h1, h3, Bool.and_self]
    · simp only [List.map_cons, roD, PyData.depthAll]
      omega
theorem ros_shaped {os : List (Option Rw)} (h : ∀ r, some r ∈ os → r.ok) : SeqAt.shaped (.list (os.map roD)) = true := by
  obtain ⟨h1, h2⟩ := lay_ros h
  simp [SeqAt.shaped, PyData.canLay0, PyData.depth, h1]
  omega
theorem ros_none : ∀ (os : List (Option Rw)), ((os.map roD).any fun z => PyData.eqv z .none) = os.any Option.isNone
  | [] => rfl
  | none :: os => by
    rw [List.map_cons, List.any_cons, List.any_cons]
    simp [roD, PyData.eqv]
  | some r :: os => by
    rw [List.map_cons, List.any_cons, List.any_cons, ros_none os]
    show (PyData.eqv (rwD r) .none || _) = _
    rw [rwD_tup]
    rfl
end Kd

namespace Kd
open PySem PySem.Spec PyProof.Rows L2
/-- a text of at most b plain signs -/
structure Tq (b : Nat) (z : Str) : Prop where
  le : z.length ≤ b
  ok : ∀ c ∈ TL.tl z, c < 128
theorem Tq.mono {b c : Nat} {z : Str} (h : Tq b z) (hb : b ≤ c) : Tq c z := ⟨Nat.le_trans h.le hb, h.ok⟩
theorem Tq.app {a b : Nat} {x y : Str} (h : Tq a x) (h2 : Tq b y) : Tq (a + b) (x ++ y) := ⟨by rw [len_append]; have := h.le; have := h2.le; omega, fun c hc => by
  rw [TL.tl_append] at hc
  exact (List.mem_append.mp hc).elim (h.ok c) (h2.ok c)⟩
theorem tl_cutS (x : Str) (lo hi : Option Int) : TL.tl (cutS x lo hi) = ((TL.tl x).drop (HT.sIx x.length 0 lo)).take (HT.sIx x.length x.length hi - HT.sIx x.length 0 lo) := rfl
theorem Tq.cut {b : Nat} {z : Str} (h : Tq b z) (lo hi : Option Int) : Tq b (cutS z lo hi) := ⟨Nat.le_trans (cutS_length z lo hi) h.le, fun c hc => by
  rw [tl_cutS] at hc
  exact h.ok c (List.mem_of_mem_drop (List.mem_of_mem_take hc))⟩
/-- cut in two and the second part put behind: no more than all -/
theorem cut2 (z : Str) (i j : Nat) (h : i ≤ j) : (cutS z none (some (i : Int))).length + (cutS z (some (j : Int)) none).length ≤ z.length := by
  have hx : z.length = (TL.tl z).length := TL.len_tl z
  rw [TL.len_tl, TL.len_tl, tl_cutS, tl_cutS, HT.sIx_none, HT.sIx_none, HT.sIx_nat, HT.sIx_nat, List.length_take, List.length_take, List.length_drop, List.length_drop]
  omega
theorem mem_joinL_of {S : List Nat} {c : Nat} : ∀ {ps : List (List Nat)} {p : List Nat}, p ∈ ps → c ∈ p → c ∈ TL.joinL S ps
  | [q], p, h, hc => by rw [List.mem_singleton.mp h] at hc; exact hc
  | q :: r :: ps, p, h, hc => by
    show c ∈ q ++ (S ++ TL.joinL S (r :: ps))
    rcases List.mem_cons.mp h with rfl | h
    · exact List.mem_append.mpr (.inl hc)
    · exact List.mem_append.mpr (.inr (List.mem_append.mpr (.inr (mem_joinL_of h hc))))
theorem part_ok {b : Nat} {x y p : Str} (h : Tq b x) (hp : p ∈ Txt.split x y) : ∀ c ∈ TL.tl p, c < 128 := fun c hc => by
  refine h.ok c ?_
  rw [← join_of_split x y, tl_joinL]
  exact mem_joinL_of (List.mem_map_of_mem hp) hc
theorem join_ok {y : Str} {ps : List Str} (hy : ∀ c ∈ TL.tl y, c < 128) (h : ∀ p ∈ ps, ∀ c ∈ TL.tl p, c < 128) : ∀ c ∈ TL.tl (Txt.join y ps), c < 128 := fun c hc => by
  rw [tl_joinL] at hc
  rcases mem_joinL hc with q | ⟨p, hp, q⟩
  · exact hy c q
  · obtain ⟨z, hz, rfl⟩ := List.mem_map.mp hp
    exact h z hz c q
/-- what texts weigh when they are joined -/
def wt (n : Nat) (ps : List Str) : Nat := (ps.map (·.length)).sum + ps.length * n
theorem join_wt (y : Str) (ps : List Str) : (Txt.join y ps).length ≤ wt y.length ps := by
  rw [TL.len_tl, tl_joinL]
  refine Nat.le_trans (joinL_len _) ?_
  have e : ((ps.map TL.tl).map (·.length)).sum = (ps.map (·.length)).sum := by
    rw [List.map_map]
    exact congrArg List.sum (List.map_congr_left fun z _ => (TL.len_tl z).symm)
  rw [e, List.length_map, ← TL.len_tl]
  exact Nat.le_refl _
theorem split_wt {x y : Str} (h : Txt.split x y ≠ []) : wt y.length (Txt.split x y) = x.length + y.length := by
  have h1 := congrArg Str.length (join_of_split x y)
  rw [TL.join_eq] at h1
  unfold wt
  cases hs : Txt.split x y with
  | nil => exact absurd hs h
  | cons a l =>
    rw [hs, len_join_cons] at h1
    rw [List.length_cons, Nat.add_mul]
    omega
theorem wt_cons (n : Nat) (p : Str) (ps : List Str) : wt n (p :: ps) = p.length + n + wt n ps := by
  unfold wt
  rw [List.map_cons, List.sum_cons, List.length_cons, Nat.add_mul]
  omega
theorem wt_app (n : Nat) : ∀ (ps qs : List Str), wt n (ps ++ qs) = wt n ps + wt n qs
  | [], qs => by unfold wt; simp
  | p :: ps, qs => by rw [List.cons_append, wt_cons, wt_cons, wt_app n ps qs]; omega
theorem wt_mem {n : Nat} : ∀ {ps : List Str} {p : Str}, p ∈ ps → p.length + n ≤ wt n ps
  | q :: ps, p, h => by
    rw [wt_cons]
    rcases List.mem_cons.mp h with rfl | h
    · omega
    · have := wt_mem (n := n) h
      omega
theorem wt_erase (n : Nat) : ∀ (ps : List Str) (i : Nat), wt n (ps.eraseIdx i) ≤ wt n ps
  | [], i => by simp
  | p :: ps, 0 => by rw [List.eraseIdx_cons_zero, wt_cons]; omega
  | p :: ps, i + 1 => by
    rw [List.eraseIdx_cons_succ, wt_cons, wt_cons]
    have := wt_erase n ps i
    omega
theorem wt_set (n : Nat) (q : Str) : ∀ (ps : List Str) (i : Nat), wt n (ps.set i q) ≤ wt n ps + q.length
  | [], i => by simp [wt]
  | p :: ps, 0 => by rw [List.set_cons_zero, wt_cons, wt_cons]; omega
  | p :: ps, i + 1 => by
    rw [List.set_cons_succ, wt_cons, wt_cons]
    have := wt_set n q ps i
    omega
theorem wt_take (n : Nat) (ps : List Str) (i : Nat) : wt n (ps.take i) + wt n (ps.drop i) = wt n ps := by rw [← wt_app, List.take_append_drop]
theorem fit_wt {y : Str} {ps : List Str} (h : wt y.length ps ≤ 16777216) : (ps.map (·.length)).sum + ps.length * y.length ≤ 16777216 := h
/-- signs of a written text -/
theorem sign_at {z : Str} {n i : Nat} (h1 : z.cps.toList.length = n) (h2 : (z.cps.toList.all fun c => decide (c < 128)) = true) (h : i < n) : ∃ c, z.cps.toList[i]? = some c ∧ c < 128 := by
  have hl : i < z.cps.toList.length := by omega
  exact ⟨_, List.getElem?_eq_getElem hl, of_decide_eq_true (List.all_eq_true.mp h2 _ (List.getElem_mem hl))⟩
def tqB (b : Nat) (z : Str) : Bool := decide (z.length ≤ b) && z.cps.toList.all fun c => decide (c < 128)
theorem tqB_ok {b : Nat} {z : Str} (h : tqB b z = true) : Tq b z := by
  obtain ⟨h1, h2⟩ := Bool.and_eq_true_iff.mp h
  exact ⟨of_decide_eq_true h1, fun c hc => of_decide_eq_true (List.all_eq_true.mp h2 c hc)⟩
/-- the joints -/
def joints : List Str := [("; " : Str), (" " : Str), (":" : Str), (" " : Str), ("'" : Str), ("dim " : Str), ("sum " : Str), ("kind " : Str), ("fact " : Str), ("forget " : Str)]
structure Jt (j : Str) : Prop where
  q : Tq 7 j
  ne : TL.tl j ≠ []
  kd : j.cps.all (· < 256) = true
  st : Tq 7 (Txt.strip j)
  rs : Tq 7 (Txt.rstrip j)
def jtB (j : Str) : Bool := tqB 7 j && (!(TL.tl j).isEmpty && (j.cps.all (fun c => decide (c < 256)) && (tqB 7 (Txt.strip j) && tqB 7 (Txt.rstrip j))))
theorem jtB_ok {j : Str} (h : jtB j = true) : Jt j := by
  obtain ⟨h1, h⟩ := Bool.and_eq_true_iff.mp h
  obtain ⟨h2, h⟩ := Bool.and_eq_true_iff.mp h
  obtain ⟨h3, h⟩ := Bool.and_eq_true_iff.mp h
  obtain ⟨h4, h5⟩ := Bool.and_eq_true_iff.mp h
  exact ⟨tqB_ok h1, (fun z => by rw [z] at h2; cases h2), h3, tqB_ok h4, tqB_ok h5⟩
theorem joint_at {i : Nat} (h : i < 10) : ∃ j, (joints.map V.str)[i]? = some (.str j) ∧ Jt j := by
  have hl : i < joints.length := h
  refine ⟨joints[i], by rw [List.getElem?_map, List.getElem?_eq_getElem hl]; rfl, ?_⟩
  have hall : joints.all jtB = true := by decide +kernel
  exact jtB_ok (List.all_eq_true.mp hall _ (List.getElem_mem hl))
theorem Jt.len {j : Str} (h : Jt j) : (j.length == 0) = false ∧ 1 ≤ j.length := by
  have : 1 ≤ j.length := by
    rw [TL.len_tl]
    exact List.length_pos_iff.mpr h.ne
  exact ⟨by simp; omega, this⟩
def amids : List Str := [("; " : Str), (" " : Str), (" " : Str), (":" : Str)]
theorem amid_at {i : Nat} (h : i < 4) : ∃ j, (amids.map V.str)[i]? = some (.str j) ∧ Jt j := by
  have hl : i < amids.length := h
  refine ⟨amids[i], by rw [List.getElem?_map, List.getElem?_eq_getElem hl]; rfl, ?_⟩
  have hall : amids.all jtB = true := by decide +kernel
  exact jtB_ok (List.all_eq_true.mp hall _ (List.getElem_mem hl))
end Kd

namespace Kd
open PySem PySem.Spec PyProof.Rows L2
/-! ### figures without a 0 ahead -/
theorem numL_head : ∀ {n : Nat}, n ≠ 0 → (TL.numL n).head? ≠ some 48 := by
  intro n
  induction n using Nat.strongRecOn with
  | _ n ih =>
    intro hn e
    by_cases h : n < 10
    · rw [TL.numL_lt h] at e
      have := Option.some.inj e
      omega
    · rw [TL.numL_step (by omega)] at e
      have h2 := ih (n / 10) (by omega) (by omega)
      cases q : TL.numL (n / 10) with
      | nil => exact TL.numL_ne _ q
      | cons c r =>
        rw [q] at e h2
        exact h2 e
theorem val_snoc (r : List Nat) (c : Nat) : NumText.digitsVal (r ++ [c]) = NumText.digitsVal r * 10 + (c - 48) := by
  unfold NumText.digitsVal
  rw [List.foldl_append]
  rfl
theorem foldl_ge : ∀ (l : List Nat) (a : Nat), a ≤ l.foldl (fun acc c => acc * 10 + (c - 48)) a
  | [], a => Nat.le_refl _
  | c :: r, a => by
    rw [List.foldl_cons]
    have := foldl_ge r (a * 10 + (c - 48))
    omega
theorem val_pos {l : List Nat} (hd : NumText.AllDigits l) (hne : l ≠ []) (hh : l.head? ≠ some 48) : 1 ≤ NumText.digitsVal l := by
  cases l with
  | nil => exact absurd rfl hne
  | cons c r =>
    have h1 := hd c (List.mem_cons_self ..)
    have h2 : c ≠ 48 := fun z => hh (by rw [z]; rfl)
    show 1 ≤ r.foldl (fun acc c => acc * 10 + (c - 48)) (0 * 10 + (c - 48))
    have := foldl_ge r (0 * 10 + (c - 48))
    omega
theorem numL_of (l : List Nat) (hd : NumText.AllDigits l) (hne : l ≠ []) (hh : l.head? ≠ some 48 ∨ l = [48]) : TL.numL (NumText.digitsVal l) = l := by
  suffices h : ∀ (n : Nat) (l : List Nat), l.length = n → NumText.AllDigits l → l ≠ [] → (l.head? ≠ some 48 ∨ l = [48]) → TL.numL (NumText.digitsVal l) = l from h _ l rfl hd hne hh
  intro n
  induction n with
  | zero =>
    intro l h1 _ hne _
    exact absurd (List.length_eq_zero_iff.mp h1) hne
  | succ n ih =>
    intro l h1 hd hne hh
    rcases List.eq_nil_or_concat l with rfl | ⟨r, c, rfl⟩
    · exact absurd rfl hne
    rw [List.concat_eq_append] at *
    have hc := hd c (by simp)
    rw [val_snoc]
    cases r with
    | nil =>
      have e : NumText.digitsVal [] * 10 + (c - 48) = c - 48 := by
        show 0 * 10 + (c - 48) = c - 48
        omega
      rw [e, TL.numL_lt (by omega), show 48 + (c - 48) = c by omega]
      rfl
    | cons d r =>
      have hh2 : (d :: r).head? ≠ some 48 := by
        rcases hh with hh | hh
        · exact hh
        · simp at hh
      have hd2 : NumText.AllDigits (d :: r) := fun x hx => hd x (List.mem_append.mpr (.inl hx))
      have hp := val_pos hd2 (by simp) hh2
      have e := ih (d :: r) (by simp at h1 ⊢; omega) hd2 (by simp) (.inl hh2)
      rw [TL.numL_step (by omega), show (NumText.digitsVal (d :: r) * 10 + (c - 48)) / 10 = NumText.digitsVal (d :: r) by omega, show (NumText.digitsVal (d :: r) * 10 + (c - 48)) % 10 = c - 48 by omega, e, show 48 + (c - 48) = c by omega]
theorem tl_zero : TL.tl ("0" : Str) = [48] := by decide +kernel
theorem own_none {z : Str} (h : (figL (TL.tl z)).head? = some 48) (hz : z ≠ "0") : readN z = none := readN_none.mpr fun i hi e => by
  rw [e] at h
  rcases tl_cases i with ⟨n, e1, e2⟩ | ⟨m, e1, e2⟩
  · have ef : figL (TL.numL n) = TL.numL n := by
      unfold figL
      split
      · rename_i r q
        have := TL.numL_digits n 45 (by rw [q]; exact List.mem_cons_self ..)
        omega
      · rfl
    rw [e2, ef] at h
    by_cases hn : n = 0
    · apply hz
      apply TL.ext_tl
      rw [e, e2, hn, tl_zero]
      exact TL.numL_lt (by decide)
    · exact numL_head hn h
  · rw [e2] at h
    exact numL_head (n := m + 1) (by omega) h
theorem own_some {z : Str} (h1 : 1 ≤ (figL (TL.tl z)).length) (h2 : (figL (TL.tl z)).length ≤ 60) (h3 : digB (figL (TL.tl z)) = true) (hh : (figL (TL.tl z)).head? ≠ some 48 ∨ z = "0") : ∃ n, intText? z = some n ∧ readN z = some n ∧ z.length ≤ 61 := by
  obtain ⟨n, hn1, hn2, hn3⟩ := fig_read h1 h2 h3
  refine ⟨n, hn1, readN_iff.mpr ⟨hn2, ?_⟩, hn3⟩
  have hd := digB_iff.mp h3
  apply TL.ext_tl
  by_cases hc : ∃ r, TL.tl z = 45 :: r
  · obtain ⟨r, e⟩ := hc
    have ez : z ≠ "0" := fun q => by
      rw [q, tl_zero] at e
      injection e with e1 _
      omega
    rw [e] at hd h1
    have hd : NumText.AllDigits r := hd
    have hne : r ≠ [] := fun q => by rw [q] at h1; exact absurd h1 (by decide)
    have hh2 : r.head? ≠ some 48 := by
      rcases hh with hh | hh
      · rw [e] at hh
        exact hh
      · exact absurd hh ez
    have hi := intText_neg (x := z) e hd hne (by omega)
    rw [hn1] at hi
    have hp := val_pos hd hne hh2
    obtain ⟨m, hm⟩ : ∃ m, NumText.digitsVal r = m + 1 := ⟨NumText.digitsVal r - 1, by omega⟩
    have en : n = -((m + 1 : Nat) : Int) := by rw [Option.some.inj hi, hm]
    rw [e, en]
    show 45 :: r = TL.tl (numT (Int.negSucc m))
    rw [tl_neg, ← hm, numL_of r hd hne (.inl hh2)]
  · have e : figL (TL.tl z) = TL.tl z := by
      unfold figL
      split
      · rename_i r h
        exact absurd ⟨r, h⟩ hc
      · rfl
    rw [e] at hd h1 hh
    have hne : TL.tl z ≠ [] := fun q => by rw [q] at h1; exact absurd h1 (by decide)
    have hi := intText_digits (x := z) hd hne (by omega)
    rw [hn1] at hi
    rw [Option.some.inj hi, tl_pos]
    refine (numL_of (TL.tl z) hd hne ?_).symm
    rcases hh with hh | hh
    · exact .inl hh
    · exact .inr (by rw [hh, tl_zero])
theorem tl_cut1 (z : Str) : TL.tl (cutS z none (some 1)) = (TL.tl z).take 1 := by
  rw [tl_cutS, HT.sIx_none]
  have e : HT.sIx z.length z.length (some 1) = min 1 z.length := HT.sIx_nat _ _ 1
  rw [e, List.drop_zero, Nat.sub_zero, TL.len_tl]
  cases TL.tl z with
  | nil => rfl
  | cons c r =>
    rw [Nat.min_eq_left (by simp)]
theorem bareT (z : Str) (b : Bool) (hb : b = decide (V.str (cutS z none (some 1)) = V.str "-")) : TL.tl (cutS z (some (if b = true then 1 else 0)) none) = figL (TL.tl z) := by
  have key : (cutS z none (some 1) = ("-" : Str)) ↔ (TL.tl z).head? = some 45 := by
    constructor
    · intro e
      have := congrArg TL.tl e
      rw [tl_cut1, tl_minus] at this
      cases q : TL.tl z with
      | nil => rw [q] at this; cases this
      | cons c r =>
        rw [q] at this
        have : [c] = [45] := this
        injection this with h _
        rw [h]
        rfl
    · intro e
      apply TL.ext_tl
      rw [tl_cut1, tl_minus]
      cases q : TL.tl z with
      | nil => rw [q] at e; cases e
      | cons c r =>
        rw [q] at e
        rw [Option.some.inj e]
        rfl
  have cutN : ∀ j : Nat, TL.tl (cutS z (some (j : Int)) none) = (TL.tl z).drop j := fun j => by
    rw [tl_cutS, HT.sIx_none, HT.sIx_nat, TL.len_tl]
    by_cases h : j ≤ (TL.tl z).length
    · rw [Nat.min_eq_left h, List.take_of_length_le (by rw [List.length_drop]; omega)]
    · rw [Nat.min_eq_right (by omega), List.drop_of_length_le (Nat.le_refl _), List.drop_of_length_le (by omega), List.take_nil]
  by_cases c : cutS z none (some 1) = ("-" : Str)
  · rw [hb, decide_eq_true (congrArg V.str c)]
    have := cutN 1
    rw [show ((1 : Nat) : Int) = 1 from rfl] at this
    rw [if_pos rfl, this]
    have h := key.mp c
    cases q : TL.tl z with
    | nil => rw [q] at h; cases h
    | cons d r =>
      rw [q] at h
      rw [Option.some.inj h]
      rfl
  · rw [hb, decide_eq_false (fun q => c (by injection q))]
    have := cutN 0
    rw [show ((0 : Nat) : Int) = 0 from rfl] at this
    rw [if_neg (by decide), this, List.drop_zero]
    unfold figL
    split
    · rename_i r q
      exact absurd (key.mpr (by rw [q]; rfl)) c
    · rfl
/-- the law's look at a text's signs -/
def callB (z : Str) (m : Int) (s : Str) : Bool := decide (0 < (z.length : Int)) && (decide ((z.length : Int) ≤ m) && z.cps.toList.all fun c => decide (c ∈ s.cps.toList))
theorem call_key (z : Str) : callB z 12 "abcdefghijklmnopqrstuvwxyz0123456789" = keyB z := by
  have e : ∀ c, (c ∈ ("abcdefghijklmnopqrstuvwxyz0123456789" : Str).cps.toList) ↔ ((97 ≤ c ∧ c ≤ 122) ∨ (48 ≤ c ∧ c ≤ 57)) := fun c => by
    have e1 : ("abcdefghijklmnopqrstuvwxyz0123456789" : Str).cps.toList = List.range' 97 26 ++ List.range' 48 10 := by decide +kernel
    rw [e1, List.mem_append, List.mem_range'_1, List.mem_range'_1]
    omega
  unfold callB keyB
  have h1 : decide (0 < (z.length : Int)) = decide (1 ≤ z.length) := by
    by_cases h : 1 ≤ z.length
    · rw [decide_eq_true h, decide_eq_true (by omega)]
    · rw [decide_eq_false h, decide_eq_false (by omega)]
  have h2 : decide ((z.length : Int) ≤ 12) = decide (z.length ≤ 12) := by
    by_cases h : z.length ≤ 12
    · rw [decide_eq_true h, decide_eq_true (by omega)]
    · rw [decide_eq_false h, decide_eq_false (by omega)]
  rw [h1, h2]
  congr 2
  congr 1
  funext c
  simp only [e c]
theorem call_fig (z : Str) : callB z 60 "0123456789" = (decide (1 ≤ (TL.tl z).length) && (decide ((TL.tl z).length ≤ 60) && digB (TL.tl z))) := by
  unfold callB digB
  have h1 : decide (0 < (z.length : Int)) = decide (1 ≤ (TL.tl z).length) := by
    rw [← TL.len_tl]
    by_cases h : 1 ≤ z.length
    · rw [decide_eq_true h, decide_eq_true (by omega)]
    · rw [decide_eq_false h, decide_eq_false (by omega)]
  have h2 : decide ((z.length : Int) ≤ 60) = decide ((TL.tl z).length ≤ 60) := by
    rw [← TL.len_tl]
    by_cases h : z.length ≤ 60
    · rw [decide_eq_true h, decide_eq_true (by omega)]
    · rw [decide_eq_false h, decide_eq_false (by omega)]
  rw [h1, h2]
  congr 2
  show (TL.tl z).all _ = _
  congr 1
  funext c
  simp only [mem_figs]
end Kd

namespace Kd
open PySem PySem.Spec PyProof.Rows L2
theorem eqv_strs_nil (L : List Str) : PyData.eqv (.list (L.map PyData.str)) (.list []) = L.isEmpty := by
  cases L <;> simp [PyData.eqv, PyData.eqvAll]
theorem take_fltA {α : Type} {p : α → Bool} {xs : List α} {i : Nat} {z : α} (h : xs[i]? = some z) : (xs.take (i + 1)).filter p = (xs.take i).filter p ++ if p z = true then [z] else [] := by
  obtain ⟨h1, h2⟩ := List.getElem?_eq_some_iff.mp h
  rw [List.take_succ_eq_append_getElem h1, List.filter_append, h2]
  by_cases c : p z = true <;> simp [c]
theorem shaped_of {L : List PyData} (h1 : PyData.canLayAll0 L = true) (h2 : PyData.depthAll L = 0) : SeqAt.shaped (.list L) = true := by simp [SeqAt.shaped, PyData.canLay0, PyData.depth, h1, h2]
theorem lay_one : ∀ (l : List Nat), (∀ c ∈ l, c < 55296) → PyData.canLayAll0 (l.map fun c => PyData.str ⟨#[c]⟩) = true ∧ PyData.depthAll (l.map fun c => PyData.str ⟨#[c]⟩) = 0
  | [], _ => ⟨rfl, rfl⟩
  | c :: l, h => by
    obtain ⟨h1, h2⟩ := lay_one l fun z hz => h z (List.mem_cons_of_mem _ hz)
    have h3 := h c (List.mem_cons_self ..)
    have h4 : PyData.strOk ⟨#[c]⟩ = true := by
      unfold PyData.strOk
      rw [Array.all_eq_true']
      intro d hd
      have : d = c := by simpa using hd
      rw [this]
      exact decide_eq_true (by omega)
    constructor
    · simp only [List.map_cons, PyData.canLayAll0, PyData.canLay0, h1, h4, Bool.and_self]
    · simp only [List.map_cons, PyData.depthAll, PyData.depth, h2, Nat.max_self]
section
variable {P : Program} {w : World} {K : PySem.W.Frag} {mg : Str → Option Value} {base : Heap} {f : Addr} {fd : FuncData}
theorem ones_dp {H : Hp} : ∀ l : List Nat, DpAll K H (l.map fun c => V.str ⟨#[c]⟩) (l.map fun c => PyData.str ⟨#[c]⟩)
  | [] => .nil
  | c :: l => .cons (.str _) (ones_dp l)
/-! ### _law_called -/
def spCalled : Sp := fun vs H Q _ => ∃ (z s : Str) (m : Int), vs = [.str z, .int m, .str s] ∧ z.length ≤ 4000 ∧ (∀ c ∈ TL.tl z, c < 128) ∧ ∀ H', Same H H' → Q (.bl (callB z m s)) H'
abbrev N_l_called : List Str := ["text", "most", "signs", "sign"]
theorem sc_l_called : FnScope N_l_called ["text", "most", "signs"] (defScope s_l_called) := ⟨rfl, rfl, rfl, by decide +kernel, rfl, by decide +kernel, by decide +kernel⟩
/-! slots: 0 text 1 most 2 signs 3 sign; cells: signs -/
theorem ok_called (F : FnP K "_law_called" "_law_called" s_l_called f fd) (z_len : mg "len" = none) : FnOk P w K mg base CX0 1 f fd ["text", "most", "signs"] spCalled := by
  refine F.ok sc_l_called (fun vs H Q E h => ?_) (fun cdv A outer s H vs Q E hr h => ?_)
  · obtain ⟨z, s, m, rfl, _⟩ := h
    rfl
  · obtain ⟨z, sg, m, rfl, hz, ho, k⟩ := h
    have nd := sc_l_called.nd
    refine ⟨_, PSs.nox (pss_one (ps_ret (pe_and (pe_chain op_lt op_le pe_int (pe_callB call_len_str (by rfl) z_len boot_len (pa_cons (pv 0) pa_nil)) (pv 1)) (pe_one (pe_cmpR (op_eqD hr.units) (pe_lc (own := [("sign", 3)]) (g := gName 3) (tt := tTest (tOp rNotInS (tVar 3) (tVar 2))) (te := tVar 3) rfl nd (pi_str (pv 0)) (blkOk_by (own := [("sign", 3)]) (N := N_l_called) (sc := defScope s_l_called) (by decide +kernel))
        (fun _ _ _ _ _ => pg_name (i := 3) nd rfl (Or.inl rfl)) (fun _ _ _ _ _ => pts_one (pt_cmpR op_notIn_sign (pv 3) (pv 2) (by rfl))) (fun _ _ _ _ _ => pv 3)) (pe_lst pa_nil) (nomark _)))))), ?_⟩
    refine ⟨_, rfl, z, rfl, le_line hz, _, _, rfl, rfl, _, rfl, ?_⟩
    refine ite2 (fun c1 => ?_) (fun c1 => ?_)
    · have c1 : (0 : Int) < (z.length : Int) := of_decide_eq_true c1
      refine ⟨_, rfl, _, _, rfl, rfl, _, rfl, ?_⟩
      refine ite2 (fun c2 => ?_) (fun c2 => ?_)
      · have c2 : (z.length : Int) ≤ m := of_decide_eq_true c2
        have ez : z.length = z.cps.toList.length := by rw [Array.length_toList]; rfl
        refine ⟨_, rfl, z, rfl, fun D hD => lc_build walk_str hD (fun i ys R => Same H R ∧ ys = ((z.cps.toList.take i).filter fun c => !decide (c ∈ sg.cps.toList)).map fun c => V.str ⟨#[c]⟩) ⟨Same.refl H, rfl⟩ (fun _ _ _ _ _ => trivial) ?_ ?_⟩
        · rintro i ys x H2 H2' hi e l ⟨sm, rfl⟩ ⟨rfl, c, hc, rfl⟩
          have hc2 : z.cps.toList[i]? = some c := by rw [Array.getElem?_toList]; exact hc
          obtain ⟨g1, g2⟩ := List.getElem?_eq_some_iff.mp hc2
          refine ⟨rfl, _, rfl, _, rfl, c, sg, rfl, rfl, _, rfl, ?_⟩
          by_cases q : c ∈ sg.cps.toList
          · rw [decide_eq_true q]
            refine iteF (LcNx.skip e l ⟨sm, ?_⟩)
            rw [take_fltA hc2, if_neg (by rw [decide_eq_true q]; decide), List.append_nil]
          · rw [decide_eq_false q]
            refine iteT ⟨_, rfl, LcNx.add e l (by have : z.length = z.cps.size := rfl; omega) ⟨sm, ?_⟩⟩
            rw [take_fltA hc2, if_pos (by rw [decide_eq_false q]; decide), List.map_append]
            rfl
        · rintro ys H2 e l ⟨sm, rfl⟩
          have et : z.cps.toList.take z.cps.size = z.cps.toList := List.take_of_length_le (by rw [Array.length_toList]; exact Nat.le_refl _)
          rw [et] at e
          refine ⟨by show 0 ≤ sizeLine; decide, fun b nb => ?_⟩
          have s3 := same_new (o := .lst []) nb
          have hlay := lay_one (z.cps.toList.filter fun c => !decide (c ∈ sg.cps.toList)) fun c hc => by
            have := ho c (List.mem_filter.mp hc).1
            omega
          refine ⟨.list ((z.cps.toList.filter fun c => !decide (c ∈ sg.cps.toList)).map fun c => .str ⟨#[c]⟩), .list [], .lst (SqL.of (s3 _ _ e)) (ones_dp _), .lst (SqL.of upd_same) .nil, shaped_of hlay.1 hlay.2, sh_nil, ?_⟩
          rw [eqv_nil]
          have e1 : callB z m sg = ((z.cps.toList.filter fun c => !decide (c ∈ sg.cps.toList)).map fun c => PyData.str ⟨#[c]⟩).isEmpty := by
            unfold callB
            rw [decide_eq_true c1, decide_eq_true c2, Bool.true_and, Bool.true_and, List.isEmpty_map]
            rw [Bool.eq_iff_iff, List.all_eq_true, List.isEmpty_iff, List.filter_eq_nil_iff]
            constructor
            · intro h c hc q
              have := h c hc
              rw [this] at q
              cases q
            · intro h c hc
              have := h c hc
              simpa using this
          rw [← e1]
          exact k _ ((sm.trans cd_sub).trans s3)
      · have c2 : ¬ (z.length : Int) ≤ m := fun q => c2 (decide_eq_true q)
        have e1 : callB z m sg = false := by
          unfold callB
          rw [decide_eq_false c2, Bool.false_and, Bool.and_false]
        rw [e1] at k
        exact k H (Same.refl H)
    · have c1 : ¬ (0 : Int) < (z.length : Int) := fun q => c1 (decide_eq_true q)
      have e1 : callB z m sg = false := by
        unfold callB
        rw [decide_eq_false c1, Bool.false_and]
      rw [e1] at k
      exact ⟨_, rfl, iteF (k H (Same.refl H))⟩
/-! the same promises as the program's, of plain signs -/
def spIsKeyP : Sp := fun vs H Q _ => ∃ z : Str, vs = [.str z] ∧ Tq 4000 z ∧ ∀ H', Same H H' → Q (.bl (keyB z)) H'
def spReadNP : Sp := fun vs H Q _ => ∃ z : Str, vs = [.str z] ∧ Tq 4000 z ∧ ∀ H', Same H H' → Q (oI (readN z)) H'
def spReadVP : Sp := fun vs H Q _ => ∃ z : Str, vs = [.str z] ∧ Tq 4000 z ∧ ∀ H', Same H H' → Q (oV (readV z)) H'
/-! ### _law_is_key -/
abbrev N_l_is_key : List Str := ["text"]
theorem sc_l_is_key : FnScope N_l_is_key ["text"] (defScope s_l_is_key) := ⟨rfl, rfl, rfl, by decide +kernel, rfl, by decide +kernel, by decide +kernel⟩
/-! slots: 0 text; cells:  -/
theorem ok_lkey {fC : Addr} {fdC : FuncData} (F : FnP K "_law_is_key" "_law_is_key" s_l_is_key f fd) (c_called : Fun P w K mg base "_law_called" 1 ["text", "most", "signs"] spCalled fC fdC) : FnOk P w K mg base CX0 2 f fd ["text"] spIsKeyP := by
  refine F.ok sc_l_is_key (fun vs H Q E h => ?_) (fun cdv A outer s H vs Q E hr h => ?_)
  · obtain ⟨z, rfl, _⟩ := h
    rfl
  · obtain ⟨z, rfl, hz, k⟩ := h
    have nd := sc_l_is_key.nd
    refine ⟨_, PSs.nox (pss_one (ps_ret (pe_call c_called.G (hr.mono (by decide)) rfl c_called.g c_called.k c_called.b .nil pass0 (pa_cons (pv 0) (pa_cons pe_int (pa_cons pe_str pa_nil)))))), ?_⟩
    refine ⟨_, rfl, z, _, _, rfl, hz.le, hz.ok, fun H2 s2 => ?_⟩
    rw [call_key]
    exact k H2 s2
/-! ### _law_whole_of -/
abbrev N_l_whole_of : List Str := ["text", "bare"]
theorem sc_l_whole_of : FnScope N_l_whole_of ["text"] (defScope s_l_whole_of) := ⟨rfl, rfl, rfl, by decide +kernel, rfl, by decide +kernel, by decide +kernel⟩
/-! slots: 0 text 1 bare; cells:  -/
theorem ok_lwhole {fC : Addr} {fdC : FuncData} (F : FnP K "_law_whole_of" "_law_whole_of" s_l_whole_of f fd) (c_called : Fun P w K mg base "_law_called" 1 ["text", "most", "signs"] spCalled fC fdC) (z_int : mg "int" = none) : FnOk P w K mg base CX0 2 f fd ["text"] spReadNP := by
  refine F.ok sc_l_whole_of (fun vs H Q E h => ?_) (fun cdv A outer s H vs Q E hr h => ?_)
  · obtain ⟨z, rfl, _⟩ := h
    rfl
  · obtain ⟨z, rfl, hz, k⟩ := h
    have nd := sc_l_whole_of.nd
    have zl := hz.le
    refine ⟨_, PSs.nox (pss_cons (ps_set (i := 1) nd rfl (Or.inl rfl) (pe_slice sl_str (pv 0) (po_some (pe_callTy call_int1 (by rfl) z_int (by decide +kernel) (pa_cons (pe_cmpR op_eq (pe_slice sl_str (pv 0) po_none (po_some pe_int)) pe_str (nomark _)) pa_nil))) po_none))
      (pss_cons (ps_if (PW.pt (pw_or (pt_not (pt_val (pe_call c_called.G (hr.mono (by decide)) rfl c_called.g c_called.k c_called.b .nil pass0 (pa_cons (pv 1) (pa_cons pe_int (pa_cons pe_str pa_nil)))))) (pw_or1 (PW.pt (pw_and (pt_cmpR op_eq (pe_ix ix_str (pv 1) pe_int (fun _ _ => rfl)) pe_str (nomark _)) (pw_and1 (pt_cmpR op_ne (pv 0) pe_str (nomark _))))))))
        (pss_one (ps_ret pe_non))
        pss_nil)
      (pss_one (ps_ret (pe_callTy call_int_str (by rfl) z_int (by decide +kernel) (pa_cons (pv 0) pa_nil)))))), ?_⟩
    refine ⟨_, rfl, _, rfl, _, rfl, z, rfl, le_line zl, rfl, .inr ⟨_, rfl, _, rfl, z, rfl, le_line zl, ?_⟩⟩
    have hb := bareT z _ rfl
    have hq := hz.cut (some (if decide (V.str (cutS z none (some 1)) = V.str "-") = true then 1 else 0)) none
    generalize cutS z (some (if decide (V.str (cutS z none (some 1)) = V.str "-") = true then 1 else 0)) none = y at hb hq ⊢
    have yl := hq.le
    refine set_st (σ' := [some (.str z), some (.str y)]) rfl ?_
    refine ⟨_, rfl, y, _, _, rfl, yl, hq.ok, fun H2 s2 => ⟨_, rfl, ?_⟩⟩
    rw [call_fig, hb]
    have bad : ¬ (1 ≤ (figL (TL.tl z)).length ∧ (figL (TL.tl z)).length ≤ 60 ∧ digB (figL (TL.tl z)) = true) → readN z = none := fun hb => readN_none.mpr fun i hi e => hb (by rw [e]; exact fig_num hi)
    by_cases c : 1 ≤ (figL (TL.tl z)).length ∧ (figL (TL.tl z)).length ≤ 60 ∧ digB (figL (TL.tl z)) = true
    case neg =>
      have e := bad c
      rw [e] at k
      have ec : (decide (1 ≤ (figL (TL.tl z)).length) && (decide ((figL (TL.tl z)).length ≤ 60) && digB (figL (TL.tl z)))) = false := by
        rw [Bool.eq_false_iff]
        intro q
        rw [Bool.and_eq_true, Bool.and_eq_true, decide_eq_true_iff, decide_eq_true_iff] at q
        exact c q
      rw [ec]
      exact iteT0 rfl (k H2 s2)
    rw [decide_eq_true c.1, decide_eq_true c.2.1, c.2.2]
    refine iteF0 (by decide) ?_
    obtain ⟨d, r, hdr⟩ : ∃ d r, figL (TL.tl z) = d :: r := by
      cases q : figL (TL.tl z) with
      | nil => rw [q] at c; exact absurd c.1 (by decide)
      | cons d r => exact ⟨d, r, rfl⟩
    refine ⟨_, rfl, y, _, d, rfl, rfl, le_line yl, atI_nat (j := 0) (by show (TL.tl y)[0]? = some d; rw [hb, hdr]; rfl), rfl, _, rfl, ?_⟩
    have ez : ("0" : Str) = ⟨#[48]⟩ := by decide +kernel
    have out : ((figL (TL.tl z)).head? ≠ some 48 ∨ z = "0") → ∃ v, ([some (V.str z), some (V.str y)] : L2.St)[0]? = some (some v) ∧ rIntS [v] H2 Q := fun hh => by
      obtain ⟨n, n1, n2, n3⟩ := own_some c.1 c.2.1 c.2.2 hh
      rw [n2] at k
      exact ⟨_, rfl, z, n, rfl, n1, by omega, k H2 s2⟩
    by_cases c3 : d = 48
    · subst c3
      refine iteT0 (decide_eq_true (by rw [ez])) ?_
      refine ⟨_, rfl, rfl, _, rfl, ?_⟩
      by_cases c4 : z = "0"
      · refine iteNS (congrArg V.str c4) (out (.inr c4))
      · refine iteNT (fun q => c4 (by injection q)) ?_
        have e := own_none (z := z) (by rw [hdr]; rfl) c4
        rw [e] at k
        exact k H2 s2
    · refine iteF0 (fun q => c3 ?_) (out (.inl (by rw [hdr]; intro q; exact c3 (Option.some.inj q))))
      have q := of_decide_eq_true q
      injection q with q
      rw [ez] at q
      have := congrArg (fun s : Str => s.cps) q
      simpa using this
/-! ### _law_value_of -/
abbrev N_l_value_of : List Str := ["text"]
theorem sc_l_value_of : FnScope N_l_value_of ["text"] (defScope s_l_value_of) := ⟨rfl, rfl, rfl, by decide +kernel, rfl, by decide +kernel, by decide +kernel⟩
/-! slots: 0 text; cells:  -/
theorem ok_lvalue {fK fN : Addr} {fdK fdN : FuncData} (F : FnP K "_law_value_of" "_law_value_of" s_l_value_of f fd) (c_is_key : Fun P w K mg base "_law_is_key" 2 ["text"] spIsKeyP fK fdK) (c_whole_of : Fun P w K mg base "_law_whole_of" 2 ["text"] spReadNP fN fdN) (z_len : mg "len" = none) : FnOk P w K mg base CX0 3 f fd ["text"] spReadVP := by
  refine F.ok sc_l_value_of (fun vs H Q E h => ?_) (fun cdv A outer s H vs Q E hr h => ?_)
  · obtain ⟨z, rfl, _⟩ := h
    rfl
  · obtain ⟨z, rfl, hz, k⟩ := h
    have nd := sc_l_value_of.nd
    have zl := hz.le
    refine ⟨_, PSs.nox (pss_cons (ps_if (PW.pt (pw_and (pt_cmpR op_gt (pe_callB call_len_str (by rfl) z_len boot_len (pa_cons (pv 0) pa_nil)) pe_int (nomark _)) (pw_and (pt_cmpR op_eq (pe_ix ix_str (pv 0) pe_int (fun _ _ => rfl)) pe_str (nomark _)) (pw_and (pt_cmpR op_eq (pe_ix ix_str (pv 0) (pe_un un_neg pe_int) (fun _ _ => rfl)) pe_str (nomark _)) (pw_and1 (pt_val (pe_call c_is_key.G (hr.mono (by decide)) rfl c_is_key.g c_is_key.k c_is_key.b .nil pass0 (pa_cons (pe_slice sl_str (pv 0) (po_some pe_int) (po_some (pe_un un_neg pe_int))) pa_nil))))))))
        (pss_one (ps_ret (pe_slice sl_str (pv 0) (po_some pe_int) (po_some (pe_un un_neg pe_int)))))
        pss_nil)
      (pss_one (ps_ret (pe_ifExp (pt_cmpR op_in_sign pe_str (pv 0) (by rfl)) pe_non (pe_call c_whole_of.G (hr.mono (by decide)) rfl c_whole_of.g c_whole_of.k c_whole_of.b .nil pass0 (pa_cons (pv 0) pa_nil)))))), ?_⟩
    have ea : ("'" : Str) = ⟨#[39]⟩ := by decide +kernel
    have other : ∀ {H2 : Hp}, Same H H2 → ¬ (Txt.startswith z "'" = true ∧ Txt.endswith z "'" = true ∧ keyB (cutS z (some 1) (some (-1))) = true) → tRet (tIf (tTest (tOp (fun x y H Q => ∃ (c : Nat) (z : Str), x = .str ⟨#[c]⟩ ∧ y = .str z ∧ Q (.bl (decide (c ∈ z.cps.toList))) H) (tC (.str "'")) (tVar 0))) (tC .non) (tCall spReadNP [] E0 (tCons (tVar 0) tNil))) { nx := fun x H' => Q V.non H', rt := Q } [some (.str z)] H2 := fun {H2} s2 hb => by
      have e : readV z = (readN z).map Fv.i := readV_num fun y hy e => hb (by
        obtain ⟨h1, h2, h3⟩ := of_quo hy
        rw [e, h3]
        exact ⟨h1, h2, keyB_iff.mpr hy⟩)
      refine ⟨_, rfl, 39, z, by rw [ea], rfl, _, rfl, ?_⟩
      by_cases c : 39 ∈ z.cps.toList
      · rw [decide_eq_true c]
        have en : readN z = none := readN_none.mpr fun i hi e => by
          have c : 39 ∈ TL.tl z := c
          rw [e] at c
          exact num_free (by decide) (by decide) c
        rw [e, en] at k
        exact iteT (k H2 s2)
      · rw [decide_eq_false c]
        refine iteF ⟨_, rfl, z, rfl, hz, fun H3 s3 => ?_⟩
        have em : oV ((readN z).map Fv.i) = oI (readN z) := by cases readN z <;> rfl
        rw [e, em] at k
        exact k H3 (s2.trans s3)
    have lz : z.length = (TL.tl z).length := TL.len_tl z
    refine ⟨_, rfl, z, rfl, le_line zl, _, _, rfl, rfl, _, rfl, ?_⟩
    by_cases c0 : 2 < z.length
    case neg =>
      refine iteF0 (fun q => c0 (by have q := of_decide_eq_true q; omega)) (other (Same.refl H) fun q => ?_)
      have h3 := (keyB_iff.mp q.2.2).ge
      rw [TL.len_tl, cutQ, List.length_take, List.length_drop] at h3
      omega
    refine iteT0 (decide_eq_true (by omega)) ?_
    obtain ⟨d, r, hdr⟩ : ∃ d r, TL.tl z = d :: r := by
      cases q : TL.tl z with
      | nil => rw [q] at lz; exact absurd lz (by simp; omega)
      | cons d r => exact ⟨d, r, rfl⟩
    refine ⟨_, rfl, z, _, d, rfl, rfl, le_line zl, atI_nat (j := 0) (by show (TL.tl z)[0]? = some d; rw [hdr]; rfl), rfl, _, rfl, ?_⟩
    by_cases c1 : d = 39
    case neg =>
      refine iteF0 (fun q => c1 ?_) (other (Same.refl H) fun q => ?_)
      · have q := of_decide_eq_true q
        injection q with q
        rw [ea] at q
        have := congrArg (fun s : Str => s.cps) q
        simpa using this
      · have h1 := q.1
        rw [starts_iff, hdr] at h1
        exact c1 (Option.some.inj (of_decide_eq_true h1))
    subst c1
    refine iteT0 (decide_eq_true (by rw [ea])) ?_
    obtain ⟨q, e, hqe⟩ : ∃ q e, TL.tl z = q ++ [e] := by
      rcases List.eq_nil_or_concat (TL.tl z) with h | ⟨q, e, h⟩
      · rw [h] at hdr
        cases hdr
      · exact ⟨q, e, by rw [h, List.concat_eq_append]⟩
    refine ⟨_, rfl, _, rfl, z, _, e, rfl, rfl, le_line zl, (by show atI (TL.tl z) (-1) = some e; rw [hqe]; exact atI_last q e), rfl, _, rfl, ?_⟩
    by_cases c2 : e = 39
    case neg =>
      refine iteF0 (fun q => c2 ?_) (other (Same.refl H) fun q' => ?_)
      · have q := of_decide_eq_true q
        injection q with q
        rw [ea] at q
        have := congrArg (fun s : Str => s.cps) q
        simpa using this
      · have h1 := q'.2.1
        rw [ends_iff, hqe, List.getLast?_append] at h1
        exact c2 (Option.some.inj (of_decide_eq_true h1))
    subst c2
    refine iteT0 (decide_eq_true (by rw [ea])) ?_
    have c1' : Txt.startswith z "'" = true := by rw [starts_iff, hdr]; rfl
    have c2' : Txt.endswith z "'" = true := by rw [ends_iff, hqe, List.getLast?_append]; rfl
    refine ⟨_, rfl, _, rfl, _, rfl, _, rfl, z, rfl, le_line zl, ?_⟩
    refine ⟨_, rfl, hz.cut _ _, fun H2 s2 => ⟨_, rfl, ?_⟩⟩
    cases c3 : keyB (cutS z (some 1) (some (-1))) with
    | false => exact iteF (other s2 (fun q => by rw [c3] at q; exact Bool.noConfusion q.2.2))
    | true =>
      refine iteT ⟨_, rfl, _, rfl, _, rfl, _, rfl, z, rfl, le_line zl, ?_⟩
      have e := readV_iff.mpr ⟨(show (Fv.s (cutS z (some 1) (some (-1)))).good from keyB_iff.mp c3), quo_of c1' c2' c3⟩
      rw [e] at k
      exact k H2 s2
end
end Kd

namespace Kd
open PySem PySem.Spec PyProof.Rows L2
theorem inV_strsA (z : Str) : ∀ us : List Str, inV (.str z) (us.map V.str) = decide (z ∈ us)
  | [] => by simp [inV]
  | y :: us => by
    have ih := inV_strsA z us
    unfold inV at ih ⊢
    rw [List.map_cons, List.any_cons, ih]
    have e : eqV (.str y) (.str z) = decide (z = y) := by
      show (y == z) = decide (z = y)
      by_cases q : z = y
      · simp [q]
      · have q2 : ¬ y = z := fun h => q h.symm
        simp [q, q2]
    rw [e]
    simp [List.mem_cons]
theorem flat_strsA : ∀ us : List Str, (us.map V.str).all flatV = true
  | [] => rfl
  | _ :: us => by
    rw [List.map_cons, List.all_cons, flat_strsA us]
    rfl
theorem lay_plain : ∀ vs : List Str, (∀ v ∈ vs, ∀ c ∈ TL.tl v, c < 128) → PyData.canLayAll0 (vs.map PyData.str) = true ∧ PyData.depthAll (vs.map PyData.str) = 0
  | [], _ => ⟨rfl, rfl⟩
  | v :: vs, h => by
    obtain ⟨h1, h2⟩ := lay_plain vs fun z hz => h z (List.mem_cons_of_mem _ hz)
    have h3 := h v (List.mem_cons_self ..)
    have h4 : PyData.strOk v = true := by
      unfold PyData.strOk
      rw [Array.all_eq_true']
      intro c hc
      have := h3 c (Array.mem_toList_iff.mpr hc)
      exact decide_eq_true (by omega)
    constructor
    · simp only [List.map_cons, PyData.canLayAll0, PyData.canLay0, h1, h4, Bool.and_self]
    · simp only [List.map_cons, PyData.depthAll, PyData.depth, h2]
      rfl
theorem kind_read {ds : List Dm} {ms : List Str} {w1 w2 w3 : Str} {rest : List Str} {e : Dm} (he : ds.find? (fun d => decide (d.1 = w1)) = some e) (hn : (ds.map (·.1)).Nodup) :
    readR ds ms (("kind" : Str) :: w1 :: w2 :: w3 :: rest) = if rest.length = e.2.length ∧ (rest.map readV).any Option.isNone = false ∧ keyB w2 = true then (match readN w3 with | some day => some (.kind w1 w2 day (rest.map fun z => (readV z).getD (.i 0))) | none => none) else none := by
  have hem : e ∈ ds := List.mem_of_find?_eq_some he
  have he1 : e.1 = w1 := by have := List.find?_some he; simpa using this
  have sq : ∀ {r : Rw}, r.good ds ms → ("kind" : Str) :: w1 :: w2 :: w3 :: rest = rwW r → ∃ day vals, r = .kind w1 w2 day vals ∧ w3 = numT day ∧ rest = vals.map valT := fun {r} hr q => by
    cases r with
    | kind d key day vals =>
      have q : ("kind" : Str) :: w1 :: w2 :: w3 :: rest = [("kind" : Str), d, key, numT day] ++ vals.map valT := q
      simp only [List.cons_append, List.nil_append, List.cons.injEq, true_and] at q
      obtain ⟨rfl, rfl, q3, q4⟩ := q
      exact ⟨day, vals, rfl, q3, q4⟩
    | fact name day keys nums =>
      have q : ("kind" : Str) :: w1 :: w2 :: w3 :: rest = ("fact" : Str) :: ([name, numT day] ++ keys ++ nums.map numT) := q
      injection q with q _
      exact absurd q w_kf
    | forget name =>
      have q : ("kind" : Str) :: w1 :: w2 :: w3 :: rest = [("forget" : Str), name] := q
      injection q with q _
      exact absurd q w_kg
  by_cases c : rest.length = e.2.length ∧ (rest.map readV).any Option.isNone = false ∧ keyB w2 = true
  · rw [if_pos c]
    obtain ⟨vals, hvals⟩ := some_all c.2.1
    have hl : rest.length = vals.length := by
      have := congrArg List.length hvals
      simpa using this
    have hi : ∀ i (h1 : i < rest.length) (h2 : i < vals.length), vals[i].good ∧ rest[i] = valT vals[i] := fun i h1 h2 => by
      have e := congrArg (fun z : List (Option Fv) => z[i]?) hvals
      simp only [List.getElem?_map, List.getElem?_eq_getElem h1, List.getElem?_eq_getElem h2, Option.map_some, Option.some.injEq] at e
      exact readV_iff.mp e
    have hv : rest = vals.map valT := List.ext_getElem (by rw [List.length_map]; exact hl) fun i h1 h2 => by
      rw [List.getElem_map]
      exact (hi i h1 (by omega)).2
    have hg : ∀ v ∈ vals, v.good := fun v hv => by
      obtain ⟨i, h2, rfl⟩ := List.mem_iff_getElem.mp hv
      exact (hi i (by omega) h2).1
    have hm : (rest.map fun z => (readV z).getD (.i 0)) = vals := by
      have : (rest.map fun z => (readV z).getD (.i 0)) = (rest.map readV).map fun o => o.getD (.i 0) := by rw [List.map_map]; rfl
      rw [this, hvals, List.map_map]
      exact List.map_id vals
    cases cn : readN w3 with
    | none =>
      refine readR_none fun r hr q => ?_
      obtain ⟨day, vals', rfl, q3, _⟩ := sq hr q
      exact readN_none.mp cn day hr.2.2.1 q3
    | some day =>
      obtain ⟨hd1, hd2⟩ := readN_iff.mp cn
      refine readR_iff.mpr ⟨⟨⟨e, hem, he1.symm, ?_⟩, keyB_iff.mp c.2.2, hd1, ?_⟩, ?_⟩
      · rw [hm, ← hl]
        exact c.1
      · rw [hm]
        exact hg
      · rw [hm, hd2, hv]
        rfl
  · rw [if_neg c]
    refine readR_none fun r hr q => c ?_
    obtain ⟨day, vals, rfl, q3, q4⟩ := sq hr q
    obtain ⟨⟨e', he', hd', hl'⟩, g2, g3, g4⟩ := hr
    have hu := find_uniq he' hn
    rw [← hd', he] at hu
    cases hu
    refine ⟨by rw [q4, List.length_map]; exact hl', ?_, keyB_iff.mpr g2⟩
    rw [q4, List.any_eq_false]
    intro o ho
    obtain ⟨z, hz, rfl⟩ := List.mem_map.mp ho
    obtain ⟨v, hv, rfl⟩ := List.mem_map.mp hz
    rw [readV_iff.mpr ⟨g4 v hv, rfl⟩]
    simp
section
variable {P : Program} {w : World} {K : PySem.W.Frag} {mg : Str → Option Value} {base : Heap} {f : Addr} {fd : FuncData}
/-! ### _law_row_of -/
def spOwnR (K : PySem.W.Frag) : Sp := fun vs H Q _ => ∃ (lo mo : Addr) (t : Str) (ds : List Dm) (ms : List Str), vs = [.ref lo, .ref mo, .str t] ∧ DimsAt K H lo ds ∧ SqL K H mo (ms.map V.str) ∧ Good ds ms ∧ Tq 4000 t ∧ ∀ v H', Same H H' → RowV K H' v (readR ds ms (Txt.split t " ")) → Q v H'
abbrev N_l_row_of : List Str := ["some", "sums", "text", "words", "name", "rows", "word", "values", "many", "day", "good", "keys", "numbers", "key"]
theorem sc_l_row_of : FnScope N_l_row_of ["some", "sums", "text"] (defScope s_l_row_of) := ⟨rfl, rfl, rfl, by decide +kernel, rfl, by decide +kernel, by decide +kernel⟩
/-! slots: 0 some 1 sums 2 text 3 words 4 name 5 rows 6 word 7 values 8 many 9 day 10 good 11 keys 12 numbers 13 key; cells: words -/
set_option maxHeartbeats 0 in
theorem ok_lrow {fK fN fV : Addr} {fdK fdN fdV : FuncData} (F : FnP K "_law_row_of" "_law_row_of" s_l_row_of f fd) (c_is_key : Fun P w K mg base "_law_is_key" 2 ["text"] spIsKeyP fK fdK) (c_whole_of : Fun P w K mg base "_law_whole_of" 2 ["text"] spReadNP fN fdN) (c_value_of : Fun P w K mg base "_law_value_of" 3 ["text"] spReadVP fV fdV)
    (z_len : mg "len" = none) (z_tuple : mg "tuple" = none) : FnOk P w K mg base CX0 4 f fd ["some", "sums", "text"] (spOwnR K) := by
  refine F.ok sc_l_row_of (fun vs H Q E h => ?_) (fun cdv A outer s H vs Q E hr h => ?_)
  · obtain ⟨lo, mo, t, ds, ms, rfl, _⟩ := h
    rfl
  · obtain ⟨lo, mo, t, ds, ms, rfl, ⟨xs, hlo, hp⟩, hmo, ok, ht, k⟩ := h
    have nd := sc_l_row_of.nd
    have tl := ht.le
    have lxs := hp.length
    have d1 := ok.d1
    have d4 := ok.d4
    have m4 := ok.m4
    refine ⟨_, PSs.nox (pss_cons (ps_set (i := 3) nd rfl (Or.inr rfl) (pe_split (pv 2) pe_str))
      (pss_cons (ps_if (PW.pt (pw_and (pt_cmpR op_eq (pe_ix ix_list (pv 3) pe_int (fun _ _ => rfl)) pe_str (nomark _)) (pw_and1 (pt_cmpR op_eq (pe_callB call_len_seq (by rfl) z_len boot_len (pa_cons (pv 3) pa_nil)) pe_int (nomark _)))))
        (pss_one (ps_ret (pe_ifExp (pt_val (pe_call c_is_key.G (hr.mono (by decide)) rfl c_is_key.g c_is_key.k c_is_key.b .nil pass0 (pa_cons (pe_ix ix_list (pv 3) pe_int (fun _ _ => rfl)) pa_nil))) (pe_tup (pa_cons pe_str (pa_cons (pe_ix ix_list (pv 3) pe_int (fun _ _ => rfl)) pa_nil))) pe_non)))
        pss_nil)
      (pss_cons (ps_if (PW.pt (pw_and (pt_cmpR op_eq (pe_ix ix_list (pv 3) pe_int (fun _ _ => rfl)) pe_str (nomark _)) (pw_and (pt_cmpR op_gt (pe_callB call_len_seq (by rfl) z_len boot_len (pa_cons (pv 3) pa_nil)) pe_int (nomark _)) (pw_and1 (pt_cmpR op_in_seq (pe_ix ix_list (pv 3) pe_int (fun _ _ => rfl)) (pe_lc (own := [("name", 4), ("rows", 5)]) (g := gTup K 2 (gCons (gName 4) (gCons (gName 5) gNil))) (tt := tYes) (te := tVar 4) rfl nd (pi_list (pv 0)) (blkOk_by (own := [("name", 4), ("rows", 5)]) (N := N_l_row_of) (sc := defScope s_l_row_of) (by decide +kernel))
        (fun _ _ _ _ _ => pg_tup rfl (pgs_cons (pg_name (i := 4) nd rfl (Or.inl rfl)) (pgs_cons (pg_name (i := 5) nd rfl (Or.inl rfl)) pgs_nil))) (fun _ _ _ _ _ => pts_nil) (fun _ _ _ _ _ => pv 4)) (by rfl))))))
        (pss_cons (ps_set (i := 7) nd rfl (Or.inl rfl) (pe_callTy call_tuple_of (by rfl) z_tuple (by decide +kernel) (pa_cons (pe_lc (own := [("word", 6)]) (g := gName 6) (tt := tYes) (te := tCall spReadVP [] E0 (tCons (tVar 6) tNil)) rfl nd (pi_list (pe_slice sl_list (pv 3) (po_some pe_int) po_none)) (blkOk_by (own := [("word", 6)]) (N := N_l_row_of) (sc := defScope s_l_row_of) (by decide +kernel))
        (fun _ _ _ _ _ => pg_name (i := 6) nd rfl (Or.inl rfl)) (fun _ _ _ _ _ => pts_nil) (fun _ _ _ _ _ => pe_call c_value_of.G (hr.mono (by decide)) rfl c_value_of.g c_value_of.k c_value_of.b .nil pass0 (pa_cons (pv 6) pa_nil))) pa_nil)))
        (pss_cons (ps_set (i := 8) nd rfl (Or.inl rfl) (pe_ix ix_list (pe_lc (own := [("name", 4), ("rows", 5)]) (g := gTup K 2 (gCons (gName 4) (gCons (gName 5) gNil))) (tt := tTest (tOp rEq (tVar 4) (tOp (rIxL K) (tVar 3) (tC (.int 1))))) (te := tCB (rLenQ K) (tCons (tVar 5) tNil)) rfl nd (pi_list (pv 0)) (blkOk_by (own := [("name", 4), ("rows", 5)]) (N := N_l_row_of) (sc := defScope s_l_row_of) (by decide +kernel))
        (fun _ _ _ _ _ => pg_tup rfl (pgs_cons (pg_name (i := 4) nd rfl (Or.inl rfl)) (pgs_cons (pg_name (i := 5) nd rfl (Or.inl rfl)) pgs_nil))) (fun _ _ _ _ _ => pts_one (pt_cmpR op_eq (pv 4) (pe_ix ix_list (pv 3) pe_int (fun _ _ => rfl)) (nomark _))) (fun _ _ _ _ _ => pe_callB call_len_seq (by rfl) z_len boot_len (pa_cons (pv 5) pa_nil))) pe_int (fun _ _ => rfl)))
        (pss_cons (ps_set (i := 9) nd rfl (Or.inl rfl) (pe_call c_whole_of.G (hr.mono (by decide)) rfl c_whole_of.g c_whole_of.k c_whole_of.b .nil pass0 (pa_cons (pe_ix ix_list (pv 3) pe_int (fun _ _ => rfl)) pa_nil)))
        (pss_cons (ps_set (i := 10) nd rfl (Or.inl rfl) (pe_and (pe_cmpR op_eq (pe_callB call_len_seq (by rfl) z_len boot_len (pa_cons (pv 7) pa_nil)) (pv 8) (nomark _)) (pe_and (pe_cmpR op_notIn_seq pe_non (pv 7) (by rfl)) (pe_and (pe_cmp (pc_notN (pv 9)) rfl) (pe_one (pe_call c_is_key.G (hr.mono (by decide)) rfl c_is_key.g c_is_key.k c_is_key.b .nil pass0 (pa_cons (pe_ix ix_list (pv 3) pe_int (fun _ _ => rfl)) pa_nil)))))))
        (pss_one (ps_ret (pe_ifExp (pt_val (pv 10)) (pe_tup (pa_cons pe_str (pa_cons (pe_ix ix_list (pv 3) pe_int (fun _ _ => rfl)) (pa_cons (pe_ix ix_list (pv 3) pe_int (fun _ _ => rfl)) (pa_cons (pv 9) (pa_cons (pv 7) pa_nil)))))) pe_non)))))))
        pss_nil)
      (pss_cons (ps_if (PW.pt (pw_or (pt_cmpR op_ne (pe_ix ix_list (pv 3) pe_int (fun _ _ => rfl)) pe_str (nomark _)) (pw_or1 (pt_cmpR op_ne (pe_callB call_len_seq (by rfl) z_len boot_len (pa_cons (pv 3) pa_nil)) (pe_op op_add (pe_op op_add pe_int (pe_callB call_len_seq (by rfl) z_len boot_len (pa_cons (pv 0) pa_nil))) (pe_callB call_len_seq (by rfl) z_len boot_len (pa_cons (pv 1) pa_nil))) (nomark _)))))
        (pss_one (ps_ret pe_non))
        pss_nil)
      (pss_cons (ps_set (i := 11) nd rfl (Or.inl rfl) (pe_callTy call_tuple_of (by rfl) z_tuple (by decide +kernel) (pa_cons (pe_slice sl_list (pv 3) (po_some pe_int) (po_some (pe_op op_add pe_int (pe_callB call_len_seq (by rfl) z_len boot_len (pa_cons (pv 0) pa_nil))))) pa_nil)))
      (pss_cons (ps_setLc (i := 12) (own := [("word", 6)]) (g := gName 6) (tt := tYes) (te := tCall spReadNP [] E0 (tCons (tVar 6) tNil)) rfl nd rfl rfl (sw_true rfl rfl rfl (by decide +kernel)) (pi_list (pe_op op_cat (pe_slice sl_list (pv 3) (po_some pe_int) (po_some pe_int)) (pe_slice sl_list (pv 3) (po_some (pe_op op_add pe_int (pe_callB call_len_seq (by rfl) z_len boot_len (pa_cons (pv 0) pa_nil)))) po_none))) (blkOk_by (own := [("word", 6)]) (N := N_l_row_of) (sc := defScope s_l_row_of) (by decide +kernel))
        (fun _ _ _ _ _ => pg_name (i := 6) nd rfl (Or.inl rfl)) (fun _ _ _ _ _ => pts_nil) (fun _ _ _ _ _ => pe_call c_whole_of.G (hr.mono (by decide)) rfl c_whole_of.g c_whole_of.k c_whole_of.b .nil pass0 (pa_cons (pv 6) pa_nil)))
      (pss_cons (ps_if (PW.pt (pw_or (pt_cmpR op_in_seq pe_non (pv 12) (by rfl)) (pw_or1 (pt_cmpR (op_neD hr.units) (pe_lc (own := [("key", 13)]) (g := gName 13) (tt := tNot (tB (tCall spIsKeyP [] E0 (tCons (tVar 13) tNil)))) (te := tVar 13) rfl nd (pi_tup (pe_op op_catA (pv 11) (pe_tup (pa_cons (pe_ix ix_list (pv 3) pe_int (fun _ _ => rfl)) pa_nil)))) (blkOk_by (own := [("key", 13)]) (N := N_l_row_of) (sc := defScope s_l_row_of) (by decide +kernel))
        (fun _ _ _ _ _ => pg_name (i := 13) nd rfl (Or.inl rfl)) (fun _ _ _ _ _ => pts_one (pt_not (pt_val (pe_call c_is_key.G (hr.mono (by decide)) rfl c_is_key.g c_is_key.k c_is_key.b .nil pass0 (pa_cons (pv 13) pa_nil))))) (fun _ _ _ _ _ => pv 13)) (pe_lst pa_nil) (nomark _)))))
        (pss_one (ps_ret pe_non))
        pss_nil)
      (pss_one (ps_ret (pe_tup (pa_cons pe_str (pa_cons (pe_ix ix_list (pv 3) pe_int (fun _ _ => rfl)) (pa_cons (pe_ix ix_list (pv 12) pe_int (fun _ _ => rfl)) (pa_cons (pv 11) (pa_cons (pe_callTy call_tuple_of (by rfl) z_tuple (by decide +kernel) (pa_cons (pe_slice sl_list (pv 12) (po_some pe_int) po_none) pa_nil)) pa_nil))))))))))))))), ?_⟩
    refine ⟨_, rfl, ⟨_, rfl⟩, _, _, rfl, rfl, by decide +kernel, le_big (by omega), fun pw npw => ?_⟩
    have hne := split_ne (x := t) blank_ok.1 blank_ok.2
    have hmany := split_many (x := t) (y := " ") (by decide +kernel)
    have hq : ∀ z ∈ Txt.split t " ", Tq 4000 z := fun z hz => ⟨by have := part_len (by decide +kernel) hz; omega, part_ok ht hz⟩
    generalize e1 : upd H pw _ = H1
    have N1 := newO npw e1
    generalize Txt.split t " " = ws at hne hmany hq N1 k ⊢
    refine set_st (σ' := [some (.ref lo), some (.ref mo), some (.str t), some (.ref pw), none, none, none, none, none, none, none, none, none, none]) rfl ?_
    obtain ⟨w0, rest0, rfl⟩ := List.exists_cons_of_ne_nil hne
    have hl : SqL K H1 pw (.str w0 :: rest0.map V.str) := SqL.of N1.f
    rw [List.length_cons] at hmany
    have no : ∀ {H2 : Hp}, Same H H2 → (∀ r : Rw, r.good ds ms → w0 :: rest0 ≠ rwW r) → Q .non H2 := fun {H2} s2 hb => k .non H2 s2 (by rw [readR_none hb]; rfl)
    -- what is behind a row that is none of forget and kind
    refine ⟨_, rfl, pw, _, _, _, rfl, rfl, hl, atI_nat (j := 0) rfl, rfl, _, rfl, ?_⟩
    by_cases c0 : w0 = "forget" ∧ rest0.length = 1
    · obtain ⟨rfl, c2⟩ := c0
      obtain ⟨w1, rfl⟩ : ∃ w1, rest0 = [w1] := List.length_eq_one_iff.mp c2
      refine iteT0 (decide_eq_true rfl) ?_
      refine ⟨_, rfl, pw, _, rfl, .inl hl, rfl, _, rfl, iteT0 (decide_eq_true rfl) ?_⟩
      refine ⟨_, rfl, pw, _, _, _, rfl, rfl, hl, atI_nat (j := 1) rfl, w1, rfl, hq w1 (by simp), fun H2 s2 => ⟨_, rfl, ?_⟩⟩
      cases c5 : keyB w1 with
      | false =>
        refine iteF (no (N1.s.trans s2) fun r hr e => ?_)
        cases r with
        | kind d key day vals =>
          have e : [("forget" : Str), w1] = ("kind" : Str) :: d :: key :: numT day :: vals.map valT := e
          simp at e
        | fact name day keys nums =>
          have e : [("forget" : Str), w1] = ("fact" : Str) :: ([name, numT day] ++ keys ++ nums.map numT) := e
          injection e with e _
          exact w_fg e.symm
        | forget name =>
          have e : [("forget" : Str), w1] = [("forget" : Str), name] := e
          simp only [List.cons.injEq, true_and, and_true] at e
          have hr : Ky name := hr
          rw [e, keyB_iff.mpr hr] at c5
          cases c5
      | true =>
        refine iteT ⟨_, rfl, pw, _, _, _, rfl, rfl, s2.seq hl, atI_nat (j := 1) rfl, by show 2 ≤ sizeLine; decide, fun p np => ?_⟩
        generalize q3 : upd H2 p _ = H3
        have N3 := newO np q3
        have er : readR ds ms [("forget" : Str), w1] = some (.forget w1) := readR_iff.mpr ⟨keyB_iff.mp c5, rfl⟩
        refine k _ H3 ((N1.s.trans s2).trans N3.s) ?_
        rw [er]
        exact ⟨p, rfl, SqT.of N3.f⟩
    have st2 : ∀ {H2 : Hp}, Same H1 H2 → SqL K H2 pw (.str w0 :: rest0.map V.str) := fun s2 => s2.seq hl
    by_cases cf : w0 = "forget"
    · -- forget, with more or less behind it
      have cl : rest0.length ≠ 1 := fun z => c0 ⟨cf, z⟩
      refine iteT0 (decide_eq_true (congrArg V.str cf)) ?_
      refine ⟨_, rfl, pw, _, rfl, .inl hl, rfl, _, rfl, iteF0 (fun z => cl ?_) ?_⟩
      · have z := V.int.inj (of_decide_eq_true z)
        rw [List.length_cons, List.length_map] at z
        omega
      refine ⟨_, rfl, pw, _, _, _, rfl, rfl, hl, atI_nat (j := 0) rfl, rfl, _, rfl, iteF0 (fun z => ?_) ?_⟩
      · have z := of_decide_eq_true z
        injection z with z
        rw [cf] at z
        exact w_kg z.symm
      refine ⟨_, rfl, pw, _, _, _, rfl, rfl, hl, atI_nat (j := 0) rfl, rfl, _, rfl, iteNT (fun z => ?_) (no N1.s fun r hr e => ?_)⟩
      · injection z with z
        rw [cf] at z
        exact w_fg z.symm
      · rw [cf] at e
        cases r with
        | kind d key day vals =>
          have e : ("forget" : Str) :: rest0 = ("kind" : Str) :: d :: key :: numT day :: vals.map valT := e
          injection e with e _
          exact w_kg e.symm
        | fact name day keys nums =>
          have e : ("forget" : Str) :: rest0 = ("fact" : Str) :: ([name, numT day] ++ keys ++ nums.map numT) := e
          injection e with e _
          exact w_fg e.symm
        | forget name =>
          have e : ("forget" : Str) :: rest0 = [("forget" : Str), name] := e
          injection e with _ e
          rw [e] at cl
          exact cl rfl
    refine iteF0 (fun z => cf (by have z := of_decide_eq_true z; injection z)) ?_
    by_cases ck : w0 = "kind"
    · subst ck
      have kno : ∀ {H2 : Hp}, Same H1 H2 → (∀ r : Rw, r.good ds ms → ("kind" : Str) :: rest0 ≠ rwW r) → ∃ v, ([some (V.ref lo), some (V.ref mo), some (V.str t), some (V.ref pw), none, none, none, none, none, none, none, none, none, none] : L2.St)[3]? = some (some v) ∧ rIxL K v (.int 0) H2 fun x H3 => (flatV x = true ∧ True) ∧ True := fun s2 _ => ⟨_, rfl, pw, _, _, _, rfl, rfl, s2.seq hl, atI_nat (j := 0) rfl, ⟨rfl, trivial⟩, trivial⟩
      clear kno
      refine ⟨_, rfl, pw, _, _, _, rfl, rfl, hl, atI_nat (j := 0) rfl, rfl, _, rfl, iteT0 (decide_eq_true rfl) ?_⟩
      refine ⟨_, rfl, pw, _, rfl, .inl hl, _, _, rfl, rfl, _, rfl, ?_⟩
      by_cases cl : 3 ≤ rest0.length
      case neg =>
        refine iteF0 (fun z => cl ?_) ?_
        · have z := of_decide_eq_true z
          have z : (3 : Int) < (((rest0.map V.str).length + 1 : Nat) : Int) := z
          rw [List.length_map] at z
          omega
        refine ⟨_, rfl, pw, _, _, _, rfl, rfl, hl, atI_nat (j := 0) rfl, rfl, _, rfl, iteNT (fun z => w_kf (by injection z)) (no N1.s fun r hr e => ?_)⟩
        obtain ⟨d, key, day, vals, rfl⟩ := kind_of hr rfl e
        have e : ("kind" : Str) :: rest0 = ("kind" : Str) :: d :: key :: numT day :: vals.map valT := e
        injection e with _ e
        rw [e] at cl
        exact cl (by simp)
      obtain ⟨w1, w2, w3, rest, rfl⟩ : ∃ (w1 w2 w3 : Str) (rest : List Str), rest0 = w1 :: w2 :: w3 :: rest := by
        rcases rest0 with _ | ⟨w1, _ | ⟨w2, _ | ⟨w3, rest⟩⟩⟩
        · exact absurd cl (by decide)
        · exact absurd cl (by simp)
        · exact absurd cl (by simp)
        · exact ⟨w1, w2, w3, rest, rfl⟩
      refine iteT0 (decide_eq_true (by show (3 : Int) < (((rest.map V.str).length + 4 : Nat) : Int); omega)) ?_
      have hl : SqL K H1 pw (.str "kind" :: .str w1 :: .str w2 :: .str w3 :: rest.map V.str) := hl
      have hlo1 := N1.s.seq hlo
      refine ⟨_, rfl, pw, _, _, _, rfl, rfl, hl, atI_nat (j := 1) rfl, _, rfl, lo, rfl, ⟨_, hlo1⟩, fun D hD => lc_build (walk_list (K := K) (a := lo)) hD (fun i ys R => Same H1 R ∧ ys = (ds.take i).map fun d => V.str d.1) ⟨Same.refl _, rfl⟩ (fun _ _ _ _ z => (z.1.trans cd_sub).seq hlo1) ?_ ?_⟩
      · rintro i ys y H2 H2' hi e2 ly ⟨s2, rfl⟩ ⟨rfl, hy⟩
        obtain ⟨d, hd, pp, qq, rfl, a1, a2⟩ := paired_at hp hy
        refine ⟨pp, _, rfl, Same.seqT (N1.s.trans (s2.trans cd_sub)) a1, rfl, _, _, rfl, _, _, rfl, rfl, rfl, yes ?_⟩
        exact ⟨_, rfl, LcNx.add e2 ly (by omega) ⟨s2, take_snocF hd⟩⟩
      · rintro ys H2 e2 ly ⟨s2, rfl⟩
        rw [lxs, List.take_length] at e2
        have s12 : Same H1 H2 := s2.trans cd_sub
        have hl2 := s12.seq hl
        have em : (ds.map fun d => V.str d.1) = (ds.map (·.1)).map V.str := by rw [List.map_map]; rfl
        rw [em] at e2
        refine ⟨D, _, rfl, .inl (SqL.of e2), rfl, flat_strsA _, _, rfl, ?_⟩
        rw [show (if false = true then !inV (V.str w1) ((ds.map (·.1)).map V.str) else inV (V.str w1) ((ds.map (·.1)).map V.str)) = inV (V.str w1) ((ds.map (·.1)).map V.str) from rfl, inV_strsA]
        by_cases cm : w1 ∈ ds.map (·.1)
        case neg =>
          rw [decide_eq_false cm]
          refine iteF ?_
          refine ⟨_, rfl, pw, _, _, _, rfl, rfl, hl2, atI_nat (j := 0) rfl, rfl, _, rfl, iteNT (fun z => w_kf (by injection z)) (no (N1.s.trans s12) fun r hr e => ?_)⟩
          obtain ⟨d, key, day, vals, rfl⟩ := kind_of hr rfl e
          have e : ("kind" : Str) :: w1 :: w2 :: w3 :: rest = ("kind" : Str) :: d :: key :: numT day :: vals.map valT := e
          simp only [List.cons.injEq, true_and] at e
          obtain ⟨⟨e', he', hd', _⟩, _⟩ := hr
          exact cm (by rw [e.1, hd']; exact List.mem_map_of_mem he')
        rw [decide_eq_true cm]
        refine iteT ?_
        obtain ⟨e0, he0, hw1⟩ := List.mem_map.mp cm
        have hfind := find_uniq he0 ok.du
        rw [hw1] at hfind
        have hr1 : rest.length + 4 ≤ 4001 := by
          have : rest.length + 3 + 1 ≤ t.length + 1 := hmany
          omega
        -- values
        refine ⟨_, rfl, _, rfl, pw, _, rfl, hl2, fun p3 np3 => ?_⟩
        have ecut : cutV (.str "kind" :: .str w1 :: .str w2 :: .str w3 :: rest.map V.str) (some 4) none = rest.map V.str := cutFrom _ 4
        rw [ecut]
        generalize e3 : upd H2 p3 _ = H3
        have N3 := newO np3 e3
        refine ⟨p3, rfl, ⟨_, SqL.of N3.f⟩, fun D2 hD2 => lc_build (walk_list (K := K) (a := p3)) hD2 (fun i ys R => Same H3 R ∧ ys = (rest.take i).map fun z => oV (readV z)) ⟨Same.refl _, rfl⟩ (fun _ _ _ _ z => SqL.of ((z.1.trans cd_sub) _ _ N3.f)) ?_ ?_⟩
        · rintro i ys y H4 H4' hi e4 ly ⟨s4, rfl⟩ ⟨rfl, hy⟩
          rw [List.length_map] at hi
          obtain ⟨z, rfl, hzi⟩ := map_atF hy
          refine ⟨rfl, yes ⟨_, rfl, z, rfl, hq z (by simp [List.mem_of_getElem? hzi]), fun H5 s5 => ?_⟩⟩
          exact LcNx.add (s5 _ _ e4) ly (by omega) ⟨s4.trans (cd_same s5), take_snocF hzi⟩
        · rintro ys H4 e4 ly ⟨s4, rfl⟩
          rw [take_all] at e4
          have em2 : (rest.map fun z => oV (readV z)) = (rest.map readV).map oV := by rw [List.map_map]; rfl
          rw [em2] at e4
          have s24 : Same H2 H4 := N3.s.trans (s4.trans cd_sub)
          refine ⟨D2, _, rfl, .inl ⟨SqL.of e4, fun vt nvt => ?_⟩⟩
          generalize e5 : upd H4 vt _ = H5
          have N5 := newO nvt e5
          refine set_st (σ' := [some (.ref lo), some (.ref mo), some (.str t), some (.ref pw), none, none, none, some (.ref vt), none, none, none, none, none, none]) rfl ?_
          have s15 := (s12.trans s24).trans N5.s
          have hl5 := s15.seq hl
          -- how many
          have hlo5 := (N1.s.trans s15).seq hlo
          refine ⟨_, rfl, lo, rfl, ⟨_, hlo5⟩, fun D3 hD3 => lc_build (walk_list (K := K) (a := lo)) hD3 (fun i ys R => Same H5 R ∧ ys = ((ds.take i).filter fun d => decide (d.1 = w1)).map fun d => V.int (d.2.length : Int)) ⟨Same.refl _, rfl⟩ (fun _ _ _ _ z => (z.1.trans cd_sub).seq hlo5) ?_ ?_⟩
          · rintro i ys y H6 H6' hi e6 ly ⟨s6, rfl⟩ ⟨rfl, hy⟩
            obtain ⟨d, hd, pp, qq, rfl, a1, zs, a3, a4⟩ := paired_at hp hy
            have s06 := (N1.s.trans s15).trans (s6.trans cd_sub)
            refine ⟨pp, _, rfl, Same.seqT s06 a1, rfl, _, _, rfl, _, _, rfl, rfl, rfl, ?_⟩
            refine ⟨_, rfl, _, rfl, pw, _, _, _, rfl, rfl, (s6.trans cd_sub).seq hl5, atI_nat (j := 1) rfl, rfl, _, rfl, ?_⟩
            by_cases cw : d.1 = w1
            · rw [decide_eq_true (congrArg V.str cw)]
              refine iteT ⟨_, rfl, qq, _, rfl, .inr (Same.seqT s06 a3), LcNx.add e6 ly (by omega) ⟨s6, ?_⟩⟩
              rw [take_fltA hd, if_pos (decide_eq_true cw), List.map_append, a4.length]
              rfl
            · rw [decide_eq_false (fun z => cw (by injection z))]
              refine iteF (LcNx.skip e6 ly ⟨s6, ?_⟩)
              rw [take_fltA hd, if_neg (by rw [decide_eq_false cw]; decide), List.append_nil]
          · rintro ys H6 e6 ly ⟨s6, rfl⟩
            rw [lxs, List.take_length] at e6
            have s56 : Same H5 H6 := s6.trans cd_sub
            have hhead : (ds.filter fun d => decide (d.1 = w1)).head? = some e0 := by rw [List.head?_filter]; exact hfind
            have hat : atI ((ds.filter fun d => decide (d.1 = w1)).map fun d => V.int (d.2.length : Int)) 0 = some (.int (e0.2.length : Int)) := by
              refine atI_nat (j := 0) ?_
              cases hf : ds.filter fun d => decide (d.1 = w1) with
              | nil => rw [hf] at hhead; cases hhead
              | cons a b =>
                rw [hf] at hhead
                rw [Option.some.inj hhead]
                rfl
            refine ⟨D3, _, _, _, rfl, rfl, SqL.of e6, hat, ?_⟩
            refine set_st (σ' := [some (.ref lo), some (.ref mo), some (.str t), some (.ref pw), none, none, none, some (.ref vt), some (.int (e0.2.length : Int)), none, none, none, none, none]) rfl ?_
            refine ⟨_, rfl, pw, _, _, _, rfl, rfl, s56.seq hl5, atI_nat (j := 3) rfl, w3, rfl, hq w3 (by simp), fun H7 s7 => ?_⟩
            refine set_st (σ' := [some (.ref lo), some (.ref mo), some (.str t), some (.ref pw), none, none, none, some (.ref vt), some (.int (e0.2.length : Int)), some (oI (readN w3)), none, none, none, none]) rfl ?_
            have s57 := s56.trans s7
            have s07 := (N1.s.trans s15).trans s57
            have vt7 : SqT K H7 vt ((rest.map readV).map oV) := SqT.of (s57 _ _ N5.f)
            have hr := kind_read (ms := ms) (w2 := w2) (w3 := w3) (rest := rest) hfind ok.du
            rw [hr] at k
            -- is it good
            have bad : ∀ {H8 : Hp}, Same H H8 → ¬ (rest.length = e0.2.length ∧ (rest.map readV).any Option.isNone = false ∧ keyB w2 = true) → Q .non H8 := fun s8 hb => k .non _ s8 (by rw [if_neg hb]; rfl)
            refine ⟨_, rfl, vt, _, rfl, .inr vt7, _, rfl, rfl, _, rfl, ?_⟩
            have lvt : (((rest.map readV).map oV).length : Int) = (rest.length : Int) := by rw [List.length_map, List.length_map]
            rw [lvt]
            by_cases g1 : rest.length = e0.2.length
            case neg =>
              refine iteF0 (fun z => g1 (by have z := V.int.inj (of_decide_eq_true z); omega)) ?_
              refine set_st (σ' := [some (.ref lo), some (.ref mo), some (.str t), some (.ref pw), none, none, none, some (.ref vt), some (.int (e0.2.length : Int)), some (oI (readN w3)), some (.bl false), none, none, none]) rfl ?_
              exact ⟨_, rfl, _, rfl, iteF (bad s07 fun z => g1 z.1)⟩
            refine iteT0 (decide_eq_true (by rw [g1])) ?_
            refine ⟨_, rfl, vt, _, rfl, .inr vt7, rfl, ?_, ?_⟩
            · rw [List.all_eq_true]
              intro v hv
              obtain ⟨o, _, rfl⟩ := List.mem_map.mp hv
              exact oV_flat o
            rw [show (if true = true then !inV V.non ((rest.map readV).map oV) else inV V.non ((rest.map readV).map oV)) = !inV V.non ((rest.map readV).map oV) from rfl, oV_in]
            refine ⟨_, rfl, ?_⟩
            cases g2 : (rest.map readV).any Option.isNone with
            | true =>
              refine iteF0 (by decide) ?_
              refine set_st (σ' := [some (.ref lo), some (.ref mo), some (.str t), some (.ref pw), none, none, none, some (.ref vt), some (.int (e0.2.length : Int)), some (oI (readN w3)), some (.bl false), none, none, none]) rfl ?_
              exact ⟨_, rfl, _, rfl, iteF (bad s07 fun z => by rw [g2] at z; exact Bool.noConfusion z.2.1)⟩
            | false =>
            refine iteT0 (by decide) ?_
            cases g3 : readN w3 with
            | none =>
              rw [g3] at k
              refine ⟨_, rfl, _, rfl, iteF0 (by decide) ?_⟩
              refine set_st (σ' := [some (.ref lo), some (.ref mo), some (.str t), some (.ref pw), none, none, none, some (.ref vt), some (.int (e0.2.length : Int)), some .non, some (.bl false), none, none, none]) rfl ?_
              refine ⟨_, rfl, _, rfl, iteF (k .non _ s07 ?_)⟩
              split
              · rfl
              · rfl
            | some day =>
            rw [g3] at k
            refine ⟨_, rfl, _, rfl, iteT0 (by show (!decide (V.int day = V.non)) = true; simp) ?_⟩
            refine ⟨_, rfl, pw, _, _, _, rfl, rfl, s57.seq hl5, atI_nat (j := 2) rfl, w2, rfl, hq w2 (by simp), fun H8 s8 => ?_⟩
            refine set_st (σ' := [some (.ref lo), some (.ref mo), some (.str t), some (.ref pw), none, none, none, some (.ref vt), some (.int (e0.2.length : Int)), some (.int day), some (.bl (keyB w2)), none, none, none]) rfl ?_
            have s08 := s07.trans s8
            refine ⟨_, rfl, _, rfl, ?_⟩
            cases g4 : keyB w2 with
            | false => exact iteF (bad s08 fun z => by rw [g4] at z; exact Bool.noConfusion z.2.2)
            | true =>
              have hl8 := (s57.trans s8).seq hl5
              refine iteT ⟨_, rfl, pw, _, _, _, rfl, rfl, hl8, atI_nat (j := 1) rfl, _, rfl, pw, _, _, _, rfl, rfl, hl8, atI_nat (j := 2) rfl, _, rfl, _, rfl, by show 5 ≤ sizeLine; decide, fun p np => ?_⟩
              generalize e9 : upd H8 p _ = H9
              have N9 := newO np e9
              refine k _ H9 (s08.trans N9.s) ?_
              rw [if_pos ⟨g1, g2, g4⟩]
              refine ⟨p, rfl, vt, SqT.of N9.f, ?_⟩
              obtain ⟨vals, hvals⟩ := some_all g2
              have hm : (rest.map fun z => (readV z).getD (.i 0)) = vals := by
                have : (rest.map fun z => (readV z).getD (.i 0)) = (rest.map readV).map fun o => o.getD (.i 0) := by rw [List.map_map]; rfl
                rw [this, hvals, List.map_map]
                exact List.map_id vals
              rw [hm]
              have vt9 := Same.seqT (s8.trans N9.s) vt7
              rw [hvals, List.map_map] at vt9
              exact vt9
    refine ⟨_, rfl, pw, _, _, _, rfl, rfl, hl, atI_nat (j := 0) rfl, rfl, _, rfl, iteF0 (fun z => ck (by have z := of_decide_eq_true z; injection z)) ?_⟩
    have knot : ∀ {r : Rw}, r.good ds ms → w0 :: rest0 = rwW r → ∃ name day keys nums, r = .fact name day keys nums ∧ w0 = "fact" := fun {r} hr e => by
      cases r with
      | kind d key day vals =>
        have e : w0 :: rest0 = ("kind" : Str) :: d :: key :: numT day :: vals.map valT := e
        injection e with e _
        exact absurd e ck
      | fact name day keys nums =>
        have e : w0 :: rest0 = ("fact" : Str) :: ([name, numT day] ++ keys ++ nums.map numT) := e
        injection e with e _
        exact ⟨name, day, keys, nums, rfl, e⟩
      | forget name =>
        have e : w0 :: rest0 = [("forget" : Str), name] := e
        injection e with e _
        exact absurd e cf
    refine ⟨_, rfl, pw, _, _, _, rfl, rfl, hl, atI_nat (j := 0) rfl, rfl, _, rfl, ?_⟩
    by_cases ca : w0 = "fact"
    case neg =>
      refine iteNT (fun z => ca (by injection z)) (no N1.s fun r hr e => ?_)
      obtain ⟨_, _, _, _, _, q⟩ := knot hr e
      exact ca q
    subst ca
    refine iteNS rfl ?_
    have hmo1 := N1.s.seq hmo
    have hlo1 := N1.s.seq hlo
    refine ⟨_, rfl, pw, _, rfl, .inl hl, _, rfl, lo, _, rfl, .inl hlo1, _, _, rfl, rfl, _, rfl, mo, _, rfl, .inl hmo1, _, _, rfl, rfl, rfl, _, rfl, ?_⟩
    by_cases cn : rest0.length + 1 = 3 + ds.length + ms.length
    case neg =>
      refine iteNT ?_ (no N1.s fun r hr e => ?_)
      · show ¬ V.int (((rest0.map V.str).length + 1 : Nat) : Int) = V.int (3 + (xs.length : Int) + (((ms.map V.str).length : Nat) : Int))
        rw [List.length_map, List.length_map, lxs]
        intro z
        have := V.int.inj z
        omega
      · obtain ⟨name, day, keys, nums, rfl, _⟩ := knot hr e
        obtain ⟨_, _, ⟨g1, _⟩, g2, _⟩ := hr
        have e : ("fact" : Str) :: rest0 = ("fact" : Str) :: ([name, numT day] ++ keys ++ nums.map numT) := e
        injection e with _ e
        apply cn
        rw [e, List.length_append, List.length_append, List.length_map, g1, g2]
        show 2 + _ + _ + 1 = _
        omega
    refine iteNS ?_ ?_
    · show V.int (((rest0.map V.str).length + 1 : Nat) : Int) = V.int (3 + (xs.length : Int) + (((ms.map V.str).length : Nat) : Int))
      rw [List.length_map, List.length_map, lxs]
      congr 1
      omega
    obtain ⟨w1, w2, rest, rfl⟩ : ∃ (w1 w2 : Str) (rest : List Str), rest0 = w1 :: w2 :: rest := by
      rcases rest0 with _ | ⟨w1, _ | ⟨w2, rest⟩⟩
      · exact absurd cn (by simp; omega)
      · exact absurd cn (by simp; omega)
      · exact ⟨w1, w2, rest, rfl⟩
    have cr : rest.length = ds.length + ms.length := by
      have : rest.length + 2 + 1 = 3 + ds.length + ms.length := cn
      omega
    have hl : SqL K H1 pw (.str "fact" :: .str w1 :: .str w2 :: rest.map V.str) := hl
    have hq1 := hq w1 (by simp)
    have hq2 := hq w2 (by simp)
    have hqr : ∀ z ∈ rest, Tq 4000 z := fun z hz => hq z (by simp [hz])
    have sq : ∀ {name : Str} {day : Int} {keys : List Str} {nums : List Int}, (Rw.fact name day keys nums).good ds ms → ("fact" : Str) :: w1 :: w2 :: rest = rwW (.fact name day keys nums) → name = w1 ∧ numT day = w2 ∧ keys = rest.take ds.length ∧ nums.map numT = rest.drop ds.length := fun {name day keys nums} hg q => by
      have q : ("fact" : Str) :: w1 :: w2 :: rest = [("fact" : Str), name, numT day] ++ keys ++ nums.map numT := q
      simp only [List.cons_append, List.nil_append, List.cons.injEq, true_and] at q
      obtain ⟨q1, q2, q3⟩ := q
      refine ⟨q1.symm, q2.symm, ?_, ?_⟩
      · rw [q3, ← hg.2.2.1.1, List.take_left']
        rfl
      · rw [q3, ← hg.2.2.1.1, List.drop_left']
        rfl
    have ek : (3 : Int) + (xs.length : Int) = ((3 + ds.length : Nat) : Int) := by rw [lxs]; omega
    -- keys
    refine ⟨_, rfl, _, rfl, _, rfl, lo, _, rfl, .inl hlo1, _, _, rfl, rfl, _, rfl, pw, _, rfl, hl, fun p2 np2 => ?_⟩
    rw [ek]
    have ecut : cutV (.str "fact" :: .str w1 :: .str w2 :: rest.map V.str) (some 3) (some ((3 + ds.length : Nat) : Int)) = (rest.take ds.length).map V.str := by
      have e := cutMid (.str "fact" :: .str w1 :: .str w2 :: rest.map V.str) 3 (3 + ds.length)
      rw [show (3 + ds.length - 3) = ds.length by omega] at e
      rw [List.map_take]
      exact e
    rw [ecut]
    generalize e2 : upd H1 p2 _ = H2
    have N2 := newO np2 e2
    refine ⟨p2, _, rfl, .inl ⟨SqL.of N2.f, fun kt nkt => ?_⟩⟩
    generalize e3 : upd H2 kt _ = H3
    have N3 := newO nkt e3
    refine set_st (σ' := [some (.ref lo), some (.ref mo), some (.str t), some (.ref pw), none, none, none, none, none, none, none, some (.ref kt), none, none]) rfl ?_
    have s13 := N2.s.trans N3.s
    have hl3 := s13.seq hl
    -- numbers
    refine ⟨_, rfl, _, rfl, _, rfl, pw, _, rfl, hl3, fun p4 np4 => ?_⟩
    have ecut4 : cutV (.str "fact" :: .str w1 :: .str w2 :: rest.map V.str) (some 2) (some 3) = [.str w2] := cutMid _ 2 3
    rw [ecut4]
    generalize e4 : upd H3 p4 _ = H4
    have N4 := newO np4 e4
    refine ⟨_, rfl, _, rfl, lo, _, rfl, .inl ((s13.trans N4.s).seq hlo1), _, _, rfl, rfl, _, rfl, pw, _, rfl, N4.s.seq hl3, fun p5 np5 => ?_⟩
    rw [ek]
    have ecut5 : cutV (.str "fact" :: .str w1 :: .str w2 :: rest.map V.str) (some ((3 + ds.length : Nat) : Int)) none = (rest.drop ds.length).map V.str := by
      have e := cutFrom (.str "fact" :: .str w1 :: .str w2 :: rest.map V.str) (3 + ds.length)
      rw [e, Nat.add_comm, List.map_drop]
      rfl
    rw [ecut5]
    generalize e5 : upd H4 p5 _ = H5
    have N5 := newO np5 e5
    have ldr : (rest.drop ds.length).length = ms.length := by rw [List.length_drop]; omega
    refine ⟨p4, p5, _, _, rfl, rfl, N5.s _ _ N4.f, N5.f, le_line (by rw [List.length_map]; show 1 + _ ≤ 4000; omega), fun p6 np6 => ?_⟩
    have e6' : [V.str w2] ++ (rest.drop ds.length).map V.str = (w2 :: rest.drop ds.length).map V.str := rfl
    rw [e6']
    generalize e6 : upd H5 p6 _ = H6
    have N6 := newO np6 e6
    have s36 := (N4.s.trans N5.s).trans N6.s
    refine ⟨p6, rfl, ⟨_, SqL.of N6.f⟩, fun D hD => lc_build (walk_list (K := K) (a := p6)) hD (fun i ys R => Same H6 R ∧ ys = ((w2 :: rest.drop ds.length).take i).map fun z => oI (readN z)) ⟨Same.refl _, rfl⟩ (fun _ _ _ _ z => SqL.of ((z.1.trans cd_sub) _ _ N6.f)) ?_ ?_⟩
    · rintro i ys y H7 H7' hi e7 ly ⟨s7, rfl⟩ ⟨rfl, hy⟩
      rw [List.length_map, List.length_cons] at hi
      obtain ⟨z, rfl, hzi⟩ := map_atF hy
      have hz4 : Tq 4000 z := by
        rcases List.mem_cons.mp (List.mem_of_getElem? hzi) with rfl | hz
        · exact hq2
        · exact hqr z (List.mem_of_mem_drop hz)
      refine ⟨rfl, yes ⟨_, rfl, z, rfl, hz4, fun H8 s8 => ?_⟩⟩
      exact LcNx.add (s8 _ _ e7) ly (by omega) ⟨s7.trans (cd_same s8), take_snocF hzi⟩
    · rintro ys H7 e7 ly ⟨s7, rfl⟩
      rw [take_all] at e7
      have em : ((w2 :: rest.drop ds.length).map fun z => oI (readN z)) = ((w2 :: rest.drop ds.length).map readN).map oI := by rw [List.map_map]; rfl
      rw [em] at e7
      have s37 : Same H3 H7 := s36.trans (s7.trans cd_sub)
      have s17 := s13.trans s37
      have s07 := N1.s.trans s17
      have hl7 := s17.seq hl
      refine set_st (σ' := [some (.ref lo), some (.ref mo), some (.str t), some (.ref pw), none, none, none, none, none, none, none, some (.ref kt), some (.ref D), none]) rfl ?_
      refine ⟨_, rfl, D, _, rfl, .inl (SqL.of e7), rfl, ?_, _, rfl, ?_⟩
      · rw [List.all_eq_true]
        intro v hv
        obtain ⟨o, _, rfl⟩ := List.mem_map.mp hv
        exact oI_flat o
      rw [show (if false = true then !inV V.non (((w2 :: rest.drop ds.length).map readN).map oI) else inV V.non (((w2 :: rest.drop ds.length).map readN).map oI)) = inV V.non (((w2 :: rest.drop ds.length).map readN).map oI) from rfl, oI_in]
      cases cv : ((w2 :: rest.drop ds.length).map readN).any Option.isNone with
      | true =>
        refine iteT (no s07 fun r hr e => ?_)
        obtain ⟨name, day, keys, nums, rfl, _⟩ := knot hr e
        obtain ⟨g1, g2, g3, g4⟩ := sq hr e
        obtain ⟨wd, hwd, hno⟩ := none_of cv
        rcases List.mem_cons.mp hwd with rfl | hwd
        · rw [readN_iff.mpr ⟨hr.2.1, g2.symm⟩] at hno
          cases hno
        · rw [← g4] at hwd
          obtain ⟨v, hv, rfl⟩ := List.mem_map.mp hwd
          rw [readN_iff.mpr ⟨hr.2.2.2.2 v hv, rfl⟩] at hno
          cases hno
      | false =>
      refine iteF ?_
      obtain ⟨nums0, hnums0⟩ := some_all cv
      obtain ⟨day, nums, rfl⟩ : ∃ day nums, nums0 = day :: nums := by
        cases nums0 with
        | nil => simp at hnums0
        | cons a b => exact ⟨a, b, rfl⟩
      rw [List.map_cons, List.map_cons] at hnums0
      injection hnums0 with hday hnums
      obtain ⟨hd1, hd2⟩ := readN_iff.mp hday
      have hnl : (rest.drop ds.length).length = nums.length := by
        have := congrArg List.length hnums
        simpa using this
      have hi : ∀ i (h1 : i < (rest.drop ds.length).length) (h2 : i < nums.length), Wh nums[i] ∧ (rest.drop ds.length)[i] = numT nums[i] := fun i h1 h2 => by
        have e := congrArg (fun z : List (Option Int) => z[i]?) hnums
        simp only [List.getElem?_map, List.getElem?_eq_getElem h1, List.getElem?_eq_getElem h2, Option.map_some, Option.some.injEq] at e
        exact readN_iff.mp e
      have hnum : rest.drop ds.length = nums.map numT := List.ext_getElem (by rw [List.length_map]; exact hnl) fun i h1 h2 => by
        rw [List.getElem_map]
        exact (hi i h1 (by omega)).2
      have hwh : ∀ i ∈ nums, Wh i := fun v hv => by
        obtain ⟨i, h2, rfl⟩ := List.mem_iff_getElem.mp hv
        exact (hi i (by omega) h2).1
      have e7' : H7 D = some (.lst ((day :: nums).map V.int)) := by
        rw [e7, List.map_cons, hday, hnums, List.map_cons, List.map_map]
        rfl
      -- the keys
      have kt7 : SqT K H7 kt ((rest.take ds.length).map V.str) := SqT.of (s37 _ _ N3.f)
      refine ⟨_, rfl, _, rfl, pw, _, _, _, rfl, rfl, hl7, atI_nat (j := 1) rfl, by show 1 ≤ sizeLine; decide, fun p8 np8 => ?_⟩
      generalize e8 : upd H7 p8 _ = H8
      have N8 := newO np8 e8
      have ltk : (rest.take ds.length).length = ds.length := by rw [List.length_take]; omega
      have hkne : (rest.take ds.length).map V.str ≠ [] := fun z => by
        have := congrArg List.length z
        rw [List.length_map, ltk] at this
        have : ds.length = 0 := this
        omega
      refine ⟨kt, p8, _, _, rfl, rfl, Same.seqT N8.s kt7, SqT.of N8.f, le_line (by rw [List.length_map, ltk]; show _ + 1 ≤ 4000; omega), fun z => absurd z hkne, (fun _ z => by cases z), fun _ _ p9 np9 => ?_⟩
      have e9' : (rest.take ds.length).map V.str ++ [V.str w1] = (rest.take ds.length ++ [w1]).map V.str := by rw [List.map_append]; rfl
      rw [e9']
      generalize e9 : upd H8 p9 _ = H9
      have N9 := newO np9 e9
      refine ⟨p9, rfl, ⟨_, SqT.of N9.f⟩, fun D2 hD2 => lc_build (walk_tup (K := K) (a := p9)) hD2 (fun i ys R => Same H9 R ∧ ys = (((rest.take ds.length ++ [w1]).take i).filter fun z => !keyB z).map V.str) ⟨Same.refl _, rfl⟩ (fun _ _ _ _ z => SqT.of ((z.1.trans cd_sub) _ _ N9.f)) ?_ ?_⟩
      · rintro i ys y H10 H10' hi2 e10 ly ⟨s10, rfl⟩ ⟨rfl, hy⟩
        rw [List.length_map, List.length_append, ltk] at hi2
        have hi2 : i < ds.length + 1 := hi2
        obtain ⟨z, rfl, hzi⟩ := map_atF hy
        have hz4 : Tq 4000 z := by
          rcases List.mem_append.mp (List.mem_of_getElem? hzi) with hz | hz
          · exact hqr z (List.mem_of_mem_take hz)
          · rw [List.mem_singleton.mp hz]
            exact hq1
        refine ⟨rfl, _, rfl, z, rfl, hz4, fun H11 s11 => ⟨_, rfl, ?_⟩⟩
        cases ckz : keyB z with
        | true =>
          refine iteF0 (by decide) (LcNx.skip (s11 _ _ e10) ly ⟨s10.trans (cd_same s11), ?_⟩)
          rw [take_fltA hzi, if_neg (by rw [ckz]; decide), List.append_nil]
        | false =>
          refine iteT0 (by decide) ⟨_, rfl, LcNx.add (s11 _ _ e10) ly (by omega) ⟨s10.trans (cd_same s11), ?_⟩⟩
          rw [take_fltA hzi, if_pos (by rw [ckz]; decide), List.map_append]
          rfl
      · rintro ys H10 e10 ly ⟨s10, rfl⟩
        rw [take_all] at e10
        have s710 : Same H7 H10 := (N8.s.trans N9.s).trans (s10.trans cd_sub)
        refine ⟨by show 0 ≤ sizeLine; decide, fun b nb => ?_⟩
        have s11 := same_new (o := .lst []) nb
        have hshp : SeqAt.shaped (.list (((rest.take ds.length ++ [w1]).filter fun z => !keyB z).map PyData.str)) = true := by
          have hx : ∀ v ∈ (rest.take ds.length ++ [w1]).filter fun z => !keyB z, ∀ c ∈ TL.tl v, c < 128 := fun v hv => by
            rcases List.mem_append.mp (List.mem_filter.mp hv).1 with hz | hz
            · exact (hqr v (List.mem_of_mem_take hz)).ok
            · rw [List.mem_singleton.mp hz]
              exact hq1.ok
          obtain ⟨h1, h2⟩ := lay_plain _ hx
          exact shaped_of h1 h2
        refine ⟨_, .list [], .lst (SqL.of (s11 _ _ e10)) (strs_dpA _), .lst (SqL.of upd_same) .nil, hshp, sh_nil, _, rfl, ?_⟩
        rw [eqv_nil, List.isEmpty_map]
        generalize e12 : upd H10 b _ = H12 at s11 ⊢
        have s712 := s710.trans s11
        have s012 := s07.trans s712
        cases cke : ((rest.take ds.length ++ [w1]).filter fun z => !keyB z).isEmpty with
        | false =>
          refine iteT0 (by decide) (no s012 fun r hr e => ?_)
          obtain ⟨name, day, keys, nums, rfl, _⟩ := knot hr e
          obtain ⟨g1, g2, g3, g4⟩ := sq hr e
          have : ((rest.take ds.length ++ [w1]).filter fun z => !keyB z) = [] := by
            rw [List.filter_eq_nil_iff]
            intro z hz q
            rcases List.mem_append.mp hz with hz | hz
            · rw [← g3] at hz
              rw [keyB_iff.mpr (hr.2.2.1.2 z hz)] at q
              cases q
            · rw [List.mem_singleton.mp hz, ← g1, keyB_iff.mpr hr.1] at q
              cases q
          rw [this] at cke
          cases cke
        | true =>
          refine iteF0 (by decide) ?_
          have hkeys : ∀ z ∈ rest.take ds.length ++ [w1], Ky z := fun z hz => by
            have := List.filter_eq_nil_iff.mp (List.isEmpty_iff.mp cke) z hz
            exact keyB_iff.mp (by simpa using this)
          have e12' := s712 _ _ e7'
          refine ⟨_, rfl, pw, _, _, _, rfl, rfl, s712.seq hl7, atI_nat (j := 1) rfl, _, rfl, D, _, _, _, rfl, rfl, SqL.of e12', atI_nat (j := 0) rfl, _, rfl, _, rfl, _, rfl, D, _, rfl, SqL.of e12', fun p13 np13 => ?_⟩
          have ecut13 : cutV ((day :: nums).map V.int) (some 1) none = nums.map V.int := cutFrom _ 1
          rw [ecut13]
          generalize e13 : upd H12 p13 _ = H13
          have N13 := newO np13 e13
          refine ⟨p13, _, rfl, .inl ⟨SqL.of N13.f, fun nt nnt => ?_⟩⟩
          generalize e14 : upd H13 nt _ = H14
          have N14 := newO nnt e14
          refine ⟨by show 5 ≤ sizeLine; decide, fun p np => ?_⟩
          generalize e15 : upd H14 p _ = H15
          have N15 := newO np e15
          have er : readR ds ms (("fact" : Str) :: w1 :: w2 :: rest) = some (.fact w1 day (rest.take ds.length) nums) := readR_iff.mpr ⟨⟨hkeys w1 (by simp), hd1, ⟨ltk, fun z hz => hkeys z (List.mem_append.mpr (.inl hz))⟩, by omega, hwh⟩, by
            show _ = [("fact" : Str), w1, numT day] ++ rest.take ds.length ++ nums.map numT
            rw [← hd2, ← hnum, List.append_assoc, List.take_append_drop]
            rfl⟩
          have s1215 := (N13.s.trans N14.s).trans N15.s
          refine k _ H15 (s012.trans s1215) ?_
          rw [er]
          exact ⟨p, rfl, kt, nt, SqT.of N15.f, Same.seqT (s712.trans s1215) kt7, SqT.of (N15.s _ _ N14.f)⟩
end
end Kd

namespace Kd
open PySem PySem.Spec PyProof.Rows L2
theorem next_st {D : Ends} {σ σ' : L2.St} {H : Hp} (e : σ = σ') (h : D.nx σ' H) : tNext D σ H := by
  rw [e]
  exact h
theorem le_big2 {n : Nat} (h : n ≤ 10000000) : n ≤ sizeLine := Nat.le_trans h (by decide)
abbrev signs1 : Str := " ,;:'-.0123456789abdefiklmnorstuwy"
abbrev signs2 : Str := (" !\"#$&'()*+,-./0123456789:;<=>?@ABCDEFGHIJKLMNOPQRSTUVWXYZ[\\]^_`" : Str) ++ ("abcdefghijklmnopqrstuvwxyz{|}~" : Str)
section
variable {P : Program} {w : World} {K : PySem.W.Frag} {mg : Str → Option Value} {base : Heap} {f : Addr} {fd : FuncData}
/-! ### _law_sign -/
def spSign : Sp := fun vs H Q _ => ∃ (a g : Addr) (n : Nat), vs = [.ref a] ∧ Tray H a g n ∧ n ≤ 900000 ∧ ∀ (z : Str) H', Tq 1 z → Tray H' a g (n + 2) → Same (ct a g H) (ct a g H') → Q (.str z) H'
abbrev N_l_sign : List Str := ["tray", "some"]
theorem sc_l_sign : FnScope N_l_sign ["tray"] (defScope s_l_sign) := ⟨rfl, rfl, rfl, by decide +kernel, rfl, by decide +kernel, by decide +kernel⟩
/-! slots: 0 tray 1 some; cells:  -/
theorem ok_sign {fD : Addr} {fdD : FuncData} (F : FnP K "_law_sign" "_law_sign" s_l_sign f fd) (c_draw : Fun P w K mg base "_law_draw" 1 ["tray", "many"] spDraw fD fdD) (z_len : mg "len" = none) : FnOk P w K mg base CX0 2 f fd ["tray"] spSign := by
  refine F.ok sc_l_sign (fun vs H Q E h => ?_) (fun cdv A outer s H vs Q E hr h => ?_)
  · obtain ⟨a, g, n, rfl, _⟩ := h
    rfl
  · obtain ⟨a, g, n, rfl, hT, hn, k⟩ := h
    have nd := sc_l_sign.nd
    refine ⟨_, PSs.nox (pss_cons (ps_if (pt_cmpR op_eq (pe_call c_draw.G (hr.mono (by decide)) rfl c_draw.g c_draw.k c_draw.b .nil pass0 (pa_cons (pv 0) (pa_cons pe_int pa_nil))) pe_int (nomark _))
        (pss_cons (ps_set (i := 1) nd rfl (Or.inl rfl) pe_str)
        (pss_one (ps_ret (pe_ix ix_str (pv 1) (pe_call c_draw.G (hr.mono (by decide)) rfl c_draw.g c_draw.k c_draw.b .nil pass0 (pa_cons (pv 0) (pa_cons (pe_callB call_len_str (by rfl) z_len boot_len (pa_cons (pv 1) pa_nil)) pa_nil))) (fun _ _ => rfl)))))
        pss_nil)
      (pss_cons (ps_set (i := 1) nd rfl (Or.inl rfl) pe_str)
      (pss_cons (ps_set (i := 1) nd rfl (Or.inl rfl) (pe_op op_add_str (pv 1) pe_str))
      (pss_one (ps_ret (pe_ix ix_str (pv 1) (pe_call c_draw.G (hr.mono (by decide)) rfl c_draw.g c_draw.k c_draw.b .nil pass0 (pa_cons (pv 0) (pa_cons (pe_callB call_len_str (by rfl) z_len boot_len (pa_cons (pv 1) pa_nil)) pa_nil))) (fun _ _ => rfl))))))), ?_⟩
    have one : ∀ {c : Nat}, c < 128 → Tq 1 ⟨#[c]⟩ := fun {c} hc => ⟨by show 1 ≤ 1; decide, fun d hd => by
      have : d = c := by simpa using hd
      omega⟩
    refine ⟨_, rfl, a, g, n, _, rfl, hT, by omega, by decide, by decide, fun r H1 r0 r1 T1 s1 => ⟨rfl, _, rfl, ite2 (fun c => ?_) (fun c => ?_)⟩⟩
    · refine set_st (σ' := [some (.ref a), some (.str signs1)]) rfl ?_
      have l1 : signs1.cps.toList.length = 34 := by decide +kernel
      have l2 : signs1.length = 34 := by decide +kernel
      refine ⟨_, rfl, _, rfl, _, rfl, _, rfl, le_line (by rw [l2]; decide), a, g, n + 1, _, rfl, T1, by omega, by rw [l2]; decide, by rw [l2]; decide, fun q H2 q0 q1 T2 s2 => ?_⟩
      rw [l2] at q1
      obtain ⟨j, rfl⟩ : ∃ j : Nat, q = (j : Int) := ⟨q.toNat, by omega⟩
      obtain ⟨d, hd, kd⟩ := sign_at (z := signs1) (i := j) l1 (by decide +kernel) (by omega)
      exact ⟨signs1, _, _, rfl, rfl, le_line (by rw [l2]; decide), atI_nat hd, k _ H2 (one kd) T2 (s1.trans s2)⟩
    · refine next_st (σ' := [some (.ref a), none]) rfl ?_
      dsimp only
      refine set_st (σ' := [some (.ref a), some (.str " !\"#$&'()*+,-./0123456789:;<=>?@ABCDEFGHIJKLMNOPQRSTUVWXYZ[\\]^_`")]) rfl ?_
      refine ⟨_, rfl, _, _, rfl, rfl, by decide +kernel, ?_⟩
      refine set_st (σ' := [some (.ref a), some (.str signs2)]) rfl ?_
      have l1 : signs2.cps.toList.length = 94 := by decide +kernel
      have l2 : signs2.length = 94 := by decide +kernel
      refine ⟨_, rfl, _, rfl, _, rfl, _, rfl, le_line (by rw [l2]; decide), a, g, n + 1, _, rfl, T1, by omega, by rw [l2]; decide, by rw [l2]; decide, fun q H2 q0 q1 T2 s2 => ?_⟩
      rw [l2] at q1
      obtain ⟨j, rfl⟩ : ∃ j : Nat, q = (j : Int) := ⟨q.toNat, by omega⟩
      obtain ⟨d, hd, kd⟩ := sign_at (z := signs2) (i := j) l1 (by decide +kernel) (by omega)
      exact ⟨signs2, _, _, rfl, rfl, le_line (by rw [l2]; decide), atI_nat hd, k _ H2 (one kd) T2 (s1.trans s2)⟩
/-! ### _law_sign_spoilt -/
def spSpo2 : Sp := fun vs H Q _ => ∃ (a g : Addr) (n b : Nat) (t : Str), vs = [.ref a, .str t] ∧ Tray H a g n ∧ n ≤ 800000 ∧ Tq b t ∧ b ≤ 1000000 ∧ ∀ (z : Str) H', Tq (4 * b + 400) z → Tray H' a g (n + 10) → Same (ct a g H) (ct a g H') → Q (.str z) H'
abbrev N_l_sign_spoilt : List Str := ["tray", "text", "lot", "at", "sign"]
theorem sc_l_sign_spoilt : FnScope N_l_sign_spoilt ["tray", "text"] (defScope s_l_sign_spoilt) := ⟨rfl, rfl, rfl, by decide +kernel, rfl, by decide +kernel, by decide +kernel⟩
/-! slots: 0 tray 1 text 2 lot 3 at 4 sign; cells:  -/
theorem ok_signS {fD fS : Addr} {fdD fdS : FuncData} (F : FnP K "_law_sign_spoilt" "_law_sign_spoilt" s_l_sign_spoilt f fd) (c_draw : Fun P w K mg base "_law_draw" 1 ["tray", "many"] spDraw fD fdD) (c_sign : Fun P w K mg base "_law_sign" 2 ["tray"] spSign fS fdS) (z_len : mg "len" = none) (z_int : mg "int" = none) : FnOk P w K mg base CX0 3 f fd ["tray", "text"] spSpo2 := by
  refine F.ok sc_l_sign_spoilt (fun vs H Q E h => ?_) (fun cdv A outer s H vs Q E hr h => ?_)
  · obtain ⟨a, g, n, b, t, rfl, _⟩ := h
    rfl
  · obtain ⟨a, g, n, b, t, rfl, hT, hn, ht, hb, k⟩ := h
    have nd := sc_l_sign_spoilt.nd
    have tl := ht.le
    refine ⟨_, PSs.nox (pss_cons (ps_set (i := 2) nd rfl (Or.inl rfl) (pe_call c_draw.G (hr.mono (by decide)) rfl c_draw.g c_draw.k c_draw.b .nil pass0 (pa_cons (pv 0) (pa_cons pe_int pa_nil))))
      (pss_cons (ps_set (i := 3) nd rfl (Or.inl rfl) (pe_call c_draw.G (hr.mono (by decide)) rfl c_draw.g c_draw.k c_draw.b .nil pass0 (pa_cons (pv 0) (pa_cons (pe_op op_add (pe_callB call_len_str (by rfl) z_len boot_len (pa_cons (pv 1) pa_nil)) pe_int) pa_nil))))
      (pss_cons (ps_set (i := 4) nd rfl (Or.inl rfl) (pe_ix ix_list (pe_lst (pa_cons pe_str (pa_cons (pe_call c_sign.G (hr.mono (by decide)) rfl c_sign.g c_sign.k c_sign.b .nil pass0 (pa_cons (pv 0) pa_nil)) pa_nil))) (pe_callTy call_int1 (by rfl) z_int (by decide +kernel) (pa_cons (pe_cmpR op_gt (pv 2) pe_int (nomark _)) pa_nil)) (fun _ _ => rfl)))
      (pss_one (ps_ret (pe_op op_add_str (pe_op op_add_str (pe_slice sl_str (pv 1) po_none (po_some (pv 3))) (pv 4)) (pe_slice sl_str (pv 1) (po_some (pe_op op_add (pv 3) (pe_callTy call_int1 (by rfl) z_int (by decide +kernel) (pa_cons (pe_cmpR op_lt (pv 2) pe_int (nomark _)) pa_nil)))) po_none))))))), ?_⟩
    refine ⟨_, rfl, a, g, n, _, rfl, hT, by omega, by decide, by decide, fun lot H1 l0 l1 T1 s1 => ?_⟩
    refine set_st (σ' := [some (.ref a), some (.str t), some (.int lot), none, none]) rfl ?_
    refine ⟨_, rfl, _, rfl, _, rfl, le_big2 (by omega), _, _, rfl, rfl, a, g, n + 1, _, rfl, T1, by omega, by omega, by omega, fun at_ H2 a0 a1 T2 s2 => ?_⟩
    obtain ⟨j, rfl⟩ : ∃ j : Nat, at_ = (j : Int) := ⟨at_.toNat, by omega⟩
    refine set_st (σ' := [some (.ref a), some (.str t), some (.int lot), some (.int (j : Int)), none]) rfl ?_
    refine ⟨_, rfl, a, g, n + 1 + 1, rfl, T2, by omega, fun sg H3 hsg T3 s3 => ?_⟩
    refine ⟨by show 2 ≤ sizeLine; decide, fun p np => ?_⟩
    generalize e4 : upd H3 p _ = H4
    have N4 := newAt T3 np e4
    refine ⟨_, rfl, _, _, rfl, rfl, .inr ⟨_, rfl, ?_⟩⟩
    obtain ⟨sn, hsn, hat⟩ : ∃ sn, Tq 1 sn ∧ atI [V.str "", V.str sg] (if decide (0 < lot) = true then 1 else 0) = some (.str sn) := by
      by_cases c : 0 < lot
      · exact ⟨sg, hsg, by rw [decide_eq_true c]; rfl⟩
      · exact ⟨"", ⟨by decide +kernel, by decide +kernel⟩, by rw [decide_eq_false c]; rfl⟩
    refine ⟨p, _, _, _, rfl, rfl, SqL.of N4.f, hat, ?_⟩
    refine set_st (σ' := [some (.ref a), some (.str t), some (.int lot), some (.int (j : Int)), some (.str sn)]) rfl ?_
    refine ⟨_, rfl, _, rfl, _, rfl, t, rfl, le_big2 (by omega), _, rfl, _, _, rfl, rfl, ?_, ?_⟩
    · have := cutS_length t none (some (j : Int))
      have := hsn.le
      exact le_big2 (by omega)
    refine ⟨_, rfl, _, rfl, _, rfl, _, _, rfl, rfl, .inr ⟨_, rfl, _, _, rfl, rfl, _, rfl, t, rfl, le_big2 (by omega), ?_⟩⟩
    obtain ⟨jj, hjj, hj2⟩ : ∃ jj : Nat, j ≤ jj ∧ (j : Int) + (if decide (lot < 2) = true then 1 else 0) = (jj : Int) := by
      by_cases c : lot < 2
      · exact ⟨j + 1, by omega, by rw [decide_eq_true c]; rfl⟩
      · exact ⟨j, by omega, by rw [decide_eq_false c]; simp⟩
    rw [hj2]
    have hc := cut2 t j jj hjj
    have c1 := ht.cut none (some (j : Int))
    have c2 := ht.cut (some (jj : Int)) none
    have hs1 := hsn.le
    refine ⟨_, _, rfl, rfl, ?_, k _ H4 ?_ (N4.T.mono (by omega)) (((s1.trans s2).trans s3).trans N4.c)⟩
    · rw [len_append]
      exact le_big2 (by omega)
    · exact ⟨by rw [len_append, len_append]; omega, ((c1.app hsn).app c2).ok⟩
/-! ### _law_joint_spoilt -/
abbrev N_l_joint_spoilt : List Str := ["tray", "text", "joint", "parts", "at", "some", "other"]
theorem sc_l_joint_spoilt : FnScope N_l_joint_spoilt ["tray", "text"] (defScope s_l_joint_spoilt) := ⟨rfl, rfl, rfl, by decide +kernel, rfl, by decide +kernel, by decide +kernel⟩
/-! slots: 0 tray 1 text 2 joint 3 parts 4 at 5 some 6 other; cells:  -/
theorem ok_jointS {fD : Addr} {fdD : FuncData} (F : FnP K "_law_joint_spoilt" "_law_joint_spoilt" s_l_joint_spoilt f fd) (c_draw : Fun P w K mg base "_law_draw" 1 ["tray", "many"] spDraw fD fdD) (z_len : mg "len" = none) : FnOk P w K mg base CX0 2 f fd ["tray", "text"] spSpo2 := by
  refine F.ok sc_l_joint_spoilt (fun vs H Q E h => ?_) (fun cdv A outer s H vs Q E hr h => ?_)
  · obtain ⟨a, g, n, b, t, rfl, _⟩ := h
    rfl
  · obtain ⟨a, g, n, b, t, rfl, hT, hn, ht, hb, k⟩ := h
    have nd := sc_l_joint_spoilt.nd
    have tl := ht.le
    refine ⟨_, PSs.nox (pss_cons (ps_set (i := 2) nd rfl (Or.inl rfl) (pe_ix ix_list (pe_lst (pa_cons pe_str (pa_cons pe_str (pa_cons pe_str (pa_cons pe_str (pa_cons pe_str (pa_cons pe_str (pa_cons pe_str (pa_cons pe_str (pa_cons pe_str (pa_cons pe_str pa_nil))))))))))) (pe_call c_draw.G (hr.mono (by decide)) rfl c_draw.g c_draw.k c_draw.b .nil pass0 (pa_cons (pv 0) (pa_cons pe_int pa_nil))) (fun _ _ => rfl)))
      (pss_cons (ps_set (i := 3) nd rfl (Or.inl rfl) (pe_split (pv 1) (pv 2)))
      (pss_cons (ps_if (pt_cmpR op_eq (pe_callB call_len_seq (by rfl) z_len boot_len (pa_cons (pv 3) pa_nil)) pe_int (nomark _))
        (pss_one (ps_ret (pv 1)))
        pss_nil)
      (pss_cons (ps_set (i := 4) nd rfl (Or.inl rfl) (pe_op op_add pe_int (pe_call c_draw.G (hr.mono (by decide)) rfl c_draw.g c_draw.k c_draw.b .nil pass0 (pa_cons (pv 0) (pa_cons (pe_op op_sub (pe_callB call_len_seq (by rfl) z_len boot_len (pa_cons (pv 3) pa_nil)) pe_int) pa_nil)))))
      (pss_cons (ps_set (i := 5) nd rfl (Or.inl rfl) (pe_lst (pa_cons (pe_op op_add_str (pv 2) pe_str) (pa_cons (pe_op op_add_str pe_str (pv 2)) (pa_cons (pe_m0 PySem.F.slot_str_strip PySem.F.type_str_strip mt_strip (pv 2)) (pa_cons (pe_op op_add_str (pv 2) (pv 2)) pa_nil))))))
      (pss_cons (ps_set (i := 6) nd rfl (Or.inl rfl) (pe_ix ix_list (pe_op op_cat (pv 5) (pe_lst (pa_cons (pe_op op_add_str (pv 2) pe_str) (pa_cons (pe_op op_add_str (pe_m0 PySem.F.slot_str_rstrip PySem.F.type_str_rstrip mt_rstrip (pv 2)) pe_str) (pa_cons pe_str (pa_cons pe_str pa_nil)))))) (pe_call c_draw.G (hr.mono (by decide)) rfl c_draw.g c_draw.k c_draw.b .nil pass0 (pa_cons (pv 0) (pa_cons pe_int pa_nil))) (fun _ _ => rfl)))
      (pss_one (ps_ret (pe_op op_add_str (pe_op op_add_str (pe_join (pv 2) (pe_slice sl_list (pv 3) po_none (po_some (pv 4)))) (pv 6)) (pe_join (pv 2) (pe_slice sl_list (pv 3) (po_some (pv 4)) po_none))))))))))), ?_⟩
    refine ⟨by show 10 ≤ sizeLine; decide, fun p np => ?_⟩
    generalize e1 : upd H p _ = H1
    have N1 : NewAt H H1 p (.lst (joints.map V.str)) a g n := newAt hT np e1
    refine ⟨_, rfl, a, g, n, _, rfl, N1.T, by omega, by decide, by decide, fun r H2 r0 r1 T2 s2 => ?_⟩
    obtain ⟨i, rfl⟩ : ∃ j : Nat, r = (j : Int) := ⟨r.toNat, by omega⟩
    obtain ⟨j, hj, J⟩ := joint_at (i := i) (by omega)
    obtain ⟨jl0, jl1⟩ := J.len
    have jl := J.q.le
    refine ⟨p, _, _, _, rfl, rfl, SqL.of (ctkeep s2 N1.f N1.na N1.ng), atI_nat hj, ?_⟩
    refine set_st (σ' := [some (.ref a), some (.str t), some (.str j), none, none, none, none]) rfl ?_
    refine ⟨_, rfl, ⟨_, rfl⟩, _, rfl, _, _, rfl, rfl, jl0, le_big2 (by omega), fun ps nps => ?_⟩
    have hne := split_ne (x := t) J.ne J.kd
    have hw := split_wt hne
    have hmany := split_many (x := t) jl1
    have hpo : ∀ q ∈ Txt.split t j, ∀ c ∈ TL.tl q, c < 128 := fun q hq => part_ok ht hq
    generalize e3 : upd H2 ps _ = H3
    have N3 := newAt T2 nps e3
    generalize Txt.split t j = parts at hne hw hmany hpo N3 ⊢
    refine set_st (σ' := [some (.ref a), some (.str t), some (.str j), some (.ref ps), none, none, none]) rfl ?_
    have s03 := (N1.c.trans s2).trans N3.c
    refine ⟨_, rfl, ps, _, rfl, .inl (SqL.of N3.f), rfl, _, rfl, ?_⟩
    by_cases c1 : parts.length = 1
    · refine iteT0 (decide_eq_true (by rw [List.length_map, c1]; rfl)) ?_
      exact ⟨_, rfl, k t H3 (ht.mono (by omega)) (N3.T.mono (by omega)) s03⟩
    refine iteF0 (fun z => c1 (by
      have z := V.int.inj (of_decide_eq_true z)
      rw [List.length_map] at z
      omega)) ?_
    have c2 : 2 ≤ parts.length := by
      have : 0 < parts.length := List.length_pos_iff.mpr hne
      omega
    refine ⟨_, rfl, _, rfl, ps, _, rfl, .inl (SqL.of N3.f), _, _, rfl, rfl, a, g, n + 1, _, rfl, N3.T, by omega, by rw [List.length_map]; omega, by rw [List.length_map]; omega, fun q H4 q0 q1 T4 s4 => ⟨_, _, rfl, rfl, ?_⟩⟩
    rw [List.length_map] at q1
    obtain ⟨at_, hat⟩ : ∃ m : Nat, 1 + q = (m : Int) := ⟨(1 + q).toNat, by omega⟩
    refine set_st (σ' := [some (.ref a), some (.str t), some (.str j), some (.ref ps), some (.int (at_ : Int)), none, none]) (by rw [← hat]; rfl) ?_
    have f4 : H4 ps = _ := ctkeep s4 N3.f N3.na N3.ng
    have lb : (" " : Str).length = 1 := by decide +kernel
    have ld : ("-" : Str).length = 1 := by decide +kernel
    have l3 : (" - " : Str).length = 3 := by decide +kernel
    have tb : Tq 1 (" " : Str) := tqB_ok (by decide +kernel)
    have td : Tq 1 ("-" : Str) := tqB_ok (by decide +kernel)
    have t3 : Tq 3 (" - " : Str) := tqB_ok (by decide +kernel)
    have t0 : Tq 0 ("" : Str) := tqB_ok (by decide +kernel)
    have jst := J.st.le
    have jrs := J.rs.le
    refine ⟨_, rfl, _, _, rfl, rfl, le_line (by omega), _, rfl, _, _, rfl, rfl, le_line (by omega), _, rfl, ⟨_, rfl⟩, j, rfl, rfl, le_line (by omega), _, rfl, _, rfl, _, _, rfl, rfl, le_line (by omega), by show 4 ≤ sizeLine; decide, fun p5 np5 => ?_⟩
    generalize e5 : upd H4 p5 _ = H5
    have N5 := newAt T4 np5 e5
    refine set_st (σ' := [some (.ref a), some (.str t), some (.str j), some (.ref ps), some (.int (at_ : Int)), some (.ref p5), none]) rfl ?_
    refine ⟨_, rfl, _, rfl, _, _, rfl, rfl, le_line (by omega), _, rfl, ⟨_, rfl⟩, j, rfl, rfl, le_line (by omega), _, _, rfl, rfl, le_line (by omega), by show 4 ≤ sizeLine; decide, fun p6 np6 => ?_⟩
    generalize e6 : upd H5 p6 _ = H6
    have N6 := newAt N5.T np6 e6
    refine ⟨p5, p6, _, _, rfl, rfl, N6.s _ _ N5.f, N6.f, by show 8 ≤ sizeLine; decide, fun p7 np7 => ?_⟩
    generalize e7 : upd H6 p7 _ = H7
    have N7 := newAt N6.T np7 e7
    refine ⟨_, rfl, a, g, _, _, rfl, N7.T, by omega, by decide, by decide, fun u H8 u0 u1 T8 s8 => ?_⟩
    obtain ⟨m, rfl⟩ : ∃ j : Nat, u = (j : Int) := ⟨u.toNat, by omega⟩
    obtain ⟨ot, hot, hto⟩ : ∃ ot, ([V.str (j ++ (" " : Str)), V.str ((" " : Str) ++ j), V.str (Txt.strip j), V.str (j ++ j)] ++ [V.str (j ++ ("-" : Str)), V.str (Txt.rstrip j ++ (" - " : Str)), V.str ("-" : Str), V.str ("" : Str)])[m]? = some (.str ot) ∧ Tq 14 ot := by
      have hm : m < 8 := by omega
      match m, hm with
      | 0, _ => exact ⟨_, rfl, (J.q.app tb).mono (by omega)⟩
      | 1, _ => exact ⟨_, rfl, (tb.app J.q).mono (by omega)⟩
      | 2, _ => exact ⟨_, rfl, J.st.mono (by omega)⟩
      | 3, _ => exact ⟨_, rfl, J.q.app J.q⟩
      | 4, _ => exact ⟨_, rfl, (J.q.app td).mono (by omega)⟩
      | 5, _ => exact ⟨_, rfl, (J.rs.app t3).mono (by omega)⟩
      | 6, _ => exact ⟨_, rfl, td.mono (by omega)⟩
      | 7, _ => exact ⟨_, rfl, t0.mono (by omega)⟩
    refine ⟨p7, _, _, _, rfl, rfl, SqL.of (ctkeep s8 N7.f N7.na N7.ng), atI_nat hot, ?_⟩
    refine set_st (σ' := [some (.ref a), some (.str t), some (.str j), some (.ref ps), some (.int (at_ : Int)), some (.ref p5), some (.str ot)]) rfl ?_
    have c48 : Same (ct a g H4) (ct a g H8) := ((N5.c.trans N6.c).trans N7.c).trans s8
    have f8 : H8 ps = some (.lst (parts.map V.str)) := ctkeep c48 f4 N3.na N3.ng
    refine ⟨_, rfl, ⟨_, rfl⟩, _, rfl, _, rfl, _, rfl, ps, _, rfl, SqL.of f8, fun p9 np9 => ?_⟩
    have ec : cutV (parts.map V.str) none (some (at_ : Int)) = (parts.take at_).map V.str := by rw [cutTo, List.map_take]
    rw [ec]
    generalize e9 : upd H8 p9 _ = H9
    have N9 := newAt T8 np9 e9
    have w2 := wt_take j.length parts at_
    refine ⟨_, p9, parts.take at_, rfl, rfl, .inl (SqL.of N9.f), fit_wt (by omega), ?_⟩
    have w3 := join_wt j (parts.take at_)
    have w4 := join_wt j (parts.drop at_)
    have h14 := hto.le
    refine ⟨_, rfl, _, _, rfl, rfl, le_big2 (by omega), ?_⟩
    refine ⟨_, rfl, ⟨_, rfl⟩, _, rfl, _, rfl, _, rfl, ps, _, rfl, SqL.of (N9.s _ _ f8), fun p10 np10 => ?_⟩
    have ec2 : cutV (parts.map V.str) (some (at_ : Int)) none = (parts.drop at_).map V.str := by rw [cutFrom, List.map_drop]
    rw [ec2]
    generalize e10 : upd H9 p10 _ = H10
    have N10 := newAt N9.T np10 e10
    refine ⟨_, p10, parts.drop at_, rfl, rfl, .inl (SqL.of N10.f), fit_wt (by omega), ?_⟩
    refine ⟨_, _, rfl, rfl, by rw [len_append]; exact le_big2 (by omega), ?_⟩
    refine k _ H10 ⟨by rw [len_append, len_append]; omega, fun c hc => ?_⟩ (N10.T.mono (by omega)) ((((s03.trans s4).trans c48).trans N9.c).trans N10.c)
    rw [TL.tl_append, TL.tl_append] at hc
    rcases List.mem_append.mp hc with hc | hc
    · rcases List.mem_append.mp hc with hc | hc
      · exact join_ok J.q.ok (fun q hq => hpo q (List.mem_of_mem_take hq)) c hc
      · exact hto.ok c hc
    · exact join_ok J.q.ok (fun q hq => hpo q (List.mem_of_mem_drop hq)) c hc
end
end Kd

namespace Kd
open PySem PySem.Spec PyProof.Rows L2
theorem six_natA {n j : Nat} (h : j < n) : seqIndex? (j : Int) n = some j := by
  unfold seqIndex?
  have h0 : ¬ (j : Int) < 0 := by omega
  simp [h, h0]
theorem ixN_natA {n j : Nat} (h : j < n) : ixN n (j : Int) = some j := by
  unfold ixN
  rw [if_pos (by omega), if_pos (by omega)]
  simp
theorem map_erase {α β : Type} (f : α → β) : ∀ (xs : List α) (i : Nat), (xs.map f).eraseIdx i = (xs.eraseIdx i).map f
  | [], i => by simp
  | x :: xs, 0 => rfl
  | x :: xs, i + 1 => by
    rw [List.map_cons, List.eraseIdx_cons_succ, List.eraseIdx_cons_succ, map_erase f xs i]
    rfl
theorem set_ok {ps : List Str} {q : Str} {i : Nat} (h : ∀ p ∈ ps, ∀ c ∈ TL.tl p, c < 128) (hq : ∀ c ∈ TL.tl q, c < 128) : ∀ p ∈ ps.set i q, ∀ c ∈ TL.tl p, c < 128 := fun p hp => by
  rcases List.mem_or_eq_of_mem_set hp with hp | rfl
  · exact h p hp
  · exact hq
section
variable {P : Program} {w : World} {K : PySem.W.Frag} {mg : Str → Option Value} {base : Heap} {f : Addr} {fd : FuncData}
/-! ### _law_words_spoilt -/
def spSpo3 (K : PySem.W.Frag) : Sp := fun vs H Q _ => ∃ (a g so : Addr) (n b : Nat) (t : Str) (os : List Str), vs = [.ref a, .str t, .ref so] ∧ Tray H a g n ∧ n ≤ 800000 ∧ Tq b t ∧ b ≤ 1000000 ∧ SqL K (ct a g H) so (os.map V.str) ∧ 1 ≤ os.length ∧ os.length ≤ 100 ∧ (∀ z ∈ os, Tq 70 z) ∧ ∀ (z : Str) H', Tq (4 * b + 400) z → Tray H' a g (n + 12) → Same (ct a g H) (ct a g H') → Q (.str z) H'
abbrev N_l_words_spoilt : List Str := ["tray", "text", "some", "amid", "parts", "at", "other", "lot", "kept"]
theorem sc_l_words_spoilt : FnScope N_l_words_spoilt ["tray", "text", "some"] (defScope s_l_words_spoilt) := ⟨rfl, rfl, rfl, by decide +kernel, rfl, by decide +kernel, by decide +kernel⟩
/-! slots: 0 tray 1 text 2 some 3 amid 4 parts 5 at 6 other 7 lot 8 kept; cells:  -/
set_option maxHeartbeats 0 in
theorem ok_wordsS {fD : Addr} {fdD : FuncData} (F : FnP K "_law_words_spoilt" "_law_words_spoilt" s_l_words_spoilt f fd) (c_draw : Fun P w K mg base "_law_draw" 1 ["tray", "many"] spDraw fD fdD) (z_len : mg "len" = none) : FnOk P w K mg base CX0 2 f fd ["tray", "text", "some"] (spSpo3 K) := by
  refine F.ok sc_l_words_spoilt (fun vs H Q E h => ?_) (fun cdv A outer s H vs Q E hr h => ?_)
  · obtain ⟨a, g, so, n, b, t, os, rfl, _⟩ := h
    rfl
  · obtain ⟨a, g, so, n, b, t, os, rfl, hT, hn, ht, hb, hso, o1, o100, hos, k⟩ := h
    have nd := sc_l_words_spoilt.nd
    have tl := ht.le
    refine ⟨_, PSs.nox (pss_cons (ps_set (i := 3) nd rfl (Or.inl rfl) (pe_ix ix_list (pe_lst (pa_cons pe_str (pa_cons pe_str (pa_cons pe_str (pa_cons pe_str pa_nil))))) (pe_call c_draw.G (hr.mono (by decide)) rfl c_draw.g c_draw.k c_draw.b .nil pass0 (pa_cons (pv 0) (pa_cons pe_int pa_nil))) (fun _ _ => rfl)))
      (pss_cons (ps_set (i := 4) nd rfl (Or.inl rfl) (pe_split (pv 1) (pv 3)))
      (pss_cons (ps_set (i := 5) nd rfl (Or.inl rfl) (pe_call c_draw.G (hr.mono (by decide)) rfl c_draw.g c_draw.k c_draw.b .nil pass0 (pa_cons (pv 0) (pa_cons (pe_callB call_len_seq (by rfl) z_len boot_len (pa_cons (pv 4) pa_nil)) pa_nil))))
      (pss_cons (ps_set (i := 6) nd rfl (Or.inl rfl) (pe_call c_draw.G (hr.mono (by decide)) rfl c_draw.g c_draw.k c_draw.b .nil pass0 (pa_cons (pv 0) (pa_cons (pe_callB call_len_seq (by rfl) z_len boot_len (pa_cons (pv 4) pa_nil)) pa_nil))))
      (pss_cons (ps_set (i := 7) nd rfl (Or.inl rfl) (pe_call c_draw.G (hr.mono (by decide)) rfl c_draw.g c_draw.k c_draw.b .nil pass0 (pa_cons (pv 0) (pa_cons pe_int pa_nil))))
      (pss_cons (ps_if (pt_cmpR op_eq (pv 7) pe_int (nomark _))
        (pss_one (ps_expr (pe_bm PySem.F.plainAttrs_list PySem.F.slot_list_pop PySem.F.type_list_pop mt_popAt (pv 4) (pa_cons (pv 5) pa_nil))))
        (pss_one (ps_if (pt_cmpR op_eq (pv 7) pe_int (nomark _))
          (pss_one (ps_expr (pe_bm PySem.F.plainAttrs_list PySem.F.slot_list_insert PySem.F.type_list_insert mt_insert (pv 4) (pa_cons (pv 6) (pa_cons (pe_ix ix_list (pv 4) (pv 5) (fun _ _ => rfl)) pa_nil)))))
          (pss_one (ps_if (pt_cmpR op_eq (pv 7) pe_int (nomark _))
            (pss_cons (ps_set (i := 8) nd rfl (Or.inl rfl) (pe_ix ix_list (pv 4) (pv 5) (fun _ _ => rfl)))
            (pss_cons (ps_asg (pe_ix ix_list (pv 4) (pv 6) (fun _ _ => rfl)) (pg_sub (pv 4) (pv 5) set_list))
            (pss_one (ps_asg (pv 8) (pg_sub (pv 4) (pv 6) set_list)))))
            (pss_one (ps_asg (pe_ix ix_list (pv 2) (pe_call c_draw.G (hr.mono (by decide)) rfl c_draw.g c_draw.k c_draw.b .nil pass0 (pa_cons (pv 0) (pa_cons (pe_callB call_len_seq (by rfl) z_len boot_len (pa_cons (pv 2) pa_nil)) pa_nil))) (fun _ _ => rfl)) (pg_sub (pv 4) (pv 5) set_list))))))))
      (pss_one (ps_ret (pe_join (pv 3) (pv 4)))))))))), ?_⟩
    refine ⟨by show 4 ≤ sizeLine; decide, fun p np => ?_⟩
    generalize e1 : upd H p _ = H1
    have N1 : NewAt H H1 p (.lst (amids.map V.str)) a g n := newAt hT np e1
    refine ⟨_, rfl, a, g, n, _, rfl, N1.T, by omega, by decide, by decide, fun r H2 r0 r1 T2 s2 => ?_⟩
    obtain ⟨i, rfl⟩ : ∃ j : Nat, r = (j : Int) := ⟨r.toNat, by omega⟩
    obtain ⟨y, hy, J⟩ := amid_at (i := i) (by omega)
    obtain ⟨jl0, jl1⟩ := J.len
    have jl := J.q.le
    refine ⟨p, _, _, _, rfl, rfl, SqL.of (ctkeep s2 N1.f N1.na N1.ng), atI_nat hy, ?_⟩
    refine set_st (σ' := [some (.ref a), some (.str t), some (.ref so), some (.str y), none, none, none, none, none]) rfl ?_
    refine ⟨_, rfl, ⟨_, rfl⟩, _, rfl, _, _, rfl, rfl, jl0, le_big2 (by omega), fun ps nps => ?_⟩
    have hne := split_ne (x := t) J.ne J.kd
    have hw := split_wt hne
    have hmany := split_many (x := t) jl1
    have hpo : ∀ q ∈ Txt.split t y, ∀ c ∈ TL.tl q, c < 128 := fun q hq => part_ok ht hq
    generalize e3 : upd H2 ps _ = H3
    have N3 := newAt T2 nps e3
    generalize Txt.split t y = parts at hne hw hmany hpo N3 ⊢
    have hl0 : 0 < parts.length := List.length_pos_iff.mpr hne
    refine set_st (σ' := [some (.ref a), some (.str t), some (.ref so), some (.str y), some (.ref ps), none, none, none, none]) rfl ?_
    have s02 : Same (ct a g H) (ct a g H2) := N1.c.trans s2
    have nps0 : ct a g H ps = none := ct_back s02 (ct_none nps)
    refine ⟨_, rfl, _, rfl, ps, _, rfl, .inl (SqL.of N3.f), a, g, n + 1, _, rfl, N3.T, by omega, by rw [List.length_map]; omega, by rw [List.length_map]; omega, fun at_ H4 a0 a1 T4 s4 => ?_⟩
    rw [List.length_map] at a1
    obtain ⟨i, rfl⟩ : ∃ j : Nat, at_ = (j : Int) := ⟨at_.toNat, by omega⟩
    have hi : i < parts.length := by omega
    refine set_st (σ' := [some (.ref a), some (.str t), some (.ref so), some (.str y), some (.ref ps), some (.int (i : Int)), none, none, none]) rfl ?_
    have f4 : H4 ps = some (.lst (parts.map V.str)) := ctkeep s4 N3.f N3.na N3.ng
    refine ⟨_, rfl, _, rfl, ps, _, rfl, .inl (SqL.of f4), a, g, n + 1 + 1, _, rfl, T4, by omega, by rw [List.length_map]; omega, by rw [List.length_map]; omega, fun ot H5 o0 o1' T5 s5 => ?_⟩
    rw [List.length_map] at o1'
    obtain ⟨j, rfl⟩ : ∃ j : Nat, ot = (j : Int) := ⟨ot.toNat, by omega⟩
    have hj : j < parts.length := by omega
    refine set_st (σ' := [some (.ref a), some (.str t), some (.ref so), some (.str y), some (.ref ps), some (.int (i : Int)), some (.int (j : Int)), none, none]) rfl ?_
    have f5 : H5 ps = some (.lst (parts.map V.str)) := ctkeep s5 f4 N3.na N3.ng
    refine ⟨_, rfl, a, g, n + 1 + 1 + 1, _, rfl, T5, by omega, by decide, by decide, fun lot H6 l0 l1 T6 s6 => ?_⟩
    refine set_st (σ' := [some (.ref a), some (.str t), some (.ref so), some (.str y), some (.ref ps), some (.int (i : Int)), some (.int (j : Int)), some (.int lot), none]) rfl ?_
    have f6 : H6 ps = some (.lst (parts.map V.str)) := ctkeep s6 f5 N3.na N3.ng
    have s06 : Same (ct a g H) (ct a g H6) := (((s02.trans N3.c).trans s4).trans s5).trans s6
    have vi : (parts.map V.str)[i]? = some (.str parts[i]) := by rw [List.getElem?_map, List.getElem?_eq_getElem hi]; rfl
    have vj : (parts.map V.str)[j]? = some (.str parts[j]) := by rw [List.getElem?_map, List.getElem?_eq_getElem hj]; rfl
    have wi := wt_mem (n := y.length) (List.getElem_mem hi)
    have wj := wt_mem (n := y.length) (List.getElem_mem hj)
    -- the end, whatever became of the parts
    have fin : ∀ {H9 : Hp} {qs : List Str} {m : Nat} {x8 : Option V}, H9 ps = some (.lst (qs.map V.str)) → wt y.length qs ≤ 3 * b + 150 → (∀ q ∈ qs, ∀ c ∈ TL.tl q, c < 128) → Tray H9 a g m → m ≤ n + 12 → Same (ct a g H) (ct a g H9) →
        tRet (tM1 (fun x xs H Q => ∃ a p, ∃ ys : List Str, x = .str a ∧ xs = [.ref p] ∧ (SqL K H p (ys.map V.str) ∨ SqT K H p (ys.map V.str)) ∧ (ys.map (·.length)).sum + ys.length * a.length ≤ 16777216 ∧ Q (.str (Txt.join a ys)) H) (tVar 3) (tVar 4)) { nx := fun x H' => Q V.non H', rt := Q } [some (.ref a), some (.str t), some (.ref so), some (.str y), some (.ref ps), some (.int (i : Int)), some (.int (j : Int)), some (.int lot), x8] H9 := fun {H9 qs m x8} f9 w9 o9 T9 m9 s9 => by
      refine ⟨_, rfl, ⟨_, rfl⟩, _, rfl, _, ps, qs, rfl, rfl, .inl (SqL.of f9), fit_wt (by omega), ?_⟩
      have := join_wt y qs
      exact k _ H9 ⟨by omega, join_ok J.q.ok o9⟩ (T9.mono m9) s9
    have st : ∀ {H9 : Hp} {o : HO}, Same (ct a g H) (ct a g H9) → Same (ct a g H) (ct a g (upd H9 ps o)) := fun {H9 o} s9 => by
      rw [ct_upd N3.na N3.ng]
      exact Same.upd s9 nps0
    have tu : ∀ {H9 : Hp} {o : HO} {m : Nat}, Tray H9 a g m → Tray (upd H9 ps o) a g m := fun {H9 o m} T9 => T9.updo N3.na N3.ng
    refine ⟨_, rfl, rfl, _, rfl, ite2 (fun c => ?_) (fun c => ?_)⟩
    · -- pop
      refine ⟨_, rfl, .inl ⟨rfl, _, SqL.of f6⟩, _, rfl, ps, _, _, i, _, rfl, rfl, f6, by omega, by omega, six_natA (by rw [List.length_map]; exact hi), vi, ?_⟩
      exact fin (qs := parts.eraseIdx i) (by rw [upd_same, map_erase]) (Nat.le_trans (wt_erase _ _ _) (by omega)) (fun q hq => hpo q (List.mem_of_mem_eraseIdx hq)) (tu T6) (by omega) (st s06)
    refine ⟨_, rfl, rfl, _, rfl, ite2 (fun c2 => ?_) (fun c2 => ?_)⟩
    · -- insert
      refine ⟨_, rfl, .inl ⟨rfl, _, SqL.of f6⟩, _, rfl, _, rfl, _, rfl, ps, _, _, _, rfl, rfl, SqL.of f6, atI_nat vi, ps, _, _, _, rfl, rfl, f6, ?_, by omega, by omega, ?_⟩
      · rw [List.length_map]
        exact Nat.lt_of_le_of_lt (show parts.length ≤ 1000001 by omega) (by decide)
      · refine fin (qs := parts.take j ++ [parts[i]] ++ parts.drop j) ?_ ?_ ?_ (tu T6) (by omega) (st s06)
        · rw [upd_same, Int.toNat_natCast, List.map_append, List.map_append, List.map_take, List.map_drop]
          rfl
        · have w2 := wt_take y.length parts j
          rw [wt_app, wt_app]
          have : wt y.length [parts[i]] = parts[i].length + y.length := by rw [wt_cons]; show _ + 0 = _; simp [wt]
          omega
        · intro q hq
          rcases List.mem_append.mp hq with hq | hq
          · rcases List.mem_append.mp hq with hq | hq
            · exact hpo q (List.mem_of_mem_take hq)
            · rw [List.mem_singleton.mp hq]
              exact hpo _ (List.getElem_mem hi)
          · exact hpo q (List.mem_of_mem_drop hq)
    refine ⟨_, rfl, rfl, _, rfl, ite2 (fun c3 => ?_) (fun c3 => ?_)⟩
    · -- two turned about
      refine ⟨_, rfl, _, rfl, ps, _, _, _, rfl, rfl, SqL.of f6, atI_nat vi, ?_⟩
      refine set_st (σ' := [some (.ref a), some (.str t), some (.ref so), some (.str y), some (.ref ps), some (.int (i : Int)), some (.int (j : Int)), some (.int lot), some (.str parts[i])]) rfl ?_
      refine ⟨_, rfl, _, rfl, ps, _, _, _, rfl, rfl, SqL.of f6, atI_nat vj, ?_⟩
      refine ⟨_, rfl, _, rfl, ps, _, _, i, rfl, rfl, f6, ixN_natA (by rw [List.length_map]; exact hi), ?_⟩
      have e7 : (parts.map V.str).set i (.str parts[j]) = (parts.set i parts[j]).map V.str := (List.map_set ..).symm
      rw [e7]
      refine ⟨_, rfl, _, rfl, _, rfl, ps, _, _, j, rfl, rfl, upd_same, ixN_natA (by rw [List.length_map, List.length_set]; exact hj), ?_⟩
      have e8 : ((parts.set i parts[j]).map V.str).set j (.str parts[i]) = ((parts.set i parts[j]).set j parts[i]).map V.str := (List.map_set ..).symm
      rw [e8]
      have w1 := wt_set y.length parts[i] (parts.set i parts[j]) j
      have w2 := wt_set y.length parts[j] parts i
      exact fin (qs := (parts.set i parts[j]).set j parts[i]) upd_same (by omega) (set_ok (set_ok hpo (hpo _ (List.getElem_mem hj))) (hpo _ (List.getElem_mem hi))) (tu (tu T6)) (by omega) (st (st s06))
    · -- another word
      have so6 := s06.seq hso
      refine ⟨_, rfl, _, rfl, _, rfl, so, _, rfl, .inl (ct_sub.seq so6), a, g, _, _, rfl, T6, by omega, by rw [List.length_map]; omega, by rw [List.length_map]; omega, fun u H7 u0 u1 T7 s7 => ?_⟩
      rw [List.length_map] at u1
      obtain ⟨m, rfl⟩ : ∃ j : Nat, u = (j : Int) := ⟨u.toNat, by omega⟩
      have hm : m < os.length := by omega
      have vm : (os.map V.str)[m]? = some (.str os[m]) := by rw [List.getElem?_map, List.getElem?_eq_getElem hm]; rfl
      have f7 : H7 ps = some (.lst (parts.map V.str)) := ctkeep s7 f6 N3.na N3.ng
      refine ⟨so, _, _, _, rfl, rfl, ct_sub.seq (s7.seq so6), atI_nat vm, ?_⟩
      refine ⟨_, rfl, _, rfl, ps, _, _, i, rfl, rfl, f7, ixN_natA (by rw [List.length_map]; exact hi), ?_⟩
      have e7 : (parts.map V.str).set i (.str os[m]) = (parts.set i os[m]).map V.str := (List.map_set ..).symm
      rw [e7]
      have w2 := wt_set y.length os[m] parts i
      have l7 := (hos _ (List.getElem_mem hm)).le
      exact fin (qs := parts.set i os[m]) upd_same (by omega) (set_ok hpo (hos _ (List.getElem_mem hm)).ok) (tu T7) (by omega) (st (s06.trans s7))
/-! ### _law_spoilt -/
def spSpo4 (K : PySem.W.Frag) : Sp := fun vs H Q _ => ∃ (a g so : Addr) (n b : Nat) (t : Str) (os : List Str), vs = [.ref a, .str t, .ref so] ∧ Tray H a g n ∧ n ≤ 700000 ∧ Tq b t ∧ b ≤ 1000000 ∧ SqL K (ct a g H) so (os.map V.str) ∧ 1 ≤ os.length ∧ os.length ≤ 100 ∧ (∀ z ∈ os, Tq 70 z) ∧ ∀ (z : Str) H', Tq (4 * b + 400) z → Tray H' a g (n + 13) → Same (ct a g H) (ct a g H') → Q (.str z) H'
abbrev N_l_spoilt : List Str := ["tray", "text", "some", "lot"]
theorem sc_l_spoilt : FnScope N_l_spoilt ["tray", "text", "some"] (defScope s_l_spoilt) := ⟨rfl, rfl, rfl, by decide +kernel, rfl, by decide +kernel, by decide +kernel⟩
/-! slots: 0 tray 1 text 2 some 3 lot; cells:  -/
theorem ok_spoS {fD fS fW fJ : Addr} {fdD fdS fdW fdJ : FuncData} (F : FnP K "_law_spoilt" "_law_spoilt" s_l_spoilt f fd) (c_draw : Fun P w K mg base "_law_draw" 1 ["tray", "many"] spDraw fD fdD) (c_sign_spoilt : Fun P w K mg base "_law_sign_spoilt" 3 ["tray", "text"] spSpo2 fS fdS) (c_words_spoilt : Fun P w K mg base "_law_words_spoilt" 2 ["tray", "text", "some"] (spSpo3 K) fW fdW) (c_joint_spoilt : Fun P w K mg base "_law_joint_spoilt" 2 ["tray", "text"] spSpo2 fJ fdJ) :
    FnOk P w K mg base CX0 4 f fd ["tray", "text", "some"] (spSpo4 K) := by
  refine F.ok sc_l_spoilt (fun vs H Q E h => ?_) (fun cdv A outer s H vs Q E hr h => ?_)
  · obtain ⟨a, g, so, n, b, t, os, rfl, _⟩ := h
    rfl
  · obtain ⟨a, g, so, n, b, t, os, rfl, hT, hn, ht, hb, hso, o1, o100, hos, k⟩ := h
    have nd := sc_l_spoilt.nd
    refine ⟨_, PSs.nox (pss_cons (ps_set (i := 3) nd rfl (Or.inl rfl) (pe_call c_draw.G (hr.mono (by decide)) rfl c_draw.g c_draw.k c_draw.b .nil pass0 (pa_cons (pv 0) (pa_cons pe_int pa_nil))))
      (pss_cons (ps_if (pt_cmpR op_eq (pv 3) pe_int (nomark _))
        (pss_one (ps_ret (pe_call c_sign_spoilt.G (hr.mono (by decide)) rfl c_sign_spoilt.g c_sign_spoilt.k c_sign_spoilt.b .nil pass0 (pa_cons (pv 0) (pa_cons (pv 1) pa_nil)))))
        pss_nil)
      (pss_cons (ps_if (pt_cmpR op_eq (pv 3) pe_int (nomark _))
        (pss_one (ps_ret (pe_call c_words_spoilt.G (hr.mono (by decide)) rfl c_words_spoilt.g c_words_spoilt.k c_words_spoilt.b .nil pass0 (pa_cons (pv 0) (pa_cons (pv 1) (pa_cons (pv 2) pa_nil))))))
        pss_nil)
      (pss_one (ps_ret (pe_call c_joint_spoilt.G (hr.mono (by decide)) rfl c_joint_spoilt.g c_joint_spoilt.k c_joint_spoilt.b .nil pass0 (pa_cons (pv 0) (pa_cons (pv 1) pa_nil)))))))), ?_⟩
    refine ⟨_, rfl, a, g, n, _, rfl, hT, by omega, by decide, by decide, fun lot H1 l0 l1 T1 s1 => ?_⟩
    refine set_st (σ' := [some (.ref a), some (.str t), some (.ref so), some (.int lot)]) rfl ?_
    refine ⟨_, rfl, rfl, _, rfl, ite2 (fun c => ?_) (fun c => ?_)⟩
    · exact ⟨_, rfl, _, rfl, a, g, n + 1, b, t, rfl, T1, by omega, ht, hb, fun z H2 hz T2 s2 => k z H2 hz (T2.mono (by omega)) (s1.trans s2)⟩
    refine ⟨_, rfl, rfl, _, rfl, ite2 (fun c2 => ?_) (fun c2 => ?_)⟩
    · exact ⟨_, rfl, _, rfl, _, rfl, a, g, so, n + 1, b, t, os, rfl, T1, by omega, ht, hb, s1.seq hso, o1, o100, hos, fun z H2 hz T2 s2 => k z H2 hz (T2.mono (by omega)) (s1.trans s2)⟩
    · exact ⟨_, rfl, _, rfl, a, g, n + 1, b, t, rfl, T1, by omega, ht, hb, fun z H2 hz T2 s2 => k z H2 hz (T2.mono (by omega)) (s1.trans s2)⟩
end
end Kd

namespace KdXc
open PySem PySem.Spec PyProof.Rows L2
/-! ### C(e, ..) in a try's body, where C's __init__ may raise -/
section
variable {X : Cx} {CX : CXT} {k : Nat} {f C : Addr} {fd : FuncData} {ps : List Str} {sp : Sp} {dvs : List V} {ds : List Value} {E : L2.St → XK} {x : Str} {p pos : Pos} {e : Expr} {es : List Expr} {t : TA}
def tMakeS (C : Addr) (sp : Sp) (dvs : List V) (E : L2.St → XK) (t : TA) : TE := fun σ H Q => t σ H fun vs H1 => ∀ x dx, H1 x = none → H1 dx = none → dx ≠ x →
  sp (.ref x :: (vs ++ dvs)) (upd (upd H1 dx (.own x)) x (.ins C dx [])) (fun v H2 => v = .non ∧ Q (.ref x) H2) (E σ)
theorem run_makeS {pins : List (Addr × Obj)} {σ : L2.St} {H : Hp} {s : Shared} {Q : VK} {us : List Value} {vs : List V} (M : Mk X.K C f) (G : FnOk X.prog X.w X.K X.mg X.base CX k f fd ps sp) (hr : Room (k + 1) X.A) (hb : Binds X.K fd ps ds) (hd : Vals dvs ds)
    (hx : PassesAt CX X σ (E σ)) (I : Inv X pins σ H s) (r : Vals vs us)
    (h : ∀ x dx, H x = none → H dx = none → dx ≠ x → sp (.ref x :: (vs ++ dvs)) (upd (upd H dx (.own x)) x (.ins C dx [])) (fun v H2 => v = .non ∧ Q (.ref x) H2) (E σ)) :
    wpAny (model X.prog X.w) X.A (call (.ref C) us) (EP X pins σ Q) X.xe s := by
  have want := h (s.heap.objs.size + 1) s.heap.objs.size (I.hok.fresh (Nat.le_succ _)) (I.hok.fresh (Nat.le_refl _)) (Nat.ne_of_lt (Nat.lt_succ_self _))
  have J := Inv.made (C := C) I
  have rr : Vals (V.ref (s.heap.objs.size + 1) :: (vs ++ dvs)) (Value.ref (s.heap.objs.size + 1) :: (us ++ ds)) := .cons rfl (r.append hd)
  have hlen : (Value.ref (s.heap.objs.size + 1) :: us ++ ds).length = ps.length := by
    have z := rr.length
    rw [G.len _ _ _ _ want] at z
    exact z.symm
  have go := G.run _ X.stack _ _ ⟨Value.ref (s.heap.objs.size + 1) :: us, []⟩ (Value.ref (s.heap.objs.size + 1) :: (us ++ ds)) _ _ (E σ) (hr.make C us []) (J.env0.make C us []) (hb _ (Value.ref (s.heap.objs.size + 1) :: us) J.kIn hlen) rr want
  refine wpAny_call (make_map (f := f) I.kIn M.makes M.init (beq_iff_eq.mp M.fn) (codeAny_mono go fun r s' back => ?_))
  cases r with
  | error er => exact hx pins _ _ er s' J back
  | ok fl =>
    cases fl with
    | ret u =>
      obtain ⟨v, H', J3, rv, ev, q3⟩ := J.after back
      subst ev
      exact ⟨rv, ⟨V.ref (s.heap.objs.size + 1), H', J3, rfl, q3⟩⟩
    | next => exact False.elim back
    | brk => exact False.elim back
    | cont => exact False.elim back
theorem pe_makeS (M : Mk X.K C f) (G : FnOk X.prog X.w X.K X.mg X.base CX k f fd ps sp) (hr : Room (k + 1) X.A) (hg : Gl X x) (hm : X.mg x = some (.ref C)) (hb : Binds X.K fd ps ds) (hd : Vals dvs ds) (hx : ∀ σ, PassesAt CX X σ (E σ))
    (ha : PA X (e :: es) t) (hdb : (x == ("__debug__" : Str)) = false := by decide) (he : starEach (e :: es) X.env = (false, eval e X.env) :: starEach es X.env := by rfl) (hpl : (backTo pos (starEach es X.env)).any (·.1) = false := by rfl) :
    PE X (.Call (.Name x p) (e :: es) [] pos) (tMakeS C sp dvs E t) := by
  refine ⟨fun pins s σ H Q I h => wpAny_Call_Name_kw (ld_glob I hg hm ?_ hdb)⟩
  refine PySem.W.callWith_K (h₀ := X.base) I.ok.mod.kin M.kp (thn (ha.run pos pins s σ H _ I h) fun us s1 ⟨vs, H1, I1, r, q⟩ => ⟨I1.kIn, run_makeS M G hr hb hd (hx σ) I1 r q⟩) he hpl
end
/-! ### what the head says of a refusal's class -/
def oexB (K : PySem.W.Frag) (C : Addr) : Bool := match K.lookup C with
  | some ⟨.type c, _, .cls cd, sl⟩ => decide (c = "type") && (match cd.mro, sl.toList with
    | .ref D :: bm, [_, _, _, _, some (.builtin n), _] => decide (D = C) && (decide (n = "ValueError.__new__") && (!cd.hasDel && (cd.hasDict && PySem.HandSPX.refsVE bm)))
    | _, _ => false)
  | _ => false
theorem oexB_ok {K : PySem.W.Frag} {C : Addr} (h : oexB K C = true) : ∃ nm q N bs bm sn sub ab col dd k0 k1 k2 k3 k5, K.lookup C = some (excClassObj nm q C N bs bm true sn sub ab col dd k0 k1 k2 k3 k5 "ValueError.__new__") ∧ PySem.HandSPX.refsVE bm = true := by
  unfold oexB at h
  split at h
  · rename_i c dd cd sl ho
    obtain ⟨hc, h⟩ := He.ba h
    have hc : c = "type" := of_decide_eq_true hc
    split at h
    · rename_i D bm k0 k1 k2 k3 n k5 hm hs
      obtain ⟨h1, h⟩ := He.ba h
      obtain ⟨h2, h⟩ := He.ba h
      obtain ⟨h3, h⟩ := He.ba h
      obtain ⟨h4, h5⟩ := He.ba h
      have e1 : D = C := of_decide_eq_true h1
      have e2 : n = "ValueError.__new__" := of_decide_eq_true h2
      have e3 : cd.hasDel = false := by simpa using h3
      obtain ⟨nm, bs, mro, ns, qn, hd, sn, sub, ab, col, del⟩ := cd
      dsimp only at hm e3 h4
      subst hc e1 e2 e3 h4 hm
      have hsl : sl = #[k0, k1, k2, k3, some (.builtin "ValueError.__new__"), k5] := by
        obtain ⟨l⟩ := sl
        simp only at hs
        rw [hs]
      subst hsl
      exact ⟨nm, qn, ns, bs, bm, sn, sub, ab, col, dd, k0, k1, k2, k3, k5, ho, h5⟩
    · cases h
  · cases h
structure ErrC (K : PySem.W.Frag) (C fI : Addr) : Prop where
  o : OexC K C
  iC : PySem.W.findIn K (.ref C) "__init__" = some (some (.ref fI))
  tI : PySem.W.typeIn K (.ref fI) = some (.type "function")
  nW : PySem.W.findIn K (.ref C) "what" = some none
  nN : PySem.W.findIn K (.ref C) "name" = some none
  x : XfC K C
  em : PySem.W.exmOne K (.ref C) (.ref C) = some true
  ca : PySem.W.findIn K (.ref C) "__class__" = some (some (.builtin "object.__class__"))
  cn : PySem.W.specialIn K (.builtin "object.__class__") "__get__" = some (some (.builtin "getset_descriptor.__get__"))
  ct : PySem.W.takesIn K (.builtin "object.__class__") = some true
  cm : PySem.W.mroIn K C (.type "object") = some true
  cs : (PySem.W.clsIn K C).isSome = true
def errB (K : PySem.W.Frag) (C fI : Addr) : Bool := oexB K C && (He.eqO (PySem.W.findIn K (.ref C) "__setattr__") (some (some (.builtin "object.__setattr__"))) && (decide (PySem.W.subIn K (.ref C) (.type "BaseException") = some true) && (decide (PySem.W.typeIn K (.ref C) = some (.type "type")) &&
  (PySem.W.keepIn K (.ref C) && (He.eqO (PySem.W.findIn K (.ref C) "__init__") (some (some (.ref fI))) && (decide (PySem.W.typeIn K (.ref fI) = some (.type "function")) && (He.eqO (PySem.W.findIn K (.ref C) "what") (some none) && (He.eqO (PySem.W.findIn K (.ref C) "name") (some none) &&
  (xfB K C && (decide (PySem.W.exmOne K (.ref C) (.ref C) = some true) && (He.eqO (PySem.W.findIn K (.ref C) "__class__") (some (some (.builtin "object.__class__"))) && (He.eqO (PySem.W.specialIn K (.builtin "object.__class__") "__get__") (some (some (.builtin "getset_descriptor.__get__"))) &&
  (decide (PySem.W.takesIn K (.builtin "object.__class__") = some true) && (decide (PySem.W.mroIn K C (.type "object") = some true) && (PySem.W.clsIn K C).isSome))))))))))))))
theorem errB_ok {K : PySem.W.Frag} {C fI : Addr} (h : errB K C fI = true) : ErrC K C fI := by
  obtain ⟨h1, h⟩ := He.ba h
  obtain ⟨h2, h⟩ := He.ba h
  obtain ⟨h3, h⟩ := He.ba h
  obtain ⟨h4, h⟩ := He.ba h
  obtain ⟨h5, h⟩ := He.ba h
  obtain ⟨h6, h⟩ := He.ba h
  obtain ⟨h7, h⟩ := He.ba h
  obtain ⟨h8, h⟩ := He.ba h
  obtain ⟨h9, h⟩ := He.ba h
  obtain ⟨h10, h⟩ := He.ba h
  obtain ⟨h11, h⟩ := He.ba h
  obtain ⟨h12, h⟩ := He.ba h
  obtain ⟨h13, h⟩ := He.ba h
  obtain ⟨h14, h⟩ := He.ba h
  obtain ⟨h15, h16⟩ := He.ba h
  exact ⟨⟨oexB_ok h1, He.eqO_ok h2, of_decide_eq_true h3, of_decide_eq_true h4, h5⟩, He.eqO_ok h6, of_decide_eq_true h7, He.eqO_ok h8, He.eqO_ok h9, xfB_ok h10, of_decide_eq_true h11, He.eqO_ok h12, He.eqO_ok h13, of_decide_eq_true h14, of_decide_eq_true h15, h16⟩
/-- DayError.__init__ as an attribute of its class, and ValueError's -/
def valB (o : Option PySem.W.CFound) (v : Value) : Bool := match o with
  | some (.val u) => decide (u = v)
  | _ => false
theorem valB_ok {o : Option PySem.W.CFound} {v : Value} (h : valB o v = true) : o = some (.val v) := by
  unfold valB at h
  split at h
  · rw [of_decide_eq_true h]
  · cases h
def cfnB (K : PySem.W.Frag) (C f : Addr) (m : Str) : Bool := He.eqO (PySem.W.specialIn K (.ref C) "__getattribute__") (some (some (.builtin "type.__getattribute__"))) && (PySem.W.readsIn K C (.type "type") && (valB (PySem.W.findCls K (.ref C) (.type "type") m) (.ref f) && PySem.W.keepIn K (.ref f)))
theorem cfnB_ok {K : PySem.W.Frag} {C f : Addr} {m : Str} (h : cfnB K C f m = true) : KdEx.ClsFn K C f m := by
  obtain ⟨h1, h⟩ := He.ba h
  obtain ⟨h2, h⟩ := He.ba h
  obtain ⟨h3, h4⟩ := He.ba h
  exact ⟨He.eqO_ok h1, h2, valB_ok h3, h4⟩
def veB (K : PySem.W.Frag) : Bool := valB (PySem.W.findCls K (.type "ValueError") (.type "type") "__init__") (.builtin "ValueError.__init__")
/-! ### isinstance of a caught refusal -/
theorem refs_vals : ∀ {cs : List Addr} {us : List Value}, Vals (cs.map V.ref) us → us = cs.map Value.ref
  | [], _, r => by cases r; rfl
  | c :: cs, _, r => by
    cases r with
    | cons r1 r2 =>
      cases r1
      rw [refs_vals r2]
      rfl
def rIsX (K : PySem.W.Frag) (D a : Addr) : List V → Hp → VK → Prop := fun xs H Q => ∃ c, xs = [.ref a, c] ∧ ((∃ (cv : Value) (b : Bool), (∀ u, RelV c u → u = cv) ∧ PySem.W.kitOne K (.ref D) cv = some b ∧ Q (.bl b) H) ∨
  ∃ (tp : Addr) (cs : List Addr) (b : Bool), c = .ref tp ∧ SqT K H tp (cs.map V.ref) ∧ PySem.W.kitAny K (.ref D) (cs.map Value.ref) = some b ∧ Q (.bl b) H)
/-- isinstance(e, ..) of what the suite holds -/
def rIsC (K : PySem.W.Frag) (D a : Addr) (cls : Value) (d : Option Addr) : List V → Hp → VK → Prop := fun xs H Q => cls = .ref D ∧ ∃ (dd : Addr) (fs : List (Str × V)), d = some dd ∧ H dd = some (.xd fs) ∧ rIsX K D a xs H Q
theorem call_isX {X : Cx} {a D fI : Addr} {oe : Obj} {cls : Value} {d : Option Addr} {pn : List (Addr × Obj)} (T : ErrC X.K D fI) (hz : Zc cls d oe) (hf : ∃ vs, oe.data = .fields vs) : CallR (X.suite a ((a, oe) :: pn)) (.builtin "isinstance") (rIsC X.K D a cls d) := by
  intro pins s σ H xs us Q I r h
  obtain ⟨rfl, dd, fs, rfl, hdd, c, rfl, hc⟩ := h
  have hx : ObjOk X.prog X.w H s.heap dd (.xd fs) := I.hok dd _ hdd
  obtain ⟨mA, hns, _⟩ := hx
  obtain ⟨od, ho, _⟩ := lookIn_ns hns
  obtain ⟨hget, _⟩ := I.pin (a, oe) (List.mem_append.mpr (.inl List.mem_cons_self))
  obtain ⟨vs, hv⟩ := hf
  have J : PySem.W.InstAt s.heap a oe D (some od) := ⟨hget, hz.1, by unfold PySem.W.notCls; rw [hv] <;> rfl, by rw [hz.2]; exact ho⟩
  have Z : PySem.W.KitX X.K (.ref a) (.ref D) (fun h => PySem.W.InstAt h a oe D (some od)) := PySem.W.kitx_exc T.cs T.x.ga T.x.gg T.x.exC T.ca T.cn T.ct T.cm
  cases r with
  | cons rx rr =>
    cases rr with
    | cons rt rr =>
      cases rr
      cases rx
      rcases hc with ⟨cv, b, hcv, e, q⟩ | ⟨tp, cs, b, rfl, ht, e, q⟩
      · have ec := hcv _ rt
        subst ec
        exact PySem.W.kia_one Z I.kIn J e (fun z => nomatch z) fun tk => ⟨.bl b, H, I.kept (t' := tk) fun _ _ z => z, rfl, q⟩
      · cases rt
        obtain ⟨its, rv, ⟨o, ho, hcl, n, hd⟩, _⟩ := I.tuple ht
        have ei := refs_vals rv
        subst ei
        obtain ⟨ocl, odd, oda, osl⟩ := o
        dsimp only at hcl hd
        subst hcl hd
        exact PySem.W.kia_tup Z I.kIn J ho e (fun z => nomatch z) fun tk => ⟨.bl b, H, I.kept (t' := tk) fun _ _ z => z, rfl, q⟩
/-! ### a refusal is made -/
/-- C(e), C's own __init__ keeping the promise of a refusal: its dict is new and holds fs -/
def spErr (K : PySem.W.Frag) (C : Addr) (fs : V → List (Str × V)) (Ok : V → Hp → Prop) : Sp := fun vs H Q _ => ∃ (a : Addr) (v : V), vs = [.ref a, v] ∧ H a = some (exo a C none) ∧ Ok v H ∧
  ∀ (d : Addr) (H' : Hp), H d = none → d ≠ a → H' a = some (exo a C (some d)) → H' d = some (exd d (fs v)) → (∀ b, b ≠ a → b ≠ d → H' b = H b) → Q .non H'
theorem err_ok {K : PySem.W.Frag} {C : Addr} {fs : V → List (Str × V)} {Ok : V → Hp → Prop} {H1 : Hp} {v : V} {Q : XK} (ok : ∀ a, H1 a = none → Ok v (upd H1 a (exo a C none))) (k : ∀ d, H1 d = none → Q (.ref C) (some d) (upd H1 d (.xd (fs v)))) :
    [v].length ≤ 1000 ∧ ∀ a, H1 a = none → spErr K C fs Ok (.ref a :: ([v] ++ [])) (upd H1 a (exo a C none))
      (fun u H2 => u = .non ∧ ∃ (d : Addr) (gs : List (Str × V)), H2 a = some (exo a C (some d)) ∧ H2 d = some (exd d gs) ∧ H1 d = none ∧ Q (.ref C) (some d) (upd (del H2 a) d (.xd gs))) (fun _ _ _ => False) := by
  refine ⟨by show 1 ≤ 1000; decide, fun a ha => ⟨a, v, rfl, upd_same, ok a ha, fun d H' hd nd e1 e2 rest => ⟨rfl, d, fs v, e1, e2, ?_, ?_⟩⟩⟩
  · rw [upd_ne nd] at hd
    exact hd
  · have hd1 : H1 d = none := by
      rw [upd_ne nd] at hd
      exact hd
    have eq : upd (del H' a) d (.xd (fs v)) = upd H1 d (.xd (fs v)) := by
      funext b
      by_cases hb : b = d
      · rw [hb, upd_same, upd_same]
      · rw [upd_ne hb, upd_ne hb]
        by_cases hba : b = a
        · rw [hba, del_same, ha]
        · rw [del_ne hba, rest b hba hb, upd_ne hba]
    rw [eq]
    exact k d hd1
/-- raise C(e): its making -/
theorem pmk_err {X : Cx} {x : Str} {C fI : Addr} {k : Nat} {fd : FuncData} {ps : List Str} {fs : V → List (Str × V)} {Ok : V → Hp → Prop} {e : Expr} {te : TE} {p pos : Pos} (T : ErrC X.K C fI)
    (G : FnOk X.prog X.w X.K X.mg X.base CX0 k fI fd ps (spErr X.K C fs Ok)) (hr : Room (k + 1) X.A) (hb : Binds X.K fd ps []) (hg : Gl X x) (hm : X.mg x = some (.ref C)) (he : PE X e te)
    (hdb : (x == ("__debug__" : Str)) = false := by decide) (hs : starEach [e] X.env = (false, eval e X.env) :: starEach [] X.env := by rfl) (hpl : (backTo pos (starEach [] X.env)).any (·.1) = false := by rfl) :
    PMk X (.Call (.Name x p) [e] [] pos) (tMkO C (spErr X.K C fs Ok) [] (tCons te tNil)) :=
  pmk_oex T.o T.iC T.tI G hr hb .nil pass0 hg hm (pa_cons he pa_nil hs) hdb hs hpl
/-! ### x in [y], by an own == -/
section
variable {X : Cx} {CX : CXT} {n : Nat} {C f : Addr} {fd : FuncData} {ps : List Str} {sp : Sp} {E : XK}
theorem rich_sub (G : FnOk X.prog X.w X.K X.mg X.base CX n f fd ps sp) (hs : PySem.W.findIn X.K (.ref C) "__eq__" = some (some (.ref f))) (hf : PySem.W.isFn X.K (.ref f) = true) (hb : Binds X.K fd ps []) (hx : Passes CX X E) {A : Around} (sb : Sub X n A)
    {pins : List (Addr × Obj)} {s : Shared} {σ : L2.St} {H : Hp} {x y : V} {v u : Value} {Q : VK} (I : Inv X pins σ H s) (rx : RelV x v) (ry : RelV y u) (h : KdEx.rOwn C sp E x y H Q) : wpAny (model X.prog X.w) A (richCompare .Eq v u) (EP X pins σ Q) X.xe s := by
  obtain ⟨a, b, dx, dy, fs, gs, rfl, rfl, ha, hb', hsp⟩ := h
  cases rx
  cases ry
  obtain ⟨mA, J, _⟩ := ins_get I.hok ha
  obtain ⟨mB, J', _⟩ := ins_get I.hok hb'
  obtain ⟨od, J, _⟩ := J.look
  obtain ⟨od', J', _⟩ := J'.look
  obtain ⟨m, hF⟩ := I.fr
  refine PySem.W.cmp_K (op := .Eq) (tb := .ref C) sb.room.units0 hF I.ok.mod.kin J J'.type (by simp [PySem.W.notFirst]) hs hf ?_
  have en : Env0 X.prog X.w X.K X.mg X.base A X.stack s H := by
    have z := I.env0
    exact ⟨by rw [sb.fr]; exact z.frames, z.mod, z.bs, z.bsz, z.funs, z.frf, z.hok, z.bare⟩
  have hlen := G.len _ _ _ _ hsp
  have rr : Vals [V.ref a, V.ref b] [Value.ref a, Value.ref b] := .cons rfl (.cons rfl .nil)
  have bb := hb s [.ref a, .ref b] I.kIn (by simpa using hlen)
  rw [List.append_nil] at bb
  refine wpAny_call (codeAny_mono (G.run A X.stack s H ⟨[.ref a, .ref b], []⟩ [.ref a, .ref b] [.ref a, .ref b] _ E sb.room en bb rr hsp) fun r s' back => ?_)
  cases r with
  | error er => exact hx pins σ H s er s' I back
  | ok fl =>
    cases fl with
    | ret w =>
      obtain ⟨z, H', J3, rz, r, ez, q⟩ := I.after back
      subst ez
      cases rz
      exact ⟨.bl r, H', J3, rfl, q⟩
    | next => exact False.elim back
    | brk => exact False.elim back
    | cont => exact False.elim back
/-- x in a list of one y -/
def rIn1 (C : Addr) (sp : Sp) (E : XK) : R2 := fun x l H Q => ∃ (a b p : Addr), x = .ref a ∧ l = .ref p ∧ H p = some (.lst [.ref b]) ∧ a ≠ b ∧ KdEx.rOwn C sp E (.ref b) (.ref a) H (fun v H' => (∃ r, v = .bl r) ∧ H' = H ∧ Q v H')
open MeetsSeq MeetsSeq2 MeetsSeq3 SeqRoads2 in
/-- list.__contains__ of a list of one -/
theorem contains_1 {prog : Program} {w : World} {A : Around} {R : Result → Shared → Prop} {s : Shared} {p : Addr} {x y : Value} {n : Nat} {items : Array Value} {dd : Option Addr} {sl : Array (Option Value)} (hl : s.heap.get? p = some { cls := .type "list", dict := dd, data := .seq items n, slots := sl })
    (i0 : items[((0 : Nat) : Int).toNat]? = some y) (i1 : items[((1 : Nat) : Int).toNat]? = none)
    (h : wpAny (model prog w) A.in1 (eqBool y x) (fun r s' => (r = true → R (.ok (.ret (.bool true))) s') ∧ (r = false → ∃ n2 dd2 sl2, s'.heap.get? p = some { cls := .type "list", dict := dd2, data := .seq items n2, slots := sl2 } ∧ R (.ok (.ret (.bool false))) s')) (fun e s' => R (.error e) s') s) :
    wpAny (model prog w) A.in1 (Builtin.«list.__contains__» ⟨[.ref p, x], []⟩) (GQ.FinOf prog w A R) (fun e s' => R (.error e) s') s := by
  have loop : ∀ (i : Nat) (s : Shared), (∃ n dd sl, s.heap.get? p = some { cls := .type "list", dict := dd, data := .seq items n, slots := sl }) → (match items[((i : Nat) : Int).toNat]? with
      | none => R (.ok (.ret (.bool false))) s
      | some y => wpAny (model prog w) A.in1 (eqBool y x) (fun r s' => (r = true → R (.ok (.ret (.bool true))) s') ∧ (r = false → codeAny (model prog w) A (.builtin "list.__contains__.loop" ⟨[.ref p, x, rawInt ((i : Int) + 1)], []⟩) R s')) (fun e s' => R (.error e) s') s) →
      wpAny (model prog w) A.in1 (Builtin.«list.__contains__.loop» ⟨[.ref p, x, rawInt i], []⟩) (GQ.FinOf prog w A R) (fun e s' => R (.error e) s') s := by
    intro i s hs hi
    obtain ⟨n, dd, sl, hl⟩ := hs
    obtain ⟨hp, g, d, tk, os⟩ := s
    cases e : items[((i : Nat) : Int).toNat]? with
    | none =>
      rw [e] at hi
      wp_walk using AutoSeq1.wpAny_loadPart' hl
      rw [e]
      wp_walk
      exact hi
    | some y =>
      rw [e] at hi
      wp_walk using AutoSeq1.wpAny_loadPart' hl
      rw [e]
      refine wpAny_bind (wpAny_mono hi (fun r s2 h2 => ?_) fun _ _ z => z)
      cases r with
      | true =>
        have z := h2.1 rfl
        obtain ⟨hp2, g2, d2, tk2, os2⟩ := s2
        wp_walk
        exact z
      | false =>
        have z := h2.2 rfl
        obtain ⟨hp2, g2, d2, tk2, os2⟩ := s2
        wp_walk
        exact ⟨plainId_quiet plain_contains_loop _, z⟩
  have step : ∀ (i : Nat) (s : Shared), wpAny (model prog w) A.in1 (Builtin.«list.__contains__.loop» ⟨[.ref p, x, rawInt i], []⟩) (GQ.FinOf prog w A R) (fun e s' => R (.error e) s') s → codeAny (model prog w) A (.builtin "list.__contains__.loop" ⟨[.ref p, x, rawInt i], []⟩) R s := fun i s q =>
    codeAny_builtin entry_contains_loop (by
      rw [Around.under_plainId plain_contains_loop _]
      exact q)
  have fin := step 0 s (loop 0 s ⟨_, _, _, hl⟩ (by
    rw [i0]
    refine wpAny_mono h (fun r s' z => ⟨z.1, fun er => ?_⟩) fun _ _ z => z
    obtain ⟨n2, dd2, sl2, hl2, q⟩ := z.2 er
    have e1 : ((0 : Nat) : Int) + 1 = ((1 : Nat) : Int) := by decide
    rw [e1]
    refine step 1 s' (loop 1 s' ⟨_, _, _, hl2⟩ ?_)
    rw [i1]
    exact q))
  obtain ⟨hp, g, d, tk, os⟩ := s
  wp_walk using AutoSeq1.wpAny_loadPart' hl
  exact ⟨plainId_quiet plain_contains_loop _, fin⟩
theorem op_in1 (G : FnOk X.prog X.w X.K X.mg X.base CX n f fd ps sp) (hs : PySem.W.findIn X.K (.ref C) "__eq__" = some (some (.ref f))) (hf : PySem.W.isFn X.K (.ref f) = true) (hb : Binds X.K fd ps []) (hx : Passes CX X E) (hr : Room (n + 1) X.A) : OpR X (compareOp .In) (rIn1 C sp E) := by
  intro pins s σ H x l v u Q I rx rl h
  obtain ⟨a, b, p, rfl, rfl, hp, nab, hown⟩ := h
  cases rx
  cases rl
  have list1 : ∀ {s' : Shared}, Inv X pins σ H s' → ∃ n dd sl, s'.heap.get? p = some { cls := .type "list", dict := dd, data := .seq #[Value.ref b] n, slots := sl } := fun {s'} J => by
    obtain ⟨its, rv, ⟨o, m, e1, e2, e3, e4⟩, _⟩ := J.list (SqL.of hp)
    have ei : its = [Value.ref b] := by
      cases rv with
      | cons r1 r2 =>
        cases r1
        cases r2
        rfl
    subst ei
    obtain ⟨oc, od, oda, osl⟩ := o
    dsimp only at e2 e4
    subst e2 e4
    exact ⟨_, _, _, e1⟩
  obtain ⟨n0, dd, sl, hl⟩ := list1 I
  show wpAny _ _ (do return Value.bool (← contains (.ref p) (.ref a))) _ _ _
  refine wpAny_bind (wpAny_contains_slot ⟨_, hl, rfl⟩ F.slot_list_contains (wpAny_mono (GQ.call_here (Q := fun v s' => ∃ b, v = .bool b ∧ EP X pins σ Q (.bool b) s') F.slot_list_contains ⟨_, hl, rfl⟩ F.entry_list_contains (F.args_list_contains_2 _ _) (contains_1 hl rfl rfl ?_)) (fun v s' hv => ?_) fun _ _ z => z))
  · refine GQ.eqBool_refG (Ne.symm nab) (wpAny_mono (rich_sub G hs hf hb hx (Sub.in1 (X := X) ⟨hr, rfl⟩) (x := .ref b) (y := .ref a) I rfl rfl hown) (fun z s' hz => ?_) fun _ _ q => q)
    obtain ⟨y, H', J, ry, ⟨r, ey⟩, eH, q⟩ := hz
    subst eH ey
    cases ry
    refine ⟨r, rfl, fun e => ?_, fun e => ?_⟩
    · subst e
      exact ⟨true, rfl, .bl true, _, J, rfl, q⟩
    · subst e
      obtain ⟨n2, dd2, sl2, hl2⟩ := list1 J
      exact ⟨n2, dd2, sl2, hl2, false, rfl, .bl false, _, J, rfl, q⟩
  · obtain ⟨r, rfl, hq⟩ := hv
    exact wpAny_truthy_bool (wpAny_pure hq)
end
end KdXc

set_option maxHeartbeats 4000000
namespace KdXv
open PySem PySem.W PySem.Calls PyProof.Rows PySem.HandSPX
open Builtin Builtin.ObjectAttr
/-! ### C(k = v), C an own class over ValueError with an __init__ -/
section
variable {M : Model} {prog : Program} {w : World} {A : Around} {E : Value → Shared → Prop} {R : Result → Shared → Prop} {h : Heap} {g : Array GenState} {d : Drawn} {t : Nat} {os : OsState} {kw : List (Str × Value)}
variable {nm q : Str} {C N : Addr} {bs bm bmB : List Value} {hdct : Bool} {sn : List Str} {sub : List Value} {ab : Bool} {col : Option Bool} {dd : Option Addr} {k0 k1 k2 k3 k5 : Option Value} {B newId initId : String}
theorem check_kw (F : ExcBaseFacts B newId initId bmB) (hT : ∀ X : String, bm.contains (.type X) = bmB.contains (.type X)) {Q : Unit → Shared → Prop} (hC : h.get? C = some (excClassObj nm q C N bs bm hdct sn sub ab col dd k0 k1 k2 k3 k5 newId)) (hq : Q () ⟨h, g, d, t, os⟩) :
    wpAny M A (checkBuiltinCall newId ⟨[.ref C], kw⟩) Q E ⟨h, g, d, t, os⟩ := by
  have has : (Value.ref C :: bm).contains (.type B) = true := by rw [List.contains_cons, hT, F.hasB, Bool.or_true]
  have star := F.noStar
  simp only [checkBuiltinCall, F.newKind, F.newSplit, F.newRow]
  repeat (first | refine wpAny_loadPart_at hC ?_ | (refine wpAny_isSubtype_exc hC ?_; rw [has]) | refine wpAny_staticBase_exc hC ?_ | refine wpAny_madeBy_exc hC ?_ | simp only [bne_self_eq_false, Bool.false_eq_true, if_false] | wp_step)
  exact hq
theorem new_kw (F : ExcBaseFacts B newId initId bmB) (hT : ∀ X : String, bm.contains (.type X) = bmB.contains (.type X)) (hC : h.get? C = some (excClassObj nm q C N bs bm hdct sn sub ab col dd k0 k1 k2 k3 k5 newId))
    (hq : R (.ok (.ret (.ref (h.objs.size + 1)))) ⟨(h.push (W.kdv_tup [])).push (excO C h.objs.size), g, d, t, os⟩) : codeAny (model prog w) A (.builtin newId ⟨[.ref C], kw⟩) R ⟨h, g, d, t, os⟩ := by
  have ends := F.ends
  have c1 : (Value.ref C :: bm).contains (.type B) = true := by rw [List.contains_cons, hT, F.hasB, Bool.or_true]
  have c2 : (Value.ref C :: bm).contains (.type "AttributeError") = false := by rw [List.contains_cons, hT, F.noAttr]; rfl
  have c3 : (Value.ref C :: bm).contains (.type "NameError") = false := by rw [List.contains_cons, hT, F.noName]; rfl
  refine codeAny_builtinAt F.entry ?_
  unfold Builtin.«BaseException.__new__»
  refine _root_.PySem.wpAt_bind ?_
  show _root_.PySem.wpAt _ _ _ (stack >>= _) _ _ _
  refine _root_.PySem.wpAt_bind (_root_.PySem.wpAt_stack fun p below => _root_.PySem.wpAt_of_wpAny ?_)
  wp_walk
  refine _root_.PySem.wpAt_of_wpAny ?_
  rw [F.owner]
  repeat (first | with_reducible refine wpAny_madeHere_exc F.canon hC ?_ | with_reducible refine wpAny_loadPart_at hC ?_ | (with_reducible refine wpAny_isSubtype_exc hC ?_; first | rw [c1] | rw [c2] | rw [c3]) | wp_step)
  show R _ _
  rw [Heap.size_push]
  exact hq
theorem type_kw (F : ExcBaseFacts B newId initId bmB) (hT : ∀ X : String, bm.contains (.type X) = bmB.contains (.type X)) {fI : Addr} {Q : Fin → Shared → Prop} (hC : h.get? C = some (excClassObj nm q C N bs bm hdct sn sub ab col dd k0 k1 k2 k3 k5 newId))
    (hi : W.Looks (model prog w) h (typeLookup (.ref C) "__init__") (some (.ref fI))) (hb : ∀ self, W.Looks (model prog w) h (bindSpecial (.ref fI) self) (.ref fI, [self]))
    (hq : codeAny (model prog w) A (.call (.ref fI) ⟨[.ref (h.objs.size + 1)], kw⟩) (fun r s' => match r with | .ok (.ret v) => v = .none ∧ Q (.done (.ret (.ref (h.objs.size + 1)))) s' | .ok _ => False | .error e => E e s') ⟨(h.push (W.kdv_tup [])).push (excO C h.objs.size), g, d, t, os⟩) :
    wpAny (model prog w) A (Builtin.«type.__call__» ⟨[.ref C], kw⟩) Q E ⟨h, g, d, t, os⟩ := by
  repeat (first | with_reducible refine wpAny_loadPart_at hC ?_ | with_reducible refine wpAny_madeBy_exc hC ?_ | wp_step)
  refine codeAny_call_builtin_code (Code.quiet_builtin _ F.quiet) (check_kw F hT hC ?_)
  refine new_kw F hT hC ?_
  show wpAny _ _ _ _ _ _
  have keep : ∀ b o, h.get? b = some o → ((h.push (W.kdv_tup [])).push (excO C h.objs.size)).get? b = some o := fun b o e => Heap.get?_push_of_some _ (Heap.get?_push_of_some _ e)
  have hC1 := keep _ _ hC
  have here : ((h.push (W.kdv_tup [])).push (excO C h.objs.size)).get? (h.objs.size + 1) = some (excO C h.objs.size) := by heap_get
  have own : (Value.ref C :: bm).contains (.ref C) = true := by simp
  have i1 := hi.keeps keep
  have b1 := (hb (.ref (h.objs.size + 1))).keeps keep
  unfold isInstance
  repeat (first | with_reducible refine wpAny_loadPart_at here ?_ | (with_reducible refine wpAny_isSubtype_exc hC1 ?_; rw [own]) | wp_step)
  show wpAny _ _ (typeLookup (.ref C) _) _ _ _
  refine i1.at ?_
  refine wpAny_holding (wpAny_bind (b1.at ?_))
  refine wpAny_bind (wpAny_call (codeAny_mono hq fun r s' z => ?_))
  rcases r with e | (v | _ | _ | _) <;> first | exact z | exact z.elim | skip
  obtain ⟨rfl, z⟩ := z
  first
    | exact wpAny_pure (wpAny_pure z)
    | (wp_walk; exact z)
theorem call_kw (F : ExcBaseFacts B newId initId bmB) (hT : ∀ X : String, bm.contains (.type X) = bmB.contains (.type X)) {fI : Addr} (hC : h.get? C = some (excClassObj nm q C N bs bm hdct sn sub ab col dd k0 k1 k2 k3 k5 newId))
    (hi : W.Looks (model prog w) h (typeLookup (.ref C) "__init__") (some (.ref fI))) (hb : ∀ self, W.Looks (model prog w) h (bindSpecial (.ref fI) self) (.ref fI, [self]))
    (hq : codeAny (model prog w) (A.under (.builtin "type.__call__" ⟨[.ref C], kw⟩)) (.call (.ref fI) ⟨[.ref (h.objs.size + 1)], kw⟩) (W.InitBack (h.objs.size + 1) R) ⟨(h.push (W.kdv_tup [])).push (excO C h.objs.size), g, d, t, os⟩) :
    codeAny (model prog w) A (.call (.ref C) ⟨[], kw⟩) R ⟨h, g, d, t, os⟩ := by
  have f1 := tc_lookup
  have f2 := tc_bind (.ref C)
  have ty : (⟨h, g, d, t, os⟩ : Shared).TypeIs (.ref C) "type" := ⟨_, hC, rfl⟩
  refine codeAny_of_tree ?_
  show wpAny _ _ (callAny (.ref C) _) _ _ _
  repeat (any_goals (first | assumption | with_reducible refine wpAny_loadPart_at hC ?_ | wp_step))
  refine ⟨rfl, ?_⟩
  have chk : ∀ {Q : Unit → Shared → Prop} {E : Value → Shared → Prop} {A : Around}, Q () ⟨h, g, d, t, os⟩ → wpAny (model prog w) A (checkBuiltinCall "type.__call__" ⟨[.ref C], kw⟩) Q E ⟨h, g, d, t, os⟩ := fun {Q E A} hq' => by
    have f3 := tc_sub
    simp only [checkBuiltinCall, tc_kind, tc_split]
    repeat (any_goals (first | assumption | with_reducible refine wpAny_loadPart_at hC ?_ | with_reducible refine wpAny_onRaise ?_ | with_reducible refine wpAny_map ?_ | wp_step))
  refine codeAny_call_builtin_at (Code.quiet_builtin _ (by decide +kernel)) entry_typeCall (chk (type_kw F hT hC hi hb ?_))
  refine codeAny_mono hq fun r s' z => ?_
  rcases r with e | (v | _ | _ | _) <;> exact z
end
end KdXv
namespace KdXv
open PySem PySem.Spec PyProof.Rows L2 KdXc
/-! ### a refusal's field, as it is made -/
def tMkF (t : L2.St → Hp → XK → Prop) (C : Addr) (f : Str) : TE := fun σ H Q => t σ H fun cls d H2 => cls = .ref C ∧ ∃ (dd : Addr) (fs : List (Str × V)) (v : V), d = some dd ∧ H2 dd = some (.xd fs) ∧ fs.lookup f = some v ∧ Q v H2
theorem pe_mkf {X : Cx} {C : Addr} {e : Expr} {t : L2.St → Hp → XK → Prop} {n : Str} {pos : Pos} (hm : PMk X e t) (T : XfC X.K C) (hno : PySem.W.findIn X.K (.ref C) n = some none) (hb : attributeBase e n X.env (eval e X.env) = eval e X.env := by rfl) : PE X (.Attribute e n pos) (tMkF t C n) := by
  refine ⟨fun pins s σ H Q I h => ?_⟩
  refine attr_of hb (thn (hm pins s σ H _ I h) fun u s1 hu => ?_)
  obtain ⟨a, oe, vs, sI, H', cls, d, rfl, J, k, hne, ha, hz, hd, h1, na, os, ag, r, ec, dd, fs, v, ed, ea, l, q⟩ := hu
  subst ec ed
  have up : sI.heap.UpToSlots s1.heap := fun b o e _ => ⟨o.slots, k b o e⟩
  have J1 : Inv X pins σ H' s1 := J.landed (B := s1.heap) (fun b o e _ => k b o e) (fun _ _ e => e) up os ag
  have hx : ObjOk X.prog X.w H' s1.heap dd (.xd fs) := J1.hok dd _ ea
  obtain ⟨mA, hns, hr⟩ := hx
  obtain ⟨od, ho, hl⟩ := lookIn_ns hns
  obtain ⟨u, hu, ru⟩ := RelO.some_of (v := v) (o := mA n) (by rw [← l]; exact hr n)
  have JJ : PySem.W.InstAt s1.heap a oe C (some od) := ⟨ha, hz.1, by unfold PySem.W.notCls; rw [hd] <;> rfl, by rw [hz.2]; exact ho⟩
  exact HandSPX.exc_get J1.kIn JJ T.ga T.gg T.exC (PySem.W.findObj_own T.hdC hno rfl (by rw [hl, hu])) (handed_of ru) ⟨v, H', J1.tok _, ru, q⟩
/-- C(k = e) -/
def tMkK (C : Addr) (sp : Sp) (te : TE) : L2.St → Hp → XK → Prop := fun σ H Q => tCons te tNil σ H fun zs H1 => ∃ v, zs = [v] ∧ ∀ a, H1 a = none → sp [.ref a, v] (upd H1 a (exo a C none))
  (fun u H2 => u = .non ∧ ∃ (d : Addr) (fs : List (Str × V)), H2 a = some (exo a C (some d)) ∧ H2 d = some (exd d fs) ∧ H1 d = none ∧ Q (.ref C) (some d) (upd (del H2 a) d (.xd fs))) (fun _ _ _ => False)
theorem pmk_kw {X : Cx} {x kn : Str} {C fI : Addr} {k : Nat} {fd : FuncData} {ps : List Str} {sp : Sp} {e : Expr} {te : TE} {p pos kpos : Pos} (T : ErrC X.K C fI) (G : FnOk X.prog X.w X.K X.mg X.base CX0 k fI fd ps sp) (hr : Room (k + 1) X.A)
    (hb : ∀ (s : Shared) (a v : Value), X.K.In s.heap → BindsTo s fd ⟨[a], [(kn, v)]⟩ (ps.zip [a, v])) (hg : Gl X x) (hm : X.mg x = some (.ref C)) (he : PE X e te)
    (hall : (backToKw pos (keywordEach [⟨some kn, e, kpos⟩] X.env)).all (·.1.isSome) = true := by rfl) (hks : (backToKw pos (keywordEach [⟨some kn, e, kpos⟩] X.env)).filterMap (·.1) = [kn] := by rfl) (hdb : (x == ("__debug__" : Str)) = false := by decide)
    (hpl : ((backTo pos (starEach [] X.env)).any (·.1) || (backToKw pos (keywordEach [⟨some kn, e, kpos⟩] X.env)).any (·.1.isNone)) = false := by rfl) : PMk X (.Call (.Name x p) [] [⟨some kn, e, kpos⟩] pos) (tMkK C sp te) := by
  intro pins s σ H Q I h
  obtain ⟨nm, q, N, bs, bm, sn, sub, ab, col, dd, k0, k1, k2, k3, k5, hC, hbm⟩ := T.o.cls
  have hk : PK X [⟨some kn, e, kpos⟩] (tCons te tNil) := pk_cons he pk_nil
  refine wpAny_Call_Name_kw (ld_glob I hg hm ?_ hdb)
  refine PySem.W.callWith_KW0 (h₀ := X.base) I.ok.mod.kin T.o.kC hall ?_ hpl
  refine thn (hk.run pos pins s σ H _ I h) fun ws s1 hh => ?_
  obtain ⟨zs, H1, I1, rz, v, rfl, q1⟩ := hh
  refine ⟨I1.kIn, ?_⟩
  rw [hks]
  cases rz with
  | cons rv rr =>
    cases rr
    rename_i u
    obtain ⟨hp, g, dr, tk, os⟩ := s1
    have hsz : hp.objs.size ≤ hp.objs.size + 1 := Nat.le_succ _
    have hn : H1 (hp.objs.size + 1) = none := I1.hok.fresh hsz
    have want := q1 (hp.objs.size + 1) hn
    have kk : ∀ b o, hp.get? b = some o → ((hp.push (PySem.W.kdv_tup [])).push (PySem.HandSPX.excO C hp.objs.size)).get? b = some o := fun b o e => Heap.get?_push_of_some _ (Heap.get?_push_of_some _ e)
    have here : ((hp.push (PySem.W.kdv_tup [])).push (PySem.HandSPX.excO C hp.objs.size)).get? (hp.objs.size + 1) = some (PySem.HandSPX.excO C hp.objs.size) := by heap_get
    have J : Inv X pins σ (upd H1 (hp.objs.size + 1) (exo (hp.objs.size + 1) C none)) ⟨(hp.push (PySem.W.kdv_tup [])).push (PySem.HandSPX.excO C hp.objs.size), g, dr, tk, os⟩ :=
      I1.laid (t' := tk) (a := hp.objs.size + 1) (o := exo (hp.objs.size + 1) C none) (h' := (hp.push (PySem.W.kdv_tup [])).push (PySem.HandSPX.excO C hp.objs.size)) kk hsz (exo_ok here)
    have r2 : Vals [V.ref (hp.objs.size + 1), v] [Value.ref (hp.objs.size + 1), u] := .cons rfl (.cons rv .nil)
    have go := G.run _ X.stack _ _ ⟨[Value.ref (hp.objs.size + 1)], [(kn, u)]⟩ [Value.ref (hp.objs.size + 1), u] _ _ (fun _ _ _ => False) (hr.make C [] [(kn, u)]) (J.env0.make C [] [(kn, u)]) (hb _ _ _ J.kIn) r2 want
    refine wpAny_call (KdXv.call_kw F.excBase_ValueError (fun Y => PySem.HandSPX.refsVE_contains Y bm hbm) (I1.kIn _ _ hC) (PySem.W.looks_findIn I1.kIn T.iC) (fun self => PySem.W.bind_fn I1.kIn self T.tI) (codeAny_mono go fun r s' back => ?_))
    cases r with
    | error er => exact False.elim back
    | ok fl =>
      cases fl with
      | ret u2 =>
        obtain ⟨v2, H2, os2, bare2, un2, hok2, rv2, ev, d, fs, ea, ed, hd1, q2⟩ := back
        subst ev
        obtain ⟨h2, g2, d2, t2, os'⟩ := s'
        exact ⟨rv2, mk_end (raises_own T.o.exC T.o.tyC) I1 hsz kk un2 hok2 os2 bare2 ea ed hd1 q2⟩
      | next => exact False.elim back
      | brk => exact False.elim back
      | cont => exact False.elim back
/-- what tMkK asks of a refusal -/
theorem err_kw {K : PySem.W.Frag} {C : Addr} {fs : V → List (Str × V)} {Ok : V → Hp → Prop} {H1 : Hp} {v : V} {Q : XK} (ok : ∀ a, H1 a = none → Ok v (upd H1 a (exo a C none))) (k : ∀ d, H1 d = none → Q (.ref C) (some d) (upd H1 d (.xd (fs v)))) :
    ∃ y, [v] = [y] ∧ ∀ a, H1 a = none → spErr K C fs Ok [.ref a, y] (upd H1 a (exo a C none))
      (fun u H2 => u = .non ∧ ∃ (d : Addr) (gs : List (Str × V)), H2 a = some (exo a C (some d)) ∧ H2 d = some (exd d gs) ∧ H1 d = none ∧ Q (.ref C) (some d) (upd (del H2 a) d (.xd gs))) (fun _ _ _ => False) :=
  ⟨v, rfl, (err_ok (K := K) ok k).2⟩
end KdXv

namespace Kd
open PySem PySem.Spec PyProof.Rows L2 KdXc
section
variable {P : Program} {w : World} {K : PySem.W.Frag} {mg : Str → Option Value} {base : Heap} {f : Addr} {fd : FuncData}
/-! ### a refusal's __init__ -/
def dayF (v : V) : List (Str × V) := [("name", .str "DayError"), ("what", v)]
def noF (nm : Str) (v : V) : List (Str × V) := ("name", .str nm) :: dayF v
abbrev RepOk (K : PySem.W.Frag) (v : V) (H : Hp) : Prop := KdRp.Rep2 K v H
theorem what_of (nm : Str) (v : V) : (noF nm v).lookup ("what" : Str) = some v := by
  unfold noF dayF
  rw [List.lookup_cons, show (("what" : Str) == "name") = false by decide +kernel, List.lookup_cons, show (("what" : Str) == "name") = false by decide +kernel, List.lookup_cons, show (("what" : Str) == "what") = true by decide +kernel]
theorem sc_DayError : FnScope ["self", "what"] ["self", "what"] (defScope s_DayError_init) := ⟨rfl, rfl, rfl, by decide +kernel, rfl, by decide +kernel, by decide +kernel⟩
theorem ok_DayError {C fI : Addr} (F : FnP K "__init__" "DayError.__init__" s_DayError_init f fd) (T : ErrC K C fI) (z_ValueError : mg "ValueError" = none) (vV : PySem.W.findCls K (.type "ValueError") (.type "type") "__init__" = some (.val (.builtin "ValueError.__init__"))) (z_repr : mg "repr" = none) :
    FnOk P w K mg base CX0 1 f fd ["self", "what"] (spErr K C dayF (RepOk K)) := by
  refine F.ok sc_DayError (fun vs H Q E h => ?_) (fun cdv A outer s H vs Q E hr h => ?_)
  · obtain ⟨a, v, rfl, _⟩ := h
    rfl
  · obtain ⟨a, v, rfl, ha, hv, k⟩ := h
    have nd := sc_DayError.nd
    refine ⟨_, PSs.nox (pss_cons (ps_expr (pe_veinit rfl z_ValueError vV (pa_cons (pv 0) (pa_cons (pe_callB (KdRp.cr_rep2 hr.units) (by rfl) z_repr (by decide +kernel) (pa_cons (pv 1) pa_nil)) pa_nil))))
      (pss_cons (ps_ost (pv 0) (pv 1)) (pss_one (ps_ost (pv 0) pe_str)))), ?_⟩
    refine ⟨_, rfl, _, rfl, v, rfl, hv, fun m => ⟨a, C, [.str m], rfl, by show 1 ≤ 1000; decide, T.o, ha, ?_⟩⟩
    refine ⟨_, rfl, _, rfl, a, C, rfl, T.o, T.nW, .inl ⟨ha, fun d hd nda => ?_⟩⟩
    refine ⟨_, rfl, a, C, rfl, T.o, T.nN, .inr ⟨d, _, upd_same, by rw [upd_ne nda]; exact upd_same, by show 1 ≤ 900; decide, ?_⟩⟩
    refine k d _ hd nda (by rw [upd_ne nda.symm]; exact upd_same) upd_same fun b hba hbd => ?_
    rw [upd_ne hbd, upd_ne hba, upd_ne hbd]
theorem sc_NoPlan : FnScope ["self", "what"] ["self", "what"] (defScope s_NoPlan_init) := ⟨rfl, rfl, rfl, by decide +kernel, rfl, by decide +kernel, by decide +kernel⟩
theorem ok_NoPlan {C fI D fD : Addr} {fdD : FuncData} (F : FnP K "__init__" "NoPlan.__init__" s_NoPlan_init f fd) (T : ErrC K C fI) (GD : FnOk P w K mg base CX0 1 fD fdD ["self", "what"] (spErr K C dayF (RepOk K))) (cD : KdEx.ClsFn K D fD "__init__") (bD : Binds K fdD ["self", "what"] []) (gD : mg "DayError" = some (.ref D)) :
    FnOk P w K mg base CX0 2 f fd ["self", "what"] (spErr K C (noF "NoPlan") (RepOk K)) := by
  refine F.ok sc_NoPlan (fun vs H Q E h => ?_) (fun cdv A outer s H vs Q E hr h => ?_)
  · obtain ⟨a, v, rfl, _⟩ := h
    rfl
  · obtain ⟨a, v, rfl, ha, hv, k⟩ := h
    refine ⟨_, PSs.nox (pss_cons (ps_expr (KdEx.pe_clsfn rfl gD cD GD hr bD .nil pass0 (pa_cons (pv 0) (pa_cons (pv 1) pa_nil)))) (pss_one (ps_ost (pv 0) pe_str))), ?_⟩
    refine ⟨_, rfl, _, rfl, a, v, rfl, ha, hv, fun d H' hd nda e1 e2 rest => ?_⟩
    refine ⟨_, rfl, a, C, rfl, T.o, T.nN, .inr ⟨d, _, e1, e2, by show 2 ≤ 900; decide, ?_⟩⟩
    refine k d _ hd nda (by rw [upd_ne nda.symm]; exact e1) upd_same fun b hba hbd => ?_
    rw [upd_ne hbd]
    exact rest b hba hbd
theorem sc_NoRow : FnScope ["self", "what"] ["self", "what"] (defScope s_NoRow_init) := ⟨rfl, rfl, rfl, by decide +kernel, rfl, by decide +kernel, by decide +kernel⟩
theorem ok_NoRow {C fI D fD : Addr} {fdD : FuncData} (F : FnP K "__init__" "NoRow.__init__" s_NoRow_init f fd) (T : ErrC K C fI) (GD : FnOk P w K mg base CX0 1 fD fdD ["self", "what"] (spErr K C dayF (RepOk K))) (cD : KdEx.ClsFn K D fD "__init__") (bD : Binds K fdD ["self", "what"] []) (gD : mg "DayError" = some (.ref D)) :
    FnOk P w K mg base CX0 2 f fd ["self", "what"] (spErr K C (noF "NoRow") (RepOk K)) := by
  refine F.ok sc_NoRow (fun vs H Q E h => ?_) (fun cdv A outer s H vs Q E hr h => ?_)
  · obtain ⟨a, v, rfl, _⟩ := h
    rfl
  · obtain ⟨a, v, rfl, ha, hv, k⟩ := h
    refine ⟨_, PSs.nox (pss_cons (ps_expr (KdEx.pe_clsfn rfl gD cD GD hr bD .nil pass0 (pa_cons (pv 0) (pa_cons (pv 1) pa_nil)))) (pss_one (ps_ost (pv 0) pe_str))), ?_⟩
    refine ⟨_, rfl, _, rfl, a, v, rfl, ha, hv, fun d H' hd nda e1 e2 rest => ?_⟩
    refine ⟨_, rfl, a, C, rfl, T.o, T.nN, .inr ⟨d, _, e1, e2, by show 2 ≤ 900; decide, ?_⟩⟩
    refine k d _ hd nda (by rw [upd_ne nda.symm]; exact e1) upd_same fun b hba hbd => ?_
    rw [upd_ne hbd]
    exact rest b hba hbd
theorem sc_NoFact : FnScope ["self", "what"] ["self", "what"] (defScope s_NoFact_init) := ⟨rfl, rfl, rfl, by decide +kernel, rfl, by decide +kernel, by decide +kernel⟩
theorem ok_NoFact {C fI D fD : Addr} {fdD : FuncData} (F : FnP K "__init__" "NoFact.__init__" s_NoFact_init f fd) (T : ErrC K C fI) (GD : FnOk P w K mg base CX0 1 fD fdD ["self", "what"] (spErr K C dayF (RepOk K))) (cD : KdEx.ClsFn K D fD "__init__") (bD : Binds K fdD ["self", "what"] []) (gD : mg "DayError" = some (.ref D)) :
    FnOk P w K mg base CX0 2 f fd ["self", "what"] (spErr K C (noF "NoFact") (RepOk K)) := by
  refine F.ok sc_NoFact (fun vs H Q E h => ?_) (fun cdv A outer s H vs Q E hr h => ?_)
  · obtain ⟨a, v, rfl, _⟩ := h
    rfl
  · obtain ⟨a, v, rfl, ha, hv, k⟩ := h
    refine ⟨_, PSs.nox (pss_cons (ps_expr (KdEx.pe_clsfn rfl gD cD GD hr bD .nil pass0 (pa_cons (pv 0) (pa_cons (pv 1) pa_nil)))) (pss_one (ps_ost (pv 0) pe_str))), ?_⟩
    refine ⟨_, rfl, _, rfl, a, v, rfl, ha, hv, fun d H' hd nda e1 e2 rest => ?_⟩
    refine ⟨_, rfl, a, C, rfl, T.o, T.nN, .inr ⟨d, _, e1, e2, by show 2 ≤ 900; decide, ?_⟩⟩
    refine k d _ hd nda (by rw [upd_ne nda.symm]; exact e1) upd_same fun b hba hbd => ?_
    rw [upd_ne hbd]
    exact rest b hba hbd
theorem sc_NoThing : FnScope ["self", "what"] ["self", "what"] (defScope s_NoThing_init) := ⟨rfl, rfl, rfl, by decide +kernel, rfl, by decide +kernel, by decide +kernel⟩
theorem ok_NoThing {C fI D fD : Addr} {fdD : FuncData} (F : FnP K "__init__" "NoThing.__init__" s_NoThing_init f fd) (T : ErrC K C fI) (GD : FnOk P w K mg base CX0 1 fD fdD ["self", "what"] (spErr K C dayF (RepOk K))) (cD : KdEx.ClsFn K D fD "__init__") (bD : Binds K fdD ["self", "what"] []) (gD : mg "DayError" = some (.ref D)) :
    FnOk P w K mg base CX0 2 f fd ["self", "what"] (spErr K C (noF "NoThing") (RepOk K)) := by
  refine F.ok sc_NoThing (fun vs H Q E h => ?_) (fun cdv A outer s H vs Q E hr h => ?_)
  · obtain ⟨a, v, rfl, _⟩ := h
    rfl
  · obtain ⟨a, v, rfl, ha, hv, k⟩ := h
    refine ⟨_, PSs.nox (pss_cons (ps_expr (KdEx.pe_clsfn rfl gD cD GD hr bD .nil pass0 (pa_cons (pv 0) (pa_cons (pv 1) pa_nil)))) (pss_one (ps_ost (pv 0) pe_str))), ?_⟩
    refine ⟨_, rfl, _, rfl, a, v, rfl, ha, hv, fun d H' hd nda e1 e2 rest => ?_⟩
    refine ⟨_, rfl, a, C, rfl, T.o, T.nN, .inr ⟨d, _, e1, e2, by show 2 ≤ 900; decide, ?_⟩⟩
    refine k d _ hd nda (by rw [upd_ne nda.symm]; exact e1) upd_same fun b hba hbd => ?_
    rw [upd_ne hbd]
    exact rest b hba hbd
theorem sc_Twice : FnScope ["self", "what"] ["self", "what"] (defScope s_Twice_init) := ⟨rfl, rfl, rfl, by decide +kernel, rfl, by decide +kernel, by decide +kernel⟩
theorem ok_Twice {C fI D fD : Addr} {fdD : FuncData} (F : FnP K "__init__" "Twice.__init__" s_Twice_init f fd) (T : ErrC K C fI) (GD : FnOk P w K mg base CX0 1 fD fdD ["self", "what"] (spErr K C dayF (RepOk K))) (cD : KdEx.ClsFn K D fD "__init__") (bD : Binds K fdD ["self", "what"] []) (gD : mg "DayError" = some (.ref D)) :
    FnOk P w K mg base CX0 2 f fd ["self", "what"] (spErr K C (noF "Twice") (RepOk K)) := by
  refine F.ok sc_Twice (fun vs H Q E h => ?_) (fun cdv A outer s H vs Q E hr h => ?_)
  · obtain ⟨a, v, rfl, _⟩ := h
    rfl
  · obtain ⟨a, v, rfl, ha, hv, k⟩ := h
    refine ⟨_, PSs.nox (pss_cons (ps_expr (KdEx.pe_clsfn rfl gD cD GD hr bD .nil pass0 (pa_cons (pv 0) (pa_cons (pv 1) pa_nil)))) (pss_one (ps_ost (pv 0) pe_str))), ?_⟩
    refine ⟨_, rfl, _, rfl, a, v, rfl, ha, hv, fun d H' hd nda e1 e2 rest => ?_⟩
    refine ⟨_, rfl, a, C, rfl, T.o, T.nN, .inr ⟨d, _, e1, e2, by show 2 ≤ 900; decide, ?_⟩⟩
    refine k d _ hd nda (by rw [upd_ne nda.symm]; exact e1) upd_same fun b hba hbd => ?_
    rw [upd_ne hbd]
    exact rest b hba hbd
theorem sc_NoGroup : FnScope ["self", "what"] ["self", "what"] (defScope s_NoGroup_init) := ⟨rfl, rfl, rfl, by decide +kernel, rfl, by decide +kernel, by decide +kernel⟩
theorem ok_NoGroup {C fI D fD : Addr} {fdD : FuncData} (F : FnP K "__init__" "NoGroup.__init__" s_NoGroup_init f fd) (T : ErrC K C fI) (GD : FnOk P w K mg base CX0 1 fD fdD ["self", "what"] (spErr K C dayF (RepOk K))) (cD : KdEx.ClsFn K D fD "__init__") (bD : Binds K fdD ["self", "what"] []) (gD : mg "DayError" = some (.ref D)) :
    FnOk P w K mg base CX0 2 f fd ["self", "what"] (spErr K C (noF "NoGroup") (RepOk K)) := by
  refine F.ok sc_NoGroup (fun vs H Q E h => ?_) (fun cdv A outer s H vs Q E hr h => ?_)
  · obtain ⟨a, v, rfl, _⟩ := h
    rfl
  · obtain ⟨a, v, rfl, ha, hv, k⟩ := h
    refine ⟨_, PSs.nox (pss_cons (ps_expr (KdEx.pe_clsfn rfl gD cD GD hr bD .nil pass0 (pa_cons (pv 0) (pa_cons (pv 1) pa_nil)))) (pss_one (ps_ost (pv 0) pe_str))), ?_⟩
    refine ⟨_, rfl, _, rfl, a, v, rfl, ha, hv, fun d H' hd nda e1 e2 rest => ?_⟩
    refine ⟨_, rfl, a, C, rfl, T.o, T.nN, .inr ⟨d, _, e1, e2, by show 2 ≤ 900; decide, ?_⟩⟩
    refine k d _ hd nda (by rw [upd_ne nda.symm]; exact e1) upd_same fun b hba hbd => ?_
    rw [upd_ne hbd]
    exact rest b hba hbd
theorem sc_NoMeasure : FnScope ["self", "what"] ["self", "what"] (defScope s_NoMeasure_init) := ⟨rfl, rfl, rfl, by decide +kernel, rfl, by decide +kernel, by decide +kernel⟩
theorem ok_NoMeasure {C fI D fD : Addr} {fdD : FuncData} (F : FnP K "__init__" "NoMeasure.__init__" s_NoMeasure_init f fd) (T : ErrC K C fI) (GD : FnOk P w K mg base CX0 1 fD fdD ["self", "what"] (spErr K C dayF (RepOk K))) (cD : KdEx.ClsFn K D fD "__init__") (bD : Binds K fdD ["self", "what"] []) (gD : mg "DayError" = some (.ref D)) :
    FnOk P w K mg base CX0 2 f fd ["self", "what"] (spErr K C (noF "NoMeasure") (RepOk K)) := by
  refine F.ok sc_NoMeasure (fun vs H Q E h => ?_) (fun cdv A outer s H vs Q E hr h => ?_)
  · obtain ⟨a, v, rfl, _⟩ := h
    rfl
  · obtain ⟨a, v, rfl, ha, hv, k⟩ := h
    refine ⟨_, PSs.nox (pss_cons (ps_expr (KdEx.pe_clsfn rfl gD cD GD hr bD .nil pass0 (pa_cons (pv 0) (pa_cons (pv 1) pa_nil)))) (pss_one (ps_ost (pv 0) pe_str))), ?_⟩
    refine ⟨_, rfl, _, rfl, a, v, rfl, ha, hv, fun d H' hd nda e1 e2 rest => ?_⟩
    refine ⟨_, rfl, a, C, rfl, T.o, T.nN, .inr ⟨d, _, e1, e2, by show 2 ≤ 900; decide, ?_⟩⟩
    refine k d _ hd nda (by rw [upd_ne nda.symm]; exact e1) upd_same fun b hba hbd => ?_
    rw [upd_ne hbd]
    exact rest b hba hbd
theorem sc_NoWatch : FnScope ["self", "what"] ["self", "what"] (defScope s_NoWatch_init) := ⟨rfl, rfl, rfl, by decide +kernel, rfl, by decide +kernel, by decide +kernel⟩
theorem ok_NoWatch {C fI D fD : Addr} {fdD : FuncData} (F : FnP K "__init__" "NoWatch.__init__" s_NoWatch_init f fd) (T : ErrC K C fI) (GD : FnOk P w K mg base CX0 1 fD fdD ["self", "what"] (spErr K C dayF (RepOk K))) (cD : KdEx.ClsFn K D fD "__init__") (bD : Binds K fdD ["self", "what"] []) (gD : mg "DayError" = some (.ref D)) :
    FnOk P w K mg base CX0 2 f fd ["self", "what"] (spErr K C (noF "NoWatch") (RepOk K)) := by
  refine F.ok sc_NoWatch (fun vs H Q E h => ?_) (fun cdv A outer s H vs Q E hr h => ?_)
  · obtain ⟨a, v, rfl, _⟩ := h
    rfl
  · obtain ⟨a, v, rfl, ha, hv, k⟩ := h
    refine ⟨_, PSs.nox (pss_cons (ps_expr (KdEx.pe_clsfn rfl gD cD GD hr bD .nil pass0 (pa_cons (pv 0) (pa_cons (pv 1) pa_nil)))) (pss_one (ps_ost (pv 0) pe_str))), ?_⟩
    refine ⟨_, rfl, _, rfl, a, v, rfl, ha, hv, fun d H' hd nda e1 e2 rest => ?_⟩
    refine ⟨_, rfl, a, C, rfl, T.o, T.nN, .inr ⟨d, _, e1, e2, by show 2 ≤ 900; decide, ?_⟩⟩
    refine k d _ hd nda (by rw [upd_ne nda.symm]; exact e1) upd_same fun b hba hbd => ?_
    rw [upd_ne hbd]
    exact rest b hba hbd
theorem sc_NoTime : FnScope ["self", "what"] ["self", "what"] (defScope s_NoTime_init) := ⟨rfl, rfl, rfl, by decide +kernel, rfl, by decide +kernel, by decide +kernel⟩
theorem ok_NoTime {C fI D fD : Addr} {fdD : FuncData} (F : FnP K "__init__" "NoTime.__init__" s_NoTime_init f fd) (T : ErrC K C fI) (GD : FnOk P w K mg base CX0 1 fD fdD ["self", "what"] (spErr K C dayF (RepOk K))) (cD : KdEx.ClsFn K D fD "__init__") (bD : Binds K fdD ["self", "what"] []) (gD : mg "DayError" = some (.ref D)) :
    FnOk P w K mg base CX0 2 f fd ["self", "what"] (spErr K C (noF "NoTime") (RepOk K)) := by
  refine F.ok sc_NoTime (fun vs H Q E h => ?_) (fun cdv A outer s H vs Q E hr h => ?_)
  · obtain ⟨a, v, rfl, _⟩ := h
    rfl
  · obtain ⟨a, v, rfl, ha, hv, k⟩ := h
    refine ⟨_, PSs.nox (pss_cons (ps_expr (KdEx.pe_clsfn rfl gD cD GD hr bD .nil pass0 (pa_cons (pv 0) (pa_cons (pv 1) pa_nil)))) (pss_one (ps_ost (pv 0) pe_str))), ?_⟩
    refine ⟨_, rfl, _, rfl, a, v, rfl, ha, hv, fun d H' hd nda e1 e2 rest => ?_⟩
    refine ⟨_, rfl, a, C, rfl, T.o, T.nN, .inr ⟨d, _, e1, e2, by show 2 ≤ 900; decide, ?_⟩⟩
    refine k d _ hd nda (by rw [upd_ne nda.symm]; exact e1) upd_same fun b hba hbd => ?_
    rw [upd_ne hbd]
    exact rest b hba hbd
theorem sc_NoText : FnScope ["self", "what"] ["self", "what"] (defScope s_NoText_init) := ⟨rfl, rfl, rfl, by decide +kernel, rfl, by decide +kernel, by decide +kernel⟩
theorem ok_NoText {C fI D fD : Addr} {fdD : FuncData} (F : FnP K "__init__" "NoText.__init__" s_NoText_init f fd) (T : ErrC K C fI) (GD : FnOk P w K mg base CX0 1 fD fdD ["self", "what"] (spErr K C dayF (RepOk K))) (cD : KdEx.ClsFn K D fD "__init__") (bD : Binds K fdD ["self", "what"] []) (gD : mg "DayError" = some (.ref D)) :
    FnOk P w K mg base CX0 2 f fd ["self", "what"] (spErr K C (noF "NoText") (RepOk K)) := by
  refine F.ok sc_NoText (fun vs H Q E h => ?_) (fun cdv A outer s H vs Q E hr h => ?_)
  · obtain ⟨a, v, rfl, _⟩ := h
    rfl
  · obtain ⟨a, v, rfl, ha, hv, k⟩ := h
    refine ⟨_, PSs.nox (pss_cons (ps_expr (KdEx.pe_clsfn rfl gD cD GD hr bD .nil pass0 (pa_cons (pv 0) (pa_cons (pv 1) pa_nil)))) (pss_one (ps_ost (pv 0) pe_str))), ?_⟩
    refine ⟨_, rfl, _, rfl, a, v, rfl, ha, hv, fun d H' hd nda e1 e2 rest => ?_⟩
    refine ⟨_, rfl, a, C, rfl, T.o, T.nN, .inr ⟨d, _, e1, e2, by show 2 ≤ 900; decide, ?_⟩⟩
    refine k d _ hd nda (by rw [upd_ne nda.symm]; exact e1) upd_same fun b hba hbd => ?_
    rw [upd_ne hbd]
    exact rest b hba hbd
theorem sc_NoDeskRow : FnScope ["self", "what"] ["self", "what"] (defScope s_NoDeskRow_init) := ⟨rfl, rfl, rfl, by decide +kernel, rfl, by decide +kernel, by decide +kernel⟩
theorem ok_NoDeskRow {C fI D fD : Addr} {fdD : FuncData} (F : FnP K "__init__" "NoDeskRow.__init__" s_NoDeskRow_init f fd) (T : ErrC K C fI) (GD : FnOk P w K mg base CX0 1 fD fdD ["self", "what"] (spErr K C dayF (RepOk K))) (cD : KdEx.ClsFn K D fD "__init__") (bD : Binds K fdD ["self", "what"] []) (gD : mg "DayError" = some (.ref D)) :
    FnOk P w K mg base CX0 2 f fd ["self", "what"] (spErr K C (noF "NoDeskRow") (RepOk K)) := by
  refine F.ok sc_NoDeskRow (fun vs H Q E h => ?_) (fun cdv A outer s H vs Q E hr h => ?_)
  · obtain ⟨a, v, rfl, _⟩ := h
    rfl
  · obtain ⟨a, v, rfl, ha, hv, k⟩ := h
    refine ⟨_, PSs.nox (pss_cons (ps_expr (KdEx.pe_clsfn rfl gD cD GD hr bD .nil pass0 (pa_cons (pv 0) (pa_cons (pv 1) pa_nil)))) (pss_one (ps_ost (pv 0) pe_str))), ?_⟩
    refine ⟨_, rfl, _, rfl, a, v, rfl, ha, hv, fun d H' hd nda e1 e2 rest => ?_⟩
    refine ⟨_, rfl, a, C, rfl, T.o, T.nN, .inr ⟨d, _, e1, e2, by show 2 ≤ 900; decide, ?_⟩⟩
    refine k d _ hd nda (by rw [upd_ne nda.symm]; exact e1) upd_same fun b hba hbd => ?_
    rw [upd_ne hbd]
    exact rest b hba hbd
end
end Kd

namespace Kd
open PySem PySem.Spec PyProof.Rows L2 KdXc
/-- a def that lets nothing out keeps its promise among those that may -/
theorem fn_calm {P : Program} {w : World} {K : PySem.W.Frag} {mg : Str → Option Value} {base : Heap} {k : Nat} {f : Addr} {fd : FuncData} {ps : List Str} {sp : Sp} (G : FnOk P w K mg base CX0 k f fd ps sp) : FnOk P w K mg base (L2.CX P w) k f fd ps sp :=
  ⟨G.len, fun A outer s H args us vs Q E hr he hb hv hs => codeAny_mono (G.run A outer s H args us vs Q E hr he hb hv hs) fun r s' z => by
    cases r with
    | error e => exact False.elim z
    | ok fl => cases fl <;> exact z⟩
/-- two promises of one def -/
theorem fn_or {P : Program} {w : World} {K : PySem.W.Frag} {mg : Str → Option Value} {base : Heap} {CX : CXT} {k : Nat} {f : Addr} {fd : FuncData} {ps : List Str} {sp sp' : Sp} (G : FnOk P w K mg base CX k f fd ps sp) (G' : FnOk P w K mg base CX k f fd ps sp') : FnOk P w K mg base CX k f fd ps (fun vs H Q E => sp vs H Q E ∨ sp' vs H Q E) :=
  ⟨fun vs H Q E h => h.elim (G.len vs H Q E) (G'.len vs H Q E), fun A outer s H args us vs Q E hr he hb hv hs => hs.elim (fun z => G.run A outer s H args us vs Q E hr he hb hv z) (fun z => G'.run A outer s H args us vs Q E hr he hb hv z)⟩
section
variable {P : Program} {w : World} {K : PySem.W.Frag} {mg : Str → Option Value} {base : Heap} {f : Addr} {fd : FuncData}
theorem ff_cases (ds : List (Str × List (Str × Str))) (ms : List Str) : ffV ds ms = .non ∨ ∃ z : Str, ffV ds ms = .str z ∧ KdEx.Flat1 (.str z) := by
  have w1 : KdEx.Flat1 (.str "dimensions") := ⟨by decide +kernel, by decide +kernel⟩
  have w2 : KdEx.Flat1 (.str "attributes") := ⟨by decide +kernel, by decide +kernel⟩
  have w3 : KdEx.Flat1 (.str "measures") := ⟨by decide +kernel, by decide +kernel⟩
  unfold ffV
  by_cases c1 : (ds.isEmpty || fltB (ds.map (·.1)) 4) = true
  · rw [if_pos c1]
    exact .inr ⟨_, rfl, w1⟩
  · rw [if_neg c1]
    by_cases c2 : ds.any (fun d => fltB (d.2.map (·.1)) 5) = true
    · rw [if_pos c2]
      exact .inr ⟨_, rfl, w2⟩
    · rw [if_neg c2]
      by_cases c3 : fltB ms 4 = true
      · rw [if_pos c3]
        exact .inr ⟨_, rfl, w3⟩
      · rw [if_neg c3]
        exact .inl rfl
/-- a class of refusals, and how one is made -/
structure ErrM (P : Program) (w : World) (K : PySem.W.Frag) (mg : Str → Option Value) (base : Heap) (x : Str) (C fI : Addr) (fdI : FuncData) : Prop where
  T : ErrC K C fI
  G : FnOk P w K mg base CX0 2 fI fdI ["self", "what"] (spErr K C (noF x) (RepOk K))
  b : Binds K fdI ["self", "what"] []
  g : mg x = some (.ref C)
/-! ### Plan.__init__ of faulty lists -/
def spFail (K : PySem.W.Frag) (N : Addr) : Sp := fun vs H _ E => ∃ (x l m : Addr) (ds : List (Str × List (Str × Str))) (ms : List Str) (z : Str), vs = [.ref x, .ref l, .ref m] ∧ DimsAt K H l ds ∧ Txs K H m ms ∧ Szd ds ms ∧ ffV ds ms = .str z ∧
  ∀ H1 d, Same H H1 → H1 d = none → E (.ref N) (some d) (upd H1 d (.xd (noF "NoPlan" (.str z))))
theorem ok_fail {fF N fN : Addr} {fdF fdN : FuncData} {dvs : List V} (F : FunD K "__init__" "Plan.__init__" (defArgs s_Plan_init) (defBody s_Plan_init) (defScope s_Plan_init) dvs [] f fd) (GF : FnOk P w K mg base CX0 4 fF fdF ["dimensions", "measures"] (spFirst K)) (kF : PySem.W.keepIn K (.ref fF) = true) (bF : Binds K fdF ["dimensions", "measures"] []) (gF : mg "first_fault" = some (.ref fF))
    (M : ErrM P w K mg base "NoPlan" N fN fdN) : FnOk P w K mg base (L2.CX P w) 5 f fd ["self", "dimensions", "measures"] (spFail K N) := by
  refine F.ok sc_init (fun vs H Q E h => ?_) (fun cdv A outer s H vs Q E hr h => ?_)
  · obtain ⟨x, l, m, ds, ms, z, rfl, _⟩ := h
    rfl
  · obtain ⟨x, l, m, ds, ms, z, rfl, hl, hm, sz, ev, k⟩ := h
    have nd := sc_init.nd
    refine ⟨_, pss_cons (ps_set (i := 3) nd rfl (Or.inl rfl) (pe_call GF hr rfl gF kF bF .nil pass0 (pa_cons (pv 1) (pa_cons (pv 2) pa_nil))))
      (pss_cons (ps_if (pt_cmp (pc_notN (pv 3))) (pss_one (ps_raise rfl (takes_of rfl rfl rfl rfl) (pmk_err M.T M.G (hr.mono (by decide)) M.b rfl M.g (pv 3)))) pss_nil)
      (pss_cons ps_never (pss_one ps_never))), ?_⟩
    refine ⟨_, rfl, _, rfl, l, m, ds, ms, rfl, hl, hm, sz, fun H1 s1 => ?_⟩
    rw [ev]
    refine ⟨_, rfl, _, rfl, iteT ?_⟩
    refine ⟨_, rfl, err_ok (fun a ha => .inl ⟨z, rfl, ?_⟩) fun d hd => k H1 d s1 hd⟩
    rcases ff_cases ds ms with e | ⟨y, e, hy⟩
    · rw [ev] at e
      cases e
    · rw [ev] at e
      cases e
      exact hy
def spInitX (K : PySem.W.Frag) (C N : Addr) : Sp := fun vs H Q E => spInit K C vs H Q E ∨ spFail K N vs H Q E
theorem ok_initX {C N : Addr} (G : FnOk P w K mg base CX0 5 f fd ["self", "dimensions", "measures"] (spInit K C)) (G' : FnOk P w K mg base (L2.CX P w) 5 f fd ["self", "dimensions", "measures"] (spFail K N)) : FnOk P w K mg base (L2.CX P w) 5 f fd ["self", "dimensions", "measures"] (spInitX K C N) := fn_or (fn_calm G) G'
end
end Kd

namespace Kd
open PySem PySem.Spec PyProof.Rows L2 KdXc
section
variable {P : Program} {w : World} {K : PySem.W.Frag} {mg : Str → Option Value} {base : Heap} {f : Addr} {fd : FuncData}
/-! ### read_rows, of any text -/
def spReadRX (K : PySem.W.Frag) (C N : Addr) : Sp := fun vs H Q E => ∃ (x : Addr) (t : Str) (ds : List Dm) (ms : List Str), vs = [.ref x, .str t] ∧ PlanAt K C H x ds ms ∧ Good ds ms ∧ KdEx.Flat1 (.str t) ∧
  (∀ rs, RowsOf ds ms t rs → ∀ l xs H', Same H H' → H l = none → H' l = some (.lst xs) → Paired (RwAt K H') xs rs → Q (.ref l) H') ∧
  ((∀ rs, ¬ RowsOf ds ms t rs) → ∀ d H', Same H H' → H d = none → H' d = some (.xd (noF "NoText" (.str t))) → E (.ref N) (some d) H')
abbrev N_read_rows : List Str := ["plan", "text", "part", "rows"]
theorem sc_read_rows : FnScope N_read_rows ["plan", "text"] (defScope s_read_rows) := ⟨rfl, rfl, rfl, by decide +kernel, rfl, by decide +kernel, by decide +kernel⟩
/-! slots: 0 plan 1 text 2 part 3 rows; cells: plan -/
set_option maxHeartbeats 0 in
theorem ok_readRX {C fR N fN : Addr} {fdR fdN : FuncData} (F : FnP K "read_rows" "read_rows" s_read_rows f fd) (c_read_row : Fun P w K mg base "read_row" 5 ["plan", "words"] (spReadR K C) fR fdR) (M : ErrM P w K mg base "NoText" N fN fdN) : FnOk P w K mg base (L2.CX P w) 6 f fd ["plan", "text"] (spReadRX K C N) := by
  refine F.ok sc_read_rows (fun vs H Q E h => ?_) (fun cdv A outer s H vs Q E hr h => ?_)
  · obtain ⟨x, t, ds, ms, rfl, _⟩ := h
    rfl
  · obtain ⟨x, t, ds, ms, rfl, hp, ok, fl, k1, k2⟩ := h
    have nd := sc_read_rows.nd
    have tl : t.length ≤ 4000 := fl.2
    refine ⟨_, (pss_cons (ps_if (pt_cmpR op_eq (pv 1) pe_str (nomark _))
        (pss_one (ps_ret (pe_lst pa_nil)))
        pss_nil)
      (pss_cons (ps_setLc (i := 3) (own := [("part", 2)]) (g := gName 2) (tt := tYes) (te := tCall ((spReadR K C)) [] E0 (tCons (tVar 0) (tCons (tM1 rSplit (tVar 2) (tC (.str " "))) tNil))) rfl nd rfl rfl (sw_true rfl rfl rfl (by decide +kernel)) (pi_list (pe_split (pv 1) pe_str)) (blkOk_by (own := [("part", 2)]) (N := N_read_rows) (sc := defScope s_read_rows) (by decide +kernel))
        (fun _ _ _ _ _ => pg_name (i := 2) nd rfl (Or.inl rfl)) (fun _ _ _ _ _ => pts_nil) (fun _ _ _ _ _ => pe_call c_read_row.G (hr.mono (by decide)) rfl c_read_row.g c_read_row.k c_read_row.b .nil pass0 (pa_cons (pv 0) (pa_cons (pe_split (pv 2) pe_str) pa_nil))))
      (pss_cons (ps_if (pt_cmpR (op_inD (u65 hr)) pe_non (pv 3) (by rfl))
        (pss_one (ps_raise rfl (takes_of rfl rfl rfl rfl) (pmk_err M.T M.G (hr.mono (by decide)) M.b rfl M.g (pv 1))))
        pss_nil)
      (pss_one (ps_ret (pv 3)))))), ?_⟩
    have hgf : ∀ r : Rw, r.good ds ms → r.fine := fun r hr => Rw.good.fine ok hr
    refine ⟨_, rfl, rfl, _, rfl, ?_⟩
    by_cases c : t = "-"
    · rw [decide_eq_true (congrArg V.str c)]
      exact iteT ⟨by show 0 ≤ sizeLine; decide, fun l nl => k1 [] (by rw [c]; exact minus_rows) l [] _ (same_new nl) nl upd_same .nil⟩
    rw [decide_eq_false (fun z => c (by injection z))]
    refine iteF ?_
    refine ⟨_, rfl, ⟨_, rfl⟩, _, _, rfl, rfl, by decide +kernel, le_big (by omega), fun ps nps => ?_⟩
    generalize e1 : upd H ps _ = H1
    have N1 : NewO H H1 ps (.lst ((Txt.split t "; ").map V.str)) := ⟨by rw [← e1]; exact upd_same, by rw [← e1]; exact same_new nps⟩
    have hm := split_many (x := t) (y := "; ") (by decide +kernel)
    have hpl : ∀ p ∈ Txt.split t "; ", p.length ≤ t.length := fun p hp => part_len (by decide +kernel) hp
    have hrl : (Txt.split t "; ").length ≤ 2001 := by
      have h1 := congrArg Str.length (join_of_split t "; ")
      have h2 := split_weight t "; " (by decide +kernel)
      rw [TL.join_eq] at h1
      cases hs : Txt.split t "; " with
      | nil => exact Nat.zero_le _
      | cons q qs =>
        rw [hs, len_join_cons, show ("; " : Str).length = 2 by decide +kernel] at h1
        rw [List.length_cons]
        omega
    have pn := parts_none (t := t) hgf c
    have psm : ∀ rs, partsR ds ms t = rs.map some → RowsOf ds ms t rs := fun rs => parts_some
    unfold partsR at pn psm
    generalize Txt.split t "; " = parts at N1 hpl hrl pn psm ⊢
    refine ⟨ps, rfl, ⟨_, SqL.of N1.f⟩, fun D hD => lc_build (walk_list (K := K) (a := ps)) hD (fun i ys R => Same H1 R ∧ Paired (RowV K R) ys ((parts.take i).map fun p => readR ds ms (Txt.split p " "))) ⟨Same.refl _, .nil⟩ (fun _ _ _ _ z => SqL.of ((z.1.trans cd_sub) _ _ N1.f)) ?_ ?_⟩
    · rintro i ys y H2 H2' hi e2 ly ⟨s2, hys⟩ ⟨rfl, hy⟩
      rw [List.length_map] at hi
      obtain ⟨p, rfl, hpi⟩ := map_atF hy
      have hp4 := hpl p (List.mem_of_getElem? hpi)
      refine ⟨rfl, yes ⟨_, rfl, _, rfl, ⟨_, rfl⟩, _, _, rfl, rfl, by decide +kernel, le_big (by omega), fun pw npw => ?_⟩⟩
      generalize e3 : upd H2' pw _ = H3
      have N3 := newO npw e3
      have s12 : Same H1 H2' := s2.trans cd_sub
      refine ⟨x, pw, Txt.split p " ", ds, ms, rfl, hp.same ((N1.s.trans s12).trans N3.s), SqL.of N3.f, ⟨split_ne blank_ok.1 blank_ok.2, ok.du, fun z hz => ?_, ?_⟩, fun v H4 s4 hv => ?_⟩
      · have := part_len (by decide +kernel) hz
        omega
      · have := split_many (x := p) (y := " ") (by decide +kernel)
        omega
      · have e4 := s4 _ _ (N3.s _ _ e2)
        have s24 : Same (cd D H2') (cd D H4) := cd_same (N3.s.trans s4)
        refine LcNx.add e4 ly (by omega) ⟨s2.trans s24, ?_⟩
        rw [← take_snocF (f := fun p => readR ds ms (Txt.split p " ")) hpi]
        exact PySem.Paired.snoc (PySem.Paired.mono (fun _ _ => RowV.same s24) hys) (rowV_cdl e4 hv)
    · rintro ys H2 e2 ly ⟨s2, hys⟩
      rw [take_all] at hys
      have hys2 : Paired (RowV K H2) ys (parts.map fun p => readR ds ms (Txt.split p " ")) := PySem.Paired.mono (fun _ _ => RowV.same cd_sub) hys
      have s02 : Same H H2 := N1.s.trans (s2.trans cd_sub)
      have hro : ∀ r, some r ∈ (parts.map fun p => readR ds ms (Txt.split p " ")) → r.ok := fun r hr => by
        obtain ⟨p, _, e⟩ := List.mem_map.mp hr
        exact (hgf r (readR_iff.mp e).1).ok
      refine set_st (σ' := [some (.ref x), some (.str t), none, some (.ref D)]) rfl ?_
      refine ⟨_, rfl, .none, _, .non, .lst (SqL.of e2) (rowVs_dp hys2), by decide +kernel, ros_shaped hro, _, rfl, ?_⟩
      rw [ros_none]
      cases cn : (parts.map fun p => readR ds ms (Txt.split p " ")).any Option.isNone with
      | true =>
        refine iteT ⟨_, rfl, err_ok (fun a ha => .inl ⟨t, rfl, fl⟩) fun d hd => ?_⟩
        exact k2 (pn cn) d _ (s02.trans (same_new hd)) (s02.free hd) upd_same
      | false =>
        obtain ⟨rs, hrs⟩ := some_all cn
        rw [hrs] at hys2
        exact iteF ⟨_, rfl, k1 rs (psm rs hrs) D ys H2 s02 (N1.s.free hD) e2 (rowVs_some hys2)⟩
end
end Kd

namespace Kd
open PySem PySem.Spec PyProof.Rows L2
theorem cut14 {K : PySem.W.Frag} {H : Hp} {p : Addr} {xs : List V} {Q : VK} (h : SqT K H p xs) (hl : 2 ≤ xs.length) (k : ∀ q, H q = none → Q (.ref q) (upd H q (.tup ((xs.drop 1).take 3)))) : rSlA K (.ref p) (some 1) (some 4) H Q := by
  refine ⟨p, xs, rfl, h, fun z => ?_, fun _ q nq => ?_⟩
  · have e : HT.sIx xs.length 0 (some ((1 : Nat) : Int)) = min 1 xs.length := HT.sIx_nat _ _ _
    have e2 : HT.sIx xs.length 0 (some 1) = min 1 xs.length := e
    have := z.1
    omega
  · have e : cutV xs (some 1) (some 4) = (xs.drop 1).take 3 := cutMid xs 1 4
    rw [e]
    exact k q nq
section
variable {P : Program} {w : World} {K : PySem.W.Frag} {mg : Str → Option Value} {base : Heap} {f : Addr} {fd : FuncData}
def spShowV : Sp := fun vs H Q _ => ∃ v : Fv, vs = [v.v] ∧ v.good ∧ Q (.str (valT v)) H
def spRowsT (K : PySem.W.Frag) : Sp := fun vs H Q _ => ∃ (l : Addr) (rs : List Rw), vs = [.ref l] ∧ RwsAt K H l rs ∧ (∀ r ∈ rs, r.fine) ∧ rs.length ≤ 200 ∧ ∀ H', Same H H' → Q (.str (rowsT rs)) H'
end
end Kd

namespace Kd
open PySem PySem.Spec PyProof.Rows L2
section
variable {P : Program} {w : World} {K : PySem.W.Frag} {mg : Str → Option Value} {base : Heap} {f : Addr} {fd : FuncData}
/-! ### _law_value_shown -/
abbrev N_l_value_shown : List Str := ["value"]
theorem sc_l_value_shown : FnScope N_l_value_shown ["value"] (defScope s_l_value_shown) := ⟨rfl, rfl, rfl, by decide +kernel, rfl, by decide +kernel, by decide +kernel⟩
/-! slots: 0 value; cells:  -/
theorem ok_lvs (F : FnP K "_law_value_shown" "_law_value_shown" s_l_value_shown f fd) (z_isinstance : mg "isinstance" = none) (z_str : mg "str" = none) (z_int : mg "int" = none) : FnOk P w K mg base CX0 1 f fd ["value"] spShowV := by
  refine F.ok sc_l_value_shown (fun vs H Q E h => ?_) (fun cdv A outer s H vs Q E hr h => ?_)
  · obtain ⟨v, rfl, _⟩ := h
    rfl
  · obtain ⟨v, rfl, hv, k⟩ := h
    have nd := sc_l_value_shown.nd
    refine ⟨_, PSs.nox (pss_one (ps_ret (pe_ifExp (pt_val (pe_callB call_isi (by rfl) z_isinstance (by decide +kernel) (pa_cons (pv 0) (pa_cons (pe_bltn (v := .ty "int") (by rfl) z_int (by decide +kernel) rfl) pa_nil)))) (pe_callTy (KdSt.cr_strA (u64 hr)) (by rfl) z_str (by decide +kernel) (pa_cons (pv 0) pa_nil)) (pe_op op_add_str (pe_op op_add_str pe_str (pv 0)) pe_str)))), ?_⟩
    cases v with
    | i z =>
      refine ⟨_, rfl, _, _, _, _, _, rfl, ClsV.ty _, .base (.int _), kit_ty (r := true) (by decide +kernel), _, rfl, iteT ?_⟩
      exact ⟨_, rfl, .inl ⟨z, rfl, wh_log hv, k⟩⟩
    | s z =>
      have hz : Ky z := hv
      have hl := hz.le
      have a1 := len_apo
      refine ⟨_, rfl, _, _, _, _, _, rfl, ClsV.ty _, .base (.str _), kit_ty (r := false) (by decide +kernel), _, rfl, iteF ?_⟩
      refine ⟨_, rfl, _, _, rfl, rfl, le_line (by omega), _, _, rfl, rfl, le_line (by rw [len_append]; omega), k⟩
/-! ### _law_row_shown -/
def spRowT (K : PySem.W.Frag) : Sp := fun vs H Q _ => ∃ (p : Addr) (r : Rw), vs = [.ref p] ∧ r.at K H p ∧ r.fine ∧ ∀ H', Same H H' → Q (.str (rwT r)) H'
abbrev N_l_row_shown : List Str := ["line", "part", "words", "value", "number"]
theorem sc_l_row_shown : FnScope N_l_row_shown ["line"] (defScope s_l_row_shown) := ⟨rfl, rfl, rfl, by decide +kernel, rfl, by decide +kernel, by decide +kernel⟩
/-! slots: 0 line 1 part 2 words 3 value 4 number; cells:  -/
theorem ok_lrs {fV : Addr} {fdV : FuncData} (F : FnP K "_law_row_shown" "_law_row_shown" s_l_row_shown f fd) (c_value_shown : Fun P w K mg base "_law_value_shown" 1 ["value"] spShowV fV fdV) (z_str : mg "str" = none) (z_list : mg "list" = none) : FnOk P w K mg base CX0 2 f fd ["line"] (spRowT K) := by
  refine F.ok sc_l_row_shown (fun vs H Q E h => ?_) (fun cdv A outer s H vs Q E hr h => ?_)
  · obtain ⟨p, r, rfl, _⟩ := h
    rfl
  · obtain ⟨p, r, rfl, hp, hf, k⟩ := h
    have nd := sc_l_row_shown.nd
    refine ⟨_, PSs.nox (pss_cons (ps_set (i := 2) nd rfl (Or.inl rfl) (pe_op op_cat (pe_lst (pa_cons (pe_ix ix_tup (pv 0) pe_int (fun _ _ => rfl)) pa_nil)) (pe_lc (own := [("part", 1)]) (g := gName 1) (tt := tYes) (te := tCB (KdSt.rStrA K) (tCons (tVar 1) tNil)) rfl nd (pi_tup (pe_slice sl_tupA (pv 0) (po_some pe_int) (po_some pe_int))) (blkOk_by (own := [("part", 1)]) (N := N_l_row_shown) (sc := defScope s_l_row_shown) (by decide +kernel))
        (fun _ _ _ _ _ => pg_name (i := 1) nd rfl (Or.inl rfl)) (fun _ _ _ _ _ => pts_nil) (fun _ _ _ _ _ => pe_callTy (KdSt.cr_strA (u64 hr)) (by rfl) z_str (by decide +kernel) (pa_cons (pv 1) pa_nil)))))
      (pss_cons (ps_if (pt_cmpR op_eq (pe_ix ix_tup (pv 0) pe_int (fun _ _ => rfl)) pe_str (nomark _))
        (pss_one (ps_set (i := 2) nd rfl (Or.inl rfl) (pe_op op_cat (pv 2) (pe_lc (own := [("value", 3)]) (g := gName 3) (tt := tYes) (te := tCall spShowV [] E0 (tCons (tVar 3) tNil)) rfl nd (pi_tup (pe_ix ix_tup (pv 0) pe_int (fun _ _ => rfl))) (blkOk_by (own := [("value", 3)]) (N := N_l_row_shown) (sc := defScope s_l_row_shown) (by decide +kernel))
        (fun _ _ _ _ _ => pg_name (i := 3) nd rfl (Or.inl rfl)) (fun _ _ _ _ _ => pts_nil) (fun _ _ _ _ _ => pe_call c_value_shown.G (hr.mono (by decide)) rfl c_value_shown.g c_value_shown.k c_value_shown.b .nil pass0 (pa_cons (pv 3) pa_nil))))))
        pss_nil)
      (pss_cons (ps_if (pt_cmpR op_eq (pe_ix ix_tup (pv 0) pe_int (fun _ _ => rfl)) pe_str (nomark _))
        (pss_one (ps_set (i := 2) nd rfl (Or.inl rfl) (pe_op op_cat (pe_op op_cat (pe_slice sl_list (pv 2) po_none (po_some pe_int)) (pe_callTy call_list_of (by rfl) z_list (by decide +kernel) (pa_cons (pe_ix ix_tup (pv 0) pe_int (fun _ _ => rfl)) pa_nil))) (pe_lc (own := [("number", 4)]) (g := gName 4) (tt := tYes) (te := tCB (KdSt.rStrA K) (tCons (tVar 4) tNil)) rfl nd (pi_tup (pe_ix ix_tup (pv 0) pe_int (fun _ _ => rfl))) (blkOk_by (own := [("number", 4)]) (N := N_l_row_shown) (sc := defScope s_l_row_shown) (by decide +kernel))
        (fun _ _ _ _ _ => pg_name (i := 4) nd rfl (Or.inl rfl)) (fun _ _ _ _ _ => pts_nil) (fun _ _ _ _ _ => pe_callTy (KdSt.cr_strA (u64 hr)) (by rfl) z_str (by decide +kernel) (pa_cons (pv 4) pa_nil))))))
        pss_nil)
      (pss_one (ps_ret (pe_join pe_str (pv 2))))))), ?_⟩
    cases r with
    | kind d key day vals =>
      obtain ⟨q, h1, h2⟩ := hp
      have hf0 := hf
      obtain ⟨f1, f2, f3, f4, f5⟩ := hf
      refine ⟨_, rfl, p, _, _, _, rfl, rfl, h1, atI_nat (j := 0) rfl, by show 1 ≤ sizeLine; decide, fun b nb => ?_⟩
      generalize e2 : upd H b _ = H2
      have N2 := newO nb e2
      refine ⟨_, rfl, _, rfl, _, rfl, cut14 (Same.seqT N2.s h1) (by show 2 ≤ 5; decide) fun c nc => ?_⟩
      generalize e3 : upd H2 c _ = H3
      have N3 : NewO H2 H3 c (.tup [.str d, .str key, .int day]) := newO nc e3
      refine ⟨c, rfl, ⟨_, SqT.of N3.f⟩, fun D hD => lc_build (walk_tup (K := K) (a := c) (xs := [.str d, .str key, .int day])) hD (fun i ys R => Same H3 R ∧ ys = ([d, key, numT day].take i).map V.str) ⟨Same.refl _, rfl⟩ (fun _ _ _ _ z => SqT.of ((z.1.trans cd_sub) _ _ N3.f)) ?_ ?_⟩
      · rintro i ys y H4 H4' hi e4 ly ⟨s4, rfl⟩ ⟨rfl, hy⟩
        refine ⟨rfl, yes ?_⟩
        match i, hy with
        | 0, hy => cases hy; exact ⟨_, rfl, .inr (.inl ⟨_, rfl, LcNx.add e4 ly (by decide) ⟨s4, rfl⟩⟩)⟩
        | 1, hy => cases hy; exact ⟨_, rfl, .inr (.inl ⟨_, rfl, LcNx.add e4 ly (by decide) ⟨s4, rfl⟩⟩)⟩
        | 2, hy => cases hy; exact ⟨_, rfl, .inl ⟨_, rfl, wh_log f3, LcNx.add e4 ly (by decide) ⟨s4, rfl⟩⟩⟩
      · rintro ys H4 e4 ly ⟨s4, rfl⟩
        have s34 : Same H3 H4 := s4.trans cd_sub
        have s24 := N3.s.trans s34
        refine ⟨b, D, _, _, rfl, rfl, s24 _ _ N2.f, e4, by show 4 ≤ sizeLine; decide, fun l nl => ?_⟩
        generalize e5 : upd H4 l _ = H5
        have N5 : NewO H4 H5 l (.lst [.str "kind", .str d, .str key, .str (numT day)]) := newO nl e5
        refine set_st (σ' := [some (.ref p), none, some (.ref l), none, none]) rfl ?_
        have s05 := (N2.s.trans s24).trans N5.s
        refine ⟨_, rfl, p, _, _, _, rfl, rfl, Same.seqT s05 h1, atI_nat (j := 0) rfl, rfl, _, rfl, iteT0 (decide_eq_true rfl) ?_⟩
        refine ⟨_, rfl, _, rfl, p, _, _, _, rfl, rfl, Same.seqT s05 h1, atI_nat (j := 4) rfl, q, rfl, ⟨_, Same.seqT s05 h2⟩, fun D2 hD2 => lc_build (walk_tup (K := K) (a := q)) hD2 (fun i ys R => Same H5 R ∧ ys = (vals.take i).map fun v => V.str (valT v)) ⟨Same.refl _, rfl⟩ (fun _ _ _ _ z => Same.seqT (s05.trans (z.1.trans cd_sub)) h2) ?_ ?_⟩
        · rintro i ys y H6 H6' hi e6 ly ⟨s6, rfl⟩ ⟨rfl, hy⟩
          rw [List.length_map] at hi
          obtain ⟨v, rfl, hv⟩ := map_atF hy
          refine ⟨rfl, yes ⟨_, rfl, v, rfl, f5 v (List.mem_of_getElem? hv), LcNx.add e6 ly (by omega) ⟨s6, take_snocF hv⟩⟩⟩
        · rintro ys H6 e6 ly ⟨s6, rfl⟩
          rw [take_all] at e6
          have s56 : Same H5 H6 := s6.trans cd_sub
          refine ⟨l, D2, _, _, rfl, rfl, s56 _ _ N5.f, e6, le_line (by rw [List.length_map]; show 4 + _ ≤ 4000; omega), fun l2 nl2 => ?_⟩
          generalize e7 : upd H6 l2 _ = H7
          have N7 := newO nl2 e7
          refine set_st (σ' := [some (.ref p), none, some (.ref l2), none, none]) rfl ?_
          have s07 := (s05.trans s56).trans N7.s
          refine ⟨_, rfl, p, _, _, _, rfl, rfl, Same.seqT s07 h1, atI_nat (j := 0) rfl, rfl, _, rfl, iteF0 (by decide +kernel) ?_⟩
          refine ⟨⟨_, rfl⟩, _, rfl, _, l2, rwW (.kind d key day vals), rfl, rfl, .inl (SqL.of ?_), rwW_fit hf0, k H7 s07⟩
          rw [N7.f]
          show some (HO.lst ([V.str "kind", V.str d, V.str key, V.str (numT day)] ++ vals.map fun v => V.str (valT v))) = some (.lst (([("kind" : Str), d, key, numT day] ++ vals.map valT).map V.str))
          rw [List.map_append, List.map_map]
          rfl
    | fact name day keys nums =>
      obtain ⟨q1, q2, h1, h2, h3⟩ := hp
      have hf0 := hf
      obtain ⟨f1, f2, ⟨f3, f4⟩, f5, f6⟩ := hf
      refine ⟨_, rfl, p, _, _, _, rfl, rfl, h1, atI_nat (j := 0) rfl, by show 1 ≤ sizeLine; decide, fun b nb => ?_⟩
      generalize e2 : upd H b _ = H2
      have N2 := newO nb e2
      refine ⟨_, rfl, _, rfl, _, rfl, cut14 (Same.seqT N2.s h1) (by show 2 ≤ 5; decide) fun c nc => ?_⟩
      generalize e3 : upd H2 c _ = H3
      have N3 : NewO H2 H3 c (.tup [.str name, .int day, .ref q1]) := newO nc e3
      refine ⟨c, rfl, ⟨_, SqT.of N3.f⟩, fun D hD => lc_build (walk_tup (K := K) (a := c) (xs := [.str name, .int day, .ref q1])) hD (fun i ys R => Same H3 R ∧ ∃ m : Str, ys = ([name, numT day, m].take i).map V.str) ⟨Same.refl _, Str.empty, rfl⟩ (fun _ _ _ _ z => SqT.of ((z.1.trans cd_sub) _ _ N3.f)) ?_ ?_⟩
      · rintro i ys y H4 H4' hi e4 ly ⟨s4, m, rfl⟩ ⟨rfl, hy⟩
        refine ⟨rfl, yes ?_⟩
        match i, hy with
        | 0, hy => cases hy; exact ⟨_, rfl, .inr (.inl ⟨_, rfl, LcNx.add e4 ly (by decide) ⟨s4, m, rfl⟩⟩)⟩
        | 1, hy => cases hy; exact ⟨_, rfl, .inl ⟨_, rfl, wh_log f2, LcNx.add e4 ly (by decide) ⟨s4, m, rfl⟩⟩⟩
        | 2, hy =>
          cases hy
          refine ⟨_, rfl, .inr (.inr ⟨q1, _, rfl, Same.seqT ((N2.s.trans N3.s).trans (s4.trans cd_sub)) h2, by rw [List.length_map]; omega, fun y hy => ?_, fun m2 => LcNx.add e4 ly (by decide) ⟨s4, m2, rfl⟩⟩)⟩
          obtain ⟨z, hz, rfl⟩ := List.mem_map.mp hy
          exact (f4 z hz).flat1
      · rintro ys H4 e4 ly ⟨s4, m, rfl⟩
        have s34 : Same H3 H4 := s4.trans cd_sub
        have s24 := N3.s.trans s34
        refine ⟨b, D, _, _, rfl, rfl, s24 _ _ N2.f, e4, by show 4 ≤ sizeLine; decide, fun l nl => ?_⟩
        generalize e5 : upd H4 l _ = H5
        have N5 : NewO H4 H5 l (.lst [.str "fact", .str name, .str (numT day), .str m]) := newO nl e5
        refine set_st (σ' := [some (.ref p), none, some (.ref l), none, none]) rfl ?_
        have s05 := (N2.s.trans s24).trans N5.s
        refine ⟨_, rfl, p, _, _, _, rfl, rfl, Same.seqT s05 h1, atI_nat (j := 0) rfl, rfl, _, rfl, iteF0 (by decide +kernel) ?_⟩
        refine ⟨_, rfl, p, _, _, _, rfl, rfl, Same.seqT s05 h1, atI_nat (j := 0) rfl, rfl, _, rfl, iteT0 (decide_eq_true rfl) ?_⟩
        refine ⟨_, rfl, _, rfl, l, _, rfl, SqL.of N5.f, fun l3 nl3 => ?_⟩
        generalize e6 : upd H5 l3 _ = H6
        have N6 : NewO H5 H6 l3 (.lst [.str "fact", .str name, .str (numT day)]) := newO nl3 e6
        have s06 := s05.trans N6.s
        refine ⟨_, rfl, p, _, _, _, rfl, rfl, Same.seqT s06 h1, atI_nat (j := 3) rfl, q1, _, rfl, .inr (Same.seqT s06 h2), fun l4 nl4 => ?_⟩
        generalize e7 : upd H6 l4 _ = H7
        have N7 := newO nl4 e7
        refine ⟨l3, l4, _, _, rfl, rfl, N7.s _ _ N6.f, N7.f, le_line (by rw [List.length_map]; show 3 + _ ≤ 4000; omega), fun l5 nl5 => ?_⟩
        generalize e8 : upd H7 l5 _ = H8
        have N8 := newO nl5 e8
        have s08 := (s06.trans N7.s).trans N8.s
        refine ⟨_, rfl, p, _, _, _, rfl, rfl, Same.seqT s08 h1, atI_nat (j := 4) rfl, q2, rfl, ⟨_, Same.seqT s08 h3⟩, fun D2 hD2 => lc_build (walk_tup (K := K) (a := q2)) hD2 (fun i ys R => Same H8 R ∧ ys = (nums.take i).map fun v => V.str (numT v)) ⟨Same.refl _, rfl⟩ (fun _ _ _ _ z => Same.seqT (s08.trans (z.1.trans cd_sub)) h3) ?_ ?_⟩
        · rintro i ys y H9 H9' hi e9 ly ⟨s9, rfl⟩ ⟨rfl, hy⟩
          rw [List.length_map] at hi
          obtain ⟨v, rfl, hv⟩ := map_atF hy
          refine ⟨rfl, yes ⟨_, rfl, .inl ⟨v, rfl, wh_log (f6 v (List.mem_of_getElem? hv)), LcNx.add e9 ly (by omega) ⟨s9, take_snocF hv⟩⟩⟩⟩
        · rintro ys H9 e9 ly ⟨s9, rfl⟩
          rw [take_all] at e9
          have s89 : Same H8 H9 := s9.trans cd_sub
          refine ⟨l5, D2, _, _, rfl, rfl, s89 _ _ N8.f, e9, le_line (by simp only [List.length_append, List.length_map, List.length_cons, List.length_nil]; omega), fun l6 nl6 => ?_⟩
          generalize e10 : upd H9 l6 _ = H10
          have N10 := newO nl6 e10
          refine set_st (σ' := [some (.ref p), none, some (.ref l6), none, none]) rfl ?_
          refine ⟨⟨_, rfl⟩, _, rfl, _, l6, rwW (.fact name day keys nums), rfl, rfl, .inl (SqL.of ?_), rwW_fit hf0, k H10 ((s08.trans s89).trans N10.s)⟩
          rw [N10.f]
          show some (HO.lst ([V.str "fact", V.str name, V.str (numT day)] ++ keys.map V.str ++ nums.map fun v => V.str (numT v))) = some (.lst (([("fact" : Str), name, numT day] ++ keys ++ nums.map numT).map V.str))
          rw [List.map_append, List.map_append, List.map_map]
          rfl
    | forget name =>
      have h1 : SqT K H p [.str "forget", .str name] := hp
      refine ⟨_, rfl, p, _, _, _, rfl, rfl, h1, atI_nat (j := 0) rfl, by show 1 ≤ sizeLine; decide, fun b nb => ?_⟩
      generalize e2 : upd H b _ = H2
      have N2 := newO nb e2
      refine ⟨_, rfl, _, rfl, _, rfl, cut14 (Same.seqT N2.s h1) (by show 2 ≤ 2; decide) fun c nc => ?_⟩
      generalize e3 : upd H2 c _ = H3
      have N3 : NewO H2 H3 c (.tup [.str name]) := newO nc e3
      refine ⟨c, rfl, ⟨_, SqT.of N3.f⟩, fun D hD => lc_build (walk_tup (K := K) (a := c) (xs := [.str name])) hD (fun i ys R => Same H3 R ∧ ys = ([name].take i).map V.str) ⟨Same.refl _, rfl⟩ (fun _ _ _ _ z => SqT.of ((z.1.trans cd_sub) _ _ N3.f)) ?_ ?_⟩
      · rintro i ys y H4 H4' hi e4 ly ⟨s4, rfl⟩ ⟨rfl, hy⟩
        refine ⟨rfl, yes ?_⟩
        match i, hy with
        | 0, hy => cases hy; exact ⟨_, rfl, .inr (.inl ⟨_, rfl, LcNx.add e4 ly (by decide) ⟨s4, rfl⟩⟩)⟩
      · rintro ys H4 e4 ly ⟨s4, rfl⟩
        have s34 : Same H3 H4 := s4.trans cd_sub
        have s24 := N3.s.trans s34
        refine ⟨b, D, _, _, rfl, rfl, s24 _ _ N2.f, e4, by show 2 ≤ sizeLine; decide, fun l nl => ?_⟩
        generalize e5 : upd H4 l _ = H5
        have N5 : NewO H4 H5 l (.lst [.str "forget", .str name]) := newO nl e5
        refine set_st (σ' := [some (.ref p), none, some (.ref l), none, none]) rfl ?_
        have s05 := (N2.s.trans s24).trans N5.s
        refine ⟨_, rfl, p, _, _, _, rfl, rfl, Same.seqT s05 h1, atI_nat (j := 0) rfl, rfl, _, rfl, iteF0 (by decide +kernel) ?_⟩
        refine ⟨_, rfl, p, _, _, _, rfl, rfl, Same.seqT s05 h1, atI_nat (j := 0) rfl, rfl, _, rfl, iteF0 (by decide +kernel) ?_⟩
        exact ⟨⟨_, rfl⟩, _, rfl, _, l, rwW (.forget name), rfl, rfl, .inl (SqL.of N5.f), rwW_fit hf, k H5 s05⟩
/-! ### _law_rows_shown -/
abbrev N_l_rows_shown : List Str := ["lines", "line"]
theorem sc_l_rows_shown : FnScope N_l_rows_shown ["lines"] (defScope s_l_rows_shown) := ⟨rfl, rfl, rfl, by decide +kernel, rfl, by decide +kernel, by decide +kernel⟩
/-! slots: 0 lines 1 line; cells:  -/
theorem ok_lrss {fV : Addr} {fdV : FuncData} (F : FnP K "_law_rows_shown" "_law_rows_shown" s_l_rows_shown f fd) (c_row_shown : Fun P w K mg base "_law_row_shown" 2 ["line"] (spRowT K) fV fdV) : FnOk P w K mg base CX0 3 f fd ["lines"] (spRowsT K) := by
  refine F.ok sc_l_rows_shown (fun vs H Q E h => ?_) (fun cdv A outer s H vs Q E hr h => ?_)
  · obtain ⟨l, rs, rfl, _⟩ := h
    rfl
  · obtain ⟨l, rs, rfl, hrs, hf, hl, k⟩ := h
    have nd := sc_l_rows_shown.nd
    refine ⟨_, PSs.nox (pss_cons (ps_if (pt_cmpR (op_eqD hr.units) (pv 0) (pe_lst pa_nil) (nomark _))
        (pss_one (ps_ret pe_str))
        pss_nil)
      (pss_one (ps_ret (pe_join pe_str (pe_lc (own := [("line", 1)]) (g := gName 1) (tt := tYes) (te := tCall ((spRowT K)) [] E0 (tCons (tVar 1) tNil)) rfl nd (pi_list (pv 0)) (blkOk_by (own := [("line", 1)]) (N := N_l_rows_shown) (sc := defScope s_l_rows_shown) (by decide +kernel))
        (fun _ _ _ _ _ => pg_name (i := 1) nd rfl (Or.inl rfl)) (fun _ _ _ _ _ => pts_nil) (fun _ _ _ _ _ => pe_call c_row_shown.G (hr.mono (by decide)) rfl c_row_shown.g c_row_shown.k c_row_shown.b .nil pass0 (pa_cons (pv 1) pa_nil))))))), ?_⟩
    refine ⟨_, rfl, by show 0 ≤ sizeLine; decide, fun b nb => ?_⟩
    have s2 := same_new (o := .lst []) nb
    refine ⟨.list (rs.map rwD), .list [], (RwsAt.same s2 hrs).dp, .lst (SqL.of upd_same) .nil, rws_shaped fun r hr => (hf r hr).ok, sh_nil, _, rfl, ?_⟩
    rw [eqv_nil]
    generalize upd H b (.lst []) = H2 at s2 ⊢
    obtain ⟨xs, h1, h2⟩ := RwsAt.same s2 hrs
    have hlen := h2.length
    cases rs with
    | nil => exact iteT0 rfl (k H2 s2)
    | cons r0 rs0 =>
      refine iteF0 (by simp) ?_
      refine ⟨⟨_, rfl⟩, _, rfl, l, rfl, ⟨_, h1⟩, fun D hD => lc_build (walk_list (K := K) (a := l)) hD (fun i ys R => Same H2 R ∧ ys = ((r0 :: rs0).take i).map fun r => V.str (rwT r)) ⟨Same.refl _, rfl⟩ (fun _ _ _ _ z => (z.1.trans cd_sub).seq h1) ?_ ?_⟩
      · rintro i ys y H3 H3' hi e3 ly ⟨s3, rfl⟩ ⟨rfl, hy⟩
        obtain ⟨r, hr', p, rfl, hp⟩ := paired_at h2 hy
        have hm := hf r (List.mem_of_getElem? hr')
        refine ⟨rfl, yes ⟨_, rfl, p, r, rfl, Rw.same (s3.trans cd_sub) hp, hm, fun H4 s4 => ?_⟩⟩
        exact LcNx.add (s4 _ _ e3) ly (by omega) ⟨s3.trans (cd_same s4), take_snocF hr'⟩
      · rintro ys H3 e3 ly ⟨s3, rfl⟩
        rw [hlen, List.take_length] at e3
        refine ⟨_, D, (r0 :: rs0).map rwT, rfl, rfl, .inl (SqL.of (by rw [e3, List.map_map]; rfl)), rows_fit hf hl, ?_⟩
        exact k H3 (s2.trans (s3.trans cd_sub))
end
end Kd

namespace Kd
open PySem PySem.Spec PyProof.Rows L2 KdXc
theorem rwW_plain {r : Rw} (h : r.fine) : ∀ p ∈ rwW r, ∀ c ∈ TL.tl p, c < 128 := fun p hp => by
  have wk : ∀ z : Str, (z = "kind" ∨ z = "fact" ∨ z = "forget") → ∀ c ∈ TL.tl z, c < 128 := fun z hz => by
    rcases hz with rfl | rfl | rfl <;> decide +kernel
  have nk : ∀ (i : Int), ∀ c ∈ TL.tl (numT i), c < 128 := fun i c hc => by
    rcases num_sign hc with e | e <;> omega
  have kk : ∀ {z : Str}, Ky z → ∀ c ∈ TL.tl z, c < 128 := fun hz c hc => by
    rcases hz.ok c hc with e | e <;> omega
  cases r with
  | kind d key day vals =>
    obtain ⟨h1, h2, h3, _, h4⟩ := h
    rcases List.mem_append.mp (show p ∈ [("kind" : Str), d, key, numT day] ++ vals.map valT from hp) with hp | hp
    · simp only [List.mem_cons, List.not_mem_nil, or_false] at hp
      rcases hp with rfl | rfl | rfl | rfl
      · exact wk _ (.inl rfl)
      · exact fun c hc => by have := h1.low c hc; omega
      · exact kk h2
      · exact nk day
    · obtain ⟨v, hv, rfl⟩ := List.mem_map.mp hp
      cases v with
      | i z => exact nk z
      | s z =>
        intro c hc
        rw [show valT (.s z) = ("'" : Str) ++ z ++ ("'" : Str) from rfl, tl_quo] at hc
        rcases List.mem_cons.mp hc with hc | hc
        · omega
        · rcases List.mem_append.mp hc with hc | hc
          · exact kk (h4 _ hv) c hc
          · have := List.mem_singleton.mp hc
            omega
  | fact name day keys nums =>
    obtain ⟨h1, h2, ⟨_, h3⟩, _, h4⟩ := h
    rcases List.mem_append.mp (show p ∈ [("fact" : Str), name, numT day] ++ keys ++ nums.map numT from hp) with hp | hp
    · rcases List.mem_append.mp hp with hp | hp
      · simp only [List.mem_cons, List.not_mem_nil, or_false] at hp
        rcases hp with rfl | rfl | rfl
        · exact wk _ (.inr (.inl rfl))
        · exact kk h1
        · exact nk day
      · exact kk (h3 p hp)
    · obtain ⟨v, hv, rfl⟩ := List.mem_map.mp hp
      exact nk v
  | forget name =>
    rcases List.mem_cons.mp (show p ∈ [("forget" : Str), name] from hp) with rfl | hp
    · exact wk _ (.inr (.inr rfl))
    · rw [List.mem_singleton.mp hp]
      exact kk h
theorem rows_plain {rs : List Rw} (h : ∀ r ∈ rs, r.fine) (hl : rs.length ≤ 4) : Tq 3000 (rowsT rs) := by
  refine ⟨?_, ?_⟩
  · unfold rowsT
    split
    · have := len_minus
      omega
    · have h1 := join_len (y := ("; " : Str)) (xs := rs.map rwT) (b := 682) fun p hp => by
        obtain ⟨r, hr, rfl⟩ := List.mem_map.mp hp
        exact rwT_len (h r hr)
      have h3 : ("; " : Str).length = 2 := by decide +kernel
      rw [h3, List.length_map] at h1
      omega
  · unfold rowsT
    split
    · decide +kernel
    · refine join_ok (by decide +kernel) fun p hp => ?_
      obtain ⟨r, hr, rfl⟩ := List.mem_map.mp hp
      exact join_ok (by decide +kernel) (rwW_plain (h r hr))
theorem cut4000 {b : Nat} {z : Str} (h : Tq b z) : Tq 4000 (cutS z none (some 4000)) := ⟨by
  rw [TL.len_tl, tl_cutS, HT.sIx_none]
  have e : HT.sIx z.length z.length (some ((4000 : Nat) : Int)) = min 4000 z.length := HT.sIx_nat _ _ _
  have e2 : HT.sIx z.length z.length (some 4000) = min 4000 z.length := e
  rw [e2, List.length_take]
  omega, (h.cut none (some 4000)).ok⟩
theorem Tq.flat1 {z : Str} (h : Tq 4000 z) : KdEx.Flat1 (.str z) := ⟨fun c hc => Nat.lt_of_lt_of_le (h.ok c hc) (by decide), h.le⟩
section
variable {P : Program} {w : World} {K : PySem.W.Frag} {mg : Str → Option Value} {base : Heap} {f : Addr} {fd : FuncData}
/-! ### _law_rows_of -/
def spOwnRs (K : PySem.W.Frag) : Sp := fun vs H Q _ => ∃ (lo mo : Addr) (t : Str) (ds : List Dm) (ms : List Str), vs = [.ref lo, .ref mo, .str t] ∧ DimsAt K H lo ds ∧ SqL K H mo (ms.map V.str) ∧ Good ds ms ∧ Tq 4000 t ∧
  (∀ rs, RowsOf ds ms t rs → ∀ l H', Same H H' → RwsAt K H' l rs → Q (.ref l) H') ∧ ((∀ rs, ¬ RowsOf ds ms t rs) → ∀ H', Same H H' → Q .non H')
abbrev N_l_rows_of : List Str := ["some", "sums", "text", "part", "found"]
theorem sc_l_rows_of : FnScope N_l_rows_of ["some", "sums", "text"] (defScope s_l_rows_of) := ⟨rfl, rfl, rfl, by decide +kernel, rfl, by decide +kernel, by decide +kernel⟩
/-! slots: 0 some 1 sums 2 text 3 part 4 found; cells: some sums -/
set_option maxHeartbeats 0 in
theorem ok_lrows {fR : Addr} {fdR : FuncData} (F : FnP K "_law_rows_of" "_law_rows_of" s_l_rows_of f fd) (c_row_of : Fun P w K mg base "_law_row_of" 4 ["some", "sums", "text"] (spOwnR K) fR fdR) : FnOk P w K mg base CX0 5 f fd ["some", "sums", "text"] (spOwnRs K) := by
  refine F.ok sc_l_rows_of (fun vs H Q E h => ?_) (fun cdv A outer s H vs Q E hr h => ?_)
  · obtain ⟨lo, mo, t, ds, ms, rfl, _⟩ := h
    rfl
  · obtain ⟨lo, mo, t, ds, ms, rfl, hlo, hmo, ok, ht, k1, k2⟩ := h
    have nd := sc_l_rows_of.nd
    have tl := ht.le
    refine ⟨_, PSs.nox (pss_cons (ps_if (pt_cmpR op_eq (pv 2) pe_str (nomark _))
        (pss_one (ps_ret (pe_lst pa_nil)))
        pss_nil)
      (pss_cons (ps_setLc (i := 4) (own := [("part", 3)]) (g := gName 3) (tt := tYes) (te := tCall ((spOwnR K)) [] E0 (tCons (tVar 0) (tCons (tVar 1) (tCons (tVar 3) tNil)))) rfl nd rfl rfl (sw_true rfl rfl rfl (by decide +kernel)) (pi_list (pe_split (pv 2) pe_str)) (blkOk_by (own := [("part", 3)]) (N := N_l_rows_of) (sc := defScope s_l_rows_of) (by decide +kernel))
        (fun _ _ _ _ _ => pg_name (i := 3) nd rfl (Or.inl rfl)) (fun _ _ _ _ _ => pts_nil) (fun _ _ _ _ _ => pe_call c_row_of.G (hr.mono (by decide)) rfl c_row_of.g c_row_of.k c_row_of.b .nil pass0 (pa_cons (pv 0) (pa_cons (pv 1) (pa_cons (pv 3) pa_nil)))))
      (pss_one (ps_ret (pe_ifExp (pt_cmpR (op_inD (u65 hr)) pe_non (pv 4) (by rfl)) pe_non (pv 4)))))), ?_⟩
    have hgf : ∀ r : Rw, r.good ds ms → r.fine := fun r hr => Rw.good.fine ok hr
    refine ⟨_, rfl, rfl, _, rfl, ?_⟩
    by_cases c : t = "-"
    · rw [decide_eq_true (congrArg V.str c)]
      exact iteT ⟨by show 0 ≤ sizeLine; decide, fun l nl => k1 [] (by rw [c]; exact minus_rows) l _ (same_new nl) ⟨[], SqL.of upd_same, .nil⟩⟩
    rw [decide_eq_false (fun z => c (by injection z))]
    refine iteF ?_
    refine ⟨_, rfl, ⟨_, rfl⟩, _, _, rfl, rfl, by decide +kernel, le_big (by omega), fun ps nps => ?_⟩
    generalize e1 : upd H ps _ = H1
    have N1 : NewO H H1 ps (.lst ((Txt.split t "; ").map V.str)) := ⟨by rw [← e1]; exact upd_same, by rw [← e1]; exact same_new nps⟩
    have hpl : ∀ p ∈ Txt.split t "; ", Tq 4000 p := fun p hp => ⟨by have := part_len (by decide +kernel) hp; omega, part_ok ht hp⟩
    have hrl : (Txt.split t "; ").length ≤ 2001 := by
      have h1 := congrArg Str.length (join_of_split t "; ")
      rw [TL.join_eq] at h1
      cases hs : Txt.split t "; " with
      | nil => exact Nat.zero_le _
      | cons q qs =>
        rw [hs, len_join_cons, show ("; " : Str).length = 2 by decide +kernel] at h1
        rw [List.length_cons]
        omega
    have pn := parts_none (t := t) hgf c
    have psm : ∀ rs, partsR ds ms t = rs.map some → RowsOf ds ms t rs := fun rs => parts_some
    unfold partsR at pn psm
    generalize Txt.split t "; " = parts at N1 hpl hrl pn psm ⊢
    refine ⟨ps, rfl, ⟨_, SqL.of N1.f⟩, fun D hD => lc_build (walk_list (K := K) (a := ps)) hD (fun i ys R => Same H1 R ∧ Paired (RowV K R) ys ((parts.take i).map fun p => readR ds ms (Txt.split p " "))) ⟨Same.refl _, .nil⟩ (fun _ _ _ _ z => SqL.of ((z.1.trans cd_sub) _ _ N1.f)) ?_ ?_⟩
    · rintro i ys y H2 H2' hi e2 ly ⟨s2, hys⟩ ⟨rfl, hy⟩
      rw [List.length_map] at hi
      obtain ⟨p, rfl, hpi⟩ := map_atF hy
      have s02 : Same H H2' := N1.s.trans (s2.trans cd_sub)
      refine ⟨rfl, yes ⟨_, rfl, _, rfl, _, rfl, lo, mo, p, ds, ms, rfl, DimsAt.same s02 hlo, s02.seq hmo, ok, hpl p (List.mem_of_getElem? hpi), fun v H4 s4 hv => ?_⟩⟩
      have e4 := s4 _ _ e2
      have s24 : Same (cd D H2') (cd D H4) := cd_same s4
      refine LcNx.add e4 ly (by omega) ⟨s2.trans s24, ?_⟩
      rw [← take_snocF (f := fun p => readR ds ms (Txt.split p " ")) hpi]
      exact PySem.Paired.snoc (PySem.Paired.mono (fun _ _ => RowV.same s24) hys) (rowV_cdl e4 hv)
    · rintro ys H2 e2 ly ⟨s2, hys⟩
      rw [take_all] at hys
      have hys2 : Paired (RowV K H2) ys (parts.map fun p => readR ds ms (Txt.split p " ")) := PySem.Paired.mono (fun _ _ => RowV.same cd_sub) hys
      have s02 : Same H H2 := N1.s.trans (s2.trans cd_sub)
      have hro : ∀ r, some r ∈ (parts.map fun p => readR ds ms (Txt.split p " ")) → r.ok := fun r hr => by
        obtain ⟨p, _, e⟩ := List.mem_map.mp hr
        exact (hgf r (readR_iff.mp e).1).ok
      refine set_st (σ' := [some (.ref lo), some (.ref mo), some (.str t), none, some (.ref D)]) rfl ?_
      refine ⟨_, rfl, .none, _, .non, .lst (SqL.of e2) (rowVs_dp hys2), by decide +kernel, ros_shaped hro, _, rfl, ?_⟩
      rw [ros_none]
      cases cn : (parts.map fun p => readR ds ms (Txt.split p " ")).any Option.isNone with
      | true => exact iteT (k2 (pn cn) _ s02)
      | false =>
        obtain ⟨rs, hrs⟩ := some_all cn
        rw [hrs] at hys2
        exact iteF ⟨_, rfl, k1 rs (psm rs hrs) D H2 s02 ⟨ys, SqL.of e2, rowVs_some hys2⟩⟩
/-! ### _law_right -/
/-- how isinstance answers of an error of the class N -/
structure ErrK (K : PySem.W.Frag) (N D : Addr) (os us : List Addr) : Prop where
  kD : PySem.W.kitOne K (.ref N) (.ref D) = some true
  kV : PySem.W.kitOne K (.ref N) (.type "ValueError") = some true
  kO : PySem.W.kitAny K (.ref N) (os.map Value.ref) = some false
  kU : PySem.W.kitAny K (.ref N) (us.map Value.ref) = some false
def tSuite (K : PySem.W.Frag) (N D c0 c1 c2 c3 c4 c5 c6 c7 d0 d1 : Addr) : Addr → Value → Option Addr → TS := fun a cls d => tAsg (tLst (tCons (tXf a cls d N "what" (tVar 7)) (tCons (tCB (rIsC K N a cls d) (tCons (tVar 7) (tCons (tC (.ref D)) tNil))) (tCons (tCB (rIsC K N a cls d) (tCons (tVar 7) (tCons (tC (.ty "ValueError")) tNil)))
  (tCons (tCB (rIsC K N a cls d) (tCons (tVar 7) (tCons (tTup (tCons (tC (.ref c0)) (tCons (tC (.ref c1)) (tCons (tC (.ref c2)) (tCons (tC (.ref c3)) (tCons (tC (.ref c4)) (tCons (tC (.ref c5)) (tCons (tC (.ref c6)) (tCons (tC (.ref c7)) tNil))))))))) tNil))) (tCons (tCB (rIsC K N a cls d) (tCons (tVar 7) (tCons (tTup (tCons (tC (.ref d0)) (tCons (tC (.ref d1)) tNil))) tNil))) tNil)))))) (gName 6)
abbrev N_l_right : List Str := ["made", "some", "sums", "text", "due", "found", "refused", "e"]
theorem sc_l_right : FnScope N_l_right ["made", "some", "sums", "text"] (defScope s_l_right) := ⟨rfl, rfl, rfl, by decide +kernel, rfl, by decide +kernel, by decide +kernel⟩
/-! slots: 0 made 1 some 2 sums 3 text 4 due 5 found 6 refused 7 e; cells:  -/
def spRight (K : PySem.W.Frag) (C : Addr) : Sp := fun vs H Q _ => ∃ (x lo mo : Addr) (t : Str) (ds : List Dm) (ms : List Str), vs = [.ref x, .ref lo, .ref mo, .str t] ∧ PlanAt K C H x ds ms ∧ DimsAt K H lo ds ∧ SqL K H mo (ms.map V.str) ∧ Good ds ms ∧ Tq 4000 t ∧ ∀ H', Same H H' → Q (.bl true) H'
set_option maxHeartbeats 0 in
theorem ok_right {C N fN D fR fO fA c0 c1 c2 c3 c4 c5 c6 c7 d0 d1 : Addr} {fdN fdR fdO fdA : FuncData} (F : FnP K "_law_right" "_law_right" s_l_right f fd) (GR : FnOk P w K mg base (L2.CX P w) 6 fR fdR ["plan", "text"] (spReadRX K C N)) (gR : mg "read_rows" = some (.ref fR)) (kR : PySem.W.keepIn K (.ref fR) = true) (bR : Binds K fdR ["plan", "text"] [])
    (c_rows_of : Fun P w K mg base "_law_rows_of" 5 ["some", "sums", "text"] (spOwnRs K) fO fdO) (c_alike : Fun P w K mg base "_law_alike" 6 ["found", "due"] (spAlike K 5) fA fdA)
    (M : ErrM P w K mg base "NoText" N fN fdN) (EK : ErrK K N D [c0, c1, c2, c3, c4, c5, c6, c7] [d0, d1]) (gD : mg "DayError" = some (.ref D)) (zV : mg "ValueError" = none) (zI : mg "isinstance" = none)
    (g0 : mg "NoDeskRow" = some (.ref c0)) (g1 : mg "NoFact" = some (.ref c1)) (g2 : mg "NoGroup" = some (.ref c2)) (g3 : mg "NoMeasure" = some (.ref c3)) (g4 : mg "NoPlan" = some (.ref c4)) (g5 : mg "NoRow" = some (.ref c5)) (g6 : mg "NoThing" = some (.ref c6)) (g7 : mg "NoTime" = some (.ref c7)) (h0 : mg "NoWatch" = some (.ref d0)) (h1 : mg "Twice" = some (.ref d1)) :
    FnOk P w K mg base CX0 7 f fd ["made", "some", "sums", "text"] (spRight K C) := by
  refine F.ok sc_l_right (fun vs H Q E h => ?_) (fun cdv A outer s H vs Q E hr h => ?_)
  · obtain ⟨x, lo, mo, t, ds, ms, rfl, _⟩ := h
    rfl
  · obtain ⟨x, lo, mo, t, ds, ms, rfl, hx, hlo, hmo, ok, ht, k⟩ := h
    have nd := sc_l_right.nd
    refine ⟨_, pss_cons (ps_set (i := 4) nd rfl (Or.inl rfl) (pe_call c_rows_of.G (hr.mono (by decide)) rfl c_rows_of.g c_rows_of.k c_rows_of.b .nil pass0 (pa_cons (pv 1) (pa_cons (pv 2) (pa_cons (pv 3) pa_nil)))))
      (pss_cons (ps_set (i := 5) nd rfl (Or.inl rfl) pe_non)
      (pss_cons (ps_set (i := 6) nd rfl (Or.inl rfl) (pe_lst pa_nil))
      (pss_cons (ps_try_as (i := 7)
        (tb := fun W => tAsg (tCallS (spReadRX K C N) (WE W) (tCons (tVar 0) (tCons (tVar 3) tNil))) (gName 5))
        (ts := tSuite K N D c0 c1 c2 c3 c4 c5 c6 c7 d0 d1) (Wout := fun _ _ _ _ => False) rfl rfl nd rfl rfl ⟨rfl, by decide, .inl M.g⟩ takes0
        (fun W pn xe tk _ => pss_one (ps_set (i := 5) nd rfl (Or.inl rfl) (by exact (pe_callS GR (hr.mono (by decide)) rfl gR kR bR (fun σ => passAt tk σ) (pa_cons (pv 0) (pa_cons (pv 3) pa_nil))))))
        (fun a oe cls d pn hz hf => pss_one (ps_set (i := 6) nd rfl (Or.inl rfl) (by exact (pe_lst (pa_cons (pe_xf M.T.x M.T.nW hz hf (pv 7)) (pa_cons (pe_callB (call_isX M.T hz hf) (by rfl) zI (by decide +kernel) (pa_cons (pv 7) (pa_cons (pe_glob (v := .ref D) rfl gD rfl) pa_nil))) (pa_cons (pe_callB (call_isX M.T hz hf) (by rfl) zI (by decide +kernel) (pa_cons (pv 7) (pa_cons (pe_bltn (v := .ty "ValueError") (by rfl) zV (by decide +kernel) rfl) pa_nil)))
          (pa_cons (pe_callB (call_isX M.T hz hf) (by rfl) zI (by decide +kernel) (pa_cons (pv 7) (pa_cons (pe_tup (pa_cons (pe_glob (v := .ref c0) rfl g0 rfl) (pa_cons (pe_glob (v := .ref c1) rfl g1 rfl) (pa_cons (pe_glob (v := .ref c2) rfl g2 rfl) (pa_cons (pe_glob (v := .ref c3) rfl g3 rfl) (pa_cons (pe_glob (v := .ref c4) rfl g4 rfl) (pa_cons (pe_glob (v := .ref c5) rfl g5 rfl) (pa_cons (pe_glob (v := .ref c6) rfl g6 rfl) (pa_cons (pe_glob (v := .ref c7) rfl g7 rfl) pa_nil))))))))) pa_nil))) (pa_cons (pe_callB (call_isX M.T hz hf) (by rfl) zI (by decide +kernel) (pa_cons (pv 7) (pa_cons (pe_tup (pa_cons (pe_glob (v := .ref d0) rfl h0 rfl) (pa_cons (pe_glob (v := .ref d1) rfl h1 rfl) pa_nil))) pa_nil))) pa_nil))))))))))
      (pss_cons (ps_if (pt_cmp (pc_isN (pv 4)))
        (pss_one (ps_ret (pe_call c_alike.G (hr.mono (by decide)) rfl c_alike.g c_alike.k c_alike.b .nil pass0 (pa_cons (pv 6) (pa_cons (pe_lst (pa_cons (pv 3) (pa_cons pe_bl (pa_cons pe_bl (pa_cons pe_bl (pa_cons pe_bl pa_nil)))))) pa_nil)))))
        pss_nil)
      (pss_one (ps_ret (pe_and (pe_cmpR (op_eqD hr.units) (pv 6) (pe_lst pa_nil) (nomark _)) (pe_one (pe_call c_alike.G (hr.mono (by decide)) rfl c_alike.g c_alike.k c_alike.b .nil pass0 (pa_cons (pv 5) (pa_cons (pv 4) pa_nil))))))))))), ?_⟩
    by_cases hro : ∃ rs, RowsOf ds ms t rs
    · obtain ⟨rs, hrs⟩ := hro
      have hfine : ∀ r ∈ rs, r.fine := fun r hr => (hrs.1 r hr).fine ok
      have hinj : ∀ qs, RowsOf ds ms t qs → qs = rs := fun qs hqs => rows_inj (fun r hr => ⟨hqs.1 r hr, (hqs.1 r hr).fine ok⟩) (fun r hr => ⟨hrs.1 r hr, hfine r hr⟩) (hqs.2.symm.trans hrs.2)
      have hlen : rs.length ≤ 4000 := by
        have h1 := congrArg Str.length hrs.2
        have h2 := ht.le
        unfold rowsT at h1
        split at h1
        · rename_i z
          rw [List.isEmpty_iff.mp z]
          exact Nat.zero_le _
        · rename_i z
          obtain ⟨a, b, hab⟩ := List.exists_cons_of_ne_nil (l := rs) (fun q => z (by rw [q]; rfl))
          subst hab
          rw [TL.join_eq, List.map_cons, len_join_cons, show ("; " : Str).length = 2 by decide +kernel, List.length_map] at h1
          rw [List.length_cons]
          omega
      refine ⟨_, rfl, _, rfl, _, rfl, lo, mo, t, ds, ms, rfl, hlo, hmo, ok, ht, fun qs hqs du H1 s1 hdu => ?_, fun hno => absurd hrs (hno rs)⟩
      rw [hinj qs hqs] at hdu
      refine set_st (σ' := [some (.ref x), some (.ref lo), some (.ref mo), some (.str t), some (.ref du), none, none, none]) rfl ?_
      dsimp only
      refine set_st (σ' := [some (.ref x), some (.ref lo), some (.ref mo), some (.str t), some (.ref du), some .non, none, none]) rfl ?_
      refine ⟨by show 0 ≤ sizeLine; decide, fun q0 nq0 => ?_⟩
      generalize e2 : upd H1 q0 _ = H2
      have N2 := newO nq0 e2
      refine set_st (σ' := [some (.ref x), some (.ref lo), some (.ref mo), some (.str t), some (.ref du), some .non, some (.ref q0), none]) rfl ?_
      have s02 := s1.trans N2.s
      refine ⟨_, rfl, _, rfl, x, t, ds, ms, rfl, hx.same s02, ok, ht.flat1, fun ps hps l xs H3 s3 nl el hl => ?_, fun hno => absurd hrs (hno rs)⟩
      rw [hinj ps hps] at hl
      refine set_st (σ' := [some (.ref x), some (.ref lo), some (.ref mo), some (.str t), some (.ref du), some (.ref l), some (.ref q0), none]) rfl ?_
      refine ⟨_, rfl, _, rfl, iteF0 (by simp) ?_⟩
      refine ⟨_, rfl, by show 0 ≤ sizeLine; decide, fun q4 nq4 => ?_⟩
      have s4 := same_new (o := .lst []) nq4
      refine ⟨.list [], .list [], .lst (SqL.of ((s3.trans s4) _ _ N2.f)) .nil, .lst (SqL.of upd_same) .nil, sh_nil, sh_nil, ?_⟩
      rw [eqv_nil]
      refine ⟨_, rfl, iteT0 rfl ?_⟩
      refine ⟨_, rfl, _, rfl, _, _, .list (rs.map rwD), rfl, ?_, ?_, rws_okd hfine hlen, fun H5 s5 => k H5 (((s02.trans s3).trans s4).trans s5)⟩
      · exact RwsAt.dp ⟨xs, SqL.of (s4 _ _ el), PySem.Paired.mono (fun _ _ => RwAt.same s4) hl⟩
      · exact (RwsAt.same ((N2.s.trans s3).trans s4) hdu).dp
    · have hno : ∀ rs, ¬ RowsOf ds ms t rs := fun rs h => hro ⟨rs, h⟩
      refine ⟨_, rfl, _, rfl, _, rfl, lo, mo, t, ds, ms, rfl, hlo, hmo, ok, ht, fun qs hqs => absurd hqs (hno qs), fun _ H1 s1 => ?_⟩
      refine set_st (σ' := [some (.ref x), some (.ref lo), some (.ref mo), some (.str t), some .non, none, none, none]) rfl ?_
      dsimp only
      refine set_st (σ' := [some (.ref x), some (.ref lo), some (.ref mo), some (.str t), some .non, some .non, none, none]) rfl ?_
      refine ⟨by show 0 ≤ sizeLine; decide, fun q0 nq0 => ?_⟩
      generalize e2 : upd H1 q0 _ = H2
      have N2 := newO nq0 e2
      refine set_st (σ' := [some (.ref x), some (.ref lo), some (.ref mo), some (.str t), some .non, some .non, some (.ref q0), none]) rfl ?_
      have s02 := s1.trans N2.s
      refine ⟨_, rfl, _, rfl, x, t, ds, ms, rfl, hx.same s02, ok, ht.flat1, fun ps hps => absurd hps (hno ps), fun _ d H7 s7 _ hd => ?_⟩
      refine ⟨true, M.T.em, fun _ a ha => ?_, fun q => nomatch q⟩
      refine ⟨_, rfl, rfl, rfl, d, _, _, rfl, hd, what_of "NoText" (.str t), ?_⟩
      refine ⟨_, rfl, rfl, d, _, rfl, hd, _, rfl, .inl ⟨_, true, fun u hu => hu, EK.kD, ?_⟩⟩
      refine ⟨_, rfl, rfl, d, _, rfl, hd, _, rfl, .inl ⟨_, true, fun u hu => hu, EK.kV, ?_⟩⟩
      refine ⟨_, rfl, by show 8 ≤ sizeLine; decide, fun t8 nt => ?_⟩
      generalize e8 : upd H7 t8 _ = H8
      have N8 := newO nt e8
      refine ⟨rfl, d, _, rfl, N8.s _ _ hd, _, rfl, .inr ⟨t8, [c0, c1, c2, c3, c4, c5, c6, c7], false, rfl, SqT.of N8.f, EK.kO, ?_⟩⟩
      refine ⟨_, rfl, by show 2 ≤ sizeLine; decide, fun t2 nt2 => ?_⟩
      generalize e9 : upd H8 t2 _ = H9
      have N9 := newO nt2 e9
      refine ⟨rfl, d, _, rfl, N9.s _ _ (N8.s _ _ hd), _, rfl, .inr ⟨t2, [d0, d1], false, rfl, SqT.of N9.f, EK.kU, ?_⟩⟩
      refine ⟨by show 5 ≤ sizeLine; decide, fun q nq => ?_⟩
      generalize e10 : upd H9 q _ = H10
      have N10 := newO nq e10
      have s010 := (((s02.trans s7).trans N8.s).trans N9.s).trans N10.s
      refine ⟨_, rfl, _, rfl, iteT ?_⟩
      refine ⟨_, rfl, _, rfl, by show 5 ≤ sizeLine; decide, fun q2 nq2 => ?_⟩
      have s11 := same_new (o := .lst [.str t, .bl true, .bl true, .bl false, .bl false]) nq2
      refine ⟨_, _, .list [.str t, .bool true, .bool true, .bool false, .bool false], rfl, .lst (SqL.of (s11 _ _ N10.f)) ?_, .lst (SqL.of upd_same) ?_, ⟨by show 5 ≤ 4000; decide, fun d hd => ?_⟩, fun H12 s12 => k H12 ((s010.trans s11).trans s12)⟩
      · exact .cons (.str _) (.cons (.bl _) (.cons (.bl _) (.cons (.bl _) (.cons (.bl _) .nil))))
      · exact .cons (.str _) (.cons (.bl _) (.cons (.bl _) (.cons (.bl _) (.cons (.bl _) .nil))))
      · simp only [List.mem_cons, List.not_mem_nil, or_false] at hd
        rcases hd with rfl | rfl | rfl | rfl | rfl <;> exact trivial
end
end Kd

namespace Kd
open PySem PySem.Spec PyProof.Rows L2
theorem joinedK {y : Str} (hy : y.cps.toList = []) (parts : List Str) (h1 : ∀ z ∈ parts, z.length = 1) (h2 : ∀ z ∈ parts, ∀ c ∈ z.cps.toList, KeyC c) : (∀ c ∈ (Txt.join y parts).cps.toList, KeyC c) ∧ (Txt.join y parts).length = parts.length := by
  have e := join_list_eq y hy parts
  constructor
  · intro c hc
    rw [e] at hc
    obtain ⟨l, hl, hcl⟩ := List.mem_flatten.mp hc
    obtain ⟨z, hz, rfl⟩ := List.mem_map.mp hl
    exact h2 z hz c hcl
  · have e2 : (Txt.join y parts).length = (Txt.join y parts).cps.toList.length := by rw [Array.length_toList]; rfl
    rw [e2, e]
    exact flat_len parts h1
section
variable {P : Program} {w : World} {K : PySem.W.Frag} {mg : Str → Option Value} {base : Heap} {f : Addr} {fd : FuncData}
/-! ### _law_great -/
abbrev N_l_great : List Str := ["tray", "found", "k"]
theorem sc_l_great : FnScope N_l_great ["tray"] (defScope s_l_great) := ⟨rfl, rfl, rfl, by decide +kernel, rfl, by decide +kernel, by decide +kernel⟩
/-! slots: 0 tray 1 found 2 k; cells:  -/
def spGreat : Sp := fun vs H Q _ => ∃ (a g : Addr) (n : Nat), vs = [.ref a] ∧ Tray H a g n ∧ n ≤ 900000 ∧ ∀ (r : Int) H', 0 ≤ r → r < 10 ^ 59 → Tray H' a g (n + 4) → Same (ct a g H) (ct a g H') → Q (.int r) H'
theorem ok_great {fD : Addr} {fdD : FuncData} (F : FnP K "_law_great" "_law_great" s_l_great f fd) (c_draw : Fun P w K mg base "_law_draw" 1 ["tray", "many"] spDraw fD fdD) (z_range : mg "range" = none) : FnOk P w K mg base CX0 2 f fd ["tray"] spGreat := by
  refine F.ok sc_l_great (fun vs H Q E h => ?_) (fun cdv A outer s H vs Q E hr h => ?_)
  · obtain ⟨a, g, n, rfl, _⟩ := h
    rfl
  · obtain ⟨a, g, n, rfl, hT, hn, k⟩ := h
    have nd := sc_l_great.nd
    refine ⟨_, PSs.nox (pss_cons (ps_set (i := 1) nd rfl (Or.inl rfl) (pe_call c_draw.G (hr.mono (by decide)) rfl c_draw.g c_draw.k c_draw.b .nil pass0 (pa_cons (pv 0) (pa_cons (pe_op op_pow pe_int pe_int) pa_nil))))
      (pss_cons (ps_for PassesOwn.never rfl (pi_range1 rfl z_range (pa_cons pe_int pa_nil)) (pg_name (i := 2) nd rfl (Or.inl rfl))
        (pss_one (ps_set (i := 1) nd rfl (Or.inl rfl) (pe_op op_add (pe_op op_mul (pv 1) (pe_op op_pow pe_int pe_int)) (pe_call c_draw.G (hr.mono (by decide)) rfl c_draw.g c_draw.k c_draw.b .nil pass0 (pa_cons (pv 0) (pa_cons (pe_op op_pow pe_int pe_int) pa_nil)))))))
      (pss_one (ps_ret (pv 1))))), ?_⟩
    have p14 : (10 : Int) ^ Int.toNat 14 = 100000000000000 := by decide
    have p15 : (10 : Int) ^ Int.toNat 15 = 1000000000000000 := by decide
    refine ⟨_, rfl, _, _, rfl, rfl, ⟨by decide, by decide, by decide⟩, a, g, n, _, rfl, hT, by omega, by rw [p14]; decide, by rw [p14]; decide, fun r H1 r0 r1 T1 s1 => ?_⟩
    rw [p14] at r1
    refine set_st (σ' := [some (.ref a), some (.int r), none]) rfl ?_
    refine ⟨_, rfl, by decide, by decide, for_range (lo := 0) (n := 3) (fun i σ H2 => ∃ (x2 : Option V) (r : Int), σ = [some (.ref a), some (.int r), x2] ∧ 0 ≤ r ∧ r < 10 ^ (14 + 15 * i) ∧ Tray H2 a g (n + 1 + i) ∧ Same (ct a g H) (ct a g H2)) ⟨_, r, rfl, r0, by simpa using r1, T1, s1⟩ ?_ ?_⟩
    · rintro i σ H2 hi ⟨x2, r, rfl, q0, q1, T2, s2⟩
      refine ⟨_, rfl, _, _, rfl, rfl, ⟨by decide, by decide, by decide⟩, _, _, rfl, rfl, .inr ?_, _, rfl, _, _, rfl, rfl, ⟨by decide, by decide, by decide⟩, a, g, n + 1 + i, _, rfl, T2, by omega, by rw [p15]; decide, by rw [p15]; decide, fun d H3 d0 d1 T3 s3 => ?_⟩
      · rw [p15]
        exact ⟨by decide, by decide⟩
      rw [p15] at d1
      refine ⟨_, _, rfl, rfl, ?_⟩
      rw [p15]
      refine ⟨_, _, rfl, by omega, ?_, T3, s2.trans s3⟩
      have e : (10 : Int) ^ (14 + 15 * (i + 1)) = 10 ^ (14 + 15 * i) * 1000000000000000 := by
        rw [show 14 + 15 * (i + 1) = 14 + 15 * i + 15 by omega, Int.pow_add]
        rfl
      rw [e]
      have h1 : r + 1 ≤ 10 ^ (14 + 15 * i) := q1
      have h2 := Int.mul_le_mul_of_nonneg_right h1 (show (0 : Int) ≤ 1000000000000000 by decide)
      omega
    · rintro σ H2 ⟨x2, r, rfl, q0, q1, T2, s2⟩
      exact ⟨_, rfl, k r H2 q0 q1 T2 s2⟩
/-! ### _law_text -/
abbrev N_l_text : List Str := ["tray", "signs", "k"]
theorem sc_l_text : FnScope N_l_text ["tray"] (defScope s_l_text) := ⟨rfl, rfl, rfl, by decide +kernel, rfl, by decide +kernel, by decide +kernel⟩
/-! slots: 0 tray 1 signs 2 k; cells: signs tray -/
def spText : Sp := fun vs H Q _ => ∃ (a g : Addr) (n : Nat), vs = [.ref a] ∧ Tray H a g n ∧ n ≤ 900000 ∧ ∀ (z : Str) H', Ky z → Tray H' a g (n + 14) → Same (ct a g H) (ct a g H') → Q (.str z) H'
theorem ok_text {fD : Addr} {fdD : FuncData} (F : FnP K "_law_text" "_law_text" s_l_text f fd) (c_draw : Fun P w K mg base "_law_draw" 1 ["tray", "many"] spDraw fD fdD) (z_range : mg "range" = none) : FnOk P w K mg base CX0 2 f fd ["tray"] spText := by
  refine F.ok sc_l_text (fun vs H Q E h => ?_) (fun cdv A outer s H vs Q E hr h => ?_)
  · obtain ⟨a, g, n, rfl, _⟩ := h
    rfl
  · obtain ⟨a, g, n, rfl, hT, hn, k⟩ := h
    have nd := sc_l_text.nd
    refine ⟨_, PSs.nox (pss_cons (ps_if (pt_cmpR op_gt (pe_call c_draw.G (hr.mono (by decide)) rfl c_draw.g c_draw.k c_draw.b .nil pass0 (pa_cons (pv 0) (pa_cons pe_int pa_nil))) pe_int (nomark _))
        (pss_one (ps_ret (pe_ix ix_list (pe_lst (pa_cons pe_str (pa_cons pe_str (pa_cons pe_str (pa_cons pe_str (pa_cons pe_str (pa_cons pe_str (pa_cons pe_str (pa_cons pe_str (pa_cons pe_str pa_nil)))))))))) (pe_call c_draw.G (hr.mono (by decide)) rfl c_draw.g c_draw.k c_draw.b .nil pass0 (pa_cons (pv 0) (pa_cons pe_int pa_nil))) (fun _ _ => rfl))))
        pss_nil)
      (pss_cons (ps_set (i := 1) nd rfl (Or.inr rfl) pe_str)
      (pss_one (ps_ret (pe_join pe_str (pe_lc (own := [("k", 2)]) (g := gName 2) (tt := tYes) (te := tOp rIxS (tVar 1) (tCall spDraw [] E0 (tCons (tVar 0) (tCons (tC (.int 36)) tNil)))) rfl nd (pi_range1 rfl z_range (pa_cons (pe_op op_add pe_int (pe_call c_draw.G (hr.mono (by decide)) rfl c_draw.g c_draw.k c_draw.b .nil pass0 (pa_cons (pv 0) (pa_cons pe_int pa_nil)))) pa_nil)) (blkOk_by (own := [("k", 2)]) (N := N_l_text) (sc := defScope s_l_text) (by decide +kernel))
        (fun _ _ _ _ _ => pg_name (i := 2) nd rfl (Or.inl rfl)) (fun _ _ _ _ _ => pts_nil) (fun _ _ _ _ _ => pe_ix ix_str (pv 1) (pe_call c_draw.G (hr.mono (by decide)) rfl c_draw.g c_draw.k c_draw.b .nil pass0 (pa_cons (pv 0) (pa_cons pe_int pa_nil))) (fun _ _ => rfl)))))))), ?_⟩
    refine ⟨_, rfl, a, g, n, _, rfl, hT, by omega, by decide, by decide, fun r H1 r0 r1 T1 s1 => ⟨_, _, rfl, rfl, _, rfl, ite2 (fun c => ?_) (fun c => ?_)⟩⟩
    · refine ⟨by show 9 ≤ sizeLine; decide, fun p1 n1 => ?_⟩
      generalize e2 : upd H1 p1 _ = H2
      have N2 := newAt T1 n1 e2
      refine ⟨_, rfl, a, g, n + 1, _, rfl, N2.T, by omega, by decide, by decide, fun q H3 q0 q1 T3 s3 => ?_⟩
      obtain ⟨j, rfl⟩ : ∃ j : Nat, q = (j : Int) := ⟨q.toNat, by omega⟩
      obtain ⟨z, hz, kz⟩ := wordsK_at (j := j) (by omega)
      exact ⟨p1, _, _, _, rfl, rfl, SqL.of (ctkeep s3 N2.f N2.na N2.ng), atI_nat hz, k z H3 kz (T3.mono (by omega)) ((s1.trans N2.c).trans s3)⟩
    · refine ⟨⟨_, rfl⟩, _, rfl, a, g, n + 1, _, rfl, T1, by omega, by decide, by decide, fun q H3 q0 q1 T3 s3 => ?_⟩
      obtain ⟨jr, rfl⟩ : ∃ j : Nat, q = (j : Int) := ⟨q.toNat, by omega⟩
      refine ⟨_, _, rfl, rfl, _, rfl, by omega, by omega, fun D hD => ?_⟩
      have eN : ((1 : Int) + (jr : Int)).toNat = 1 + jr := by omega
      rw [eN]
      obtain ⟨nDa, nDg⟩ := T3.na hD
      refine lc_build (walk_range (lo := 0)) hD (fun i ys R => ∃ parts : List Str, ys = parts.map V.str ∧ parts.length = i ∧ (∀ z ∈ parts, z.length = 1 ∧ ∀ c ∈ z.cps.toList, KeyC c) ∧ Tray R a g (n + 2 + i) ∧ Same (ct a g H3) (ct a g R)) ⟨[], rfl, rfl, fun _ h => (nomatch h), T3.mono (by omega), Same.refl _⟩ (fun _ _ _ _ _ => trivial) ?_ ?_
      · rintro i ys x Ha Hb hi e l ⟨parts, rfl, lp, pz, Tp, sp⟩ ⟨rfl, rfl⟩
        refine ⟨rfl, yes ?_⟩
        refine ⟨_, rfl, _, rfl, a, g, n + 2 + i, _, rfl, Tp.same cd_sub, by omega, by decide, by decide, fun ch Hc h0 h1 Tc sc => ?_⟩
        obtain ⟨jc, rfl⟩ : ∃ j : Nat, ch = (j : Int) := ⟨ch.toNat, by omega⟩
        obtain ⟨c, hc, kc⟩ := figs_at (i := jc) (by omega)
        refine ⟨figs, _, _, rfl, rfl, le_line (by rw [figs_len]; decide), atI_nat hc, LcNx.add (ctkeep sc e nDa nDg) l (by omega) ⟨parts ++ [⟨#[c]⟩], by rw [List.map_append]; rfl, by rw [List.length_append]; show parts.length + 1 = i + 1; omega, fun z hz => ?_, (Tc.cd nDa nDg).mono (by omega), ctcd hD sp sc⟩⟩
        rcases List.mem_append.mp hz with hz | hz
        · exact pz z hz
        · rw [List.mem_singleton.mp hz]
          exact ⟨rfl, fun c' hc' => by
            have : c' = c := by simpa using hc'
            rw [this]
            exact kc⟩
      · rintro ys H4 e l ⟨parts, rfl, lp, pz, Tp, sp⟩
        obtain ⟨jok, jlen⟩ := joinedK (y := Str.ofString "") (by decide +kernel) parts (fun z hz => (pz z hz).1) fun z hz => (pz z hz).2
        refine ⟨_, D, parts, rfl, rfl, .inl (SqL.of e), ?_, ?_⟩
        · rw [sum_ones parts fun z hz => (pz z hz).1]
          show parts.length + parts.length * 0 ≤ 16777216
          omega
        · exact k _ H4 ⟨jok, by omega, by omega⟩ ((Tp.same cd_sub).mono (by omega)) (((s1.trans s3).trans sp).trans (ct_same cd_sub))
/-! ### _law_whole -/
abbrev N_l_whole : List Str := ["tray", "lot"]
theorem sc_l_whole : FnScope N_l_whole ["tray"] (defScope s_l_whole) := ⟨rfl, rfl, rfl, by decide +kernel, rfl, by decide +kernel, by decide +kernel⟩
/-! slots: 0 tray 1 lot; cells:  -/
def spWhole : Sp := fun vs H Q _ => ∃ (a g : Addr) (n : Nat), vs = [.ref a] ∧ Tray H a g n ∧ n ≤ 800000 ∧ ∀ (i : Int) H', Wh i → Tray H' a g (n + 7) → Same (ct a g H) (ct a g H') → Q (.int i) H'
theorem ok_whole {fD fG : Addr} {fdD fdG : FuncData} (F : FnP K "_law_whole" "_law_whole" s_l_whole f fd) (c_draw : Fun P w K mg base "_law_draw" 1 ["tray", "many"] spDraw fD fdD) (c_great : Fun P w K mg base "_law_great" 2 ["tray"] spGreat fG fdG) : FnOk P w K mg base CX0 3 f fd ["tray"] spWhole := by
  refine F.ok sc_l_whole (fun vs H Q E h => ?_) (fun cdv A outer s H vs Q E hr h => ?_)
  · obtain ⟨a, g, n, rfl, _⟩ := h
    rfl
  · obtain ⟨a, g, n, rfl, hT, hn, k⟩ := h
    have nd := sc_l_whole.nd
    refine ⟨_, PSs.nox (pss_cons (ps_set (i := 1) nd rfl (Or.inl rfl) (pe_call c_draw.G (hr.mono (by decide)) rfl c_draw.g c_draw.k c_draw.b .nil pass0 (pa_cons (pv 0) (pa_cons pe_int pa_nil))))
      (pss_cons (ps_if (pt_cmpR op_eq (pv 1) pe_int (nomark _))
        (pss_one (ps_ret (pe_op op_mul (pe_op op_add (pe_op op_mul (pe_call c_great.G (hr.mono (by decide)) rfl c_great.g c_great.k c_great.b .nil pass0 (pa_cons (pv 0) pa_nil)) pe_int) (pe_call c_draw.G (hr.mono (by decide)) rfl c_draw.g c_draw.k c_draw.b .nil pass0 (pa_cons (pv 0) (pa_cons pe_int pa_nil)))) (pe_op op_sub pe_int (pe_op op_mul pe_int (pe_call c_draw.G (hr.mono (by decide)) rfl c_draw.g c_draw.k c_draw.b .nil pass0 (pa_cons (pv 0) (pa_cons pe_int pa_nil))))))))
        pss_nil)
      (pss_one (ps_ret (pe_op op_sub (pe_call c_draw.G (hr.mono (by decide)) rfl c_draw.g c_draw.k c_draw.b .nil pass0 (pa_cons (pv 0) (pa_cons pe_int pa_nil))) pe_int))))), ?_⟩
    refine ⟨_, rfl, a, g, n, _, rfl, hT, by omega, by decide, by decide, fun lot H1 l0 l1 T1 s1 => ?_⟩
    refine set_st (σ' := [some (.ref a), some (.int lot)]) rfl ?_
    refine ⟨_, rfl, rfl, _, rfl, ite2 (fun c => ?_) (fun c => ?_)⟩
    · refine ⟨_, rfl, a, g, n + 1, rfl, T1, by omega, fun gr H2 g0 g1 T2 s2 => ?_⟩
      refine ⟨_, _, rfl, rfl, .inr ⟨by decide, by decide⟩, _, rfl, a, g, n + 1 + 4, _, rfl, T2, by omega, by decide, by decide, fun d H3 d0 d1 T3 s3 => ?_⟩
      refine ⟨_, _, rfl, rfl, _, rfl, a, g, n + 1 + 4 + 1, _, rfl, T3, by omega, by decide, by decide, fun e H4 e0 e1 T4 s4 => ?_⟩
      refine ⟨_, _, rfl, rfl, .inl ⟨by decide, by decide⟩, _, _, rfl, rfl, _, _, rfl, rfl, .inr ⟨by omega, by omega⟩, ?_⟩
      refine k _ H4 ?_ (T4.mono (by omega)) (((s1.trans s2).trans s3).trans s4)
      have he : e = 0 ∨ e = 1 := by omega
      have hb : (gr * 10 + d).natAbs < 10 ^ 60 := by
        have : gr * 10 + d < 10 ^ 60 := by
          have h1 : gr + 1 ≤ 10 ^ 59 := g1
          have h2 : (10 : Int) ^ 60 = 10 ^ 59 * 10 := by decide
          rw [h2]
          omega
        have h3 : ((10 ^ 60 : Nat) : Int) = (10 : Int) ^ 60 := by decide
        omega
      show ((gr * 10 + d) * (1 - 2 * e)).natAbs < 10 ^ 60
      rcases he with rfl | rfl
      · rw [show (1 : Int) - 2 * 0 = 1 by decide, Int.mul_one]
        exact hb
      · rw [show (1 : Int) - 2 * 1 = -1 by decide, Int.mul_neg, Int.mul_one, Int.natAbs_neg]
        exact hb
    · refine ⟨_, rfl, a, g, n + 1, _, rfl, T1, by omega, by decide, by decide, fun d H3 d0 d1 T3 s3 => ⟨_, _, rfl, rfl, ?_⟩⟩
      refine k _ H3 ?_ (T3.mono (by omega)) (s1.trans s3)
      show (d - 4).natAbs < 10 ^ 60
      exact Nat.lt_of_lt_of_le (show (d - 4).natAbs < 100 by omega) (by decide)
/-! ### _law_value -/
abbrev N_l_value : List Str := ["tray"]
theorem sc_l_value : FnScope N_l_value ["tray"] (defScope s_l_value) := ⟨rfl, rfl, rfl, by decide +kernel, rfl, by decide +kernel, by decide +kernel⟩
/-! slots: 0 tray; cells:  -/
def spValue : Sp := fun vs H Q _ => ∃ (a g : Addr) (n : Nat), vs = [.ref a] ∧ Tray H a g n ∧ n ≤ 700000 ∧ ∀ (v : Fv) H', v.good → Tray H' a g (n + 22) → Same (ct a g H) (ct a g H') → Q v.v H'
theorem ok_value {fD fT fW : Addr} {fdD fdT fdW : FuncData} (F : FnP K "_law_value" "_law_value" s_l_value f fd) (c_draw : Fun P w K mg base "_law_draw" 1 ["tray", "many"] spDraw fD fdD) (c_text : Fun P w K mg base "_law_text" 2 ["tray"] spText fT fdT) (c_whole : Fun P w K mg base "_law_whole" 3 ["tray"] spWhole fW fdW) : FnOk P w K mg base CX0 4 f fd ["tray"] spValue := by
  refine F.ok sc_l_value (fun vs H Q E h => ?_) (fun cdv A outer s H vs Q E hr h => ?_)
  · obtain ⟨a, g, n, rfl, _⟩ := h
    rfl
  · obtain ⟨a, g, n, rfl, hT, hn, k⟩ := h
    have nd := sc_l_value.nd
    refine ⟨_, PSs.nox (pss_one (ps_ret (pe_ix ix_list (pe_lst (pa_cons (pe_call c_whole.G (hr.mono (by decide)) rfl c_whole.g c_whole.k c_whole.b .nil pass0 (pa_cons (pv 0) pa_nil)) (pa_cons (pe_call c_text.G (hr.mono (by decide)) rfl c_text.g c_text.k c_text.b .nil pass0 (pa_cons (pv 0) pa_nil)) pa_nil))) (pe_call c_draw.G (hr.mono (by decide)) rfl c_draw.g c_draw.k c_draw.b .nil pass0 (pa_cons (pv 0) (pa_cons pe_int pa_nil))) (fun _ _ => rfl)))), ?_⟩
    refine ⟨_, rfl, a, g, n, rfl, hT, by omega, fun i H1 hi T1 s1 => ?_⟩
    refine ⟨_, rfl, a, g, n + 7, rfl, T1, by omega, fun z H2 hz T2 s2 => ?_⟩
    refine ⟨by show 2 ≤ sizeLine; decide, fun p np => ?_⟩
    generalize e3 : upd H2 p _ = H3
    have N3 := newAt T2 np e3
    refine ⟨_, rfl, a, g, n + 7 + 14, _, rfl, N3.T, by omega, by decide, by decide, fun d H4 d0 d1 T4 s4 => ?_⟩
    have hd : d = 0 ∨ d = 1 := by omega
    have s04 := ((s1.trans s2).trans N3.c).trans s4
    rcases hd with rfl | rfl
    · exact ⟨p, _, _, _, rfl, rfl, SqL.of (ctkeep s4 N3.f N3.na N3.ng), atI_nat (j := 0) rfl, k (.i i) H4 hi T4 s04⟩
    · exact ⟨p, _, _, _, rfl, rfl, SqL.of (ctkeep s4 N3.f N3.na N3.ng), atI_nat (j := 1) rfl, k (.s z) H4 hz T4 s04⟩
/-! ### _law_row -/
abbrev N_l_row : List Str := ["tray", "some", "sums", "lot", "day", "name", "rows", "one", "keys"]
theorem sc_l_row : FnScope N_l_row ["tray", "some", "sums"] (defScope s_l_row) := ⟨rfl, rfl, rfl, by decide +kernel, rfl, by decide +kernel, by decide +kernel⟩
/-! slots: 0 tray 1 some 2 sums 3 lot 4 day 5 name 6 rows 7 one 8 keys; cells: tray -/
def spRowG (K : PySem.W.Frag) : Sp := fun vs H Q _ => ∃ (a g l m : Addr) (n : Nat) (ds : List Dm) (ms : List Str), vs = [.ref a, .ref l, .ref m] ∧ Tray H a g n ∧ n ≤ 600000 ∧ DimsAt K (ct a g H) l ds ∧ SqL K (ct a g H) m (ms.map V.str) ∧ Good ds ms ∧
  ∀ (p : Addr) (r : Rw) (H' : Hp), r.at K (ct a g H') p → r.good ds ms → Tray H' a g (n + 200) → Same (ct a g H) (ct a g H') → Q (.ref p) H'
theorem ok_rowG {fD fT fW fV : Addr} {fdD fdT fdW fdV : FuncData} (F : FnP K "_law_row" "_law_row" s_l_row f fd) (c_draw : Fun P w K mg base "_law_draw" 1 ["tray", "many"] spDraw fD fdD) (c_text : Fun P w K mg base "_law_text" 2 ["tray"] spText fT fdT) (c_whole : Fun P w K mg base "_law_whole" 3 ["tray"] spWhole fW fdW) (c_value : Fun P w K mg base "_law_value" 4 ["tray"] spValue fV fdV)
    (z_len : mg "len" = none) (z_tuple : mg "tuple" = none) : FnOk P w K mg base CX0 5 f fd ["tray", "some", "sums"] (spRowG K) := by
  refine F.ok sc_l_row (fun vs H Q E h => ?_) (fun cdv A outer s H vs Q E hr h => ?_)
  · obtain ⟨a, g, l, m, n, ds, ms, rfl, _⟩ := h
    rfl
  · obtain ⟨a, g, l, m, n, ds, ms, rfl, hT, hn, ⟨xs, hl, hp⟩, hm, ok, k⟩ := h
    have nd := sc_l_row.nd
    have hlen := hp.length
    have d1 := ok.d1
    have d4 := ok.d4
    have m4 := ok.m4
    refine ⟨_, PSs.nox (pss_cons (ps_set (i := 3) nd rfl (Or.inl rfl) (pe_call c_draw.G (hr.mono (by decide)) rfl c_draw.g c_draw.k c_draw.b .nil pass0 (pa_cons (pv 0) (pa_cons pe_int pa_nil))))
      (pss_cons (ps_set (i := 4) nd rfl (Or.inl rfl) (pe_call c_whole.G (hr.mono (by decide)) rfl c_whole.g c_whole.k c_whole.b .nil pass0 (pa_cons (pv 0) pa_nil)))
      (pss_cons (ps_if (pt_cmpR op_lt (pv 3) pe_int (nomark _))
        (pss_cons (ps_asg (pe_ix ix_list (pv 1) (pe_call c_draw.G (hr.mono (by decide)) rfl c_draw.g c_draw.k c_draw.b .nil pass0 (pa_cons (pv 0) (pa_cons (pe_callB call_len_seq (by rfl) z_len boot_len (pa_cons (pv 1) pa_nil)) pa_nil))) (fun _ _ => rfl)) (pg_tup rfl (pgs_cons (pg_name (i := 5) nd rfl (Or.inl rfl)) (pgs_cons (pg_name (i := 6) nd rfl (Or.inl rfl)) pgs_nil))))
        (pss_one (ps_ret (pe_tup (pa_cons pe_str (pa_cons (pv 5) (pa_cons (pe_call c_text.G (hr.mono (by decide)) rfl c_text.g c_text.k c_text.b .nil pass0 (pa_cons (pv 0) pa_nil)) (pa_cons (pv 4) (pa_cons (pe_callTy call_tuple_of (by rfl) z_tuple (by decide +kernel) (pa_cons (pe_lc (own := [("one", 7)]) (g := gName 7) (tt := tYes) (te := tCall spValue [] E0 (tCons (tVar 0) tNil)) rfl nd (pi_tup (pv 6)) (blkOk_by (own := [("one", 7)]) (N := N_l_row) (sc := defScope s_l_row) (by decide +kernel))
        (fun _ _ _ _ _ => pg_name (i := 7) nd rfl (Or.inl rfl)) (fun _ _ _ _ _ => pts_nil) (fun _ _ _ _ _ => pe_call c_value.G (hr.mono (by decide)) rfl c_value.g c_value.k c_value.b .nil pass0 (pa_cons (pv 0) pa_nil))) pa_nil)) pa_nil)))))))))
        pss_nil)
      (pss_cons (ps_if (pt_cmpR op_lt (pv 3) pe_int (nomark _))
        (pss_cons (ps_set (i := 8) nd rfl (Or.inl rfl) (pe_callTy call_tuple_of (by rfl) z_tuple (by decide +kernel) (pa_cons (pe_lc (own := [("one", 7)]) (g := gName 7) (tt := tYes) (te := tCall spText [] E0 (tCons (tVar 0) tNil)) rfl nd (pi_list (pv 1)) (blkOk_by (own := [("one", 7)]) (N := N_l_row) (sc := defScope s_l_row) (by decide +kernel))
        (fun _ _ _ _ _ => pg_name (i := 7) nd rfl (Or.inl rfl)) (fun _ _ _ _ _ => pts_nil) (fun _ _ _ _ _ => pe_call c_text.G (hr.mono (by decide)) rfl c_text.g c_text.k c_text.b .nil pass0 (pa_cons (pv 0) pa_nil))) pa_nil)))
        (pss_one (ps_ret (pe_tup (pa_cons pe_str (pa_cons (pe_call c_text.G (hr.mono (by decide)) rfl c_text.g c_text.k c_text.b .nil pass0 (pa_cons (pv 0) pa_nil)) (pa_cons (pv 4) (pa_cons (pv 8) (pa_cons (pe_callTy call_tuple_of (by rfl) z_tuple (by decide +kernel) (pa_cons (pe_lc (own := [("one", 7)]) (g := gName 7) (tt := tYes) (te := tCall spWhole [] E0 (tCons (tVar 0) tNil)) rfl nd (pi_list (pv 2)) (blkOk_by (own := [("one", 7)]) (N := N_l_row) (sc := defScope s_l_row) (by decide +kernel))
        (fun _ _ _ _ _ => pg_name (i := 7) nd rfl (Or.inl rfl)) (fun _ _ _ _ _ => pts_nil) (fun _ _ _ _ _ => pe_call c_whole.G (hr.mono (by decide)) rfl c_whole.g c_whole.k c_whole.b .nil pass0 (pa_cons (pv 0) pa_nil))) pa_nil)) pa_nil)))))))))
        pss_nil)
      (pss_one (ps_ret (pe_tup (pa_cons pe_str (pa_cons (pe_call c_text.G (hr.mono (by decide)) rfl c_text.g c_text.k c_text.b .nil pass0 (pa_cons (pv 0) pa_nil)) pa_nil))))))))), ?_⟩
    refine ⟨_, rfl, a, g, n, _, rfl, hT, by omega, by decide, by decide, fun lot H1 l0 l1 T1 s1 => ?_⟩
    refine set_st (σ' := [some (.ref a), some (.ref l), some (.ref m), some (.int lot), none, none, none, none, none]) rfl ?_
    refine ⟨_, rfl, a, g, n + 1, rfl, T1, by omega, fun day H2 hday T2 s2 => ?_⟩
    refine set_st (σ' := [some (.ref a), some (.ref l), some (.ref m), some (.int lot), some (.int day), none, none, none, none]) rfl ?_
    have s02 := s1.trans s2
    refine ⟨_, rfl, _, _, rfl, rfl, _, rfl, ite2 (fun c1 => ?_) (fun c1 => ?_)⟩
    · -- a kind
      refine ⟨_, rfl, _, rfl, _, rfl, l, _, rfl, .inl (Same.seq (s02.trans ct_sub) hl), a, g, n + 1 + 7, _, rfl, T2, by omega, by omega, by omega, fun r H3 r0 r1 T3 s3 => ?_⟩
      obtain ⟨j, rfl⟩ : ∃ j : Nat, r = (j : Int) := ⟨r.toNat, by omega⟩
      have hj : j < xs.length := by omega
      have s03 := s02.trans s3
      have hp3 := PySem.Paired.mono (fun _ _ => DimAt.same s03) hp
      obtain ⟨d, hd, pd, qd, ep, t1, zs, z1, z2⟩ := paired_at hp3 (List.getElem?_eq_getElem hj)
      have dm : d ∈ ds := List.mem_of_getElem? hd
      have l5 := ok.al d dm
      have lz := z2.length
      refine ⟨l, _, _, _, rfl, rfl, Same.seq (s03.trans ct_sub) hl, (by rw [atI_nat (List.getElem?_eq_getElem hj), ep]), pd, _, rfl, Same.seqT ct_sub t1, rfl, _, _, rfl, _, _, rfl, rfl, ?_⟩
      refine st_eq (σ' := [some (.ref a), some (.ref l), some (.ref m), some (.int lot), some (.int day), some (.str d.1), some (.ref qd), none, none]) rfl ?_
      refine ⟨_, rfl, _, rfl, a, g, n + 1 + 7 + 1, rfl, T3, by omega, fun key H4 hkey T4 s4 => ?_⟩
      have z4 : SqT K (ct a g H4) qd zs := Same.seqT s4 z1
      refine ⟨_, rfl, _, rfl, qd, rfl, ⟨_, Same.seqT ct_sub z4⟩, fun D hD => ?_⟩
      obtain ⟨nDa, nDg⟩ := T4.na hD
      refine lc_build (walk_tup (K := K) (a := qd) (xs := zs)) hD (fun i ys R => ∃ vals : List Fv, ys = vals.map Fv.v ∧ vals.length = i ∧ (∀ v ∈ vals, v.good) ∧ Tray R a g (n + 23 + 22 * i) ∧ Same (ct a g H4) (ct a g R)) ⟨[], rfl, rfl, fun _ h => (nomatch h), T4.mono (by omega), Same.refl _⟩ (fun _ _ _ _ ⟨_, _, _, _, _, s5⟩ => Same.seqT ((s5.trans ct_sub).trans cd_sub) z4) ?_ ?_
      · rintro i ys y H5 H5' hi e5 l5' ⟨vals, rfl, lv, hv, T5, s5⟩ ⟨rfl, hy⟩
        refine ⟨rfl, yes ?_⟩
        refine ⟨_, rfl, a, g, n + 23 + 22 * i, rfl, T5.same cd_sub, by omega, fun v H6 gv T6 s6 => ?_⟩
        refine LcNx.add (ctkeep s6 e5 nDa nDg) l5' (by omega) ⟨vals ++ [v], by rw [List.map_append]; rfl, by rw [List.length_append]; show vals.length + 1 = i + 1; omega, fun y hy => ?_, (T6.cd nDa nDg).mono (by omega), ctcd hD s5 s6⟩
        rcases List.mem_append.mp hy with hy | hy
        · exact hv y hy
        · rw [List.mem_singleton.mp hy]
          exact gv
      · rintro ys H5 e5 l5' ⟨vals, rfl, lv, hv, T5, s5⟩
        have T5' := T5.same cd_sub
        have s45 : Same (ct a g H4) (ct a g H5) := s5.trans (ct_same cd_sub)
        refine ⟨D, _, rfl, .inl ⟨SqL.of e5, fun q nq => ?_⟩⟩
        generalize e6 : upd H5 q _ = H6
        have N6 := newAt T5' nq e6
        refine ⟨by show 5 ≤ sizeLine; decide, fun p np => ?_⟩
        generalize e7 : upd H6 p _ = H7
        have N7 := newAt N6.T np e7
        refine k p (.kind d.1 key day vals) H7 ⟨q, SqT.of N7.fc, SqT.of (N7.c _ _ N6.fc)⟩ ⟨⟨d, dm, rfl, by omega⟩, hkey, hday, hv⟩ (N7.T.mono (by omega)) ((((s03.trans s4).trans s45).trans N6.c).trans N7.c)
    refine ⟨_, rfl, _, _, rfl, rfl, _, rfl, ite2 (fun c2 => ?_) (fun c2 => ?_)⟩
    · -- a fact
      have hl2 := Same.seq s02 hl
      have hm2 := Same.seq s02 hm
      refine ⟨_, rfl, l, rfl, ⟨_, Same.seq ct_sub hl2⟩, fun D hD => ?_⟩
      obtain ⟨nDa, nDg⟩ := T2.na hD
      refine lc_build (walk_list (K := K) (a := l) (xs := xs)) hD (fun i ys R => ∃ keys : List Str, ys = keys.map V.str ∧ keys.length = i ∧ (∀ v ∈ keys, Ky v) ∧ Tray R a g (n + 8 + 14 * i) ∧ Same (ct a g H2) (ct a g R)) ⟨[], rfl, rfl, fun _ h => (nomatch h), T2.mono (by omega), Same.refl _⟩ (fun _ _ _ _ ⟨_, _, _, _, _, s5⟩ => Same.seq ((s5.trans ct_sub).trans cd_sub) hl2) ?_ ?_
      · rintro i ys y H5 H5' hi e5 l5' ⟨keys, rfl, lv, hv, T5, s5⟩ ⟨rfl, hy⟩
        refine ⟨rfl, yes ?_⟩
        refine ⟨_, rfl, a, g, n + 8 + 14 * i, rfl, T5.same cd_sub, by omega, fun v H6 gv T6 s6 => ?_⟩
        refine LcNx.add (ctkeep s6 e5 nDa nDg) l5' (by omega) ⟨keys ++ [v], by rw [List.map_append]; rfl, by rw [List.length_append]; show keys.length + 1 = i + 1; omega, fun y hy => ?_, (T6.cd nDa nDg).mono (by omega), ctcd hD s5 s6⟩
        rcases List.mem_append.mp hy with hy | hy
        · exact hv y hy
        · rw [List.mem_singleton.mp hy]
          exact gv
      · rintro ys H5 e5 l5' ⟨keys, rfl, lv, hv, T5, s5⟩
        have T5' := T5.same cd_sub
        have s25 : Same (ct a g H2) (ct a g H5) := s5.trans (ct_same cd_sub)
        refine ⟨D, _, rfl, .inl ⟨SqL.of e5, fun q nq => ?_⟩⟩
        generalize e6 : upd H5 q _ = H6
        have N6 := newAt T5' nq e6
        refine set_st (σ' := [some (.ref a), some (.ref l), some (.ref m), some (.int lot), some (.int day), none, none, none, some (.ref q)]) rfl ?_
        have s26 := s25.trans N6.c
        refine ⟨_, rfl, a, g, n + 8 + 14 * xs.length, rfl, N6.T, by omega, fun name H7 hname T7 s7 => ?_⟩
        have hm7 := Same.seq (s26.trans s7) hm2
        refine ⟨_, rfl, _, rfl, _, rfl, m, rfl, ⟨_, Same.seq ct_sub hm7⟩, fun D2 hD2 => ?_⟩
        obtain ⟨n2a, n2g⟩ := T7.na hD2
        refine lc_build (walk_list (K := K) (a := m) (xs := ms.map V.str)) hD2 (fun i ys R => ∃ nums : List Int, ys = nums.map V.int ∧ nums.length = i ∧ (∀ v ∈ nums, Wh v) ∧ Tray R a g (n + 80 + 7 * i) ∧ Same (ct a g H7) (ct a g R)) ⟨[], rfl, rfl, fun _ h => (nomatch h), T7.mono (by omega), Same.refl _⟩ (fun _ _ _ _ ⟨_, _, _, _, _, s8⟩ => Same.seq ((s8.trans ct_sub).trans cd_sub) hm7) ?_ ?_
        · rintro i ys y H8 H8' hi e8 l8 ⟨nums, rfl, lv8, hv8, T8, s8⟩ ⟨rfl, hy⟩
          rw [List.length_map] at hi
          refine ⟨rfl, yes ?_⟩
          refine ⟨_, rfl, a, g, n + 80 + 7 * i, rfl, T8.same cd_sub, by omega, fun v H9 gv T9 s9 => ?_⟩
          refine LcNx.add (ctkeep s9 e8 n2a n2g) l8 (by omega) ⟨nums ++ [v], by rw [List.map_append]; rfl, by rw [List.length_append]; show nums.length + 1 = i + 1; omega, fun y hy => ?_, (T9.cd n2a n2g).mono (by omega), ctcd hD2 s8 s9⟩
          rcases List.mem_append.mp hy with hy | hy
          · exact hv8 y hy
          · rw [List.mem_singleton.mp hy]
            exact gv
        · rintro ys H8 e8 l8 ⟨nums, rfl, lv8, hv8, T8, s8⟩
          have T8' := T8.same cd_sub
          have s78 : Same (ct a g H7) (ct a g H8) := s8.trans (ct_same cd_sub)
          rw [List.length_map] at lv8 T8'
          refine ⟨D2, _, rfl, .inl ⟨SqL.of e8, fun q2 nq2 => ?_⟩⟩
          generalize e9 : upd H8 q2 _ = H9
          have N9 := newAt T8' nq2 e9
          refine ⟨by show 5 ≤ sizeLine; decide, fun p np => ?_⟩
          generalize e10 : upd H9 p _ = H10
          have N10 := newAt N9.T np e10
          have s610 := ((s7.trans s78).trans N9.c).trans N10.c
          exact k p (.fact name day keys nums) H10 ⟨q, q2, SqT.of N10.fc, SqT.of (s610 _ _ N6.fc), SqT.of (N10.c _ _ N9.fc)⟩ ⟨hname, hday, ⟨by omega, hv⟩, by omega, hv8⟩ (N10.T.mono (by omega)) ((s02.trans s26).trans s610)
    · refine ⟨_, rfl, a, g, n + 1 + 7, rfl, T2, by omega, fun name H3 hname T3 s3 => ?_⟩
      refine ⟨by show 2 ≤ sizeLine; decide, fun p np => ?_⟩
      generalize e4 : upd H3 p _ = H4
      have N4 := newAt T3 np e4
      exact k p (.forget name) H4 (SqT.of N4.fc) hname (N4.T.mono (by omega)) ((s02.trans s3).trans N4.c)
end
end Kd

namespace Kd
open PySem PySem.Spec PyProof.Rows L2 KdXc
def odds1 : List Str := [("" : Str), ("-" : Str), ("kind" : Str), ("fact" : Str), ("forget" : Str), ("forget a" : Str), ("'a'" : Str), ("''" : Str), ("'" : Str), ("'a" : Str), ("'A'" : Str), ("'abcdefghijklm'" : Str)]
def odds2 : List Str := [("abcdefghijklm" : Str), ("A" : Str), ("0" : Str), ("-1" : Str), ("-0" : Str), ("01" : Str), ("+1" : Str), ("1.0" : Str), Txt.mul "9" 60, Txt.mul "9" 61, ("-" : Str) ++ Txt.mul "9" 60]
def odds3 : List Str := [("'1'" : Str), ("none" : Str), ("1_0" : Str), ("a-b" : Str), ("a" : Str)]
theorem odds_ok : ∀ z ∈ odds1 ++ odds2 ++ odds3, Tq 70 z := fun z hz => by
  have h : (odds1 ++ odds2 ++ odds3).all (tqB 70) = true := by decide +kernel
  exact tqB_ok (List.all_eq_true.mp h z hz)
theorem pow5a : ∀ m, m < 3 → 5 ^ m ≤ 25 := by decide
theorem pow5b : ∀ m, m < 4 → 5 ^ m ≤ 125 := by decide
theorem mulOk9 {n : Int} (h : n = 60 ∨ n = 61) : MulOk ("9" : Str) n := by
  rcases h with rfl | rfl
  · refine ⟨by decide +kernel, fun _ _ => by decide +kernel, fun _ _ => by decide +kernel⟩
  · refine ⟨by decide +kernel, fun _ _ => by decide +kernel, fun _ _ => by decide +kernel⟩
section
variable {P : Program} {w : World} {K : PySem.W.Frag} {mg : Str → Option Value} {base : Heap} {f : Addr} {fd : FuncData}
def spLaw (K : PySem.W.Frag) : Sp := fun vs H Q _ => ∃ (l : Addr) (ns : List Int), vs = [.ref l] ∧ SqL K H l (ns.map V.int) ∧ ns.length ≤ 63 ∧ ∀ H', Q (.bl true) H'
theorem rws_ct {a g : Addr} {n : Nat} {H : Hp} {xs : List V} {rs : List Rw} (T : Tray H a g n) (h : Paired (RwAt K H) xs rs) : Paired (RwAt K (ct a g H)) xs rs := PySem.Paired.mono (fun x r ⟨p, e, hp⟩ => ⟨p, e, by
  cases r with
  | kind d key day vals =>
    obtain ⟨q, h1, h2⟩ := hp
    exact ⟨q, seqT_ct T h1, seqT_ct T h2⟩
  | fact name day keys nums =>
    obtain ⟨q1, q2, h1, h2, h3⟩ := hp
    exact ⟨q1, q2, seqT_ct T h1, seqT_ct T h2, seqT_ct T h3⟩
  | forget name => exact seqT_ct T (show SqT K H p [.str "forget", .str name] from hp)⟩) h
abbrev N_law : List Str := ["script", "tray", "odd", "k", "some", "sums", "made", "j", "spoils", "turn", "text"]
theorem sc_law : FnScope N_law ["script"] (defScope s_law) := ⟨rfl, rfl, rfl, by decide +kernel, rfl, by decide +kernel, by decide +kernel⟩
/-! slots: 0 script 1 tray 2 odd 3 k 4 some 5 sums 6 made 7 j 8 spoils 9 turn 10 text; cells: some sums tray -/
set_option maxHeartbeats 0 in
theorem ok_law {C e fI f1 f2 f3 f4 f5 f6 f7 : Addr} {fdI d1 d2 d3 d4 d5 d6 d7 : FuncData} (F : FnP K "law" "law" s_law f fd) (PC : PlanC P w K mg base C e fI fdI)
    (c_tray : Fun P w K mg base "_law_tray" 1 ["script"] (spTray K) f1 d1) (c_draw : Fun P w K mg base "_law_draw" 1 ["tray", "many"] spDraw f2 d2) (c_lists : Fun P w K mg base "_law_lists" 4 ["tray", "most", "wide"] (spLists K) f3 d3) (c_row : Fun P w K mg base "_law_row" 5 ["tray", "some", "sums"] (spRowG K) f4 d4)
    (c_rows_shown : Fun P w K mg base "_law_rows_shown" 3 ["lines"] (spRowsT K) f5 d5) (c_spoilt : Fun P w K mg base "_law_spoilt" 4 ["tray", "text", "some"] (spSpo4 K) f6 d6) (c_right : Fun P w K mg base "_law_right" 7 ["made", "some", "sums", "text"] (spRight K C) f7 d7)
    (z_list : mg "list" = none) (z_len : mg "len" = none) (z_range : mg "range" = none) : FnOk P w K mg base CX0 8 f fd ["script"] (spLaw K) := by
  obtain ⟨i3, v3, b3⟩ := init_b3 PC.I
  refine F.ok sc_law (fun vs H Q E h => ?_) (fun cdv A outer s H vs Q E hr h => ?_)
  · obtain ⟨l, ns, rfl, _⟩ := h
    rfl
  · obtain ⟨l, ns, rfl, hS, hn, k⟩ := h
    have nd := sc_law.nd
    refine ⟨_, PSs.nox (pss_cons (ps_set (i := 1) nd rfl (Or.inr rfl) (pe_call c_tray.G (hr.mono (by decide)) rfl c_tray.g c_tray.k c_tray.b .nil pass0 (pa_cons (pv 0) pa_nil)))
      (pss_cons (ps_set (i := 2) nd rfl (Or.inl rfl) (pe_lst (pa_cons pe_str (pa_cons pe_str (pa_cons pe_str (pa_cons pe_str (pa_cons pe_str (pa_cons pe_str (pa_cons pe_str (pa_cons pe_str (pa_cons pe_str (pa_cons pe_str (pa_cons pe_str (pa_cons pe_str pa_nil))))))))))))))
      (pss_cons (ps_set (i := 2) nd rfl (Or.inl rfl) (pe_op op_cat (pv 2) (pe_lst (pa_cons pe_str (pa_cons pe_str (pa_cons pe_str (pa_cons pe_str (pa_cons pe_str (pa_cons pe_str (pa_cons pe_str (pa_cons pe_str (pa_cons (pe_op op_rep_str pe_str pe_int) (pa_cons (pe_op op_rep_str pe_str pe_int) (pa_cons (pe_op op_add_str pe_str (pe_op op_rep_str pe_str pe_int)) pa_nil))))))))))))))
      (pss_cons (ps_set (i := 2) nd rfl (Or.inl rfl) (pe_op op_cat (pv 2) (pe_lst (pa_cons pe_str (pa_cons pe_str (pa_cons pe_str (pa_cons pe_str (pa_cons pe_str pa_nil))))))))
      (pss_cons (ps_for PassesOwn.never rfl (pi_range1 rfl z_range (pa_cons (pe_op op_add pe_int (pe_callB call_len_seq (by rfl) z_len boot_len (pa_cons (pe_slice sl_list (pv 0) po_none (po_some pe_int)) pa_nil))) pa_nil)) (pg_name (i := 3) nd rfl (Or.inl rfl))
        (pss_cons (ps_asg (pe_call c_lists.G (hr.mono (by decide)) rfl c_lists.g c_lists.k c_lists.b .nil pass0 (pa_cons (pv 1) (pa_cons (pe_ix ix_list (pe_lst (pa_cons pe_int (pa_cons pe_int pa_nil))) (pe_call c_draw.G (hr.mono (by decide)) rfl c_draw.g c_draw.k c_draw.b .nil pass0 (pa_cons (pv 1) (pa_cons pe_int pa_nil))) (fun _ _ => rfl)) (pa_cons (pe_call c_draw.G (hr.mono (by decide)) rfl c_draw.g c_draw.k c_draw.b .nil pass0 (pa_cons (pv 1) (pa_cons pe_int pa_nil))) pa_nil)))) (pg_unl rfl (pgs_cons (pg_name (i := 4) nd rfl (Or.inr rfl)) (pgs_cons (pg_name (i := 5) nd rfl (Or.inr rfl)) pgs_nil))))
        (pss_cons (ps_set (i := 6) nd rfl (Or.inl rfl) (pe_make PC.M PC.GI (hr.mono (by decide)) rfl PC.gC b3 v3 pass0 (pa_cons (pe_callTy call_list_of (by rfl) z_list (by decide +kernel) (pa_cons (pv 4) pa_nil)) (pa_cons (pe_callTy call_list_of (by rfl) z_list (by decide +kernel) (pa_cons (pv 5) pa_nil)) pa_nil))))
        (pss_one (ps_for PassesOwn.never rfl (pi_range1 rfl z_range (pa_cons (pe_op op_add pe_int (pe_op op_mul pe_int (pe_callB call_len_seq (by rfl) z_len boot_len (pa_cons (pe_slice sl_list (pv 0) (po_some pe_int) (po_some pe_int)) pa_nil)))) pa_nil)) (pg_name (i := 7) nd rfl (Or.inl rfl))
          (pss_cons (ps_set (i := 8) nd rfl (Or.inl rfl) (pe_call c_draw.G (hr.mono (by decide)) rfl c_draw.g c_draw.k c_draw.b .nil pass0 (pa_cons (pv 1) (pa_cons pe_int pa_nil))))
          (pss_cons (ps_set (i := 10) nd rfl (Or.inl rfl) (pe_call c_rows_shown.G (hr.mono (by decide)) rfl c_rows_shown.g c_rows_shown.k c_rows_shown.b .nil pass0 (pa_cons (pe_lc (own := [("turn", 9)]) (g := gName 9) (tt := tYes) (te := tCall ((spRowG K)) [] E0 (tCons (tVar 1) (tCons (tVar 4) (tCons (tVar 5) tNil)))) rfl nd (pi_range1 rfl z_range (pa_cons (pe_call c_draw.G (hr.mono (by decide)) rfl c_draw.g c_draw.k c_draw.b .nil pass0 (pa_cons (pv 1) (pa_cons pe_int pa_nil))) pa_nil)) (blkOk_by (own := [("turn", 9)]) (N := N_law) (sc := defScope s_law) (by decide +kernel))
        (fun _ _ _ _ _ => pg_name (i := 9) nd rfl (Or.inl rfl)) (fun _ _ _ _ _ => pts_nil) (fun _ _ _ _ _ => pe_call c_row.G (hr.mono (by decide)) rfl c_row.g c_row.k c_row.b .nil pass0 (pa_cons (pv 1) (pa_cons (pv 4) (pa_cons (pv 5) pa_nil))))) pa_nil)))
          (pss_cons (ps_for PassesOwn.never rfl (pi_range1 rfl z_range (pa_cons (pv 8) pa_nil)) (pg_name (i := 9) nd rfl (Or.inl rfl))
            (pss_one (ps_set (i := 10) nd rfl (Or.inl rfl) (pe_call c_spoilt.G (hr.mono (by decide)) rfl c_spoilt.g c_spoilt.k c_spoilt.b .nil pass0 (pa_cons (pv 1) (pa_cons (pv 10) (pa_cons (pe_op op_cat (pv 2) (pe_lst (pa_cons (pe_ix ix_tup (pe_ix ix_list (pv 4) pe_int (fun _ _ => rfl)) pe_int (fun _ _ => rfl)) pa_nil))) pa_nil)))))))
          (pss_one (ps_if (pt_not (pt_val (pe_call c_right.G (hr.mono (by decide)) rfl c_right.g c_right.k c_right.b .nil pass0 (pa_cons (pv 6) (pa_cons (pv 4) (pa_cons (pv 5) (pa_cons (pe_slice sl_str (pv 10) po_none (po_some pe_int)) pa_nil)))))))
            (pss_one (ps_ret pe_bl))
            pss_nil))))))))))
      (pss_one (ps_ret pe_bl))))))), ?_⟩
    refine ⟨_, rfl, l, ns, rfl, hS, hn, fun a g H1 na ng T1 s1 => ?_⟩
    have s1c : Same H (ct a g H1) := fun b o h => ct_of (s1 b o h) (ne_of_none h na) (ne_of_none h ng)
    have hS1 : SqL K (ct a g H1) l (ns.map V.int) := s1c.seq hS
    refine set_st (σ' := [some (.ref l), some (.ref a), none, none, none, none, none, none, none, none, none]) rfl ?_
    refine ⟨by show 12 ≤ sizeLine; decide, fun o1 no1 => ?_⟩
    generalize qa : upd H1 o1 _ = Ha
    have Na : NewAt H1 Ha o1 (.lst (odds1.map V.str)) a g 0 := newAt T1 no1 qa
    refine set_st (σ' := [some (.ref l), some (.ref a), some (.ref o1), none, none, none, none, none, none, none, none]) rfl ?_
    have hm60 : (Txt.mul "9" 60).length = 60 := by decide +kernel
    refine ⟨_, rfl, _, _, rfl, rfl, mulOk9 (.inl rfl), _, _, rfl, rfl, mulOk9 (.inr rfl), _, _, rfl, rfl, mulOk9 (.inl rfl), _, _, rfl, rfl, by rw [hm60]; decide +kernel, by show 11 ≤ sizeLine; decide, fun o2 no2 => ?_⟩
    generalize qb : upd Ha o2 _ = Hb
    have Nb : NewAt Ha Hb o2 (.lst (odds2.map V.str)) a g 0 := newAt Na.T no2 qb
    refine ⟨o1, o2, _, _, rfl, rfl, Nb.s _ _ Na.f, Nb.f, by show 23 ≤ sizeLine; decide, fun o3 no3 => ?_⟩
    generalize qc : upd Hb o3 _ = Hc
    have Nc : NewAt Hb Hc o3 (.lst (odds1.map V.str ++ odds2.map V.str)) a g 0 := newAt Nb.T no3 qc
    refine set_st (σ' := [some (.ref l), some (.ref a), some (.ref o3), none, none, none, none, none, none, none, none]) rfl ?_
    refine ⟨_, rfl, by show 5 ≤ sizeLine; decide, fun o4 no4 => ?_⟩
    generalize qd : upd Hc o4 _ = Hd
    have Nd : NewAt Hc Hd o4 (.lst (odds3.map V.str)) a g 0 := newAt Nc.T no4 qd
    refine ⟨o3, o4, _, _, rfl, rfl, Nd.s _ _ Nc.f, Nd.f, by show 28 ≤ sizeLine; decide, fun od nod => ?_⟩
    generalize qe : upd Hd od _ = He
    have Ne : NewAt Hd He od (.lst ((odds1.map V.str ++ odds2.map V.str) ++ odds3.map V.str)) a g 0 := newAt Nd.T nod qe
    refine set_st (σ' := [some (.ref l), some (.ref a), some (.ref od), none, none, none, none, none, none, none, none]) rfl ?_
    have eod : (odds1.map V.str ++ odds2.map V.str) ++ odds3.map V.str = (odds1 ++ odds2 ++ odds3).map V.str := by rw [List.map_append, List.map_append]
    have fod : ct a g He od = some (.lst ((odds1 ++ odds2 ++ odds3).map V.str)) := by rw [← eod]; exact Ne.fc
    have s1e : Same (ct a g H1) (ct a g He) := (((Na.c.trans Nb.c).trans Nc.c).trans Nd.c).trans Ne.c
    have hSe := s1e.seq hS1
    refine ⟨_, rfl, _, rfl, l, _, rfl, ct_sub.seq hSe, fun p np => ?_⟩
    have ec : cutV (ns.map V.int) none (some 2) = (ns.map V.int).take 2 := cutTo _ 2
    rw [ec]
    have cl : ((ns.map V.int).take 2).length ≤ 2 := by rw [List.length_take]; omega
    generalize (ns.map V.int).take 2 = cs at cl ⊢
    generalize q2 : upd He p _ = H2
    have N2 := newAt Ne.T np q2
    refine ⟨p, _, rfl, .inl (SqL.of N2.f), _, _, rfl, rfl, _, rfl, by omega, by omega, ?_⟩
    refine for_range (lo := 0) (fun i σ H3 => ∃ (x3 x4 x5 x6 x7 x8 x9 x10 : Option V), σ = [some (.ref l), some (.ref a), some (.ref od), x3, x4, x5, x6, x7, x8, x9, x10] ∧ Tray H3 a g (28000 * i) ∧ Same (ct a g He) (ct a g H3)) ⟨_, _, _, _, _, _, _, _, rfl, N2.T, N2.c⟩ ?_ ?_
    · rintro i σ H3 hi ⟨x3, x4, x5, x6, x7, x8, x9, x10, rfl, T3, s3⟩
      have hi3 : i < 3 := by omega
      refine ⟨_, rfl, by show 2 ≤ sizeLine; decide, fun pl npl => ?_⟩
      generalize qf : upd H3 pl _ = Hf
      have Nf := newAt T3 npl qf
      refine ⟨_, rfl, a, g, _, 2, rfl, Nf.T, by omega, by decide, by decide, fun d2 Hg d20 d21 Tg sg => ?_⟩
      obtain ⟨most, hmost, hat⟩ : ∃ most : Nat, (most = 2 ∨ most = 4) ∧ atI [V.int 2, V.int 4] d2 = some (.int (most : Int)) := by
        have hd : d2 = 0 ∨ d2 = 1 := by omega
        rcases hd with e | e
        · exact ⟨2, .inl rfl, by rw [e]; rfl⟩
        · exact ⟨4, .inr rfl, by rw [e]; rfl⟩
      refine ⟨pl, _, _, _, rfl, rfl, SqL.of (ctkeep sg Nf.f Nf.na Nf.ng), hat, ?_⟩
      refine ⟨_, rfl, a, g, _, 2, rfl, Tg, by omega, by decide, by decide, fun wd Hh wd0 wd1 Th sh => ?_⟩
      obtain ⟨wide, rfl⟩ : ∃ c : Nat, wd = (c : Int) := ⟨wd.toNat, by omega⟩
      have s3h : Same (ct a g H3) (ct a g Hh) := (Nf.c.trans sg).trans sh
      refine ⟨a, g, _, most, wide, rfl, Th, by omega, by omega, by omega, by omega, fun r lo mo ds ms H4 hr4 L4 T4 s4 => ?_⟩
      obtain ⟨dl4, hm4, ok⟩ := L4
      refine ⟨r, _, rfl, SqL.of (ct_sub _ _ hr4), rfl, _, _, rfl, _, _, rfl, rfl, ?_⟩
      refine st_eq (σ' := [some (.ref l), some (.ref a), some (.ref od), some (.int (0 + (i : Int))), some (.ref lo), some (.ref mo), x6, x7, x8, x9, x10]) rfl ?_
      obtain ⟨xs, q1, q2'⟩ := id dl4
      have lxs := q2'.length
      have dd1 := ok.d1
      refine ⟨_, rfl, lo, xs, rfl, .inl (ct_sub.seq q1), fun hp nh => ?_⟩
      generalize q5 : upd H4 hp _ = H5
      have N5 := newAt T4 nh q5
      refine ⟨_, rfl, mo, _, rfl, .inl (SqL.of (N5.s _ _ (ct_sub _ _ hm4))), fun bp nb => ?_⟩
      generalize q6 : upd H5 bp _ = H6
      have N6 := newAt N5.T nb q6
      have s46 := N5.s.trans N6.s
      refine fun x dx nx ndx nex => init_good ⟨xs, SqL.of (N6.s _ _ N5.f), PySem.Paired.mono (fun _ _ h => DimAt.same (ct_sub.trans s46) h) q2'⟩ (.inl (SqL.of N6.f)) ok.szd ok.ff nx ndx nex fun H7 PN => ?_
      refine set_st (σ' := [some (.ref l), some (.ref a), some (.ref od), some (.int (0 + (i : Int))), some (.ref lo), some (.ref mo), some (.ref x), x7, x8, x9, x10]) rfl ?_
      have c47 : Same (ct a g H4) (ct a g H7) := ct_same (s46.trans PN.s)
      have T7 := N6.T.same PN.s
      have pl7 := PN.ct N6.T
      have dl7 := DimsAt.same c47 dl4
      have hm7 := c47 _ _ hm4
      have se7 := ((s3.trans s3h).trans s4).trans c47
      have hS7 := se7.seq hSe
      have fod7 := se7 _ _ fod
      refine ⟨_, rfl, _, rfl, _, rfl, l, _, rfl, ct_sub.seq hS7, fun p2 np2 => ?_⟩
      have ec2 : cutV (ns.map V.int) (some 2) (some 10) = ((ns.map V.int).drop 2).take 8 := cutMid _ 2 10
      rw [ec2]
      have cl2 : (((ns.map V.int).drop 2).take 8).length ≤ 8 := by rw [List.length_take]; omega
      generalize ((ns.map V.int).drop 2).take 8 = cs2 at cl2 ⊢
      generalize q8 : upd H7 p2 _ = H8
      have N8 := newAt T7 np2 q8
      refine ⟨p2, _, rfl, .inl (SqL.of N8.f), _, _, rfl, rfl, .inl ⟨by decide, by decide⟩, _, _, rfl, rfl, _, rfl, by omega, by omega, ?_⟩
      refine for_range (lo := 0) (fun j σ H9 => ∃ (x7 x8 x9 x10 : Option V), σ = [some (.ref l), some (.ref a), some (.ref od), some (.int (0 + (i : Int))), some (.ref lo), some (.ref mo), some (.ref x), x7, x8, x9, x10] ∧ Tray H9 a g (28000 * i + 450 + 900 * j) ∧ Same (ct a g H7) (ct a g H9)) ⟨_, _, _, _, rfl, N8.T.mono (by omega), N8.c⟩ ?_ ?_
      · rintro j σ H9 hj ⟨x7, x8, x9, x10, rfl, T9, s9⟩
        have hj30 : j < 30 := by omega
        refine ⟨_, rfl, a, g, _, 4, rfl, T9, by omega, by decide, by decide, fun sp H10 sp0 sp1 T10 s10 => ?_⟩
        obtain ⟨spn, rfl⟩ : ∃ c : Nat, sp = (c : Int) := ⟨sp.toNat, by omega⟩
        refine set_st (σ' := [some (.ref l), some (.ref a), some (.ref od), some (.int (0 + (i : Int))), some (.ref lo), some (.ref mo), some (.ref x), some (.int (0 + (j : Int))), some (.int (spn : Int)), x9, x10]) rfl ?_
        refine ⟨_, rfl, a, g, _, 5, rfl, T10, by omega, by decide, by decide, fun nr H12 n0 n1 T12 s12 => ?_⟩
        obtain ⟨cnt, rfl⟩ : ∃ c : Nat, nr = (c : Int) := ⟨nr.toNat, by omega⟩
        refine ⟨_, rfl, by omega, by omega, fun D hD => ?_⟩
        rw [Int.toNat_natCast]
        obtain ⟨nDa, nDg⟩ := T12.na hD
        have s712 : Same (ct a g H7) (ct a g H12) := (s9.trans s10).trans s12
        refine lc_build (walk_range (lo := 0)) hD (fun i2 ys R => ∃ rs : List Rw, Paired (RwAt K R) ys rs ∧ rs.length = i2 ∧ (∀ r ∈ rs, r.good ds ms) ∧ Tray R a g (28000 * i + 450 + 900 * j + 2 + 200 * i2) ∧ Same (ct a g H12) (ct a g R)) ⟨[], .nil, rfl, fun _ h => (nomatch h), T12, Same.refl _⟩ (fun _ _ _ _ _ => trivial) ?_ ?_
        · rintro i2 ys y Ha Hb hi2 e2 ly ⟨rs, hrs, lrs, grs, Tr, sr⟩ ⟨rfl, rfl⟩
          refine ⟨rfl, yes ?_⟩
          have sr' : Same (ct a g H12) (ct a g Hb) := sr.trans (ct_same cd_sub)
          refine ⟨_, rfl, _, rfl, _, rfl, a, g, lo, mo, _, ds, ms, rfl, Tr.same cd_sub, by omega, DimsAt.same (s712.trans sr') dl7, SqL.of ((s712.trans sr') _ _ hm7), ok, fun pr r0 Hc hat0 hg0 Tc sc => ?_⟩
          have eD : Hc D = some (.lst ys) := ctkeep sc e2 nDa nDg
          have sbc : Same (ct a g (cd D Hb)) (ct a g (cd D Hc)) := ctcd2 sc
          have hr0 : RwAt K (cd D Hc) (.ref pr) r0 := ⟨pr, rfl, rw_cdl eD (Rw.same ct_sub hat0)⟩
          have hrs2 : Paired (RwAt K (cd D Hc)) ys rs := PySem.Paired.mono (fun _ _ h => RwAt.same (sbc.trans ct_sub) h) (rws_ct Tr hrs)
          refine LcNx.add eD ly (by omega) ⟨rs ++ [r0], PySem.Paired.snoc hrs2 hr0, by rw [List.length_append, lrs]; rfl, fun r hr => ?_, (Tc.cd nDa nDg).mono (by omega), ctcd hD sr sc⟩
          rcases List.mem_append.mp hr with hr | hr
          · exact grs r hr
          · rw [List.mem_singleton.mp hr]
            exact hg0
        · rintro ys H13 e13 ly ⟨rs, hrs, lrs, grs, Tr, sr⟩
          have T13 := Tr.same cd_sub
          have s713 : Same (ct a g H7) (ct a g H13) := s712.trans (sr.trans (ct_same cd_sub))
          have hfine : ∀ r ∈ rs, r.fine := fun r hr => (grs r hr).fine ok
          have hrs13 : Paired (RwAt K H13) ys rs := PySem.Paired.mono (fun _ _ => RwAt.same cd_sub) hrs
          refine ⟨D, rs, rfl, ⟨ys, SqL.of e13, hrs13⟩, hfine, by omega, fun H14 s14 => ?_⟩
          refine set_st (σ' := [some (.ref l), some (.ref a), some (.ref od), some (.int (0 + (i : Int))), some (.ref lo), some (.ref mo), some (.ref x), some (.int (0 + (j : Int))), some (.int (spn : Int)), x9, some (.str (rowsT rs))]) rfl ?_
          have t0 := rows_plain hfine (by omega)
          have T14 := T13.same s14
          have s714 := s713.trans (ct_same s14)
          refine ⟨_, rfl, _, rfl, by omega, by omega, ?_⟩
          rw [Int.toNat_natCast]
          refine for_range (lo := 0) (fun m σ H15 => ∃ (x9 : Option V) (t : Str) (b : Nat), σ = [some (.ref l), some (.ref a), some (.ref od), some (.int (0 + (i : Int))), some (.ref lo), some (.ref mo), some (.ref x), some (.int (0 + (j : Int))), some (.int (spn : Int)), x9, some (.str t)] ∧ Tq b t ∧ b ≤ 3000 * 5 ^ m ∧ Tray H15 a g (28000 * i + 450 + 900 * j + 802 + 13 * m) ∧ Same (ct a g H7) (ct a g H15)) ⟨_, _, 3000, rfl, t0, by decide, T14.mono (by omega), s714⟩ ?_ ?_
          · rintro m σ H15 hm ⟨x9, t, b, rfl, tq, hb, T15, s15⟩
            have hm3 : m < 3 := by omega
            have hp5 : 5 ^ m ≤ 25 := pow5a m hm3
            have hp1 : 0 < 5 ^ m := Nat.pow_pos (by decide)
            have se15 := se7.trans s15
            have dl15 := DimsAt.same s15 dl7
            obtain ⟨xs15, q15, p15⟩ := dl15
            have l15 := p15.length
            obtain ⟨x0, xr, hx15⟩ := List.exists_cons_of_ne_nil (l := xs15) (fun z => by rw [z] at l15; have : 0 = ds.length := l15; omega)
            obtain ⟨dm, hdm, pp, qq, epp, a1, a2⟩ := paired_at p15 (show xs15[0]? = some x0 by rw [hx15]; rfl)
            have hnm := ok.dn dm (List.mem_of_getElem? hdm)
            refine ⟨_, rfl, _, rfl, _, rfl, _, rfl, lo, _, _, _, rfl, rfl, ct_sub.seq q15, atI_nat (j := 0) (show xs15[0]? = some (.ref pp) by rw [hx15, ← epp]; rfl), pp, _, _, _, rfl, rfl, Same.seqT ct_sub a1, atI_nat (j := 0) rfl, by show 1 ≤ sizeLine; decide, fun p16 np16 => ?_⟩
            generalize q16 : upd H15 p16 _ = H16
            have N16 := newAt T15 np16 q16
            have fod15 := se15 _ _ fod
            refine ⟨od, p16, _, _, rfl, rfl, N16.s _ _ (ct_sub _ _ fod15), N16.f, by show 29 ≤ sizeLine; decide, fun p17 np17 => ?_⟩
            generalize q17 : upd H16 p17 _ = H17
            have N17 := newAt N16.T np17 q17
            have e17 : (odds1 ++ odds2 ++ odds3).map V.str ++ [V.str dm.1] = (odds1 ++ odds2 ++ odds3 ++ [dm.1]).map V.str := by rw [List.map_append]; rfl
            have f17 := N17.fc
            rw [e17] at f17
            refine ⟨a, g, p17, _, b, t, _, rfl, N17.T, by omega, tq, by omega, SqL.of f17, by show 1 ≤ 29; decide, by show 29 ≤ 100; decide, fun z hz => ?_, fun z H18 hz T18 s18 => ?_⟩
            · rcases List.mem_append.mp hz with hz | hz
              · exact odds_ok z hz
              · rw [List.mem_singleton.mp hz]
                exact ⟨by have := hnm.le8; omega, fun c hc => by have := hnm.low c hc; omega⟩
            · refine ⟨_, z, 4 * b + 400, rfl, hz, ?_, T18.mono (by omega), ((s15.trans N16.c).trans N17.c).trans s18⟩
              rw [Nat.pow_succ]
              omega
          · rintro σ H15 ⟨x9, t, b, rfl, tq, hb, T15, s15⟩
            have hp5 : 5 ^ spn ≤ 125 := pow5b spn (by omega)
            have tl := tq.le
            refine ⟨_, rfl, _, rfl, _, rfl, _, rfl, _, rfl, t, rfl, le_big (by omega), ?_⟩
            refine ⟨x, lo, mo, _, ds, ms, rfl, pl7.same (s15.trans ct_sub), DimsAt.same (s15.trans ct_sub) dl7, SqL.of ((s15.trans ct_sub) _ _ hm7), ok, cut4000 tq, fun H16 s16 => ⟨_, rfl, ?_⟩⟩
            exact iteF ⟨_, _, _, _, rfl, (T15.same s16).mono (by omega), s15.trans (ct_same s16)⟩
      · rintro σ H9 ⟨x7, x8, x9, x10, rfl, T9, s9⟩
        exact ⟨_, _, _, _, _, _, _, _, rfl, T9.mono (by omega), se7.trans s9⟩
    · rintro σ H3 ⟨x3, x4, x5, x6, x7, x8, x9, x10, rfl, T3, s3⟩
      exact k H3
end
end Kd

namespace Kd
open PySem PySem.Spec PyProof.Rows L2
/-! ### what the head says of a tuple of texts and of a class -/
def strB : List Str → List Value → Bool
  | [], [] => true
  | z :: zs, .str y _ :: vs => decide (y = z) && strB zs vs
  | _, _ => false
theorem strB_ok : ∀ {zs : List Str} {vs : List Value}, strB zs vs = true → Vals (zs.map V.str) vs
  | [], [], _ => .nil
  | [], _ :: _, h => by cases h
  | _ :: _, [], h => by cases h
  | z :: zs, v :: vs, h => by
    cases v with
    | str y t =>
      obtain ⟨h1, h2⟩ := He.ba (show (decide (y = z) && strB zs vs) = true from h)
      have e : y = z := of_decide_eq_true h1
      subst e
      exact .cons ⟨t, rfl⟩ (strB_ok h2)
    | _ => cases h
def tupB (K : PySem.W.Frag) (a : Addr) (zs : List Str) : Bool := match K.lookup a with
  | some ⟨.type c, _, .seq its _, _⟩ => decide (c = "tuple") && (decide (its.size ≤ 4000) && strB zs its.toList)
  | _ => false
theorem tupB_ok {K : PySem.W.Frag} {a : Addr} {zs : List Str} (h : tupB K a zs = true) (H : Hp) : SqT K H a (zs.map V.str) := by
  unfold tupB at h
  cases q : K.lookup a with
  | none => rw [q] at h; cases h
  | some o =>
    obtain ⟨oc, od, dt, sl⟩ := o
    rw [q] at h
    cases oc with
    | type c =>
      cases dt with
      | seq its n =>
        obtain ⟨h1, h⟩ := He.ba (show (decide (c = "tuple") && (decide (its.size ≤ 4000) && strB zs its.toList)) = true from h)
        obtain ⟨h2, h3⟩ := He.ba h
        exact .inr ⟨_, its, n, q, congrArg Value.type (of_decide_eq_true h1), rfl, le_line (of_decide_eq_true h2), strB_ok h3⟩
      | _ => cases h
    | _ => cases dt <;> cases h
def clsB (K : PySem.W.Frag) (C : Addr) : Bool := He.eqO (PySem.W.findIn K (.ref C) "__class__") (some (some (.builtin "object.__class__"))) && (He.eqO (PySem.W.specialIn K (.builtin "object.__class__") "__get__") (some (some (.builtin "getset_descriptor.__get__"))) &&
  (decide (PySem.W.takesIn K (.builtin "object.__class__") = some true) && (decide (PySem.W.mroIn K C (.type "object") = some true) && decide (PySem.W.kitOne K (.ref C) (.ref C) = some true))))
theorem clsB_ok {K : PySem.W.Frag} {C : Addr} (h : clsB K C = true) (cl : Cls K C) : (∀ (H : Hp) (x dx : Addr) (fs : List (Str × V)), H x = some (.ins C dx fs) → TyOf K H (.ref x) (.ref C)) ∧ PySem.W.kitOne K (.ref C) (.ref C) = some true := by
  obtain ⟨h1, h⟩ := He.ba h
  obtain ⟨h2, h⟩ := He.ba h
  obtain ⟨h3, h⟩ := He.ba h
  obtain ⟨h4, h5⟩ := He.ba h
  exact ⟨fun H x dx fs e => .ins e cl (He.eqO_ok h1) (He.eqO_ok h2) (of_decide_eq_true h3) (of_decide_eq_true h4), of_decide_eq_true h5⟩
end Kd

namespace Kd
open PySem PySem.Spec PyProof.Rows L2 LamX
def d_DayError_init : He.DefD := ⟨("DayError", some "__init__"), "__init__", "DayError.__init__", defArgs s_DayError_init, defBody s_DayError_init, defScope s_DayError_init, [], []⟩
def d_NoPlan_init : He.DefD := ⟨("NoPlan", some "__init__"), "__init__", "NoPlan.__init__", defArgs s_NoPlan_init, defBody s_NoPlan_init, defScope s_NoPlan_init, [], []⟩
def d_NoRow_init : He.DefD := ⟨("NoRow", some "__init__"), "__init__", "NoRow.__init__", defArgs s_NoRow_init, defBody s_NoRow_init, defScope s_NoRow_init, [], []⟩
def d_NoFact_init : He.DefD := ⟨("NoFact", some "__init__"), "__init__", "NoFact.__init__", defArgs s_NoFact_init, defBody s_NoFact_init, defScope s_NoFact_init, [], []⟩
def d_NoThing_init : He.DefD := ⟨("NoThing", some "__init__"), "__init__", "NoThing.__init__", defArgs s_NoThing_init, defBody s_NoThing_init, defScope s_NoThing_init, [], []⟩
def d_Twice_init : He.DefD := ⟨("Twice", some "__init__"), "__init__", "Twice.__init__", defArgs s_Twice_init, defBody s_Twice_init, defScope s_Twice_init, [], []⟩
def d_NoGroup_init : He.DefD := ⟨("NoGroup", some "__init__"), "__init__", "NoGroup.__init__", defArgs s_NoGroup_init, defBody s_NoGroup_init, defScope s_NoGroup_init, [], []⟩
def d_NoMeasure_init : He.DefD := ⟨("NoMeasure", some "__init__"), "__init__", "NoMeasure.__init__", defArgs s_NoMeasure_init, defBody s_NoMeasure_init, defScope s_NoMeasure_init, [], []⟩
def d_NoWatch_init : He.DefD := ⟨("NoWatch", some "__init__"), "__init__", "NoWatch.__init__", defArgs s_NoWatch_init, defBody s_NoWatch_init, defScope s_NoWatch_init, [], []⟩
def d_NoTime_init : He.DefD := ⟨("NoTime", some "__init__"), "__init__", "NoTime.__init__", defArgs s_NoTime_init, defBody s_NoTime_init, defScope s_NoTime_init, [], []⟩
def d_NoText_init : He.DefD := ⟨("NoText", some "__init__"), "__init__", "NoText.__init__", defArgs s_NoText_init, defBody s_NoText_init, defScope s_NoText_init, [], []⟩
def d_NoDeskRow_init : He.DefD := ⟨("NoDeskRow", some "__init__"), "__init__", "NoDeskRow.__init__", defArgs s_NoDeskRow_init, defBody s_NoDeskRow_init, defScope s_NoDeskRow_init, [], []⟩
def d_is_name : He.DefD := ⟨("is_name", none), "is_name", "is_name", defArgs s_is_name, defBody s_is_name, defScope s_is_name, [], []⟩
def d_is_key : He.DefD := ⟨("is_key", none), "is_key", "is_key", defArgs s_is_key, defBody s_is_key, defScope s_is_key, [], []⟩
def d_is_made_of : He.DefD := ⟨("is_made_of", none), "is_made_of", "is_made_of", defArgs s_is_made_of, defBody s_is_made_of, defScope s_is_made_of, [], []⟩
def d_Plan_init : He.DefD := ⟨("Plan", some "__init__"), "__init__", "Plan.__init__", defArgs s_Plan_init, defBody s_Plan_init, defScope s_Plan_init, [.adr (He.dflAt ("Plan", some "__init__") 0)], []⟩
def d_Plan_dimensions : He.DefD := ⟨("Plan", some "dimensions"), "dimensions", "Plan.dimensions", defArgs s_Plan_dimensions, defBody s_Plan_dimensions, defScope s_Plan_dimensions, [], []⟩
def d_Plan_measures : He.DefD := ⟨("Plan", some "measures"), "measures", "Plan.measures", defArgs s_Plan_measures, defBody s_Plan_measures, defScope s_Plan_measures, [], []⟩
def d_Plan_eq : He.DefD := ⟨("Plan", some "__eq__"), "__eq__", "Plan.__eq__", defArgs s_Plan_eq, defBody s_Plan_eq, defScope s_Plan_eq, [], []⟩
def d_Plan_ne : He.DefD := ⟨("Plan", some "__ne__"), "__ne__", "Plan.__ne__", defArgs s_Plan_ne, defBody s_Plan_ne, defScope s_Plan_ne, [], []⟩
def d_first_fault : He.DefD := ⟨("first_fault", none), "first_fault", "first_fault", defArgs s_first_fault, defBody s_first_fault, defScope s_first_fault, [], []⟩
def d_are_faulty : He.DefD := ⟨("are_faulty", none), "are_faulty", "are_faulty", defArgs s_are_faulty, defBody s_are_faulty, defScope s_are_faulty, [], []⟩
def d_attributes_of : He.DefD := ⟨("attributes_of", none), "attributes_of", "attributes_of", defArgs s_attributes_of, defBody s_attributes_of, defScope s_attributes_of, [], []⟩
def d_read_rows : He.DefD := ⟨("read_rows", none), "read_rows", "read_rows", defArgs s_read_rows, defBody s_read_rows, defScope s_read_rows, [], []⟩
def d_read_row : He.DefD := ⟨("read_row", none), "read_row", "read_row", defArgs s_read_row, defBody s_read_row, defScope s_read_row, [], []⟩
def d_read_kind : He.DefD := ⟨("read_kind", none), "read_kind", "read_kind", defArgs s_read_kind, defBody s_read_kind, defScope s_read_kind, [], []⟩
def d_read_fact : He.DefD := ⟨("read_fact", none), "read_fact", "read_fact", defArgs s_read_fact, defBody s_read_fact, defScope s_read_fact, [], []⟩
def d_read_value : He.DefD := ⟨("read_value", none), "read_value", "read_value", defArgs s_read_value, defBody s_read_value, defScope s_read_value, [], []⟩
def d_read_number : He.DefD := ⟨("read_number", none), "read_number", "read_number", defArgs s_read_number, defBody s_read_number, defScope s_read_number, [], []⟩
def d_l_tray : He.DefD := ⟨("_law_tray", none), "_law_tray", "_law_tray", defArgs s_l_tray, defBody s_l_tray, defScope s_l_tray, [], []⟩
def d_l_draw : He.DefD := ⟨("_law_draw", none), "_law_draw", "_law_draw", defArgs s_l_draw, defBody s_l_draw, defScope s_l_draw, [], []⟩
def d_l_great : He.DefD := ⟨("_law_great", none), "_law_great", "_law_great", defArgs s_l_great, defBody s_l_great, defScope s_l_great, [], []⟩
def d_l_alike : He.DefD := ⟨("_law_alike", none), "_law_alike", "_law_alike", defArgs s_l_alike, defBody s_l_alike, defScope s_l_alike, [], []⟩
def d_l_name : He.DefD := ⟨("_law_name", none), "_law_name", "_law_name", defArgs s_l_name, defBody s_l_name, defScope s_l_name, [], []⟩
def d_l_names : He.DefD := ⟨("_law_names", none), "_law_names", "_law_names", defArgs s_l_names, defBody s_l_names, defScope s_l_names, [], []⟩
def d_l_lists : He.DefD := ⟨("_law_lists", none), "_law_lists", "_law_lists", defArgs s_l_lists, defBody s_l_lists, defScope s_l_lists, [], []⟩
def d_l_text : He.DefD := ⟨("_law_text", none), "_law_text", "_law_text", defArgs s_l_text, defBody s_l_text, defScope s_l_text, [], []⟩
def d_l_whole : He.DefD := ⟨("_law_whole", none), "_law_whole", "_law_whole", defArgs s_l_whole, defBody s_l_whole, defScope s_l_whole, [], []⟩
def d_l_value : He.DefD := ⟨("_law_value", none), "_law_value", "_law_value", defArgs s_l_value, defBody s_l_value, defScope s_l_value, [], []⟩
def d_l_row : He.DefD := ⟨("_law_row", none), "_law_row", "_law_row", defArgs s_l_row, defBody s_l_row, defScope s_l_row, [], []⟩
def d_l_value_shown : He.DefD := ⟨("_law_value_shown", none), "_law_value_shown", "_law_value_shown", defArgs s_l_value_shown, defBody s_l_value_shown, defScope s_l_value_shown, [], []⟩
def d_l_row_shown : He.DefD := ⟨("_law_row_shown", none), "_law_row_shown", "_law_row_shown", defArgs s_l_row_shown, defBody s_l_row_shown, defScope s_l_row_shown, [], []⟩
def d_l_rows_shown : He.DefD := ⟨("_law_rows_shown", none), "_law_rows_shown", "_law_rows_shown", defArgs s_l_rows_shown, defBody s_l_rows_shown, defScope s_l_rows_shown, [], []⟩
def d_l_sign : He.DefD := ⟨("_law_sign", none), "_law_sign", "_law_sign", defArgs s_l_sign, defBody s_l_sign, defScope s_l_sign, [], []⟩
def d_l_sign_spoilt : He.DefD := ⟨("_law_sign_spoilt", none), "_law_sign_spoilt", "_law_sign_spoilt", defArgs s_l_sign_spoilt, defBody s_l_sign_spoilt, defScope s_l_sign_spoilt, [], []⟩
def d_l_joint_spoilt : He.DefD := ⟨("_law_joint_spoilt", none), "_law_joint_spoilt", "_law_joint_spoilt", defArgs s_l_joint_spoilt, defBody s_l_joint_spoilt, defScope s_l_joint_spoilt, [], []⟩
def d_l_words_spoilt : He.DefD := ⟨("_law_words_spoilt", none), "_law_words_spoilt", "_law_words_spoilt", defArgs s_l_words_spoilt, defBody s_l_words_spoilt, defScope s_l_words_spoilt, [], []⟩
def d_l_spoilt : He.DefD := ⟨("_law_spoilt", none), "_law_spoilt", "_law_spoilt", defArgs s_l_spoilt, defBody s_l_spoilt, defScope s_l_spoilt, [], []⟩
def d_l_called : He.DefD := ⟨("_law_called", none), "_law_called", "_law_called", defArgs s_l_called, defBody s_l_called, defScope s_l_called, [], []⟩
def d_l_is_name : He.DefD := ⟨("_law_is_name", none), "_law_is_name", "_law_is_name", defArgs s_l_is_name, defBody s_l_is_name, defScope s_l_is_name, [], []⟩
def d_l_is_key : He.DefD := ⟨("_law_is_key", none), "_law_is_key", "_law_is_key", defArgs s_l_is_key, defBody s_l_is_key, defScope s_l_is_key, [], []⟩
def d_l_whole_of : He.DefD := ⟨("_law_whole_of", none), "_law_whole_of", "_law_whole_of", defArgs s_l_whole_of, defBody s_l_whole_of, defScope s_l_whole_of, [], []⟩
def d_l_value_of : He.DefD := ⟨("_law_value_of", none), "_law_value_of", "_law_value_of", defArgs s_l_value_of, defBody s_l_value_of, defScope s_l_value_of, [], []⟩
def d_l_row_of : He.DefD := ⟨("_law_row_of", none), "_law_row_of", "_law_row_of", defArgs s_l_row_of, defBody s_l_row_of, defScope s_l_row_of, [], []⟩
def d_l_rows_of : He.DefD := ⟨("_law_rows_of", none), "_law_rows_of", "_law_rows_of", defArgs s_l_rows_of, defBody s_l_rows_of, defScope s_l_rows_of, [], []⟩
def d_l_right : He.DefD := ⟨("_law_right", none), "_law_right", "_law_right", defArgs s_l_right, defBody s_l_right, defScope s_l_right, [], []⟩
def d_law : He.DefD := ⟨("law", none), "law", "law", defArgs s_law, defBody s_law, defScope s_law, [], []⟩
def fn : List He.DefD := [d_DayError_init, d_NoPlan_init, d_NoRow_init, d_NoFact_init, d_NoThing_init, d_Twice_init, d_NoGroup_init, d_NoMeasure_init, d_NoWatch_init, d_NoTime_init, d_NoText_init, d_NoDeskRow_init, d_is_name, d_is_key, d_is_made_of, d_Plan_init, d_Plan_dimensions, d_Plan_measures, d_Plan_eq, d_Plan_ne, d_first_fault, d_are_faulty, d_attributes_of, d_read_rows, d_read_row, d_read_kind, d_read_fact, d_read_value, d_read_number, d_l_tray, d_l_draw, d_l_great, d_l_alike, d_l_name, d_l_names, d_l_lists, d_l_text, d_l_whole, d_l_value, d_l_row, d_l_value_shown, d_l_row_shown, d_l_rows_shown, d_l_sign, d_l_sign_spoilt, d_l_joint_spoilt, d_l_words_spoilt, d_l_spoilt, d_l_called, d_l_is_name, d_l_is_key, d_l_whole_of, d_l_value_of, d_l_row_of, d_l_rows_of, d_l_right, d_law]
def fa : List He.Fa := [(.glo "DayError" : He.Fa), (.glo "NoPlan" : He.Fa), (.glo "NoRow" : He.Fa), (.glo "NoFact" : He.Fa), (.glo "NoThing" : He.Fa), (.glo "Twice" : He.Fa), (.glo "NoGroup" : He.Fa), (.glo "NoMeasure" : He.Fa), (.glo "NoWatch" : He.Fa), (.glo "NoTime" : He.Fa), (.glo "NoText" : He.Fa), (.glo "NoDeskRow" : He.Fa), (.glo "Plan" : He.Fa), (.glo "is_name" : He.Fa), (.glo "is_key" : He.Fa), (.glo "is_made_of" : He.Fa), (.glo "first_fault" : He.Fa), (.glo "are_faulty" : He.Fa), (.glo "attributes_of" : He.Fa), (.glo "read_rows" : He.Fa), (.glo "read_row" : He.Fa), (.glo "read_kind" : He.Fa), (.glo "read_fact" : He.Fa), (.glo "read_value" : He.Fa), (.glo "read_number" : He.Fa), (.glo "_law_tray" : He.Fa), (.glo "_law_draw" : He.Fa), (.glo "_law_great" : He.Fa), (.glo "_law_alike" : He.Fa), (.glo "_law_name" : He.Fa), (.glo "_law_names" : He.Fa), (.glo "_law_lists" : He.Fa), (.glo "_law_text" : He.Fa), (.glo "_law_whole" : He.Fa), (.glo "_law_value" : He.Fa), (.glo "_law_row" : He.Fa), (.glo "_law_value_shown" : He.Fa), (.glo "_law_row_shown" : He.Fa), (.glo "_law_rows_shown" : He.Fa), (.glo "_law_sign" : He.Fa), (.glo "_law_sign_spoilt" : He.Fa), (.glo "_law_joint_spoilt" : He.Fa), (.glo "_law_words_spoilt" : He.Fa), (.glo "_law_spoilt" : He.Fa), (.glo "_law_called" : He.Fa), (.glo "_law_is_name" : He.Fa), (.glo "_law_is_key" : He.Fa), (.glo "_law_whole_of" : He.Fa), (.glo "_law_value_of" : He.Fa), (.glo "_law_row_of" : He.Fa), (.glo "_law_rows_of" : He.Fa), (.glo "_law_right" : He.Fa), (.glo "law" : He.Fa), (.str "SMALL_LETTERS" "abcdefghijklmnopqrstuvwxyz" : He.Fa), (.str "FIGURES" "0123456789" : He.Fa), (.int "LONGEST_NAME" 8 : He.Fa), (.int "LONGEST_KEY" 12 : He.Fa), (.int "MOST_DIMENSIONS" 4 : He.Fa), (.int "MOST_ATTRIBUTES" 5 : He.Fa), (.int "MOST_MEASURES" 4 : He.Fa), (.int "MOST_FIGURES" 60 : He.Fa), (.free "ValueError" : He.Fa), (.free "all" : He.Fa), (.free "bool" : He.Fa), (.free "int" : He.Fa), (.free "isinstance" : He.Fa), (.free "len" : He.Fa), (.free "list" : He.Fa), (.free "max" : He.Fa), (.free "range" : He.Fa), (.free "repr" : He.Fa), (.free "set" : He.Fa), (.free "str" : He.Fa), (.free "tuple" : He.Fa), (.cls "Plan" : He.Fa), (.mkr "Plan" : He.Fa), (.noat "Plan" "dimension_list" : He.Fa), (.noat "Plan" "measure_list" : He.Fa), (.meth "Plan" "dimensions" : He.Fa), (.meth "Plan" "measures" : He.Fa), (.meth "Plan" "__eq__" : He.Fa), (.meth "Plan" "__ne__" : He.Fa)]
def loose : List PySem.Str := [("DayError" : PySem.Str), ("NoPlan" : PySem.Str), ("NoRow" : PySem.Str), ("NoFact" : PySem.Str), ("NoThing" : PySem.Str), ("Twice" : PySem.Str), ("NoGroup" : PySem.Str), ("NoMeasure" : PySem.Str), ("NoWatch" : PySem.Str), ("NoTime" : PySem.Str), ("NoText" : PySem.Str), ("NoDeskRow" : PySem.Str), ("SMALL_LETTERS" : PySem.Str), ("FIGURES" : PySem.Str), ("LONGEST_NAME" : PySem.Str), ("LONGEST_KEY" : PySem.Str), ("is_name" : PySem.Str), ("is_key" : PySem.Str), ("is_made_of" : PySem.Str), ("MOST_DIMENSIONS" : PySem.Str), ("MOST_ATTRIBUTES" : PySem.Str), ("MOST_MEASURES" : PySem.Str), ("Plan" : PySem.Str), ("first_fault" : PySem.Str), ("are_faulty" : PySem.Str), ("attributes_of" : PySem.Str), ("MOST_FIGURES" : PySem.Str), ("read_rows" : PySem.Str), ("read_row" : PySem.Str), ("read_kind" : PySem.Str), ("read_fact" : PySem.Str), ("read_value" : PySem.Str), ("read_number" : PySem.Str), ("_law_tray" : PySem.Str), ("_law_draw" : PySem.Str), ("_law_great" : PySem.Str), ("_law_alike" : PySem.Str), ("_law_name" : PySem.Str), ("_law_names" : PySem.Str), ("_law_lists" : PySem.Str), ("_law_text" : PySem.Str), ("_law_whole" : PySem.Str), ("_law_value" : PySem.Str), ("_law_row" : PySem.Str), ("_law_value_shown" : PySem.Str), ("_law_row_shown" : PySem.Str), ("_law_rows_shown" : PySem.Str), ("_law_sign" : PySem.Str), ("_law_sign_spoilt" : PySem.Str), ("_law_joint_spoilt" : PySem.Str), ("_law_words_spoilt" : PySem.Str), ("_law_spoilt" : PySem.Str), ("_law_called" : PySem.Str), ("_law_is_name" : PySem.Str), ("_law_is_key" : PySem.Str), ("_law_whole_of" : PySem.Str), ("_law_value_of" : PySem.Str), ("_law_row_of" : PySem.Str), ("_law_rows_of" : PySem.Str), ("_law_right" : PySem.Str)]
/-! ### the head: the facts, and that a def's default is the empty tuple -/
def exB0 (K : PySem.W.Frag) : Bool := match K.lookup (He.dflAt ("Plan", some "__init__") 0 K) with
  | some ⟨.type c, _, .seq its _, _⟩ => decide (c = "tuple") && decide (its.toList = [])
  | _ => false
theorem exB0_ok {K : PySem.W.Frag} (h : exB0 K = true) (H : Hp) : SqT K H (He.dflAt ("Plan", some "__init__") 0 K) [] := by
  unfold exB0 at h
  cases q : K.lookup (He.dflAt ("Plan", some "__init__") 0 K) with
  | none => rw [q] at h; cases h
  | some o =>
    obtain ⟨oc, od, dt, sl⟩ := o
    rw [q] at h
    cases oc with
    | type c =>
      cases dt with
      | seq its n =>
        obtain ⟨h1, h2⟩ := He.ba (show (decide (c = "tuple") && decide (its.toList = [])) = true from h)
        have h3 : its.toList = [] := of_decide_eq_true h2
        refine .inr ⟨_, its, n, q, congrArg Value.type (of_decide_eq_true h1), rfl, ?_, by rw [h3]; exact .nil⟩
        have h4 : its.size = 0 := by rw [← Array.length_toList, h3]; rfl
        rw [h4]
        exact Nat.zero_le _
      | _ => cases h
    | _ => cases dt <;> cases h
def exO (K : PySem.W.Frag) : List Addr := [He.ga K "NoDeskRow", He.ga K "NoFact", He.ga K "NoGroup", He.ga K "NoMeasure", He.ga K "NoPlan", He.ga K "NoRow", He.ga K "NoThing", He.ga K "NoTime"]
def exU (K : PySem.W.Frag) : List Addr := [He.ga K "NoWatch", He.ga K "Twice"]
def exX (K : PySem.W.Frag) : Bool := decide (PySem.W.kitOne K (.ref (He.ga K "NoText")) (.ref (He.ga K "DayError")) = some true) && (decide (PySem.W.kitOne K (.ref (He.ga K "NoText")) (.type "ValueError") = some true) && (decide (PySem.W.kitAny K (.ref (He.ga K "NoText")) ((exO K).map Value.ref) = some false) && (decide (PySem.W.kitAny K (.ref (He.ga K "NoText")) ((exU K).map Value.ref) = some false) && (KdXc.cfnB K (He.ga K "DayError") (He.fAd K ("DayError", some "__init__")) "__init__" && (KdXc.veB K && (KdXc.errB K (He.ga K "NoText") (He.fAd K ("NoText", some "__init__"))))))))
def exB (K : PySem.W.Frag) : Bool := exB0 K && exX K
theorem exB_ok {K : PySem.W.Frag} (h : exB K = true) (H : Hp) : SqT K H (He.dflAt ("Plan", some "__init__") 0 K) [] := exB0_ok (He.ba h).1 H
def asC (g : Addr → Option Obj) : List Addr := He.asD g 6 ++ [cStatics]
def hkE : PySem.W.Hook where
  α := He.AlD × Bool
  obs := fun s => (He.obsD fa fn (He.frG s.heap.get? (asC s.heap.get?)), exB (He.frG s.heap.get? (asC s.heap.get?)))
  val := fun _ => (He.valD fn, true)
  says := fun _ h => ∃ K : PySem.W.Frag, K.In h ∧ He.SaysD fa fn K ∧ exB K = true
  of := fun _ s e => ⟨He.frG s.heap.get? (asC s.heap.get?), He.frG_in, congrArg (fun z : He.AlD × Bool => z.1) e, congrArg (fun z : He.AlD × Bool => z.2) e⟩
  keeps := fun _ _ _ ⟨K, hK, c⟩ k => ⟨K, PySem.W.Frag.In.keeps hK k, c⟩
abbrev R : PySem.W.OpenRow := PySem.W.OpenLaw.row PySem.Challenge.rw_kindsofday_k43_texts_of_no_rows
def ob (s : PySem.W.SharedT) : He.AlD × Bool := (He.obsD fa fn (He.frG (HandSHeadRun.getT s) (asC (HandSHeadRun.getT s))), exB (He.frG (HandSHeadRun.getT s) (asC (HandSHeadRun.getT s))))
theorem ob_eq (s : PySem.W.SharedT) : ob s = hkE.obs s.abs := by
  have e : HandSHeadRun.getT s = s.abs.heap.get? := funext (HandSHeadRun.getT_eq s)
  unfold ob
  rw [e]
  rfl
theorem run (w : World) : HandSHeadRun.RunEq R (PySem.W.view R.prog [65]) hkE ob 9000 loose w := by
  intro os
  kernel_rfl
theorem code_at {K : PySem.W.Frag} {x qual : Str} {ps : Arguments} {bd : List Stmt} {sc : Scope} {dv : List V} {kw : List (Str × V)} {p : Str × Option Str} {fd : FuncData} (F : FunD K x qual ps bd sc dv kw (He.fAd K p) fd) : fd.code = .ref (He.cT K p).1 := by
  obtain ⟨oc, od, dV, kV, doc, pm, an, cdv, ct, osl, rfl, lk, hcd, _, _⟩ := F.ex
  obtain ⟨c, e⟩ := He.codeIn_ref hcd
  subst e
  have q := He.codeOf_eq (c := c) lk rfl
  show Value.ref c = Value.ref (He.codeOf K p)
  rw [q]
theorem facts {P : Program} {w : World} {K : PySem.W.Frag} {h : Heap} {mg : Str → Option Value} {f : Addr} (X : K.In h) (G : h.Ns mainGlobals mg) (hfa : mg ("law" : Str) = some (.ref f)) (c : He.SaysD fa fn K) (ce : exB K = true) :
    ∃ fd : FuncData, (∀ (s : Shared) (v : Value), BindsTo s fd ⟨[v], []⟩ [("script", v)]) ∧ ∀ base : Heap, K.In base → base.Ns mainGlobals mg → FnOk P w K mg base CX0 8 f fd ["script"] (spLaw K) := by
  obtain ⟨fd_DayError_init, F_DayError_init⟩ := c.def_ 0 (d := d_DayError_init) rfl
  obtain ⟨fd_NoPlan_init, F_NoPlan_init⟩ := c.def_ 1 (d := d_NoPlan_init) rfl
  obtain ⟨fd_NoRow_init, F_NoRow_init⟩ := c.def_ 2 (d := d_NoRow_init) rfl
  obtain ⟨fd_NoFact_init, F_NoFact_init⟩ := c.def_ 3 (d := d_NoFact_init) rfl
  obtain ⟨fd_NoThing_init, F_NoThing_init⟩ := c.def_ 4 (d := d_NoThing_init) rfl
  obtain ⟨fd_Twice_init, F_Twice_init⟩ := c.def_ 5 (d := d_Twice_init) rfl
  obtain ⟨fd_NoGroup_init, F_NoGroup_init⟩ := c.def_ 6 (d := d_NoGroup_init) rfl
  obtain ⟨fd_NoMeasure_init, F_NoMeasure_init⟩ := c.def_ 7 (d := d_NoMeasure_init) rfl
  obtain ⟨fd_NoWatch_init, F_NoWatch_init⟩ := c.def_ 8 (d := d_NoWatch_init) rfl
  obtain ⟨fd_NoTime_init, F_NoTime_init⟩ := c.def_ 9 (d := d_NoTime_init) rfl
  obtain ⟨fd_NoText_init, F_NoText_init⟩ := c.def_ 10 (d := d_NoText_init) rfl
  obtain ⟨fd_NoDeskRow_init, F_NoDeskRow_init⟩ := c.def_ 11 (d := d_NoDeskRow_init) rfl
  obtain ⟨fd_is_name, F_is_name⟩ := c.def_ 12 (d := d_is_name) rfl
  obtain ⟨fd_is_key, F_is_key⟩ := c.def_ 13 (d := d_is_key) rfl
  obtain ⟨fd_is_made_of, F_is_made_of⟩ := c.def_ 14 (d := d_is_made_of) rfl
  obtain ⟨fd_Plan_init, F_Plan_init⟩ := c.def_ 15 (d := d_Plan_init) rfl
  obtain ⟨fd_Plan_dimensions, F_Plan_dimensions⟩ := c.def_ 16 (d := d_Plan_dimensions) rfl
  obtain ⟨fd_Plan_measures, F_Plan_measures⟩ := c.def_ 17 (d := d_Plan_measures) rfl
  obtain ⟨fd_Plan_eq, F_Plan_eq⟩ := c.def_ 18 (d := d_Plan_eq) rfl
  obtain ⟨fd_Plan_ne, F_Plan_ne⟩ := c.def_ 19 (d := d_Plan_ne) rfl
  obtain ⟨fd_first_fault, F_first_fault⟩ := c.def_ 20 (d := d_first_fault) rfl
  obtain ⟨fd_are_faulty, F_are_faulty⟩ := c.def_ 21 (d := d_are_faulty) rfl
  obtain ⟨fd_attributes_of, F_attributes_of⟩ := c.def_ 22 (d := d_attributes_of) rfl
  obtain ⟨fd_read_rows, F_read_rows⟩ := c.def_ 23 (d := d_read_rows) rfl
  obtain ⟨fd_read_row, F_read_row⟩ := c.def_ 24 (d := d_read_row) rfl
  obtain ⟨fd_read_kind, F_read_kind⟩ := c.def_ 25 (d := d_read_kind) rfl
  obtain ⟨fd_read_fact, F_read_fact⟩ := c.def_ 26 (d := d_read_fact) rfl
  obtain ⟨fd_read_value, F_read_value⟩ := c.def_ 27 (d := d_read_value) rfl
  obtain ⟨fd_read_number, F_read_number⟩ := c.def_ 28 (d := d_read_number) rfl
  obtain ⟨fd_l_tray, F_l_tray⟩ := c.def_ 29 (d := d_l_tray) rfl
  obtain ⟨fd_l_draw, F_l_draw⟩ := c.def_ 30 (d := d_l_draw) rfl
  obtain ⟨fd_l_great, F_l_great⟩ := c.def_ 31 (d := d_l_great) rfl
  obtain ⟨fd_l_alike, F_l_alike⟩ := c.def_ 32 (d := d_l_alike) rfl
  obtain ⟨fd_l_name, F_l_name⟩ := c.def_ 33 (d := d_l_name) rfl
  obtain ⟨fd_l_names, F_l_names⟩ := c.def_ 34 (d := d_l_names) rfl
  obtain ⟨fd_l_lists, F_l_lists⟩ := c.def_ 35 (d := d_l_lists) rfl
  obtain ⟨fd_l_text, F_l_text⟩ := c.def_ 36 (d := d_l_text) rfl
  obtain ⟨fd_l_whole, F_l_whole⟩ := c.def_ 37 (d := d_l_whole) rfl
  obtain ⟨fd_l_value, F_l_value⟩ := c.def_ 38 (d := d_l_value) rfl
  obtain ⟨fd_l_row, F_l_row⟩ := c.def_ 39 (d := d_l_row) rfl
  obtain ⟨fd_l_value_shown, F_l_value_shown⟩ := c.def_ 40 (d := d_l_value_shown) rfl
  obtain ⟨fd_l_row_shown, F_l_row_shown⟩ := c.def_ 41 (d := d_l_row_shown) rfl
  obtain ⟨fd_l_rows_shown, F_l_rows_shown⟩ := c.def_ 42 (d := d_l_rows_shown) rfl
  obtain ⟨fd_l_sign, F_l_sign⟩ := c.def_ 43 (d := d_l_sign) rfl
  obtain ⟨fd_l_sign_spoilt, F_l_sign_spoilt⟩ := c.def_ 44 (d := d_l_sign_spoilt) rfl
  obtain ⟨fd_l_joint_spoilt, F_l_joint_spoilt⟩ := c.def_ 45 (d := d_l_joint_spoilt) rfl
  obtain ⟨fd_l_words_spoilt, F_l_words_spoilt⟩ := c.def_ 46 (d := d_l_words_spoilt) rfl
  obtain ⟨fd_l_spoilt, F_l_spoilt⟩ := c.def_ 47 (d := d_l_spoilt) rfl
  obtain ⟨fd_l_called, F_l_called⟩ := c.def_ 48 (d := d_l_called) rfl
  obtain ⟨fd_l_is_name, F_l_is_name⟩ := c.def_ 49 (d := d_l_is_name) rfl
  obtain ⟨fd_l_is_key, F_l_is_key⟩ := c.def_ 50 (d := d_l_is_key) rfl
  obtain ⟨fd_l_whole_of, F_l_whole_of⟩ := c.def_ 51 (d := d_l_whole_of) rfl
  obtain ⟨fd_l_value_of, F_l_value_of⟩ := c.def_ 52 (d := d_l_value_of) rfl
  obtain ⟨fd_l_row_of, F_l_row_of⟩ := c.def_ 53 (d := d_l_row_of) rfl
  obtain ⟨fd_l_rows_of, F_l_rows_of⟩ := c.def_ 54 (d := d_l_rows_of) rfl
  obtain ⟨fd_l_right, F_l_right⟩ := c.def_ 55 (d := d_l_right) rfl
  obtain ⟨fd_law, F_law⟩ := c.def_ 56 (d := d_law) rfl
  have e := hfa.symm.trans (He.glo_ok X G (c.fact 52 (f := .glo "law") rfl))
  cases e
  have b := FunD.bindsA (ps := ["script"]) F_law fun _ _ _ _ _ _ us hl => match us, hl with | [_], _ => rfl
  have b_DayError_init : Binds K fd_DayError_init ["self", "what"] [] := FunD.bindsN F_DayError_init fun _ _ _ _ _ _ us hl => match us, hl with | [_, _], _ => rfl
  have b_NoPlan_init : Binds K fd_NoPlan_init ["self", "what"] [] := FunD.bindsN F_NoPlan_init fun _ _ _ _ _ _ us hl => match us, hl with | [_, _], _ => rfl
  have b_NoRow_init : Binds K fd_NoRow_init ["self", "what"] [] := FunD.bindsN F_NoRow_init fun _ _ _ _ _ _ us hl => match us, hl with | [_, _], _ => rfl
  have b_NoFact_init : Binds K fd_NoFact_init ["self", "what"] [] := FunD.bindsN F_NoFact_init fun _ _ _ _ _ _ us hl => match us, hl with | [_, _], _ => rfl
  have b_NoThing_init : Binds K fd_NoThing_init ["self", "what"] [] := FunD.bindsN F_NoThing_init fun _ _ _ _ _ _ us hl => match us, hl with | [_, _], _ => rfl
  have b_Twice_init : Binds K fd_Twice_init ["self", "what"] [] := FunD.bindsN F_Twice_init fun _ _ _ _ _ _ us hl => match us, hl with | [_, _], _ => rfl
  have b_NoGroup_init : Binds K fd_NoGroup_init ["self", "what"] [] := FunD.bindsN F_NoGroup_init fun _ _ _ _ _ _ us hl => match us, hl with | [_, _], _ => rfl
  have b_NoMeasure_init : Binds K fd_NoMeasure_init ["self", "what"] [] := FunD.bindsN F_NoMeasure_init fun _ _ _ _ _ _ us hl => match us, hl with | [_, _], _ => rfl
  have b_NoWatch_init : Binds K fd_NoWatch_init ["self", "what"] [] := FunD.bindsN F_NoWatch_init fun _ _ _ _ _ _ us hl => match us, hl with | [_, _], _ => rfl
  have b_NoTime_init : Binds K fd_NoTime_init ["self", "what"] [] := FunD.bindsN F_NoTime_init fun _ _ _ _ _ _ us hl => match us, hl with | [_, _], _ => rfl
  have b_NoText_init : Binds K fd_NoText_init ["self", "what"] [] := FunD.bindsN F_NoText_init fun _ _ _ _ _ _ us hl => match us, hl with | [_, _], _ => rfl
  have b_NoDeskRow_init : Binds K fd_NoDeskRow_init ["self", "what"] [] := FunD.bindsN F_NoDeskRow_init fun _ _ _ _ _ _ us hl => match us, hl with | [_, _], _ => rfl
  have b_is_name : Binds K fd_is_name ["text"] [] := FunD.bindsN F_is_name fun _ _ _ _ _ _ us hl => match us, hl with | [_], _ => rfl
  have b_is_key : Binds K fd_is_key ["text"] [] := FunD.bindsN F_is_key fun _ _ _ _ _ _ us hl => match us, hl with | [_], _ => rfl
  have b_is_made_of : Binds K fd_is_made_of ["text", "signs"] [] := FunD.bindsN F_is_made_of fun _ _ _ _ _ _ us hl => match us, hl with | [_, _], _ => rfl
  have b_Plan_dimensions : Binds K fd_Plan_dimensions ["self"] [] := FunD.bindsN F_Plan_dimensions fun _ _ _ _ _ _ us hl => match us, hl with | [_], _ => rfl
  have b_Plan_measures : Binds K fd_Plan_measures ["self"] [] := FunD.bindsN F_Plan_measures fun _ _ _ _ _ _ us hl => match us, hl with | [_], _ => rfl
  have b_Plan_eq : Binds K fd_Plan_eq ["self", "other"] [] := FunD.bindsN F_Plan_eq fun _ _ _ _ _ _ us hl => match us, hl with | [_, _], _ => rfl
  have b_Plan_ne : Binds K fd_Plan_ne ["self", "other"] [] := FunD.bindsN F_Plan_ne fun _ _ _ _ _ _ us hl => match us, hl with | [_, _], _ => rfl
  have b_first_fault : Binds K fd_first_fault ["dimensions", "measures"] [] := FunD.bindsN F_first_fault fun _ _ _ _ _ _ us hl => match us, hl with | [_, _], _ => rfl
  have b_are_faulty : Binds K fd_are_faulty ["names", "most"] [] := FunD.bindsN F_are_faulty fun _ _ _ _ _ _ us hl => match us, hl with | [_, _], _ => rfl
  have b_attributes_of : Binds K fd_attributes_of ["plan", "dimension"] [] := FunD.bindsN F_attributes_of fun _ _ _ _ _ _ us hl => match us, hl with | [_, _], _ => rfl
  have b_read_rows : Binds K fd_read_rows ["plan", "text"] [] := FunD.bindsN F_read_rows fun _ _ _ _ _ _ us hl => match us, hl with | [_, _], _ => rfl
  have b_read_row : Binds K fd_read_row ["plan", "words"] [] := FunD.bindsN F_read_row fun _ _ _ _ _ _ us hl => match us, hl with | [_, _], _ => rfl
  have b_read_kind : Binds K fd_read_kind ["plan", "words"] [] := FunD.bindsN F_read_kind fun _ _ _ _ _ _ us hl => match us, hl with | [_, _], _ => rfl
  have b_read_fact : Binds K fd_read_fact ["plan", "words"] [] := FunD.bindsN F_read_fact fun _ _ _ _ _ _ us hl => match us, hl with | [_, _], _ => rfl
  have b_read_value : Binds K fd_read_value ["word"] [] := FunD.bindsN F_read_value fun _ _ _ _ _ _ us hl => match us, hl with | [_], _ => rfl
  have b_read_number : Binds K fd_read_number ["word"] [] := FunD.bindsN F_read_number fun _ _ _ _ _ _ us hl => match us, hl with | [_], _ => rfl
  have b_l_tray : Binds K fd_l_tray ["script"] [] := FunD.bindsN F_l_tray fun _ _ _ _ _ _ us hl => match us, hl with | [_], _ => rfl
  have b_l_draw : Binds K fd_l_draw ["tray", "many"] [] := FunD.bindsN F_l_draw fun _ _ _ _ _ _ us hl => match us, hl with | [_, _], _ => rfl
  have b_l_great : Binds K fd_l_great ["tray"] [] := FunD.bindsN F_l_great fun _ _ _ _ _ _ us hl => match us, hl with | [_], _ => rfl
  have b_l_alike : Binds K fd_l_alike ["found", "due"] [] := FunD.bindsN F_l_alike fun _ _ _ _ _ _ us hl => match us, hl with | [_, _], _ => rfl
  have b_l_name : Binds K fd_l_name ["tray", "used"] [] := FunD.bindsN F_l_name fun _ _ _ _ _ _ us hl => match us, hl with | [_, _], _ => rfl
  have b_l_names : Binds K fd_l_names ["tray", "many"] [] := FunD.bindsN F_l_names fun _ _ _ _ _ _ us hl => match us, hl with | [_, _], _ => rfl
  have b_l_lists : Binds K fd_l_lists ["tray", "most", "wide"] [] := FunD.bindsN F_l_lists fun _ _ _ _ _ _ us hl => match us, hl with | [_, _, _], _ => rfl
  have b_l_text : Binds K fd_l_text ["tray"] [] := FunD.bindsN F_l_text fun _ _ _ _ _ _ us hl => match us, hl with | [_], _ => rfl
  have b_l_whole : Binds K fd_l_whole ["tray"] [] := FunD.bindsN F_l_whole fun _ _ _ _ _ _ us hl => match us, hl with | [_], _ => rfl
  have b_l_value : Binds K fd_l_value ["tray"] [] := FunD.bindsN F_l_value fun _ _ _ _ _ _ us hl => match us, hl with | [_], _ => rfl
  have b_l_row : Binds K fd_l_row ["tray", "some", "sums"] [] := FunD.bindsN F_l_row fun _ _ _ _ _ _ us hl => match us, hl with | [_, _, _], _ => rfl
  have b_l_value_shown : Binds K fd_l_value_shown ["value"] [] := FunD.bindsN F_l_value_shown fun _ _ _ _ _ _ us hl => match us, hl with | [_], _ => rfl
  have b_l_row_shown : Binds K fd_l_row_shown ["line"] [] := FunD.bindsN F_l_row_shown fun _ _ _ _ _ _ us hl => match us, hl with | [_], _ => rfl
  have b_l_rows_shown : Binds K fd_l_rows_shown ["lines"] [] := FunD.bindsN F_l_rows_shown fun _ _ _ _ _ _ us hl => match us, hl with | [_], _ => rfl
  have b_l_sign : Binds K fd_l_sign ["tray"] [] := FunD.bindsN F_l_sign fun _ _ _ _ _ _ us hl => match us, hl with | [_], _ => rfl
  have b_l_sign_spoilt : Binds K fd_l_sign_spoilt ["tray", "text"] [] := FunD.bindsN F_l_sign_spoilt fun _ _ _ _ _ _ us hl => match us, hl with | [_, _], _ => rfl
  have b_l_joint_spoilt : Binds K fd_l_joint_spoilt ["tray", "text"] [] := FunD.bindsN F_l_joint_spoilt fun _ _ _ _ _ _ us hl => match us, hl with | [_, _], _ => rfl
  have b_l_words_spoilt : Binds K fd_l_words_spoilt ["tray", "text", "some"] [] := FunD.bindsN F_l_words_spoilt fun _ _ _ _ _ _ us hl => match us, hl with | [_, _, _], _ => rfl
  have b_l_spoilt : Binds K fd_l_spoilt ["tray", "text", "some"] [] := FunD.bindsN F_l_spoilt fun _ _ _ _ _ _ us hl => match us, hl with | [_, _, _], _ => rfl
  have b_l_called : Binds K fd_l_called ["text", "most", "signs"] [] := FunD.bindsN F_l_called fun _ _ _ _ _ _ us hl => match us, hl with | [_, _, _], _ => rfl
  have b_l_is_name : Binds K fd_l_is_name ["text"] [] := FunD.bindsN F_l_is_name fun _ _ _ _ _ _ us hl => match us, hl with | [_], _ => rfl
  have b_l_is_key : Binds K fd_l_is_key ["text"] [] := FunD.bindsN F_l_is_key fun _ _ _ _ _ _ us hl => match us, hl with | [_], _ => rfl
  have b_l_whole_of : Binds K fd_l_whole_of ["text"] [] := FunD.bindsN F_l_whole_of fun _ _ _ _ _ _ us hl => match us, hl with | [_], _ => rfl
  have b_l_value_of : Binds K fd_l_value_of ["text"] [] := FunD.bindsN F_l_value_of fun _ _ _ _ _ _ us hl => match us, hl with | [_], _ => rfl
  have b_l_row_of : Binds K fd_l_row_of ["some", "sums", "text"] [] := FunD.bindsN F_l_row_of fun _ _ _ _ _ _ us hl => match us, hl with | [_, _, _], _ => rfl
  have b_l_rows_of : Binds K fd_l_rows_of ["some", "sums", "text"] [] := FunD.bindsN F_l_rows_of fun _ _ _ _ _ _ us hl => match us, hl with | [_, _, _], _ => rfl
  have b_l_right : Binds K fd_l_right ["made", "some", "sums", "text"] [] := FunD.bindsN F_l_right fun _ _ _ _ _ _ us hl => match us, hl with | [_, _, _, _], _ => rfl
  have g_DayError := He.glo_ok X G (c.fact 0 (f := .glo "DayError") rfl)
  have g_NoPlan := He.glo_ok X G (c.fact 1 (f := .glo "NoPlan") rfl)
  have g_NoRow := He.glo_ok X G (c.fact 2 (f := .glo "NoRow") rfl)
  have g_NoFact := He.glo_ok X G (c.fact 3 (f := .glo "NoFact") rfl)
  have g_NoThing := He.glo_ok X G (c.fact 4 (f := .glo "NoThing") rfl)
  have g_Twice := He.glo_ok X G (c.fact 5 (f := .glo "Twice") rfl)
  have g_NoGroup := He.glo_ok X G (c.fact 6 (f := .glo "NoGroup") rfl)
  have g_NoMeasure := He.glo_ok X G (c.fact 7 (f := .glo "NoMeasure") rfl)
  have g_NoWatch := He.glo_ok X G (c.fact 8 (f := .glo "NoWatch") rfl)
  have g_NoTime := He.glo_ok X G (c.fact 9 (f := .glo "NoTime") rfl)
  have g_NoText := He.glo_ok X G (c.fact 10 (f := .glo "NoText") rfl)
  have g_NoDeskRow := He.glo_ok X G (c.fact 11 (f := .glo "NoDeskRow") rfl)
  have g_Plan := He.glo_ok X G (c.fact 12 (f := .glo "Plan") rfl)
  have g_is_name := He.glo_ok X G (c.fact 13 (f := .glo "is_name") rfl)
  have g_is_key := He.glo_ok X G (c.fact 14 (f := .glo "is_key") rfl)
  have g_is_made_of := He.glo_ok X G (c.fact 15 (f := .glo "is_made_of") rfl)
  have g_first_fault := He.glo_ok X G (c.fact 16 (f := .glo "first_fault") rfl)
  have g_are_faulty := He.glo_ok X G (c.fact 17 (f := .glo "are_faulty") rfl)
  have g_attributes_of := He.glo_ok X G (c.fact 18 (f := .glo "attributes_of") rfl)
  have g_read_rows := He.glo_ok X G (c.fact 19 (f := .glo "read_rows") rfl)
  have g_read_row := He.glo_ok X G (c.fact 20 (f := .glo "read_row") rfl)
  have g_read_kind := He.glo_ok X G (c.fact 21 (f := .glo "read_kind") rfl)
  have g_read_fact := He.glo_ok X G (c.fact 22 (f := .glo "read_fact") rfl)
  have g_read_value := He.glo_ok X G (c.fact 23 (f := .glo "read_value") rfl)
  have g_read_number := He.glo_ok X G (c.fact 24 (f := .glo "read_number") rfl)
  have g_l_tray := He.glo_ok X G (c.fact 25 (f := .glo "_law_tray") rfl)
  have g_l_draw := He.glo_ok X G (c.fact 26 (f := .glo "_law_draw") rfl)
  have g_l_great := He.glo_ok X G (c.fact 27 (f := .glo "_law_great") rfl)
  have g_l_alike := He.glo_ok X G (c.fact 28 (f := .glo "_law_alike") rfl)
  have g_l_name := He.glo_ok X G (c.fact 29 (f := .glo "_law_name") rfl)
  have g_l_names := He.glo_ok X G (c.fact 30 (f := .glo "_law_names") rfl)
  have g_l_lists := He.glo_ok X G (c.fact 31 (f := .glo "_law_lists") rfl)
  have g_l_text := He.glo_ok X G (c.fact 32 (f := .glo "_law_text") rfl)
  have g_l_whole := He.glo_ok X G (c.fact 33 (f := .glo "_law_whole") rfl)
  have g_l_value := He.glo_ok X G (c.fact 34 (f := .glo "_law_value") rfl)
  have g_l_row := He.glo_ok X G (c.fact 35 (f := .glo "_law_row") rfl)
  have g_l_value_shown := He.glo_ok X G (c.fact 36 (f := .glo "_law_value_shown") rfl)
  have g_l_row_shown := He.glo_ok X G (c.fact 37 (f := .glo "_law_row_shown") rfl)
  have g_l_rows_shown := He.glo_ok X G (c.fact 38 (f := .glo "_law_rows_shown") rfl)
  have g_l_sign := He.glo_ok X G (c.fact 39 (f := .glo "_law_sign") rfl)
  have g_l_sign_spoilt := He.glo_ok X G (c.fact 40 (f := .glo "_law_sign_spoilt") rfl)
  have g_l_joint_spoilt := He.glo_ok X G (c.fact 41 (f := .glo "_law_joint_spoilt") rfl)
  have g_l_words_spoilt := He.glo_ok X G (c.fact 42 (f := .glo "_law_words_spoilt") rfl)
  have g_l_spoilt := He.glo_ok X G (c.fact 43 (f := .glo "_law_spoilt") rfl)
  have g_l_called := He.glo_ok X G (c.fact 44 (f := .glo "_law_called") rfl)
  have g_l_is_name := He.glo_ok X G (c.fact 45 (f := .glo "_law_is_name") rfl)
  have g_l_is_key := He.glo_ok X G (c.fact 46 (f := .glo "_law_is_key") rfl)
  have g_l_whole_of := He.glo_ok X G (c.fact 47 (f := .glo "_law_whole_of") rfl)
  have g_l_value_of := He.glo_ok X G (c.fact 48 (f := .glo "_law_value_of") rfl)
  have g_l_row_of := He.glo_ok X G (c.fact 49 (f := .glo "_law_row_of") rfl)
  have g_l_rows_of := He.glo_ok X G (c.fact 50 (f := .glo "_law_rows_of") rfl)
  have g_l_right := He.glo_ok X G (c.fact 51 (f := .glo "_law_right") rfl)
  obtain ⟨t_SMALL_LETTERS, g_SMALL_LETTERS⟩ := He.str_ok X G (c.fact 53 (f := .str "SMALL_LETTERS" "abcdefghijklmnopqrstuvwxyz") rfl)
  obtain ⟨t_FIGURES, g_FIGURES⟩ := He.str_ok X G (c.fact 54 (f := .str "FIGURES" "0123456789") rfl)
  obtain ⟨t_LONGEST_NAME, g_LONGEST_NAME⟩ := He.int_ok X G (c.fact 55 (f := .int "LONGEST_NAME" 8) rfl)
  obtain ⟨t_LONGEST_KEY, g_LONGEST_KEY⟩ := He.int_ok X G (c.fact 56 (f := .int "LONGEST_KEY" 12) rfl)
  obtain ⟨t_MOST_DIMENSIONS, g_MOST_DIMENSIONS⟩ := He.int_ok X G (c.fact 57 (f := .int "MOST_DIMENSIONS" 4) rfl)
  obtain ⟨t_MOST_ATTRIBUTES, g_MOST_ATTRIBUTES⟩ := He.int_ok X G (c.fact 58 (f := .int "MOST_ATTRIBUTES" 5) rfl)
  obtain ⟨t_MOST_MEASURES, g_MOST_MEASURES⟩ := He.int_ok X G (c.fact 59 (f := .int "MOST_MEASURES" 4) rfl)
  obtain ⟨t_MOST_FIGURES, g_MOST_FIGURES⟩ := He.int_ok X G (c.fact 60 (f := .int "MOST_FIGURES" 60) rfl)
  have z_ValueError := He.free_ok X G (c.fact 61 (f := .free "ValueError") rfl)
  have z_all := He.free_ok X G (c.fact 62 (f := .free "all") rfl)
  have z_bool := He.free_ok X G (c.fact 63 (f := .free "bool") rfl)
  have z_int := He.free_ok X G (c.fact 64 (f := .free "int") rfl)
  have z_isinstance := He.free_ok X G (c.fact 65 (f := .free "isinstance") rfl)
  have z_len := He.free_ok X G (c.fact 66 (f := .free "len") rfl)
  have z_list := He.free_ok X G (c.fact 67 (f := .free "list") rfl)
  have z_max := He.free_ok X G (c.fact 68 (f := .free "max") rfl)
  have z_range := He.free_ok X G (c.fact 69 (f := .free "range") rfl)
  have z_repr := He.free_ok X G (c.fact 70 (f := .free "repr") rfl)
  have z_set := He.free_ok X G (c.fact 71 (f := .free "set") rfl)
  have z_str := He.free_ok X G (c.fact 72 (f := .free "str") rfl)
  have z_tuple := He.free_ok X G (c.fact 73 (f := .free "tuple") rfl)
  have cls_Plan := He.cls_ok (c.fact 74 (f := .cls "Plan") rfl)
  have mk_Plan := He.mkr_ok (c.fact 75 (f := .mkr "Plan") rfl)
  have no_Plan_dimension_list := He.noat_ok (c.fact 76 (f := .noat "Plan" "dimension_list") rfl)
  have no_Plan_measure_list := He.noat_ok (c.fact 77 (f := .noat "Plan" "measure_list") rfl)
  have me_Plan_dimensions := He.meth_ok (c.fact 78 (f := .meth "Plan" "dimensions") rfl)
  have me_Plan_measures := He.meth_ok (c.fact 79 (f := .meth "Plan" "measures") rfl)
  have me_Plan_eq := He.meth_ok (c.fact 80 (f := .meth "Plan" "__eq__") rfl)
  have me_Plan_ne := He.meth_ok (c.fact 81 (f := .meth "Plan" "__ne__") rfl)
  refine ⟨fd_law, fun s v => b s [v] rfl, fun base _ _ => ?_⟩
  have T : PlTxt K (He.ga K "Plan") := ⟨cls_Plan, no_Plan_dimension_list, no_Plan_measure_list⟩
  have G_md := ok_made (P := P) (w := w) (base := base) F_is_made_of z_all
  have G_is := ok_is_name (P := P) (w := w) (base := base) F_is_name G_md F_is_made_of.kp b_is_made_of g_is_made_of z_len g_SMALL_LETTERS g_LONGEST_NAME
  have G_af := ok_are_faulty (P := P) (w := w) (base := base) F_are_faulty G_is F_is_name.kp b_is_name g_is_name z_len z_set z_all
  have G_ff := ok_first (P := P) (w := w) (base := base) F_first_fault G_af F_are_faulty.kp b_are_faulty g_are_faulty g_MOST_DIMENSIONS g_MOST_ATTRIBUTES g_MOST_MEASURES
  have G_in := ok_init (P := P) (w := w) (base := base) F_Plan_init T G_ff F_first_fault.kp b_first_fault g_first_fault z_tuple z_list
  have G_dm := ok_dims (P := P) (w := w) (mg := mg) (base := base) F_Plan_dimensions T z_list
  have G3 := ok_meas (P := P) (w := w) (mg := mg) (base := base) F_Plan_measures T z_list
  have G8 := ok_tray (P := P) (w := w) (base := base) F_l_tray z_max
  have G9 := ok_draw (P := P) (w := w) (mg := mg) (base := base) F_l_draw
  have G10 := ok_alike (P := P) (w := w) (base := base) F_l_alike F_l_alike.kp b_l_alike g_l_alike z_isinstance z_bool z_int z_str z_list z_tuple z_len z_range 5
  have G11 := ok_name (P := P) (w := w) (base := base) F_l_name G9 F_l_draw.kp b_l_draw g_l_draw z_range z_len
  have G12 := ok_names (P := P) (w := w) (base := base) F_l_names G11 F_l_name.kp b_l_name g_l_name z_range
  have G13 := ok_lists (P := P) (w := w) (base := base) F_l_lists G9 F_l_draw.kp b_l_draw g_l_draw G12 F_l_names.kp b_l_names g_l_names z_range z_len z_tuple
  have PC : PlanC P w K mg base (He.ga K "Plan") _ _ fd_Plan_init := ⟨T, mk_Plan, G_in, g_Plan, F_Plan_init⟩
  have c_draw : Fun P w K mg base "_law_draw" 1 _ _ _ _ := ⟨G9, F_l_draw.kp, b_l_draw, g_l_draw⟩
  have c_md : Fun P w K mg base "is_made_of" 1 _ _ _ _ := ⟨G_md, F_is_made_of.kp, b_is_made_of, g_is_made_of⟩
  have c_key : Fun P w K mg base "is_key" 2 _ _ _ _ := ⟨ok_is_key F_is_key c_md z_len g_SMALL_LETTERS g_FIGURES g_LONGEST_KEY, F_is_key.kp, b_is_key, g_is_key⟩
  have c_rn : Fun P w K mg base "read_number" 2 _ _ _ _ := ⟨ok_readN F_read_number c_md z_len z_int z_str g_FIGURES g_MOST_FIGURES, F_read_number.kp, b_read_number, g_read_number⟩
  have c_rv : Fun P w K mg base "read_value" 3 _ _ _ _ := ⟨ok_readV F_read_value c_key c_rn, F_read_value.kp, b_read_value, g_read_value⟩
  have c_at : Fun P w K mg base "attributes_of" 2 _ _ _ _ := ⟨ok_attr F_attributes_of T G_dm b_Plan_dimensions me_Plan_dimensions, F_attributes_of.kp, b_attributes_of, g_attributes_of⟩
  have c_rk : Fun P w K mg base "read_kind" 4 _ _ _ _ := ⟨ok_readK F_read_kind c_at c_key c_rn c_rv z_len z_tuple, F_read_kind.kp, b_read_kind, g_read_kind⟩
  have c_rf : Fun P w K mg base "read_fact" 4 _ _ _ _ := ⟨ok_readF F_read_fact T G_dm b_Plan_dimensions me_Plan_dimensions G3 b_Plan_measures me_Plan_measures c_key c_rn z_len z_tuple z_all, F_read_fact.kp, b_read_fact, g_read_fact⟩
  have c_rr : Fun P w K mg base "read_row" 5 _ _ _ _ := ⟨ok_readR F_read_row c_rk c_rf c_key z_len, F_read_row.kp, b_read_row, g_read_row⟩
  have c_lv : Fun P w K mg base "_law_value_shown" 1 _ _ _ _ := ⟨ok_lvs F_l_value_shown z_isinstance z_str z_int, F_l_value_shown.kp, b_l_value_shown, g_l_value_shown⟩
  have c_lr : Fun P w K mg base "_law_row_shown" 2 _ _ _ _ := ⟨ok_lrs F_l_row_shown c_lv z_str z_list, F_l_row_shown.kp, b_l_row_shown, g_l_row_shown⟩
  have c_lrs : Fun P w K mg base "_law_rows_shown" 3 _ _ _ _ := ⟨ok_lrss F_l_rows_shown c_lr, F_l_rows_shown.kp, b_l_rows_shown, g_l_rows_shown⟩
  have c_great : Fun P w K mg base "_law_great" 2 _ _ _ _ := ⟨ok_great F_l_great c_draw z_range, F_l_great.kp, b_l_great, g_l_great⟩
  have c_text : Fun P w K mg base "_law_text" 2 _ _ _ _ := ⟨ok_text F_l_text c_draw z_range, F_l_text.kp, b_l_text, g_l_text⟩
  have c_whole : Fun P w K mg base "_law_whole" 3 _ _ _ _ := ⟨ok_whole F_l_whole c_draw c_great, F_l_whole.kp, b_l_whole, g_l_whole⟩
  have c_value : Fun P w K mg base "_law_value" 4 _ _ _ _ := ⟨ok_value F_l_value c_draw c_text c_whole, F_l_value.kp, b_l_value, g_l_value⟩
  have c_row : Fun P w K mg base "_law_row" 5 _ _ _ _ := ⟨ok_rowG F_l_row c_draw c_text c_whole c_value z_len z_tuple, F_l_row.kp, b_l_row, g_l_row⟩
  have hx := (He.ba ce).2
  obtain ⟨hK1, hx⟩ := He.ba hx
  obtain ⟨hK2, hx⟩ := He.ba hx
  obtain ⟨hK3, hx⟩ := He.ba hx
  obtain ⟨hK4, hx⟩ := He.ba hx
  obtain ⟨hD, hx⟩ := He.ba hx
  obtain ⟨hV, hx⟩ := He.ba hx
  have h_NoText := hx
  have EK : ErrK K (He.ga K "NoText") (He.ga K "DayError") (exO K) (exU K) := ⟨of_decide_eq_true hK1, of_decide_eq_true hK2, of_decide_eq_true hK3, of_decide_eq_true hK4⟩
  have T_NoText := KdXc.errB_ok h_NoText
  have D_NoText := ok_DayError (P := P) (w := w) (mg := mg) (base := base) F_DayError_init T_NoText z_ValueError (KdXc.valB_ok hV) z_repr
  have E_NoText : ErrM P w K mg base "NoText" _ _ fd_NoText_init := ⟨T_NoText, ok_NoText F_NoText_init T_NoText D_NoText (KdXc.cfnB_ok hD) b_DayError_init g_DayError, b_NoText_init, g_NoText⟩
  have GRX := ok_readRX (P := P) (w := w) (mg := mg) (base := base) F_read_rows c_rr E_NoText
  have c_sign : Fun P w K mg base "_law_sign" 2 _ _ _ _ := ⟨ok_sign F_l_sign c_draw z_len, F_l_sign.kp, b_l_sign, g_l_sign⟩
  have c_ss : Fun P w K mg base "_law_sign_spoilt" 3 _ _ _ _ := ⟨ok_signS F_l_sign_spoilt c_draw c_sign z_len z_int, F_l_sign_spoilt.kp, b_l_sign_spoilt, g_l_sign_spoilt⟩
  have c_js : Fun P w K mg base "_law_joint_spoilt" 2 _ _ _ _ := ⟨ok_jointS F_l_joint_spoilt c_draw z_len, F_l_joint_spoilt.kp, b_l_joint_spoilt, g_l_joint_spoilt⟩
  have c_wsp : Fun P w K mg base "_law_words_spoilt" 2 _ _ _ _ := ⟨ok_wordsS F_l_words_spoilt c_draw z_len, F_l_words_spoilt.kp, b_l_words_spoilt, g_l_words_spoilt⟩
  have c_spo : Fun P w K mg base "_law_spoilt" 4 _ _ _ _ := ⟨ok_spoS F_l_spoilt c_draw c_ss c_wsp c_js, F_l_spoilt.kp, b_l_spoilt, g_l_spoilt⟩
  have c_cal : Fun P w K mg base "_law_called" 1 _ _ _ _ := ⟨ok_called F_l_called z_len, F_l_called.kp, b_l_called, g_l_called⟩
  have c_lk : Fun P w K mg base "_law_is_key" 2 _ _ _ _ := ⟨ok_lkey F_l_is_key c_cal, F_l_is_key.kp, b_l_is_key, g_l_is_key⟩
  have c_lw : Fun P w K mg base "_law_whole_of" 2 _ _ _ _ := ⟨ok_lwhole F_l_whole_of c_cal z_int, F_l_whole_of.kp, b_l_whole_of, g_l_whole_of⟩
  have c_lvo : Fun P w K mg base "_law_value_of" 3 _ _ _ _ := ⟨ok_lvalue F_l_value_of c_lk c_lw z_len, F_l_value_of.kp, b_l_value_of, g_l_value_of⟩
  have c_lro : Fun P w K mg base "_law_row_of" 4 _ _ _ _ := ⟨ok_lrow F_l_row_of c_lk c_lw c_lvo z_len z_tuple, F_l_row_of.kp, b_l_row_of, g_l_row_of⟩
  have c_lros : Fun P w K mg base "_law_rows_of" 5 _ _ _ _ := ⟨ok_lrows F_l_rows_of c_lro, F_l_rows_of.kp, b_l_rows_of, g_l_rows_of⟩
  have c_rt : Fun P w K mg base "_law_right" 7 _ _ _ _ := ⟨ok_right F_l_right GRX g_read_rows F_read_rows.kp b_read_rows c_lros ⟨G10, F_l_alike.kp, b_l_alike, g_l_alike⟩ E_NoText EK g_DayError z_ValueError z_isinstance g_NoDeskRow g_NoFact g_NoGroup g_NoMeasure g_NoPlan g_NoRow g_NoThing g_NoTime g_NoWatch g_Twice, F_l_right.kp, b_l_right, g_l_right⟩
  exact ok_law F_law PC ⟨G8, F_l_tray.kp, b_l_tray, g_l_tray⟩ c_draw ⟨G13, F_l_lists.kp, b_l_lists, g_l_lists⟩ c_row c_lrs c_spo c_rt z_list z_len z_range
end Kd
open PySem PySem.W PySem.Calls PyProof.Rows
theorem PySem.Challenge.cw_kindsofday_k43_texts_of_no_rows_holds : PySem.Challenge.rw_kindsofday_k43_texts_of_no_rows.Holds := by
  w_on; o_law
  refine HandSHeadRun.head_any (r := OpenLaw.row PySem.Challenge.rw_kindsofday_k43_texts_of_no_rows) (q := view (OpenLaw.row PySem.Challenge.rw_kindsofday_k43_texts_of_no_rows).prog [65]) (H := Kd.hkE) (ob := Kd.ob) (M := 9000) (loose := Kd.loose) (d := HandSHeadRun.topDef (OpenLaw.row PySem.Challenge.rw_kindsofday_k43_texts_of_no_rows).prog 65) (kwd := []) Kd.ob_eq
    (by kernel_rfl) (fun s => by kernel_rfl) Kd.run (by kernel_rfl) (by kernel_rfl) (by kernel_rfl) (by rfl) (by first | assumption | decide +kernel) (by decide +kernel) ⟨rfl, rfl, rfl, rfl, rfl, by decide +kernel⟩ ?hw ?hc
  case hw => w_witness2
  case hc =>
    refine L2.walk_ofE (l := PySem.Challenge.rw_kindsofday_k43_texts_of_no_rows) (n := 63) (k := 8) (x := "script") (CX := L2.CX0) rfl (by decide) (by kernel_rfl) ⟨rfl, by decide, by decide⟩ ?F (fun _ _ _ _ z => z)
    intro w mg fa h Y G hmg0
    obtain ⟨K, KX, c, ce⟩ := Y
    have hmg : mg ("law" : PySem.Str) = some (.ref fa) := by
      have e : (HandSHeadRun.topDef (OpenLaw.row PySem.Challenge.rw_kindsofday_k43_texts_of_no_rows).prog 65).name = ("law" : PySem.Str) := by kernel_rfl
      rw [← e]
      exact hmg0
    obtain ⟨fd, hb, hF⟩ := Kd.facts (P := (PySem.Challenge.rw_kindsofday_k43_texts_of_no_rows).prog) (w := w) KX G hmg c ce
    exact ⟨K, fd, Kd.spLaw K, KX, hb, fun H a ns hl _ hS => ⟨a, ns, rfl, hS, hl, fun _ => rfl⟩, hF⟩
