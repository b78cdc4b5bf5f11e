import PyProof.Rows.All
import Wide.All
import OpenK.AllK
import Wide.FinOn
import HandS.ForMost
import HandS.Strs
import HandS.Zip
import HandS.IsInst
import HandS.Walk
import HandS.Text
import HandS.FStr
import HandS.Defaults
import HandS.MakeKw
import HandS.Wide
import HandS.WideBits
import HandS.More
import HandS.HeadHook2
import HandS.MakeKwOnly
import HandS.NoneIn
import HandS.Style
import HandS.TupAny
import HandS.FStrTup
import HandS.ExcInit
import HandS.RaiseMore
import HandS.OwnEq
import HandS.StrMore
import KE.IntTextLaws
import PyProof.ReprNest
import PyProof.ReprRoads
import HandS.Deep
import PyProof.Rows.StrSplitJoin
import HandS.Steps
import HandS.ForExc
import HandS.ExcField
import HandS.HeadHook1
import KE.KExcIs
import HandS.ExcInitHot
import HandS.SuiteRaise
import HandS.RaiseFrom
import HandS.Head0
import KE.KStateDown
import HandS.Head1
import HandS.Head2
import HandS.HeadEnd
import HandS.HeadHook3
import HandS.HeadHook4
import HandS.HeadWalk
import PySem.Challenge.RW_kindsofday_k41_texts_of_no_plan
set_option Elab.async false
set_option linter.all false
set_option maxRecDepth 100000
set_option maxHeartbeats 0
/-! len(set(xs)) where xs is a list or a tuple of texts of any number -/
namespace KdS
open PySem PySem.Spec PyProof.Rows
/-- how many unlike ones the first i have -/
def dcn (xs : List Str) : Nat → Nat
  | 0 => 0
  | i + 1 => if (xs.take i).any (· == xs.getD i Str.empty) = true then dcn xs i else dcn xs i + 1
theorem dcn_le (xs : List Str) : ∀ i, dcn xs i ≤ i
  | 0 => Nat.le_refl _
  | i + 1 => by
    have h := dcn_le xs i
    unfold dcn
    split <;> omega
theorem take_any (xs : List Str) {i : Nat} (h : i < xs.length) (k : Str) : (xs.take (i + 1)).any (· == k) = ((xs.take i).any (· == k) || decide (k = xs.getD i Str.empty)) := by
  have e : xs.getD i Str.empty = xs[i] := by simp [h]
  rw [List.take_succ_eq_append_getElem h, List.any_append, e]
  have e2 : ([xs[i]].any fun x => x == k) = decide (k = xs[i]) := by
    by_cases q : k = xs[i]
    · simp [q]
    · have q2 : ¬ xs[i] = k := fun z => q z.symm
      simp [q, q2]
  rw [e2]
theorem dcn_nodup {xs : List Str} (hn : xs.Nodup) : ∀ i, i ≤ xs.length → dcn xs i = i
  | 0, _ => rfl
  | i + 1, h => by
    have ih := dcn_nodup hn i (by omega)
    unfold dcn
    rw [if_neg, ih]
    intro hc
    obtain ⟨y, hy, e⟩ := List.any_eq_true.mp hc
    have hi : i < xs.length := h
    have eg : xs.getD i Str.empty = xs[i] := by simp [hi]
    rw [eg] at e
    have e1 : y = xs[i] := by simpa using e
    obtain ⟨j, hj, ej⟩ := List.getElem_of_mem hy
    rw [List.length_take] at hj
    rw [List.getElem_take] at ej
    have e3 : xs[j]'(by omega) = xs[i] := ej.trans e1
    have := (List.getElem_inj hn).mp e3
    omega
/-- unlike ones are fewer where one stands twice -/
theorem dcn_dup {xs : List Str} {j i : Nat} (hji : j < i) (hi : i < xs.length) (e : xs[j]'(by omega) = xs[i]) : ∀ n, i < n → dcn xs n < n
  | 0, h => by omega
  | n + 1, h => by
    by_cases q : n = i
    · subst q
      have h1 := dcn_le xs n
      unfold dcn
      rw [if_pos]
      · omega
      · refine List.any_eq_true.mpr ⟨xs[j]'(by omega), ?_, by simp [hi, e]⟩
        exact List.mem_iff_getElem.mpr ⟨j, by rw [List.length_take]; omega, by rw [List.getElem_take]⟩
    · have h1 := dcn_dup hji hi e n (by omega)
      unfold dcn
      split <;> omega
section
variable {prog : Program} {w : World} {A : Around} {R : Result → Shared → Prop} {I : Addr} {fp wr : List Addr} {G : Array GenState → Array GenState → Prop} {n : Nat} {P : Nat → Value → Prop} {St : Nat → Shared → Prop}
/-- what the set at S holds behind i items -/
abbrev Held (prog : Program) (w : World) (S : Addr) (xs : List Str) (i : Nat) (h : Heap) : Prop := h.SetOf (PySem.strKind prog w) S (fun k => (xs.take i).any (· == k)) (dcn xs i)
theorem Held.kept {S : Addr} {xs : List Str} {i : Nat} {h h' : Heap} (q : Held prog w S xs i h) (k : ∀ o, h.get? S = some o → h'.get? S = some o) : Held prog w S xs i h' := by
  obtain ⟨o, es, ep, t, ho, rest⟩ := q
  exact ⟨o, es, ep, t, k o ho, rest⟩
theorem grow (W : WalksS prog w A.in1 I fp wr G n P St) (S : Addr) (nS : S ∉ fp) (xs : List Str) (hx : xs.length = n) (hb : n + 1 < scanBound) (hv : ∀ i v, P i v → ∃ t, v = .str (xs.getD i Str.empty) t) :
    ∀ (k i : Nat) (s : Shared), n - i = k → i ≤ n → St i s → Held prog w S xs i s.heap → (∀ s', Moved (S :: wr) G s s' → Held prog w S xs n s'.heap → R (.ok (.ret .none)) s') →
      codeAny (model prog w) A (.builtin "set.update.loop" ⟨[.ref S, .ref I], []⟩) R s := by
  have nW : S ∉ wr := fun z => nS (W.sub _ z)
  have up : ∀ b ∈ wr, b ∈ S :: wr := fun b z => List.mem_cons_of_mem _ z
  intro k
  induction k with
  | zero =>
    intro i s hk hi st hS out
    obtain rfl : i = n := by omega
    refine codeAny_builtin PyProof.Rows.F.entry_set_update_loop (by
      rw [Around.under_plainId PyProof.Rows.F.plain_set_update_loop _]
      show wpAny _ A.in1 (pyNext (.ref I) >>= _) _ _ s
      exact wpAny_bind (W.done s _ _ st fun s1 mv => wpAny_pure (out s1 (mv.mono up) (hS.kept fun o q => mv.heap S _ nW q))))
  | succ k ih =>
    intro i s hk hi st hS out
    have hlt : i < n := by omega
    refine codeAny_builtin PyProof.Rows.F.entry_set_update_loop (by
      rw [Around.under_plainId PyProof.Rows.F.plain_set_update_loop _]
      show wpAny _ A.in1 (pyNext (.ref I) >>= _) _ _ s
      refine wpAny_bind (W.item i s _ _ hlt st fun v s1 hP st1 mv => ?_)
      obtain ⟨t, rfl⟩ := hv i v hP
      have hS1 : Held prog w S xs i s1.heap := hS.kept fun o q => mv.heap S _ nW q
      show wpAny _ A.in1 (holding [Value.str (xs.getD i Str.empty) t] (setAdd S (.str (xs.getD i Str.empty) t)) >>= _) _ _ s1
      refine wpAny_bind (wpAny_holding ?_)
      unfold setAdd
      refine wpAny_holding (wpAny_bind ((PySem.strKind prog w).pyHash (k := xs.getD i Str.empty) (strKind_is _ _ _ _) ?_))
      refine wpAny_setAddHashed_of (knd := PySem.strKind prog w) (s := { s1 with toks := s1.toks + 1 }) (strKind_is _ _ _ _) rfl hS1 (by have := dcn_le xs i; omega) fun h2 sb hS2 => ?_
      have hS3 : Held prog w S xs (i + 1) h2 := SetOf_congr hS2 (fun k => (take_any xs (by omega) k).symm) rfl
      refine wpAny_pure ⟨plainId_quiet PyProof.Rows.F.plain_set_update_loop _, ih (i + 1) _ (by omega) hlt (W.frame _ s1 _ _ st1 (Nat.le_succ _) fun b z o q => ?_) hS3 fun s4 mv4 hS4 => ?_⟩
      · rw [sb.2 b (fun z2 : b = S => nS (z2 ▸ z))]
        exact q
      · refine out s4 (Moved.trans W.gtrans ((mv.mono up).then_heap (Nat.le_succ _) fun b o z q => ?_) mv4) hS4
        rw [sb.2 b (fun z2 : b = S => z (by rw [z2]; exact List.mem_cons_self))]
        exact q)
end
section
variable {prog : Program} {w : World} {A : Around} {E : Value → Shared → Prop} {s : Shared}
abbrev setObj (led : Bool) : Obj := { cls := .type "set", dict := none, data := .set #[] 0 (.fresh 0 0 led) }
set_option maxHeartbeats 3200000 in
/-- set(v), by what __init__ does with the new empty set -/
theorem set_by {v : Value} {Q : Value → Shared → Prop} {P : Shared → Prop} (hi : ∀ led : Bool, wpAny (model prog w) A.in1.in1 (Builtin.«set.__init__» ⟨[.ref s.heap.objs.size, v], []⟩) (fun r s2 => r = .done (.ret .none) ∧ P s2) E { s with heap := s.heap.push (setObj led) })
    (h : ∀ s2, P s2 → Q (.ref s.heap.objs.size) s2) : wpAny (model prog w) A (call (.type "set") [v]) Q E s := by
  obtain ⟨c, tl, hmro⟩ := PySem.F.called_set.mro
  have f1 := PySem.F.called_set.made
  have f2 := PySem.F.called_set.sub
  have f3 := PySem.F.called_set.notType
  have f4 := PySem.F.called_set.canCreate
  have f5 := PySem.F.typeCall_set_1 v
  refine wpAny_call (codeAny_of_tree (show wpAny _ _ (callAny (.type "set") _) _ _ _ from wpAny_pure ⟨Code.quiet_builtin _ (by decide +kernel), codeAny_builtin PySem.F.entry_type_call (by
    rw [Around.under_plain (weight_type_call_type "set" [v] []) rfl]
    repeat (any_goals (first | assumption | wp_step))
    refine codeAny_mono (code_set_new_1 v (E := E) (Q₁ := fun ob s1 => ∃ led : Bool, ob = .ref s.heap.objs.size ∧ s1 = { s with heap := s.heap.push (setObj led) }) fun led => ⟨led, rfl, rfl⟩) fun r s1 hr => ?_
    cases r with
    | error e => exact hr
    | ok fl =>
      cases fl with
      | ret ob =>
        obtain ⟨led, rfl, rfl⟩ := hr
        have g0 : (s.heap.push (setObj led)).get? s.heap.objs.size = some (setObj led) := Heap.get?_push_size _ rfl
        have gT : Shared.TypeIs { s with heap := s.heap.push (setObj led) } (.ref s.heap.objs.size) "set" := ⟨_, g0, rfl⟩
        have f6 := PySem.F.called_set.init.lookup
        have f7 := PySem.F.called_set.init.bind (.ref s.heap.objs.size)
        repeat (any_goals (first | assumption | wp_step))
        refine codeAny_mono (codeAny_call_builtin (R := wants (fun r s2 => r = .none ∧ P s2) E) PySem.F.called_set.init.plain PySem.F.entry_set_init (check_set_init_1 gT (wpAny_mono (hi led) (fun r s2 q => ?_) fun _ _ q => q))) fun r2 s2 q2 => ?_
        · obtain ⟨rfl, q⟩ := q
          exact ⟨rfl, q⟩
        · cases r2 with
          | error e => exact q2
          | ok fl2 =>
            cases fl2 with
            | ret r3 =>
              obtain ⟨rfl, q⟩ := q2
              repeat (any_goals (first | assumption | wp_step))
              exact h _ q
            | _ => exact q2.elim
      | _ => exact hr.elim)⟩))
/-- the list's way and the tuple's way of __init__: what is held behind it -/
def After (prog : Program) (w : World) (s : Shared) (xs : List Str) (s2 : Shared) : Prop := ∃ h2 tk, s2 = { s with heap := h2, toks := tk } ∧ Held prog w s.heap.objs.size xs xs.length h2 ∧ ∀ b o, b < s.heap.objs.size → s.heap.get? b = some o → h2.get? b = some o
theorem fresh_held {led : Bool} {it : Obj} {xs : List Str} : Held prog w s.heap.objs.size xs 0 ((s.heap.push (setObj led)).push it) :=
  SetOf_congr ((PyProof.Rows.setObjOf_fresh (knd := PySem.strKind prog w) led).setOf (Heap.get?_push_of_some _ (Heap.get?_push_size _ rfl)) (by unfold scanBound; omega)) (fun _ => rfl) rfl
theorem after_moved {G : Array GenState → Array GenState → Prop} {led : Bool} {it : Obj} {xs : List Str} {s2 : Shared} (hG : ∀ a b, G a b → b = a)
    (mv : Moved (s.heap.objs.size :: [(s.heap.push (setObj led)).objs.size]) G { s with heap := (s.heap.push (setObj led)).push it } s2) (q : Held prog w s.heap.objs.size xs xs.length s2.heap) : After prog w s xs s2 := by
  obtain ⟨h2, g2, d2, t2, o2⟩ := s2
  obtain rfl : g2 = s.gens := hG _ _ mv.gens
  obtain rfl : d2 = s.drawn := mv.drawn
  obtain rfl : o2 = s.os := mv.os
  refine ⟨h2, t2, rfl, q, fun b o hb e => mv.heap b o (fun z => ?_) (Heap.get?_push_of_some _ (Heap.get?_push_of_some _ e))⟩
  rw [Heap.size_push] at z
  rcases List.mem_cons.mp z with z | z
  · exact absurd z (Nat.ne_of_lt hb)
  · exact absurd (List.mem_singleton.mp z) (Nat.ne_of_lt (Nat.lt_succ_of_lt hb))
theorem strAt {items : Array Value} {xs : List Str} (hi : StrsAre items.toList xs) (i : Nat) (v : Value) (hv : items[i]? = some v) : ∃ t, v = .str (xs.getD i Str.empty) t := SS.strs_at hi i v (by rw [Array.getElem?_toList]; exact hv)
set_option maxHeartbeats 3200000 in
theorem init_list {l : Addr} {items : Array Value} {xs : List Str} {led : Bool} (hh : A.in1.in1.in1.handled = none) (hl : s.heap.IsList l items) (hi : StrsAre items.toList xs) (hb : xs.length + 1 < scanBound) :
    wpAny (model prog w) A.in1.in1 (Builtin.«set.__init__» ⟨[.ref s.heap.objs.size, .ref l], []⟩) (fun r s2 => r = .done (.ret .none) ∧ After prog w s xs s2) E { s with heap := s.heap.push (setObj led) } := by
  have hsz : xs.length = items.size := by rw [← StrsAre.len_eq hi, Array.length_toList]
  obtain ⟨⟨oc, od, dt, sl⟩, ho, hc, m, hd⟩ := hl
  simp only at hc hd
  subst hc hd
  have ho1 := Heap.get?_push_of_some (setObj led) ho
  have hl1 : (s.heap.push (setObj led)).IsList l items := ⟨_, ho1, rfl, m, rfl⟩
  have f1 := PySem.F.sub_list_set
  have f2 := PySem.F.sub_list_frozenset
  have f3 : (Value.type "list" == Value.type "dict") = false := by decide
  unfold Builtin.«set.__init__» noKeywords Builtin.Frozenset.updateFrom
  generalize hPI : pyIter = PI
  wp_walk
  subst hPI
  refine wpAny_pyIter_list hl1 (wpAny_bind (wpAny_runValue ?_))
  have hS : l < s.heap.objs.size := Heap.lt_size ho
  have n1 : l ≠ (s.heap.push (setObj led)).objs.size := by rw [Heap.size_push]; exact Nat.ne_of_lt (Nat.lt_succ_of_lt hS)
  have n2 : s.heap.objs.size ∉ [(s.heap.push (setObj led)).objs.size, l] := by
    rw [Heap.size_push]
    intro z
    rcases List.mem_cons.mp z with z | z
    · exact absurd z (Nat.ne_of_lt (Nat.lt_succ_self _))
    · exact absurd (List.mem_singleton.mp z) (Nat.ne_of_gt hS)
  refine grow ((Walks.list hh _ l n1 items).toS) s.heap.objs.size n2 xs hsz (by omega) (strAt hi) (items.size - 0) 0 _ (by omega) (Nat.zero_le _) ⟨⟨_, Heap.get?_push_size _ rfl, rfl, rfl⟩, hl1.push _⟩ fresh_held fun s2 mv q => ?_
  rw [← hsz] at q
  exact wpAny_pure (wpAny_pure ⟨rfl, after_moved (fun _ _ z => z) mv q⟩)
set_option maxHeartbeats 3200000 in
theorem init_tup {l : Addr} {items : Array Value} {xs : List Str} {led : Bool} (hh : A.in1.in1.in1.handled = none) (hl : s.heap.IsTuple l items) (hi : StrsAre items.toList xs) (hb : xs.length + 1 < scanBound) :
    wpAny (model prog w) A.in1.in1 (Builtin.«set.__init__» ⟨[.ref s.heap.objs.size, .ref l], []⟩) (fun r s2 => r = .done (.ret .none) ∧ After prog w s xs s2) E { s with heap := s.heap.push (setObj led) } := by
  have hsz : xs.length = items.size := by rw [← StrsAre.len_eq hi, Array.length_toList]
  obtain ⟨⟨oc, od, dt, sl⟩, ho, hc, m, hd⟩ := hl
  simp only at hc hd
  subst hc hd
  have ho1 := Heap.get?_push_of_some (setObj led) ho
  have hl1 : (s.heap.push (setObj led)).IsTuple l items := ⟨_, ho1, rfl, m, rfl⟩
  have f1 := PySem.F.sub_tuple_set
  have f2 := PySem.F.sub_tuple_frozenset
  have f3 : (Value.type "tuple" == Value.type "dict") = false := by decide
  unfold Builtin.«set.__init__» noKeywords Builtin.Frozenset.updateFrom
  generalize hPI : pyIter = PI
  wp_walk
  subst hPI
  refine wpAny_pyIter_tuple hl1 (wpAny_bind (wpAny_runValue ?_))
  have hS : l < s.heap.objs.size := Heap.lt_size ho
  have n1 : l ≠ (s.heap.push (setObj led)).objs.size := by rw [Heap.size_push]; exact Nat.ne_of_lt (Nat.lt_succ_of_lt hS)
  have n2 : s.heap.objs.size ∉ [(s.heap.push (setObj led)).objs.size, l] := by
    rw [Heap.size_push]
    intro z
    rcases List.mem_cons.mp z with z | z
    · exact absurd z (Nat.ne_of_lt (Nat.lt_succ_self _))
    · exact absurd (List.mem_singleton.mp z) (Nat.ne_of_gt hS)
  refine grow ((Walks.tuple hh _ l n1 items).toS) s.heap.objs.size n2 xs hsz (by omega) (strAt hi) (items.size - 0) 0 _ (by omega) (Nat.zero_le _) ⟨⟨_, Heap.get?_push_size _ rfl, rfl, rfl⟩, hl1.push _⟩ fresh_held fun s2 mv q => ?_
  rw [← hsz] at q
  exact wpAny_pure (wpAny_pure ⟨rfl, after_moved (fun _ _ z => z) mv q⟩)
end
end KdS
namespace Kd
open PySem PySem.Spec PyProof.Rows L2
theorem strs_vals : ∀ {xs : List Str} {us : List Value}, Vals (xs.map V.str) us → StrsAre us xs
  | [], _, .nil => .nil
  | x :: xs, _, .cons r t => by
    obtain ⟨k, rfl⟩ := r
    exact .cons x k (strs_vals t)
/-- a list or a tuple of texts -/
def Txs (K : PySem.W.Frag) (H : Hp) (l : Addr) (xs : List Str) : Prop := SqL K H l (xs.map V.str) ∨ SqT K H l (xs.map V.str)
def tLenSetS (K : PySem.W.Frag) (ta : TE) : TE := fun σ H Q => ta σ H fun x H1 => ∃ (l : Addr) (xs : List Str), x = .ref l ∧ Txs K H1 l xs ∧ xs.length ≤ 4000 ∧ Q (.int (KdS.dcn xs xs.length : Nat)) H1
theorem pe_lenSetS {X : Cx} {a : Expr} {ta : TE} {p p2 q pos : Pos} (hg : Gl X "len") (hm : X.mg "len" = none) (hg2 : Gl X "set") (hm2 : X.mg "set" = none) (ha : PE X a ta) (hc : X.calm = true := by rfl)
    (na : starEach [a] X.env = (false, eval a X.env) :: starEach [] X.env := by rfl) : PE X (.Call (.Name "len" p) [.Call (.Name "set" p2) [a] [] q] [] pos) (tLenSetS X.K ta) := by
  refine ⟨fun pins s σ H Q I h => Call_ (ld_blt I hg hm boot_len (PyProof.Rows.callWith_builtin1 (PyProof.Rows.args_cons ?_ rfl) rfl rfl))⟩
  refine Call_ (ld_blt I hg2 hm2 boot_set (PyProof.Rows.callWith_type1 (PyProof.Rows.args_cons (thn (ha.run pins s σ H _ I h) fun v s1 ⟨x, H1, I1, r1, q1⟩ => PyProof.Rows.args_nil ?_) na) na rfl))
  obtain ⟨l, xs, rfl, hq, hl, q1⟩ := q1
  cases r1
  have hh := I1.ok.hd hc
  have hb : xs.length + 1 < scanBound := by unfold scanBound; omega
  refine KdS.set_by (P := KdS.After X.prog X.w s1 xs) (fun led => ?_) fun s2 af => ?_
  · rcases hq with hq | hq
    · obtain ⟨its, r, pl, hz⟩ := I1.list hq
      exact KdS.init_list (by simp [hh]) pl.isList (by simpa using strs_vals r) hb
    · obtain ⟨its, r, pl, hz⟩ := I1.tuple hq
      exact KdS.init_tup (by simp [hh]) pl (by simpa using strs_vals r) hb
  · obtain ⟨h2, tk, rfl, hS, hk⟩ := af
    obtain ⟨o, es, ep, t, ho, hex, hd, _, _, _, hf, hn⟩ := hS
    have I2 : Inv X pins σ H1 { s1 with heap := h2, toks := tk } := I1.kept fun b o e => hk b o (Heap.lt_size e) e
    have hle := KdS.dcn_le xs xs.length
    exact PyProof.Rows.args_nil (call_len_set ho hex hd hf (by rw [hn] <;> omega) ⟨.int (KdS.dcn xs xs.length : Nat), H1, I2.tok _, ⟨_, by rw [hn]⟩, q1⟩)
end Kd

namespace Kd
open PySem PySem.Spec PyProof.Rows L2
/-! ### heaps -/
section
variable {K : PySem.W.Frag} {H H' : Hp} {a g b p l : Addr} {o : HO}
theorem same_new (h : H p = Option.none) : Same H (upd H p o) := fun b u e => by rw [upd_ne (ne_of_none e h)]; exact e
theorem Same.to_new {H1 : Hp} (s : Same H H1) (h : H1 p = Option.none) : Same H (upd H1 p o) := s.trans (same_new h)
theorem Same.seqT {xs : List V} (e : Same H H') (h : SqT K H a xs) : SqT K H' a xs := by
  rcases h with (h | ⟨o, h⟩) | h
  · exact .inl (.inl (e _ _ h))
  · exact .inl (.inr ⟨o, e _ _ h⟩)
  · exact .inr h
theorem Same.txs {xs : List Str} (e : Same H H') (h : Txs K H l xs) : Txs K H' l xs := h.elim (fun q => .inl (e.seq q)) fun q => .inr (Same.seqT e q)
/-- the two objects of a tray cut out -/
def ct (a g : Addr) (H : Hp) : Hp := fun b => if b = a ∨ b = g then Option.none else H b
theorem ct_sub : Same (ct a g H) H := fun b o e => by
  unfold ct at e
  split at e
  · cases e
  · exact e
theorem ct_ne (e : ct a g H b = some o) : b ≠ a ∧ b ≠ g := by
  unfold ct at e
  split at e
  · cases e
  · rename_i h
    exact ⟨fun z => h (.inl z), fun z => h (.inr z)⟩
theorem ct_of (e : H b = some o) (ha : b ≠ a) (hg : b ≠ g) : ct a g H b = some o := by
  unfold ct
  rw [if_neg (fun z => z.elim ha hg)]
  exact e
theorem ct_upd (ha : p ≠ a) (hg : p ≠ g) : ct a g (upd H p o) = upd (ct a g H) p o := by
  funext b
  unfold ct upd
  by_cases e : b = p
  · subst e
    rw [if_neg (fun z => z.elim ha hg), if_pos rfl, if_pos rfl]
  · rw [if_neg e, if_neg e]
theorem ct_upda : ct a g (upd H a o) = ct a g H := by
  funext b
  unfold ct upd
  by_cases e : b = a
  · rw [if_pos (.inl e), if_pos (.inl e)]
  · rw [if_neg e]
theorem ct_updg : ct a g (upd H g o) = ct a g H := by
  funext b
  unfold ct upd
  by_cases e : b = g
  · rw [if_pos (.inr e), if_pos (.inr e)]
  · rw [if_neg e]
theorem ct_same (s : Same H H') : Same (ct a g H) (ct a g H') := fun b o e => ct_of (s b o (ct_sub b o e)) (ct_ne e).1 (ct_ne e).2
theorem ct_none (h : H p = Option.none) : ct a g H p = Option.none := by
  unfold ct
  split
  · rfl
  · exact h
end
/-! ### data -/
section
variable {K : PySem.W.Frag} {H H' : Hp}
mutual
theorem Dp.same (e : Same H H') : ∀ (d : PyData) (v : V), Dp K H v d → Dp K H' v d
  | .none, _, h => by cases h; exact .non
  | .bool b, _, h => by cases h; exact .bl b
  | .int i, _, h => by cases h; exact .int i
  | .str x, _, h => by cases h; exact .str x
  | .list ds, _, h => by
    cases h with
    | lst q r => exact .lst (e.seq q) (DpAll.same e ds _ r)
  | .tuple ds, _, h => by
    cases h with
    | tup q r => exact .tup (Same.seqT e q) (DpAll.same e ds _ r)
  | .dict _, _, h => by cases h
theorem DpAll.same (e : Same H H') : ∀ (ds : List PyData) (vs : List V), DpAll K H vs ds → DpAll K H' vs ds
  | [], _, h => by cases h; exact .nil
  | d :: ds, _, h => by
    cases h with
    | cons q r => exact .cons (Dp.same e d _ q) (DpAll.same e ds _ r)
end
theorem DpAll.len : ∀ {vs : List V} {ds : List PyData}, DpAll K H vs ds → vs.length = ds.length
  | _, _, .nil => rfl
  | _, _, .cons _ r => congrArg Nat.succ (DpAll.len r)
theorem DpAll.at_ : ∀ {vs : List V} {ds : List PyData} {i : Nat} {v : V}, DpAll K H vs ds → vs[i]? = some v → ∃ d, ds[i]? = some d ∧ Dp K H v d
  | _, _, i, v, .nil, e => by simp at e
  | _, _, 0, v, .cons q _, e => ⟨_, rfl, by have e2 : _ = v := Option.some.inj e; rw [← e2]; exact q⟩
  | _, _, i + 1, v, .cons _ r, e => DpAll.at_ (i := i) r e
theorem DpAll.strs : ∀ (xs : List Str), DpAll K H (xs.map V.str) (xs.map PyData.str)
  | [] => .nil
  | x :: xs => .cons (.str x) (DpAll.strs xs)
theorem tyL {a : Addr} {xs : List V} (h : SqL K H a xs) : TyX K H (.ref a) (.type "list") := by
  rcases h with (h | ⟨o, h⟩) | ⟨o, its, n, h1, h2, _⟩
  · exact .base (.lst h)
  · exact .base (.frz h)
  · exact .kList h1 h2
theorem tyT {a : Addr} {xs : List V} (h : SqT K H a xs) : TyX K H (.ref a) (.type "tuple") := by
  rcases h with (h | ⟨o, h⟩) | ⟨o, its, n, h1, h2, _⟩
  · exact .base (.tup h)
  · exact .fTuple h
  · exact .kTuple h1 h2
end
/-! ### texts of small letters -/
def Low (z : Str) : Prop := ∀ c ∈ z.cps.toList, 97 ≤ c ∧ c ≤ 122
structure IsNm (z : Str) : Prop where
  low : Low z
  pos : 1 ≤ z.length
  le8 : z.length ≤ 8
theorem Low.append {x y : Str} (h1 : Low x) (h2 : Low y) : Low (x ++ y) := fun c hc => by
  have e : (x ++ y).cps.toList = x.cps.toList ++ y.cps.toList := TL.tl_append x y
  rw [e] at hc
  exact (List.mem_append.mp hc).elim (h1 c) (h2 c)
theorem len_append (x y : Str) : (x ++ y).length = x.length + y.length := by
  show (x.cps ++ y.cps).size = x.cps.size + y.cps.size
  exact Array.size_append
theorem Low.cut {z : Str} (h : Low z) (lo hi : Option Int) : Low (cutS z lo hi) := fun c hc => by
  unfold cutS at hc
  exact h c (List.mem_of_mem_drop (List.mem_of_mem_take hc))
theorem Low.one {c : Nat} (h : 97 ≤ c ∧ c ≤ 122) : Low ⟨#[c]⟩ := fun d hd => by
  have e : d = c := by simpa using hd
  rw [e]
  exact h
theorem Low.empty : Low Str.empty := fun c hc => by
  have : c ∈ ([] : List Nat) := hc
  cases this
/-- the written letters -/
abbrev abc : Str := "abcdefghijklmnopqrstuvwxyz"
theorem abc_list : abc.cps.toList = List.range' 97 26 := by decide +kernel
theorem abc_len : abc.length = 26 := by decide +kernel
theorem mem_abc {c : Nat} : c ∈ abc.cps.toList ↔ 97 ≤ c ∧ c ≤ 122 := by
  rw [abc_list, List.mem_range'_1]
  omega
theorem abc_at {i : Nat} (h : i < 26) : abc.cps.toList[i]? = some (97 + i) := by
  rw [abc_list, List.getElem?_range' h]
  congr 1
  omega
theorem Low.abc : Low abc := fun c hc => mem_abc.mp hc
theorem IsNm.one {c : Nat} (h : 97 ≤ c ∧ c ≤ 122) : IsNm ⟨#[c]⟩ := ⟨.one h, by show 1 ≤ 1; decide, by show 1 ≤ 8; decide⟩
theorem join_list_eq (y : Str) (h : y.cps.toList = []) (parts : List Str) : (Txt.join y parts).cps.toList = (parts.map fun z => z.cps.toList).flatten := by
  rw [TL.join_eq]
  have e := TL.tl_join y parts
  have e2 : ∀ l : List (List Nat), TL.joinL [] l = l.flatten := fun l => by
    induction l with
    | nil => rfl
    | cons p r ih =>
      cases r with
      | nil => simp [TL.joinL]
      | cons q r2 =>
        show p ++ ([] ++ TL.joinL [] (q :: r2)) = _
        rw [ih]
        simp
  have e3 : TL.tl y = [] := h
  rw [e3, e2] at e
  exact e
/-! ### a comprehension, by what it has made and the heap without it -/
/-- the heap without the object at D -/
def cd (D : Addr) (H : Hp) : Hp := ct D D H
theorem cd_sub {D : Addr} {H : Hp} : Same (cd D H) H := ct_sub
theorem cd_upd {D : Addr} {H : Hp} {o : HO} : cd D (upd H D o) = cd D H := ct_upda
theorem cd_free {D : Addr} {H : Hp} (h : H D = Option.none) : cd D H = H := by
  funext b
  unfold cd ct
  by_cases e : b = D
  · subst e
    rw [if_pos (.inl rfl), h]
  · rw [if_neg (fun z => z.elim e e)]
theorem cd_at {D : Addr} {H : Hp} : cd D H D = Option.none := by
  unfold cd ct
  rw [if_pos (.inl rfl)]
theorem cd_of {D b : Addr} {H : Hp} {o : HO} (e : H b = some o) (n : b ≠ D) : cd D H b = some o := ct_of e n n
theorem cd_same {D : Addr} {H H' : Hp} (s : Same H H') : Same (cd D H) (cd D H') := ct_same s
/-- what was there ahead of D is in the rest -/
theorem Same.cd {H0 H : Hp} {D : Addr} (s : Same H0 H) (h : H0 D = Option.none) : Same H0 (cd D H) := fun b o e => cd_of (s b o e) (ne_of_none e h)
theorem Same.upd {H0 H : Hp} {D : Addr} {o : HO} (s : Same H0 H) (h : H0 D = Option.none) : Same H0 (upd H D o) := fun b u e => by rw [upd_ne (ne_of_none e h)]; exact s b u e
/-- between two turns: the list at D is ys, no longer than the turns, and Pv of the heap without it -/
def LcNx (D : Addr) (Pv : Nat → List V → Hp → Prop) (i : Nat) (H : Hp) : Prop := ∃ ys, H D = some (.lst ys) ∧ ys.length ≤ i ∧ Pv i ys (cd D H)
theorem LcNx.add {D : Addr} {Pv : Nat → List V → Hp → Prop} {i : Nat} {ys : List V} {y : V} {H : Hp} (e : H D = some (.lst ys)) (l : ys.length ≤ i) (hi : i < 4000) (p : Pv (i + 1) (ys ++ [y]) (cd D H)) :
    ∃ acc, H D = some (.lst acc) ∧ acc.length < sizeLine ∧ LcNx D Pv (i + 1) (upd H D (.lst (acc ++ [y]))) :=
  ⟨ys, e, Nat.lt_of_le_of_lt (by omega : ys.length ≤ 4000) (by decide), ys ++ [y], upd_same, by rw [List.length_append]; show ys.length + 1 ≤ i + 1; omega, by rw [cd_upd]; exact p⟩
theorem LcNx.skip {D : Addr} {Pv : Nat → List V → Hp → Prop} {i : Nat} {ys : List V} {H : Hp} (e : H D = some (.lst ys)) (l : ys.length ≤ i) (p : Pv (i + 1) ys (cd D H)) : LcNx D Pv (i + 1) H := ⟨ys, e, by omega, p⟩
theorem lc_build {J : It} {n : Nat} {G : Hp → Prop} {Y : Nat → Hp → V → Hp → Prop} (w : Walk J n G Y) {g : TG} {tt : TT} {te : TE} {vs : List Nat} {σ : L2.St} {H1 : Hp} {D : Addr} {Qd : Hp → Prop} (hD : H1 D = Option.none)
    (Pv : Nat → List V → Hp → Prop) (h0 : Pv 0 [] H1) (hG : ∀ i ys H, i ≤ n → Pv i ys (cd D H) → G H)
    (hs : ∀ i ys x H H', i < n → H D = some (.lst ys) → ys.length ≤ i → Pv i ys (cd D H) → Y i H x H' → g x (wipe σ vs) H' fun σ2 H2 => wipe σ2 vs = wipe σ vs ∧ tt σ2 H2 fun b H3 =>
      if b = true then te σ2 H3 fun y H4 => ∃ acc, H4 D = some (.lst acc) ∧ acc.length < sizeLine ∧ LcNx D Pv (i + 1) (L2.upd H4 D (.lst (acc ++ [y]))) else LcNx D Pv (i + 1) H3) (hd : ∀ ys H, H D = some (.lst ys) → ys.length ≤ n → Pv n ys (cd D H) → Qd H) :
    ∃ W : Nat → Nat → Hp → Prop, (∃ m, W 0 m (L2.upd H1 D (.lst []))) ∧ ∀ i m H, W i m H →
      (J.stop i H ∧ Qd H) ∨ (J.go i H ∧ ∃ Nx : Hp → Prop, (∀ H', Nx H' → ∃ m', m' < m ∧ W (i + 1) m' H') ∧ ∀ x H', J.yld i H x H' → g x (wipe σ vs) H' fun σ2 H2 => wipe σ2 vs = wipe σ vs ∧ tt σ2 H2 fun b H3 =>
        if b = true then te σ2 H3 fun y H4 => ∃ acc, H4 D = some (.lst acc) ∧ acc.length < sizeLine ∧ Nx (L2.upd H4 D (.lst (acc ++ [y]))) else Nx H3) :=
  lc_it w (LcNx D Pv) ⟨[], upd_same, Nat.le_refl _, by rw [cd_upd, cd_free hD]; exact h0⟩ (fun i H hi ⟨ys, _, _, p⟩ => hG i ys H hi p) (fun i x H H' hi ⟨ys, e, l, p⟩ hY => hs i ys x H H' hi e l p hY) (fun H ⟨ys, e, l, p⟩ => hd ys H e l p)
theorem yes {σ : L2.St} {H : Hp} {A B : Hp → Prop} (h : A H) : tYes σ H fun b H3 => if b = true then A H3 else B H3 := by
  show if true = true then A H else B H
  rw [if_pos rfl]
  exact h
theorem le_line {n : Nat} (h : n ≤ 4000) : n ≤ sizeLine := Nat.le_trans h (by decide)
theorem cd_is0 {D : Addr} {H H0 : Hp} (e : cd D H = H0) : Same H0 H := by rw [← e]; exact cd_sub
theorem seqT_list0 {K : PySem.W.Frag} {H : Hp} {l r : Addr} {L xs : List V} (hl : H l = some (.lst L)) (h : SqT K H r xs) : SqT K (cd l H) r xs := by
  rcases h with (q | ⟨o, q⟩) | q
  · exact .inl (.inl (cd_of q (ne_of q hl (fun z => nomatch z))))
  · exact .inl (.inr ⟨o, cd_of q (ne_of q hl (fun z => nomatch z))⟩)
  · exact .inr q
end Kd

namespace Kd
open PySem PySem.Spec PyProof.Rows L2
/-- f'..', its reading under a name -/
def tFs (ts : List TE) : TE := fun σ H Q => tJs ts Str.empty σ H fun out H1 => Q (.str out) H1
def rSplit : V → List V → Hp → VK → Prop := fun x xs H Q => ∃ a b, x = .str a ∧ xs = [.str b] ∧ (b.length == 0) = false ∧ a.length + 2 ≤ sizeLine ∧ rNewStrs (Txt.split a b) H Q
/-! ### the writing of a plan, as a mirror -/
abbrev Dm := Str × List (Str × Str)
def attT (a : Str × Str) : Str := a.1 ++ (":" : Str) ++ a.2
def dimW (d : Dm) : List Str := [("dim" : Str), d.1] ++ d.2.map attT
def dimT (d : Dm) : Str := Txt.join " " (dimW d)
def sumW (ms : List Str) : List Str := [("sum" : Str)] ++ ms
def sumT (ms : List Str) : List Str := if ms.isEmpty = true then [] else [Txt.join " " (sumW ms)]
def planW (ds : List Dm) (ms : List Str) : List Str := ds.map dimT ++ sumT ms
def planT (ds : List Dm) (ms : List Str) : Str := Txt.join "; " (planW ds ms)
/-- a way of the four -/
def IsWay (z : Str) : Prop := z ∈ (["first", "last", "day", "before"] : List Str)
theorem IsWay.nm {z : Str} (h : IsWay z) : Low z ∧ z.length ≤ 8 := by
  have h1 : ∀ z ∈ (["first", "last", "day", "before"] : List Str), (z.cps.toList.all fun c => decide (97 ≤ c ∧ c ≤ 122)) = true ∧ z.length ≤ 8 := by decide +kernel
  obtain ⟨a, b⟩ := h1 z h
  exact ⟨fun c hc => of_decide_eq_true (List.all_eq_true.mp a c hc), b⟩
theorem tl_joinL (y : Str) (ps : List Str) : TL.tl (Txt.join y ps) = TL.joinL (TL.tl y) (ps.map TL.tl) := by rw [TL.join_eq, TL.tl_join]
theorem mem_joinL {S : List Nat} {c : Nat} : ∀ {ps : List (List Nat)}, c ∈ TL.joinL S ps → c ∈ S ∨ ∃ p ∈ ps, c ∈ p
  | [], h => by cases h
  | [p], h => .inr ⟨p, List.mem_singleton.mpr rfl, h⟩
  | p :: q :: r, h => by
    have h : c ∈ p ++ (S ++ TL.joinL S (q :: r)) := h
    rcases List.mem_append.mp h with h | h
    · exact .inr ⟨p, List.mem_cons_self .., h⟩
    · rcases List.mem_append.mp h with h | h
      · exact .inl h
      · rcases mem_joinL h with h | ⟨z, hz, h⟩
        · exact .inl h
        · exact .inr ⟨z, List.mem_cons_of_mem _ hz, h⟩
theorem free_join {y : Str} {c : Nat} {ps : List Str} (hy : c ∉ TL.tl y) (h : ∀ p ∈ ps, c ∉ TL.tl p) : c ∉ TL.tl (Txt.join y ps) := fun hc => by
  rw [tl_joinL] at hc
  rcases mem_joinL hc with hc | ⟨p, hp, hc⟩
  · exact hy hc
  · obtain ⟨z, hz, rfl⟩ := List.mem_map.mp hp
    exact h z hz hc
theorem Low.free {z : Str} (h : Low z) {c : Nat} (hc : c < 97) : c ∉ TL.tl z := fun e => by
  have := (h c e).1
  omega
/-- dimensions whose names are names and whose ways are ways -/
def WOk (d : Dm) : Prop := Low d.1 ∧ ∀ a ∈ d.2, Low a.1 ∧ IsWay a.2
theorem tl_colon : TL.tl (":" : Str) = [58] := by decide +kernel
theorem tl_blank : TL.tl (" " : Str) = [32] := by decide +kernel
theorem tl_semi : TL.tl ("; " : Str) = [59, 32] := by decide +kernel
theorem attT_free {a : Str × Str} (h1 : Low a.1) (h2 : Low a.2) {c : Nat} (hc : c < 97) (n : c ≠ 58) : c ∉ TL.tl (attT a) := fun e => by
  unfold attT at e
  rw [TL.tl_append, TL.tl_append, tl_colon] at e
  rcases List.mem_append.mp e with e | e
  · rcases List.mem_append.mp e with e | e
    · exact h1.free hc e
    · exact n (List.mem_singleton.mp e)
  · exact h2.free hc e
theorem dimW_free {d : Dm} (h : WOk d) {c : Nat} (hc : c < 97) (n : c ≠ 58) : ∀ p ∈ dimW d, c ∉ TL.tl p := fun p hp => by
  have hd : Low ("dim" : Str) := fun c hc => by
    have : ∀ c ∈ ("dim" : Str).cps.toList, 97 ≤ c ∧ c ≤ 122 := by decide +kernel
    exact this c hc
  unfold dimW at hp
  rcases List.mem_append.mp hp with hp | hp
  · rcases List.mem_cons.mp hp with rfl | hp
    · exact hd.free hc
    · rw [List.mem_singleton.mp hp]
      exact h.1.free hc
  · obtain ⟨a, ha, rfl⟩ := List.mem_map.mp hp
    exact attT_free (h.2 a ha).1 (h.2 a ha).2.nm.1 hc n
theorem split_dim {d : Dm} (h : WOk d) : Txt.split (dimT d) " " = dimW d := TL.split_join tl_blank (by decide +kernel) (by unfold dimW; simp) (dimW_free h (by decide) (by decide))
theorem split_att {a : Str × Str} (h1 : Low a.1) (h2 : Low a.2) : Txt.split (attT a) ":" = [a.1, a.2] := by
  have e : attT a = Txt.join ":" [a.1, a.2] := by rw [TL.join_eq]; rfl
  rw [e]
  refine TL.split_join tl_colon (by decide +kernel) (by simp) fun p hp => ?_
  rcases List.mem_cons.mp hp with rfl | hp
  · exact h1.free (by decide)
  · rw [List.mem_singleton.mp hp]
    exact h2.free (by decide)
theorem low_sum : Low ("sum" : Str) := fun c hc => by
  have : ∀ c ∈ ("sum" : Str).cps.toList, 97 ≤ c ∧ c ≤ 122 := by decide +kernel
  exact this c hc
theorem split_sum {ms : List Str} (h : ∀ z ∈ ms, Low z) : Txt.split (Txt.join " " (sumW ms)) " " = sumW ms := by
  refine TL.split_join tl_blank (by decide +kernel) (by unfold sumW; simp) fun p hp => ?_
  unfold sumW at hp
  rcases List.mem_append.mp hp with hp | hp
  · rw [List.mem_singleton.mp hp]
    exact low_sum.free (by decide)
  · exact (h p hp).free (by decide)
theorem dimT_free {d : Dm} (h : WOk d) : 59 ∉ TL.tl (dimT d) := free_join (by rw [tl_blank]; decide) (dimW_free h (by decide) (by decide))
theorem sum_free {ms : List Str} (h : ∀ z ∈ ms, Low z) : 59 ∉ TL.tl (Txt.join " " (sumW ms)) := free_join (by rw [tl_blank]; decide) fun p hp => by
  unfold sumW at hp
  rcases List.mem_append.mp hp with hp | hp
  · rw [List.mem_singleton.mp hp]
    exact low_sum.free (by decide)
  · exact (h p hp).free (by decide)
theorem split_plan {ds : List Dm} {ms : List Str} (hn : ds ≠ []) (h : ∀ d ∈ ds, WOk d) (hm : ∀ z ∈ ms, Low z) : Txt.split (planT ds ms) "; " = planW ds ms := by
  refine TL.split_join tl_semi (by decide +kernel) (by unfold planW; simp [hn]) fun p hp => ?_
  unfold planW at hp
  rcases List.mem_append.mp hp with hp | hp
  · obtain ⟨d, hd, rfl⟩ := List.mem_map.mp hp
    exact dimT_free (h d hd)
  · unfold sumT at hp
    split at hp
    · cases hp
    · rw [List.mem_singleton.mp hp]
      exact sum_free hm
/-! ### lengths -/
theorem joinL_len {S : List Nat} : ∀ ps : List (List Nat), (TL.joinL S ps).length ≤ (ps.map (·.length)).sum + ps.length * S.length
  | [] => Nat.zero_le _
  | [p] => by show p.length ≤ p.length + 0 + 1 * S.length; omega
  | p :: q :: r => by
    have := joinL_len (S := S) (q :: r)
    show (p ++ (S ++ TL.joinL S (q :: r))).length ≤ p.length + ((q :: r).map (·.length)).sum + ((q :: r).length + 1) * S.length
    rw [List.length_append, List.length_append, Nat.add_mul]
    omega
theorem sum_le {b : Nat} : ∀ {xs : List Str}, (∀ x ∈ xs, x.length ≤ b) → (xs.map (·.length)).sum ≤ xs.length * b
  | [], _ => Nat.zero_le _
  | x :: xs, h => by
    have h1 := h x (List.mem_cons_self ..)
    have h2 := sum_le fun z hz => h z (List.mem_cons_of_mem _ hz)
    show x.length + (xs.map (·.length)).sum ≤ (xs.length + 1) * b
    rw [Nat.add_mul]
    omega
theorem join_len {y : Str} {xs : List Str} {b : Nat} (h : ∀ x ∈ xs, x.length ≤ b) : (Txt.join y xs).length ≤ xs.length * (b + y.length) := by
  rw [TL.len_tl, tl_joinL]
  refine Nat.le_trans (joinL_len _) ?_
  have e : ((xs.map TL.tl).map (·.length)).sum = (xs.map (·.length)).sum := by
    rw [List.map_map]
    refine congrArg List.sum (List.map_congr_left fun z _ => (TL.len_tl z).symm)
  have := sum_le h
  rw [e, List.length_map, ← TL.len_tl, Nat.mul_add]
  omega
theorem attT_len {a : Str × Str} (h1 : a.1.length ≤ 8) (h2 : a.2.length ≤ 8) : (attT a).length ≤ 17 := by
  unfold attT
  rw [len_append, len_append]
  have : (":" : Str).length = 1 := by decide +kernel
  omega
end Kd

namespace Kd
open PySem PySem.Spec PyProof.Rows L2
def top (i : Nat) : Stmt := PySem.Challenge.pw_kindsofday_k41_texts_of_no_plan.main.body.getD i (.Pass ⟨0, 0, 0, 0⟩)
abbrev s_DayError_init : Stmt := inClass (top 1) 0
abbrev s_NoPlan_init : Stmt := inClass (top 2) 0
abbrev s_NoRow_init : Stmt := inClass (top 3) 0
abbrev s_NoFact_init : Stmt := inClass (top 4) 0
abbrev s_NoThing_init : Stmt := inClass (top 5) 0
abbrev s_Twice_init : Stmt := inClass (top 6) 0
abbrev s_NoGroup_init : Stmt := inClass (top 7) 0
abbrev s_NoMeasure_init : Stmt := inClass (top 8) 0
abbrev s_NoWatch_init : Stmt := inClass (top 9) 0
abbrev s_NoTime_init : Stmt := inClass (top 10) 0
abbrev s_NoText_init : Stmt := inClass (top 11) 0
abbrev s_NoDeskRow_init : Stmt := inClass (top 12) 0
abbrev s_is_name : Stmt := top 16
abbrev s_is_made_of : Stmt := top 17
abbrev s_Plan_init : Stmt := inClass (top 22) 0
abbrev s_Plan_dimensions : Stmt := inClass (top 22) 1
abbrev s_Plan_measures : Stmt := inClass (top 22) 2
abbrev s_Plan_eq : Stmt := inClass (top 22) 3
abbrev s_Plan_ne : Stmt := inClass (top 22) 4
abbrev s_first_fault : Stmt := top 23
abbrev s_are_faulty : Stmt := top 24
abbrev s_read_plan : Stmt := top 27
abbrev s_read_dimension : Stmt := top 28
abbrev s_l_tray : Stmt := top 30
abbrev s_l_draw : Stmt := top 31
abbrev s_l_name : Stmt := top 32
abbrev s_l_names : Stmt := top 33
abbrev s_l_lists : Stmt := top 34
abbrev s_l_plan_shown : Stmt := top 35
abbrev s_l_sign : Stmt := top 36
abbrev s_l_sign_spoilt : Stmt := top 37
abbrev s_l_joint_spoilt : Stmt := top 38
abbrev s_l_words_spoilt : Stmt := top 39
abbrev s_l_spoilt : Stmt := top 40
abbrev s_l_called : Stmt := top 41
abbrev s_l_is_name : Stmt := top 42
abbrev s_l_plan_of : Stmt := top 43
abbrev s_l_due : Stmt := top 44
abbrev s_law : Stmt := top 45
abbrev FnP (K : PySem.W.Frag) (x qual : Str) (st : Stmt) (f : Addr) (fd : FuncData) : Prop := FunD K x qual (defArgs st) (defBody st) (defScope st) [] [] f fd
section
variable {P : Program} {w : World} {K : PySem.W.Frag} {mg : Str → Option Value} {base : Heap} {f : Addr} {fd : FuncData}
/-! ### is_name -/
def nmB (z : Str) : Bool := decide (1 ≤ z.length) && (decide (z.length ≤ 8) && z.cps.toList.all fun c => decide (97 ≤ c ∧ c ≤ 122))
def spIsName : Sp := fun vs H Q _ => ∃ z : Str, vs = [.str z] ∧ z.length ≤ 4000 ∧ ∀ H', Same H H' → Q (.bl (nmB z)) H'
/-! ### is_made_of -/
def madeB (z s : Str) : Bool := z.cps.toList.all fun c => decide (c ∈ s.cps.toList)
theorem made_abc (z : Str) : madeB z abc = z.cps.toList.all fun c => decide (97 ≤ c ∧ c ≤ 122) := by
  unfold madeB
  congr 1
  funext c
  simp only [mem_abc]
def spMade : Sp := fun vs H Q _ => ∃ z s : Str, vs = [.str z, .str s] ∧ z.length ≤ 4000 ∧ ∀ H', Same H H' → Q (.bl (madeB z s)) H'
theorem sc_made : FnScope ["text", "signs", "sign"] ["text", "signs"] (defScope s_is_made_of) := ⟨rfl, rfl, rfl, by decide +kernel, rfl, by decide +kernel, by decide +kernel⟩
theorem ok_made (F : FnP K "is_made_of" "is_made_of" s_is_made_of f fd) (ga : mg "all" = none) : FnOk P w K mg base CX0 1 f fd ["text", "signs"] spMade := by
  refine F.ok sc_made (fun vs H Q E h => ?_) (fun cdv A outer s H vs Q E hr h => ?_)
  · obtain ⟨z, s, rfl, _⟩ := h
    rfl
  · obtain ⟨z, s2, rfl, hz, k⟩ := h
    refine ⟨_, PSs.nox (pss_one (ps_ret (pe_callB (cr_all rfl) (by rfl) ga (by decide +kernel) (pa_cons (pe_lc (own := [("sign", 2)]) (g := gName 2) (tt := tYes) rfl sc_made.nd (pi_str (pv 0)) (blkOk_by (own := [("sign", 2)]) (N := ["text", "signs", "sign"]) (sc := defScope s_is_made_of) (by decide +kernel))
        (fun _ _ _ _ _ => pg_name (i := 2) sc_made.nd rfl (Or.inl rfl)) (fun _ _ _ _ _ => pts_nil) (fun _ _ _ _ _ => pe_cmpR op_in_sign (pv 2) (pv 1) (by rfl))) pa_nil)))), ?_⟩
    have ez : z.length = z.cps.toList.length := by rw [Array.length_toList]; rfl
    refine ⟨_, rfl, z, rfl, fun D hD => lc_build walk_str hD (fun i ys R => Same H R ∧ ys = (z.cps.toList.take i).map fun c => V.bl (decide (c ∈ s2.cps.toList))) ⟨Same.refl H, rfl⟩ (fun _ _ _ _ _ => trivial) ?_ ?_⟩
    · rintro i ys x H2 H2' hi e l ⟨sm, rfl⟩ ⟨rfl, c, hc, rfl⟩
      refine ⟨rfl, yes ?_⟩
      refine ⟨_, rfl, _, rfl, c, s2, rfl, rfl, LcNx.add e l (by have : z.length = z.cps.size := rfl; omega) ⟨sm, ?_⟩⟩
      have hc2 : z.cps.toList[i]? = some c := by rw [Array.getElem?_toList]; exact hc
      obtain ⟨h1, h2⟩ := List.getElem?_eq_some_iff.mp hc2
      rw [List.take_succ_eq_append_getElem h1, List.map_append, h2]
      rfl
    · rintro ys H2 e l ⟨sm, rfl⟩
      refine ⟨D, (z.cps.toList.take z.cps.size).map fun c => decide (c ∈ s2.cps.toList), rfl, SqL.of (by rw [List.map_map]; exact e), ?_⟩
      have e1 : madeB z s2 = (((z.cps.toList.take z.cps.size).map fun c => decide (c ∈ s2.cps.toList)).all id) := by
        have et : z.cps.toList.take z.cps.size = z.cps.toList := List.take_of_length_le (by rw [Array.length_toList]; exact Nat.le_refl _)
        unfold madeB
        rw [et, List.all_map]
        rfl
      rw [← e1]
      exact k H2 (sm.trans cd_sub)
theorem sc_is_name : FnScope ["text"] ["text"] (defScope s_is_name) := ⟨rfl, rfl, rfl, by decide +kernel, rfl, by decide +kernel, by decide +kernel⟩
theorem ok_is_name {fM : Addr} {fdM : FuncData} (F : FnP K "is_name" "is_name" s_is_name f fd) (GM : FnOk P w K mg base CX0 1 fM fdM ["text", "signs"] spMade) (kM : PySem.W.keepIn K (.ref fM) = true) (bM : Binds K fdM ["text", "signs"] []) (gM : mg "is_made_of" = some (.ref fM)) (gl : mg "len" = none) {t1 t2 : Nat} (gS : mg "SMALL_LETTERS" = some (.str abc t1)) (gL : mg "LONGEST_NAME" = some (.int 8 t2)) : FnOk P w K mg base CX0 2 f fd ["text"] spIsName := by
  refine F.ok sc_is_name (fun vs H Q E h => ?_) (fun cdv A outer s H vs Q E hr h => ?_)
  · obtain ⟨z, rfl, _⟩ := h
    rfl
  · obtain ⟨z, rfl, hz, k⟩ := h
    refine ⟨_, PSs.nox (pss_one (ps_ret (pe_and (pe_chain op_le op_le pe_int (pe_callB call_len_str (by rfl) gl boot_len (pa_cons (pv 0) pa_nil)) (pe_glob (v := .int 8) rfl gL ⟨_, rfl⟩))
      (pe_one (pe_call GM hr rfl gM kM bM .nil pass0 (pa_cons (pv 0) (pa_cons (pe_glob (v := .str abc) rfl gS ⟨_, rfl⟩) pa_nil))))))), ?_⟩
    refine ⟨_, rfl, z, rfl, le_line hz, _, _, rfl, rfl, _, rfl, ?_⟩
    refine ite2 (fun c1 => ?_) (fun c1 => ?_)
    · have c1 : (1 : Int) ≤ (z.length : Int) := of_decide_eq_true c1
      refine ⟨_, _, rfl, rfl, _, rfl, ?_⟩
      refine ite2 (fun c2 => ?_) (fun c2 => ?_)
      · have c2 : (z.length : Int) ≤ 8 := of_decide_eq_true c2
        refine ⟨_, rfl, z, abc, rfl, hz, fun H2 s2 => ?_⟩
        have e1 : nmB z = madeB z abc := by
          unfold nmB
          rw [made_abc, decide_eq_true (by omega : 1 ≤ z.length), decide_eq_true (by omega : z.length ≤ 8)]
          simp only [Bool.true_and]
        rw [← e1]
        exact k H2 s2
      · have c2 : ¬ (z.length : Int) ≤ 8 := fun q => c2 (decide_eq_true q)
        have e1 : nmB z = false := by
          unfold nmB
          rw [decide_eq_false (by omega : ¬ z.length ≤ 8), Bool.false_and, Bool.and_false]
        rw [e1] at k
        exact k H (Same.refl H)
    · have c1 : ¬ (1 : Int) ≤ (z.length : Int) := fun q => c1 (decide_eq_true q)
      have e1 : nmB z = false := by
        unfold nmB
        rw [decide_eq_false (by omega : ¬ 1 ≤ z.length), Bool.false_and]
      rw [e1] at k
      exact ⟨_, rfl, iteF (k H (Same.refl H))⟩
/-! ### are_faulty -/
def fltB (xs : List Str) (m : Int) : Bool := decide (m < (xs.length : Int)) || (decide (((KdS.dcn xs xs.length : Nat) : Int) < (xs.length : Int)) || !(xs.all nmB))
def spFaulty (K : PySem.W.Frag) : Sp := fun vs H Q _ => ∃ (l : Addr) (xs : List Str) (m : Int), vs = [.ref l, .int m] ∧ Txs K H l xs ∧ xs.length ≤ 4000 ∧ (∀ z ∈ xs, z.length ≤ 4000) ∧ ∀ H', Same H H' → Q (.bl (fltB xs m)) H'
theorem sc_are_faulty : FnScope ["names", "most", "name"] ["names", "most"] (defScope s_are_faulty) := ⟨rfl, rfl, rfl, by decide +kernel, rfl, by decide +kernel, by decide +kernel⟩
theorem flt_end {xs : List Str} {m : Int} (h1 : ¬ m < (xs.length : Int)) (h2 : ¬ ((KdS.dcn xs xs.length : Nat) : Int) < (xs.length : Int)) : fltB xs m = !((xs.take xs.length).map nmB).all id := by
  unfold fltB
  rw [decide_eq_false h1, decide_eq_false h2, List.take_length, List.all_map, Bool.false_or, Bool.false_or]
  rfl
theorem strs_at {xs : List Str} {i : Nat} {x : V} (h : (xs.map V.str)[i]? = some x) : ∃ z, x = .str z ∧ xs[i]? = some z := by
  rw [List.getElem?_map] at h
  cases e : xs[i]? with
  | none => rw [e] at h; cases h
  | some z => rw [e] at h; exact ⟨z, (Option.some.inj h).symm, rfl⟩
theorem take_nm {xs : List Str} {i : Nat} {z : Str} (h : xs[i]? = some z) : ((xs.take i).map fun z => V.bl (nmB z)) ++ [V.bl (nmB z)] = (xs.take (i + 1)).map fun z => V.bl (nmB z) := by
  obtain ⟨h1, h2⟩ := List.getElem?_eq_some_iff.mp h
  rw [List.take_succ_eq_append_getElem h1, List.map_append, h2]
  rfl
theorem ok_are_faulty {fI : Addr} {fdI : FuncData} (F : FnP K "are_faulty" "are_faulty" s_are_faulty f fd) (GI : FnOk P w K mg base CX0 2 fI fdI ["text"] spIsName) (kI : PySem.W.keepIn K (.ref fI) = true) (bI : Binds K fdI ["text"] []) (gI : mg "is_name" = some (.ref fI))
    (gl : mg "len" = none) (gs : mg "set" = none) (ga : mg "all" = none) : FnOk P w K mg base CX0 3 f fd ["names", "most"] (spFaulty K) := by
  refine F.ok sc_are_faulty (fun vs H Q E h => ?_) (fun cdv A outer s H vs Q E hr h => ?_)
  · obtain ⟨l, xs, m, rfl, _⟩ := h
    rfl
  · obtain ⟨l, xs, m, rfl, hx, hn, hz, k⟩ := h
    rcases hx with hx | hx
    · refine ⟨_, PSs.nox (pss_cons (ps_if (PW.pt (pw_or (pt_cmpR op_gt (pe_callB call_len_seq (by rfl) gl boot_len (pa_cons (pv 0) pa_nil)) (pv 1) (nomark _)) (pw_or1 (pt_cmpR op_lt (pe_lenSetS rfl gl rfl gs (pv 0)) (pe_callB call_len_seq (by rfl) gl boot_len (pa_cons (pv 0) pa_nil)) (nomark _))))) (pss_one (ps_ret pe_bl)) pss_nil)
        (pss_one (ps_ret (pe_not (pe_callB (cr_all rfl) (by rfl) ga (by decide +kernel) (pa_cons (pe_lc (own := [("name", 2)]) (g := gName 2) (tt := tYes) rfl sc_are_faulty.nd (pi_list (pv 0)) (blkOk_by (own := [("name", 2)]) (N := ["names", "most", "name"]) (sc := defScope s_are_faulty) (by decide +kernel))
          (fun _ _ _ _ _ => pg_name (i := 2) sc_are_faulty.nd rfl (Or.inl rfl)) (fun _ _ _ _ _ => pts_nil) (fun _ _ _ _ _ => pe_call GI hr rfl gI kI bI .nil pass0 (pa_cons (pv 2) pa_nil))) pa_nil)))))), ?_⟩
      refine ⟨_, rfl, l, _, rfl, .inl hx, _, rfl, _, _, rfl, rfl, _, rfl, ?_⟩
      refine ite2 (fun c1 => ?_) (fun c1 => ?_)
      · have c1 : m < ((xs.map V.str).length : Int) := of_decide_eq_true c1
        rw [List.length_map] at c1
        have e1 : fltB xs m = true := by unfold fltB; rw [decide_eq_true c1, Bool.true_or]
        rw [e1] at k
        exact iteT (k H (Same.refl H))
      · have c1 : ¬ m < ((xs.map V.str).length : Int) := fun q => c1 (decide_eq_true q)
        rw [List.length_map] at c1
        refine ⟨_, rfl, l, xs, rfl, .inl hx, hn, _, rfl, l, _, rfl, .inl hx, _, _, rfl, rfl, _, rfl, ?_⟩
        refine ite2 (fun c2 => ?_) (fun c2 => ?_)
        · have c2 : ((KdS.dcn xs xs.length : Nat) : Int) < ((xs.map V.str).length : Int) := of_decide_eq_true c2
          rw [List.length_map] at c2
          have e1 : fltB xs m = true := by unfold fltB; rw [decide_eq_true c2, Bool.true_or, Bool.or_true]
          rw [e1] at k
          exact k H (Same.refl H)
        · have c2 : ¬ ((KdS.dcn xs xs.length : Nat) : Int) < ((xs.map V.str).length : Int) := fun q => c2 (decide_eq_true q)
          rw [List.length_map] at c2
          refine ⟨_, rfl, l, rfl, ⟨_, hx⟩, fun D hD => lc_build (walk_list (K := K) (a := l)) hD (fun i ys R => Same H R ∧ ys = (xs.take i).map fun z => V.bl (nmB z)) ⟨Same.refl H, rfl⟩ (fun _ _ _ _ p => Same.seq (p.1.trans cd_sub) hx) ?_ ?_⟩
          · rintro i ys x H2 H2' hi e ly ⟨sm, rfl⟩ ⟨rfl, hy⟩
            obtain ⟨z, rfl, hy2⟩ := strs_at hy
            refine ⟨rfl, yes ?_⟩
            refine ⟨_, rfl, z, rfl, hz z (List.mem_of_getElem? hy2), fun H3 s3 => LcNx.add (s3 _ _ e) ly (by rw [List.length_map] at hi; omega) ⟨sm.trans (cd_same s3), ?_⟩⟩
            exact take_nm hy2
          · rintro ys H2 e ly ⟨sm, rfl⟩
            rw [List.length_map] at e
            refine ⟨D, (xs.take xs.length).map nmB, rfl, SqL.of (by rw [List.map_map]; exact e), _, rfl, ?_⟩
            have e2 := flt_end c1 c2
            rw [e2] at k
            exact k H2 (sm.trans cd_sub)
    · refine ⟨_, PSs.nox (pss_cons (ps_if (PW.pt (pw_or (pt_cmpR op_gt (pe_callB call_len_seq (by rfl) gl boot_len (pa_cons (pv 0) pa_nil)) (pv 1) (nomark _)) (pw_or1 (pt_cmpR op_lt (pe_lenSetS rfl gl rfl gs (pv 0)) (pe_callB call_len_seq (by rfl) gl boot_len (pa_cons (pv 0) pa_nil)) (nomark _))))) (pss_one (ps_ret pe_bl)) pss_nil)
        (pss_one (ps_ret (pe_not (pe_callB (cr_all rfl) (by rfl) ga (by decide +kernel) (pa_cons (pe_lc (own := [("name", 2)]) (g := gName 2) (tt := tYes) rfl sc_are_faulty.nd (pi_tup (pv 0)) (blkOk_by (own := [("name", 2)]) (N := ["names", "most", "name"]) (sc := defScope s_are_faulty) (by decide +kernel))
          (fun _ _ _ _ _ => pg_name (i := 2) sc_are_faulty.nd rfl (Or.inl rfl)) (fun _ _ _ _ _ => pts_nil) (fun _ _ _ _ _ => pe_call GI hr rfl gI kI bI .nil pass0 (pa_cons (pv 2) pa_nil))) pa_nil)))))), ?_⟩
      refine ⟨_, rfl, l, _, rfl, .inr hx, _, rfl, _, _, rfl, rfl, _, rfl, ?_⟩
      refine ite2 (fun c1 => ?_) (fun c1 => ?_)
      · have c1 : m < ((xs.map V.str).length : Int) := of_decide_eq_true c1
        rw [List.length_map] at c1
        have e1 : fltB xs m = true := by unfold fltB; rw [decide_eq_true c1, Bool.true_or]
        rw [e1] at k
        exact iteT (k H (Same.refl H))
      · have c1 : ¬ m < ((xs.map V.str).length : Int) := fun q => c1 (decide_eq_true q)
        rw [List.length_map] at c1
        refine ⟨_, rfl, l, xs, rfl, .inr hx, hn, _, rfl, l, _, rfl, .inr hx, _, _, rfl, rfl, _, rfl, ?_⟩
        refine ite2 (fun c2 => ?_) (fun c2 => ?_)
        · have c2 : ((KdS.dcn xs xs.length : Nat) : Int) < ((xs.map V.str).length : Int) := of_decide_eq_true c2
          rw [List.length_map] at c2
          have e1 : fltB xs m = true := by unfold fltB; rw [decide_eq_true c2, Bool.true_or, Bool.or_true]
          rw [e1] at k
          exact k H (Same.refl H)
        · have c2 : ¬ ((KdS.dcn xs xs.length : Nat) : Int) < ((xs.map V.str).length : Int) := fun q => c2 (decide_eq_true q)
          rw [List.length_map] at c2
          refine ⟨_, rfl, l, rfl, ⟨_, hx⟩, fun D hD => lc_build (walk_tup (K := K) (a := l)) hD (fun i ys R => Same H R ∧ ys = (xs.take i).map fun z => V.bl (nmB z)) ⟨Same.refl H, rfl⟩ (fun _ _ _ _ p => Same.seqT (p.1.trans cd_sub) hx) ?_ ?_⟩
          · rintro i ys x H2 H2' hi e ly ⟨sm, rfl⟩ ⟨rfl, hy⟩
            obtain ⟨z, rfl, hy2⟩ := strs_at hy
            refine ⟨rfl, yes ?_⟩
            refine ⟨_, rfl, z, rfl, hz z (List.mem_of_getElem? hy2), fun H3 s3 => LcNx.add (s3 _ _ e) ly (by rw [List.length_map] at hi; omega) ⟨sm.trans (cd_same s3), ?_⟩⟩
            exact take_nm hy2
          · rintro ys H2 e ly ⟨sm, rfl⟩
            rw [List.length_map] at e
            refine ⟨D, (xs.take xs.length).map nmB, rfl, SqL.of (by rw [List.map_map]; exact e), _, rfl, ?_⟩
            have e2 := flt_end c1 c2
            rw [e2] at k
            exact k H2 (sm.trans cd_sub)
/-! ### a plan's lists in the heap -/
def AttAt (K : PySem.W.Frag) (H : Hp) (y : V) (a : Str × Str) : Prop := ∃ r, y = .ref r ∧ SqT K H r [.str a.1, .str a.2]
def AttsAt (K : PySem.W.Frag) (H : Hp) (q : Addr) (as : List (Str × Str)) : Prop := ∃ ys, SqT K H q ys ∧ Paired (AttAt K H) ys as
def DimAt (K : PySem.W.Frag) (H : Hp) (x : V) (d : Str × List (Str × Str)) : Prop := ∃ p q, x = .ref p ∧ SqT K H p [.str d.1, .ref q] ∧ AttsAt K H q d.2
def DimsAt (K : PySem.W.Frag) (H : Hp) (l : Addr) (ds : List (Str × List (Str × Str))) : Prop := ∃ xs, SqL K H l xs ∧ Paired (DimAt K H) xs ds
theorem AttAt.same {H H' : Hp} {y : V} {a : Str × Str} (e : Same H H') : AttAt K H y a → AttAt K H' y a := fun ⟨r, h1, h2⟩ => ⟨r, h1, Same.seqT e h2⟩
theorem AttsAt.same {H H' : Hp} {q : Addr} {as : List (Str × Str)} (e : Same H H') : AttsAt K H q as → AttsAt K H' q as := fun ⟨ys, h1, h2⟩ => ⟨ys, Same.seqT e h1, PySem.Paired.mono (fun _ _ => AttAt.same e) h2⟩
theorem DimAt.same {H H' : Hp} {x : V} {d : Str × List (Str × Str)} (e : Same H H') : DimAt K H x d → DimAt K H' x d := fun ⟨p, q, h1, h2, h3⟩ => ⟨p, q, h1, Same.seqT e h2, h3.same e⟩
theorem DimsAt.same {H H' : Hp} {l : Addr} {ds : List (Str × List (Str × Str))} (e : Same H H') : DimsAt K H l ds → DimsAt K H' l ds := fun ⟨xs, h1, h2⟩ => ⟨xs, e.seq h1, PySem.Paired.mono (fun _ _ => DimAt.same e) h2⟩
theorem paired_at {α β : Type} {R : α → β → Prop} : ∀ {l : List α} {m : List β} {i : Nat} {a : α}, Paired R l m → l[i]? = some a → ∃ b, m[i]? = some b ∧ R a b
  | _, _, i, a, .nil, e => by simp at e
  | _, _, 0, a, .cons h _, e => ⟨_, rfl, by have e2 : _ = a := Option.some.inj e; rw [← e2]; exact h⟩
  | _, _, i + 1, a, .cons _ r, e => paired_at (i := i) r e
theorem take_snoc {α β : Type} {g : α → β} {l : List α} {i : Nat} {a : α} (h : l[i]? = some a) : (l.take i).map g ++ [g a] = (l.take (i + 1)).map g := by
  obtain ⟨h1, h2⟩ := List.getElem?_eq_some_iff.mp h
  rw [List.take_succ_eq_append_getElem h1, List.map_append, h2]
  rfl
structure Szd (ds : List (Str × List (Str × Str))) (ms : List Str) : Prop where
  dl : ds.length ≤ 4000
  dn : ∀ d ∈ ds, d.1.length ≤ 4000 ∧ d.2.length ≤ 4000 ∧ ∀ a ∈ d.2, a.1.length ≤ 4000
  ml : ms.length ≤ 4000
  mn : ∀ m ∈ ms, m.length ≤ 4000
/-! ### first_fault -/
def ffV (ds : List (Str × List (Str × Str))) (ms : List Str) : V := if (ds.isEmpty || fltB (ds.map (·.1)) 4) = true then .str "dimensions" else if ds.any (fun d => fltB (d.2.map (·.1)) 5) = true then .str "attributes" else if fltB ms 4 = true then .str "measures" else .non
def spFirst (K : PySem.W.Frag) : Sp := fun vs H Q _ => ∃ (l m : Addr) (ds : List (Str × List (Str × Str))) (ms : List Str), vs = [.ref l, .ref m] ∧ DimsAt K H l ds ∧ Txs K H m ms ∧ Szd ds ms ∧ ∀ H', Same H H' → Q (ffV ds ms) H'
theorem sc_first : FnScope ["dimensions", "measures", "name", "attributes", "names", "attribute", "way"] ["dimensions", "measures"] (defScope s_first_fault) := ⟨rfl, rfl, rfl, by decide +kernel, rfl, by decide +kernel, by decide +kernel⟩
theorem ok_first {fF : Addr} {fdF : FuncData} (F : FnP K "first_fault" "first_fault" s_first_fault f fd) (GF : FnOk P w K mg base CX0 3 fF fdF ["names", "most"] (spFaulty K)) (kF : PySem.W.keepIn K (.ref fF) = true) (bF : Binds K fdF ["names", "most"] []) (gF : mg "are_faulty" = some (.ref fF))
    {t1 t2 t3 : Nat} (g1 : mg "MOST_DIMENSIONS" = some (.int 4 t1)) (g2 : mg "MOST_ATTRIBUTES" = some (.int 5 t2)) (g3 : mg "MOST_MEASURES" = some (.int 4 t3)) : FnOk P w K mg base CX0 4 f fd ["dimensions", "measures"] (spFirst K) := by
  refine F.ok sc_first (fun vs H Q E h => ?_) (fun cdv A outer s H vs Q E hr h => ?_)
  · obtain ⟨l, m, ds, ms, rfl, _⟩ := h
    rfl
  · obtain ⟨l, m, ds, ms, rfl, ⟨xs, hl, hp⟩, hm, sz, k⟩ := h
    have nd := sc_first.nd
    refine ⟨_, PSs.nox (pss_cons (ps_setLc (i := 4) (own := [("name", 2), ("attributes", 3)]) (g := gTup K 2 (gCons (gName 2) (gCons (gName 3) gNil))) (tt := tYes) rfl nd rfl rfl (sw_true rfl rfl rfl (by decide +kernel)) (pi_list (pv 0)) (blkOk_by (own := [("name", 2), ("attributes", 3)]) (N := ["dimensions", "measures", "name", "attributes", "names", "attribute", "way"]) (sc := defScope s_first_fault) (by decide +kernel))
        (fun _ _ _ _ _ => pg_tup rfl (pgs_cons (pg_name (i := 2) nd rfl (Or.inl rfl)) (pgs_cons (pg_name (i := 3) nd rfl (Or.inl rfl)) pgs_nil))) (fun _ _ _ _ _ => pts_nil) (fun _ _ _ _ _ => pv 2))
      (pss_cons (ps_if (PW.pt (pw_or (pt_not (pt_truth (pv 4) (by intro _; rfl))) (pw_or1 (pt_val (pe_call GF hr rfl gF kF bF .nil pass0 (pa_cons (pv 4) (pa_cons (pe_glob (v := .int 4) rfl g1 ⟨_, rfl⟩) pa_nil))))))) (pss_one (ps_ret pe_str)) pss_nil)
      (pss_cons (ps_for PassesOwn.never rfl (pi_list (pv 0)) (pg_tup rfl (pgs_cons (pg_name (i := 2) nd rfl (Or.inl rfl)) (pgs_cons (pg_name (i := 3) nd rfl (Or.inl rfl)) pgs_nil)))
        (pss_one (ps_if (pt_val (pe_call GF hr rfl gF kF bF .nil pass0 (pa_cons (pe_lc (own := [("attribute", 5), ("way", 6)]) (g := gTup K 2 (gCons (gName 5) (gCons (gName 6) gNil))) (tt := tYes) rfl nd (pi_tup (pv 3)) (blkOk_by (own := [("attribute", 5), ("way", 6)]) (N := ["dimensions", "measures", "name", "attributes", "names", "attribute", "way"]) (sc := defScope s_first_fault) (by decide +kernel))
          (fun _ _ _ _ _ => pg_tup rfl (pgs_cons (pg_name (i := 5) nd rfl (Or.inl rfl)) (pgs_cons (pg_name (i := 6) nd rfl (Or.inl rfl)) pgs_nil))) (fun _ _ _ _ _ => pts_nil) (fun _ _ _ _ _ => pv 5)) (pa_cons (pe_glob (v := .int 5) rfl g2 ⟨_, rfl⟩) pa_nil)))) (pss_one (ps_ret pe_str)) pss_nil)))
      (pss_cons (ps_if (pt_val (pe_call GF hr rfl gF kF bF .nil pass0 (pa_cons (pv 1) (pa_cons (pe_glob (v := .int 4) rfl g3 ⟨_, rfl⟩) pa_nil)))) (pss_one (ps_ret pe_str)) pss_nil)
      (pss_one (ps_ret pe_non)))))), ?_⟩
    refine ⟨_, rfl, l, rfl, ⟨_, hl⟩, fun D hD => lc_build (walk_list (K := K) (a := l)) hD (fun i ys R => Same H R ∧ ys = (ds.take i).map fun d => V.str d.1) ⟨Same.refl H, rfl⟩ (fun _ _ _ _ p => Same.seq (p.1.trans cd_sub) hl) ?_ ?_⟩
    · rintro i ys x H2 H2' hi e ly ⟨sm, rfl⟩ ⟨rfl, hy⟩
      obtain ⟨d, hd, p, q, rfl, h1, h2⟩ := paired_at hp hy
      have sz1 := sz.dl
      have hlen := hp.length
      refine ⟨p, _, rfl, Same.seqT (sm.trans cd_sub) h1, rfl, _, _, rfl, _, _, rfl, rfl, rfl, yes ?_⟩
      refine ⟨_, rfl, LcNx.add e ly (by omega) ⟨sm, take_snoc hd⟩⟩
    · rintro ys H2 e ly ⟨sm, rfl⟩
      have hlen := hp.length
      have eN : (ds.take xs.length).map (fun d => V.str d.1) = (ds.map (·.1)).map V.str := by
        rw [hlen, List.take_length, List.map_map]
        rfl
      rw [eN] at e
      have s2 : Same H H2 := sm.trans cd_sub
      have l1 := sz.dl
      have hnm : ∀ z ∈ ds.map (·.1), z.length ≤ 4000 := fun z hz => by
        obtain ⟨d, hd, rfl⟩ := List.mem_map.mp hz
        exact (sz.dn d hd).1
      refine ⟨_, rfl, _, .inl ⟨_, SqL.of e, rfl⟩, ?_⟩
      by_cases e0 : ds = []
      · subst e0
        exact iteT (iteT (k H2 s2))
      · have ne : (!((ds.map (·.1)).map V.str).isEmpty) = true := by
          cases ds with
          | nil => exact absurd rfl e0
          | cons d r => rfl
        rw [ne]
        refine iteF ⟨_, rfl, D, ds.map (·.1), 4, rfl, .inl (SqL.of e), by rw [List.length_map]; exact l1, hnm, fun H3 s3 => ⟨_, rfl, ?_⟩⟩
        have ie : ds.isEmpty = false := by
          cases ds with
          | nil => exact absurd rfl e0
          | cons d r => rfl
        have s03 : Same H H3 := s2.trans s3
        by_cases c1 : fltB (ds.map (·.1)) 4 = true
        · rw [c1]
          have ev : ffV ds ms = .str "dimensions" := by unfold ffV; rw [ie, c1]; rfl
          rw [ev] at k
          exact iteT (k H3 s03)
        · have c1 : fltB (ds.map (·.1)) 4 = false := by simpa using c1
          rw [c1]
          refine iteF ?_
          refine ⟨_, rfl, l, rfl, ⟨_, s03.seq hl⟩, for_list (K := K) (a := l) (xs := xs) (fun i σ H4 => ∃ u v, σ = [some (.ref l), some (.ref m), u, v, some (.ref D), none, none] ∧ Same H H4 ∧ (ds.take i).any (fun d => fltB (d.2.map (·.1)) 5) = false) ⟨_, _, rfl, s03, rfl⟩ (fun i σ H4 _ ⟨_, _, _, s4, _⟩ => s4.seq hl) ?_ ?_⟩
          · rintro i x σ H4 hi ⟨u, v, rfl, s4, na⟩
            obtain ⟨d, hd, p, q, rfl, h1, ys, h2, h3⟩ := paired_at hp hi
            have hdm := List.mem_of_getElem? hd
            obtain ⟨_, la, lz⟩ := sz.dn d hdm
            have hyl := h3.length
            refine ⟨p, _, rfl, Same.seqT s4 h1, rfl, _, _, rfl, _, _, rfl, rfl, ?_⟩
            refine ⟨_, rfl, q, rfl, ⟨_, Same.seqT s4 h2⟩, fun B hB => lc_build (walk_tup (K := K) (a := q)) hB (fun i ys R => Same H4 R ∧ ys = (d.2.take i).map fun d => V.str d.1) ⟨Same.refl H4, rfl⟩ (fun _ _ _ _ p => Same.seqT (s4.trans (p.1.trans cd_sub)) h2) ?_ ?_⟩
            · rintro j zs x H5 H5' hj e5 lz5 ⟨s5, rfl⟩ ⟨rfl, hy⟩
              obtain ⟨a, ha, r, rfl, h4⟩ := paired_at h3 hy
              refine ⟨r, _, rfl, Same.seqT (s4.trans (s5.trans cd_sub)) h4, rfl, _, _, rfl, _, _, rfl, rfl, rfl, yes ?_⟩
              refine ⟨_, rfl, LcNx.add e5 lz5 (by omega) ⟨s5, take_snoc ha⟩⟩
            · rintro zs H5 e5 lz5 ⟨s5, rfl⟩
              have eA : (d.2.take ys.length).map (fun d => V.str d.1) = (d.2.map (·.1)).map V.str := by
                rw [hyl, List.take_length, List.map_map]
                rfl
              rw [eA] at e5
              refine ⟨B, d.2.map (·.1), 5, rfl, .inl (SqL.of e5), by rw [List.length_map]; exact la, fun z hz => ?_, fun H6 s6 => ⟨_, rfl, ?_⟩⟩
              · obtain ⟨a, ha, rfl⟩ := List.mem_map.mp hz
                exact lz a ha
              · have s06 : Same H H6 := (s4.trans (s5.trans cd_sub)).trans s6
                by_cases c2 : fltB (d.2.map (·.1)) 5 = true
                · rw [c2]
                  have ea : ds.any (fun d => fltB (d.2.map (·.1)) 5) = true := List.any_eq_true.mpr ⟨d, hdm, c2⟩
                  have ev : ffV ds ms = .str "attributes" := by unfold ffV; rw [ie, c1, ea]; rfl
                  rw [ev] at k
                  exact iteT (k H6 s06)
                · have c2 : fltB (d.2.map (·.1)) 5 = false := by simpa using c2
                  rw [c2]
                  refine iteF ⟨_, _, rfl, s06, ?_⟩
                  obtain ⟨g1, g2⟩ := List.getElem?_eq_some_iff.mp hd
                  rw [List.take_succ_eq_append_getElem g1, List.any_append, na, g2]
                  simp [c2]
          · rintro σ H4 ⟨u, v, rfl, s4, na⟩
            rw [hlen, List.take_length] at na
            refine ⟨_, rfl, m, ms, 4, rfl, Same.txs s4 hm, sz.ml, sz.mn, fun H5 s5 => ⟨_, rfl, ?_⟩⟩
            have s05 : Same H H5 := s4.trans s5
            by_cases c3 : fltB ms 4 = true
            · rw [c3]
              have ev : ffV ds ms = .str "measures" := by unfold ffV; rw [ie, c1, na, c3]; rfl
              rw [ev] at k
              exact iteT (k H5 s05)
            · have c3 : fltB ms 4 = false := by simpa using c3
              rw [c3]
              have ev : ffV ds ms = .non := by unfold ffV; rw [ie, c1, na, c3]; rfl
              rw [ev] at k
              exact iteF (k H5 s05)
end
end Kd

namespace Kd
open PySem PySem.Spec PyProof.Rows L2
section
variable {P : Program} {w : World} {K : PySem.W.Frag} {mg : Str → Option Value} {base : Heap} {f : Addr} {fd : FuncData}
/-! ### the plan as an object -/
def plF (a b : Addr) : List (Str × V) := [("dimension_list", .ref a), ("measure_list", .ref b)]
theorem pl_ne : ¬ (("dimension_list" : Str) = "measure_list") := by decide +kernel
theorem pl_put (a b : Addr) : putF "measure_list" (.ref b) (putF "dimension_list" (.ref a) []) = plF a b := by
  show (if ("dimension_list" : Str) = "measure_list" then [(("dimension_list" : Str), V.ref b)] else (("dimension_list" : Str), V.ref a) :: putF "measure_list" (.ref b) []) = plF a b
  rw [if_neg pl_ne]
  rfl
theorem pl_dim (a b : Addr) : (plF a b).lookup ("dimension_list" : Str) = some (.ref a) := by
  unfold plF
  rw [List.lookup_cons]
  rw [show (("dimension_list" : Str) == "dimension_list") = true by decide +kernel]
theorem pl_mea (a b : Addr) : (plF a b).lookup ("measure_list" : Str) = some (.ref b) := by
  unfold plF
  rw [List.lookup_cons, show (("measure_list" : Str) == "dimension_list") = false by decide +kernel, List.lookup_cons, show (("measure_list" : Str) == "measure_list") = true by decide +kernel]
theorem pl_no0 {a b : Addr} {m : Str} (h1 : (m == ("dimension_list" : Str)) = false) (h2 : (m == ("measure_list" : Str)) = false) : (plF a b).lookup m = none := by
  unfold plF
  rw [List.lookup_cons, h1, List.lookup_cons, h2]
  rfl
/-- a Plan of ds and ms stands at x -/
structure PlanAt (K : PySem.W.Frag) (C : Addr) (H : Hp) (x : Addr) (ds : List (Str × List (Str × Str))) (ms : List Str) : Prop where
  ex : ∃ dx a b xs, H x = some (.ins C dx (plF a b)) ∧ H a = some (.lst xs) ∧ Paired (DimAt K H) xs ds ∧ H b = some (.lst (ms.map V.str))
theorem PlanAt.same {C x : Addr} {H H' : Hp} {ds : List (Str × List (Str × Str))} {ms : List Str} (e : Same H H') (h : PlanAt K C H x ds ms) : PlanAt K C H' x ds ms := by
  obtain ⟨dx, a, b, xs, h1, h2, h3, h4⟩ := h.ex
  exact ⟨dx, a, b, xs, e _ _ h1, e _ _ h2, PySem.Paired.mono (fun _ _ => DimAt.same e) h3, e _ _ h4⟩
/-! data do not lean on an instance -/
theorem seqL_cd {x C dx a : Addr} {H : Hp} {fs : List (Str × V)} {xs : List V} (hx : H x = some (.ins C dx fs)) (h : SqL K H a xs) : SqL K (cd x H) a xs := by
  rcases h with (q | ⟨o, q⟩) | q
  · exact .inl (.inl (cd_of q (ne_of q hx (fun z => nomatch z))))
  · exact .inl (.inr ⟨o, cd_of q (ne_of q hx (fun z => nomatch z))⟩)
  · exact .inr q
theorem seqT_cd {x C dx a : Addr} {H : Hp} {fs : List (Str × V)} {xs : List V} (hx : H x = some (.ins C dx fs)) (h : SqT K H a xs) : SqT K (cd x H) a xs := by
  rcases h with (q | ⟨o, q⟩) | q
  · exact .inl (.inl (cd_of q (ne_of q hx (fun z => nomatch z))))
  · exact .inl (.inr ⟨o, cd_of q (ne_of q hx (fun z => nomatch z))⟩)
  · exact .inr q
theorem txs_cd {x C dx a : Addr} {H : Hp} {fs : List (Str × V)} {xs : List Str} (hx : H x = some (.ins C dx fs)) (h : Txs K H a xs) : Txs K (cd x H) a xs := h.elim (fun q => .inl (seqL_cd hx q)) fun q => .inr (seqT_cd hx q)
theorem dim_cd {x C dx : Addr} {H : Hp} {fs : List (Str × V)} {y : V} {d : Str × List (Str × Str)} (hx : H x = some (.ins C dx fs)) : DimAt K H y d → DimAt K (cd x H) y d :=
  fun ⟨p, q, h1, h2, zs, h3, h4⟩ => ⟨p, q, h1, seqT_cd hx h2, zs, seqT_cd hx h3, PySem.Paired.mono (fun _ _ ⟨r, e1, e2⟩ => ⟨r, e1, seqT_cd hx e2⟩) h4⟩
structure PlTxt (K : PySem.W.Frag) (C : Addr) : Prop where
  cl : Cls K C
  nD : NoAttr K C "dimension_list"
  nM : NoAttr K C "measure_list"
def rTupOf (K : PySem.W.Frag) : List V → Hp → VK → Prop := fun xs H Q => ∃ p ys, xs = [.ref p] ∧ ((SqL K H p ys ∧ ∀ l, H l = none → Q (.ref l) (upd H l (.tup ys))) ∨ (SqT K H p ys ∧ Q (.ref p) H))
def spInit (K : PySem.W.Frag) (C : Addr) : Sp := fun vs H Q _ => ∃ (x dx l m : Addr) (ds : List (Str × List (Str × Str))) (ms : List Str), vs = [.ref x, .ref l, .ref m] ∧ H x = some (.ins C dx []) ∧ DimsAt K H l ds ∧ Txs K H m ms ∧ Szd ds ms ∧ ffV ds ms = .non ∧
  ∀ (H' : Hp) (a b : Addr) (xs : List V), H a = none → H b = none → H' x = some (.ins C dx (plF a b)) → H' a = some (.lst xs) → Paired (DimAt K H') xs ds → H' b = some (.lst (ms.map V.str)) → Same (cd x H) (cd x H') → Q .non H'
theorem sc_init : FnScope ["self", "dimensions", "measures", "fault", "name", "attributes"] ["self", "dimensions", "measures"] (defScope s_Plan_init) := ⟨rfl, rfl, rfl, by decide +kernel, rfl, by decide +kernel, by decide +kernel⟩
theorem ok_init {fF C : Addr} {fdF : FuncData} {dvs : List V} (F : FunD K "__init__" "Plan.__init__" (defArgs s_Plan_init) (defBody s_Plan_init) (defScope s_Plan_init) dvs [] f fd) (T : PlTxt K C) (GF : FnOk P w K mg base CX0 4 fF fdF ["dimensions", "measures"] (spFirst K)) (kF : PySem.W.keepIn K (.ref fF) = true) (bF : Binds K fdF ["dimensions", "measures"] []) (gF : mg "first_fault" = some (.ref fF))
    (gt : mg "tuple" = none) (gl : mg "list" = none) : FnOk P w K mg base CX0 5 f fd ["self", "dimensions", "measures"] (spInit K C) := by
  refine F.ok sc_init (fun vs H Q E h => ?_) (fun cdv A outer s H vs Q E hr h => ?_)
  · obtain ⟨x, dx, l, m, ds, ms, rfl, _⟩ := h
    rfl
  · obtain ⟨x, dx, l, m, ds, ms, rfl, hx, hl, hm, sz, ev, k⟩ := h
    have nd := sc_init.nd
    refine ⟨_, PSs.nox (pss_cons (ps_set (i := 3) nd rfl (Or.inl rfl) (pe_call GF hr rfl gF kF bF .nil pass0 (pa_cons (pv 1) (pa_cons (pv 2) pa_nil))))
      (pss_cons (ps_if (pt_cmp (pc_notN (pv 3))) (pss_one ps_never) pss_nil)
      (pss_cons (ps_fld (pv 0) (pe_lc (own := [("name", 4), ("attributes", 5)]) (g := gTup K 2 (gCons (gName 4) (gCons (gName 5) gNil))) (tt := tYes) (te := tTup (tCons (tVar 4) (tCons (tCB (rTupOf K) (tCons (tVar 5) tNil)) tNil))) rfl nd (pi_list (pv 1)) (blkOk_by (own := [("name", 4), ("attributes", 5)]) (N := ["self", "dimensions", "measures", "fault", "name", "attributes"]) (sc := defScope s_Plan_init) (by decide +kernel))
        (fun _ _ _ _ _ => pg_tup rfl (pgs_cons (pg_name (i := 4) nd rfl (Or.inl rfl)) (pgs_cons (pg_name (i := 5) nd rfl (Or.inl rfl)) pgs_nil))) (fun _ _ _ _ _ => pts_nil) (fun _ _ _ _ _ => pe_tup (pa_cons (pv 4) (pa_cons (pe_callTy call_tuple_of (by rfl) gt (by decide +kernel) (pa_cons (pv 5) pa_nil)) pa_nil)))) rfl)
      (pss_one (ps_fld (pv 0) (pe_callTy call_list_of (by rfl) gl (by decide +kernel) (pa_cons (pv 2) pa_nil)) rfl))))), ?_⟩
    refine ⟨_, rfl, _, rfl, l, m, ds, ms, rfl, hl, hm, sz, fun H1 s1 => ?_⟩
    rw [ev]
    refine ⟨_, rfl, _, rfl, ?_⟩
    refine iteF ?_
    obtain ⟨xs, hl1, hp⟩ := DimsAt.same s1 hl
    have hlen := hp.length
    have l1 := sz.dl
    refine ⟨_, rfl, l, rfl, ⟨_, hl1⟩, fun D hD => lc_build (walk_list (K := K) (a := l)) hD (fun i ys R => Same H1 R ∧ Paired (DimAt K R) ys (ds.take i)) ⟨Same.refl H1, .nil⟩ (fun _ _ _ _ p => Same.seq (p.1.trans cd_sub) hl1) ?_ ?_⟩
    · rintro i ys y H2 H2' hi e ly ⟨sm, py⟩ ⟨rfl, hy⟩
      obtain ⟨d, hd, p, q, rfl, h1, h2⟩ := paired_at hp hy
      refine ⟨p, _, rfl, Same.seqT (sm.trans cd_sub) h1, rfl, _, _, rfl, _, _, rfl, rfl, rfl, yes ?_⟩
      obtain ⟨zs, h3, h4⟩ := id h2
      refine ⟨_, rfl, _, rfl, q, zs, rfl, .inr ⟨Same.seqT (sm.trans cd_sub) h3, by show 2 ≤ sizeLine; decide, fun t ht => ?_⟩⟩
      have nDt : D ≠ t := ne_of_none e ht
      have s3 : Same (cd D H2') (cd D (upd H2' t (.tup [.str d.1, .ref q]))) := cd_same (same_new ht)
      refine LcNx.add (by rw [upd_ne nDt]; exact e) ly (by omega) ⟨sm.trans s3, ?_⟩
      obtain ⟨g1, g2⟩ := List.getElem?_eq_some_iff.mp hd
      rw [List.take_succ_eq_append_getElem g1, g2]
      exact PySem.Paired.snoc (PySem.Paired.mono (fun _ _ => DimAt.same s3) py) ⟨t, q, rfl, SqT.of (cd_of upd_same nDt.symm), AttsAt.same (sm.trans s3) h2⟩
    · rintro ys H2 e ly ⟨sm, py⟩
      rw [hlen, List.take_length] at py
      have s2 : Same H1 H2 := sm.trans cd_sub
      have hx2 : H2 x = some (.ins C dx []) := s2 _ _ (s1 _ _ hx)
      have nDx : D ≠ x := (ne_of_none (s1 _ _ hx) hD).symm
      refine ⟨_, rfl, x, C, dx, _, rfl, hx2, T.cl, T.nD, (by show 0 < 1000; decide), ?_⟩
      have s3 : Same (cd x H2) (upd H2 x (.ins C dx (putF "dimension_list" (.ref D) []))) := fun c o q => by rw [upd_ne (ct_ne q).1]; exact cd_sub _ _ q
      have hm3 : Txs K (upd H2 x (.ins C dx (putF "dimension_list" (.ref D) []))) m ms := Same.txs s3 (txs_cd hx2 (Same.txs (s1.trans s2) hm))
      refine ⟨_, rfl, m, ms.map V.str, rfl, hm3, fun b hb => ?_⟩
      have nxb : x ≠ b := ne_of_none upd_same hb
      have hDb : D ≠ b := fun z => by
        rw [← z, upd_ne nDx] at hb
        rw [e] at hb
        cases hb
      refine ⟨_, rfl, x, C, dx, _, rfl, (by rw [upd_ne nxb]; exact upd_same), T.cl, T.nM, (by show 1 < 1000; decide), ?_⟩
      have e1 : putF "measure_list" (V.ref b) (putF "dimension_list" (V.ref D) []) = plF D b := pl_put D b
      have s4 : Same (cd x H2) (upd (upd (upd H2 x (.ins C dx (putF "dimension_list" (.ref D) []))) b (.lst (ms.map V.str))) x (.ins C dx (putF "measure_list" (V.ref b) (putF "dimension_list" (V.ref D) [])))) := fun c o q => by
        have nc := (ct_ne q).1
        have qc := cd_sub _ _ q
        have ncb : c ≠ b := ne_of_none (show upd H2 x (.ins C dx (putF "dimension_list" (.ref D) [])) c = some o by rw [upd_ne nc]; exact qc) hb
        rw [upd_ne nc, upd_ne ncb, upd_ne nc]
        exact qc
      have py2 : Paired (DimAt K (cd x H2)) ys ds := PySem.Paired.mono (fun y d q => dim_cd hx2 (DimAt.same cd_sub q)) py
      refine k _ D b ys (s1.free hD) ?_ (Eq.trans upd_same (congrArg (fun z => some (HO.ins C dx z)) e1)) (s4 _ _ (cd_of e nDx)) (PySem.Paired.mono (fun _ _ => DimAt.same s4) py2) ?_ ?_
      · have hb2 : H2 b = none := by
          rw [upd_ne nxb.symm] at hb
          exact hb
        exact (s1.trans s2).free hb2
      · rw [upd_ne nxb.symm, upd_same]
      · have s5 : Same (cd x H) (cd x H2) := cd_same (s1.trans s2)
        have s6 := cd_same (D := x) s4
        exact s5.trans (fun c o q => s6 c o (cd_of q (ct_ne q).1))
end
end Kd
namespace Kd
open PySem PySem.Spec PyProof.Rows L2
section
variable {P : Program} {w : World} {K : PySem.W.Frag} {mg : Str → Option Value} {base : Heap} {f : Addr} {fd : FuncData}
def spDims (K : PySem.W.Frag) (C : Addr) : Sp := fun vs H Q _ => ∃ (x : Addr) (ds : List (Str × List (Str × Str))) (ms : List Str), vs = [.ref x] ∧ PlanAt K C H x ds ms ∧ ∀ l xs, H l = none → Paired (DimAt K H) xs ds → Q (.ref l) (upd H l (.lst xs))
def spMeas (K : PySem.W.Frag) (C : Addr) : Sp := fun vs H Q _ => ∃ (x : Addr) (ds : List (Str × List (Str × Str))) (ms : List Str), vs = [.ref x] ∧ PlanAt K C H x ds ms ∧ ∀ l, H l = none → Q (.ref l) (upd H l (.lst (ms.map V.str)))
theorem sc_dims : FnScope ["self"] ["self"] (defScope s_Plan_dimensions) := ⟨rfl, rfl, rfl, by decide +kernel, rfl, by decide +kernel, by decide +kernel⟩
theorem ok_dims {C : Addr} (F : FnP K "dimensions" "Plan.dimensions" s_Plan_dimensions f fd) (T : PlTxt K C) (gl : mg "list" = none) : FnOk P w K mg base CX0 1 f fd ["self"] (spDims K C) := by
  refine F.ok sc_dims (fun vs H Q E h => ?_) (fun cdv A outer s H vs Q E hr h => ?_)
  · obtain ⟨x, ds, ms, rfl, _⟩ := h
    rfl
  · obtain ⟨x, ds, ms, rfl, ⟨dx, a, b, xs, h1, h2, h3, h4⟩, k⟩ := h
    refine ⟨_, PSs.nox (pss_one (ps_ret (pe_callTy call_list_of (by rfl) gl (by decide +kernel) (pa_cons (pe_fld (pv 0) rfl) pa_nil)))), ?_⟩
    exact ⟨_, rfl, x, C, dx, _, _, rfl, h1, T.cl, T.nD, pl_dim a b, a, xs, rfl, .inl (SqL.of h2), fun l hl => k l xs hl h3⟩
theorem sc_meas : FnScope ["self"] ["self"] (defScope s_Plan_measures) := ⟨rfl, rfl, rfl, by decide +kernel, rfl, by decide +kernel, by decide +kernel⟩
theorem ok_meas {C : Addr} (F : FnP K "measures" "Plan.measures" s_Plan_measures f fd) (T : PlTxt K C) (gl : mg "list" = none) : FnOk P w K mg base CX0 1 f fd ["self"] (spMeas K C) := by
  refine F.ok sc_meas (fun vs H Q E h => ?_) (fun cdv A outer s H vs Q E hr h => ?_)
  · obtain ⟨x, ds, ms, rfl, _⟩ := h
    rfl
  · obtain ⟨x, ds, ms, rfl, ⟨dx, a, b, xs, h1, h2, h3, h4⟩, k⟩ := h
    refine ⟨_, PSs.nox (pss_one (ps_ret (pe_callTy call_list_of (by rfl) gl (by decide +kernel) (pa_cons (pe_fld (pv 0) rfl) pa_nil)))), ?_⟩
    exact ⟨_, rfl, x, C, dx, _, _, rfl, h1, T.cl, T.nM, pl_mea a b, b, _, rfl, .inl (SqL.of h4), fun l hl => k l hl⟩
end
end Kd

namespace Kd
open PySem PySem.Spec PyProof.Rows L2
/-- a tray of at most n draws stands at a, its list of great ones at g -/
structure Tray (H : Hp) (a g : Addr) (n : Nat) : Prop where
  ex : ∃ (c f m : Int) (gs : List Int), H a = some (.lst [.ref g, .int c, .int f, .int m]) ∧ H g = some (.lst (gs.map V.int)) ∧ (0 ≤ f ∧ f < 2305843009213693951) ∧ 0 ≤ m ∧ m ≤ n
section
variable {P : Program} {w : World} {K : PySem.W.Frag} {mg : Str → Option Value} {base : Heap} {f : Addr} {fd : FuncData}
def spTray (K : PySem.W.Frag) : Sp := fun vs H Q _ => ∃ (l : Addr) (ns : List Int), vs = [.ref l] ∧ SqL K H l (ns.map V.int) ∧ ns.length ≤ 63 ∧ ∀ a g H', H a = none → H g = none → Tray H' a g 0 → Same H H' → Q (.ref a) H'
theorem sc_tray : FnScope ["script", "fold", "great", "cell", "much"] ["script"] (defScope s_l_tray) := ⟨rfl, rfl, rfl, by decide +kernel, rfl, by decide +kernel, by decide +kernel⟩
theorem ints_at {xs : List Int} {i : Nat} {x : V} (h : (xs.map V.int)[i]? = some x) : ∃ z, x = .int z ∧ xs[i]? = some z := by
  rw [List.getElem?_map] at h
  cases e : xs[i]? with
  | none => rw [e] at h; cases h
  | some z => rw [e] at h; exact ⟨z, (Option.some.inj h).symm, rfl⟩
theorem ok_tray (F : FnP K "_law_tray" "_law_tray" s_l_tray f fd) (gm : mg "max" = none) : FnOk P w K mg base CX0 1 f fd ["script"] (spTray K) := by
  refine F.ok sc_tray (fun vs H Q E h => ?_) (fun cdv A outer s H vs Q E hr h => ?_)
  · obtain ⟨l, ns, rfl, _⟩ := h
    rfl
  · obtain ⟨l, ns, rfl, hS, hn, k⟩ := h
    have nd := sc_tray.nd
    refine ⟨_, PSs.nox (pss_cons (ps_set (i := 1) nd rfl (Or.inl rfl) pe_int)
      (pss_cons (ps_set (i := 2) nd rfl (Or.inl rfl) (pe_lst pa_nil))
      (pss_cons (ps_for PassesOwn.never rfl (pi_list (pv 0)) (pg_name (i := 3) nd rfl (Or.inl rfl))
        (pss_cons (ps_set (i := 1) nd rfl (Or.inl rfl) (pe_op op_mod (pe_op op_add (pe_op op_mul (pv 1) pe_int) (pv 3)) (pe_op op_sub (pe_op op_pow pe_int pe_int) pe_int)))
        (pss_cons (ps_set (i := 4) nd rfl (Or.inl rfl) (pe_callB (call_max2 rfl) (by rfl) gm (by decide +kernel) (pa_cons (pv 3) (pa_cons (pe_op op_sub pe_int (pv 3)) pa_nil))))
        (pss_one (ps_if (pt_cmpR op_ge (pv 4) (pe_op op_pow pe_int pe_int) (nomark _)) (pss_one (ps_expr (pe_bm PySem.F.plainAttrs_list PySem.F.slot_list_append PySem.F.type_list_append mt_append (pv 2) (pa_cons (pe_op op_sub (pv 4) (pe_op op_pow pe_int pe_int)) pa_nil)))) pss_nil)))))
      (pss_one (ps_ret (pe_lst (pa_cons (pv 2) (pa_cons pe_int (pa_cons (pv 1) (pa_cons pe_int pa_nil)))))))))), ?_⟩
    refine ⟨by show 0 ≤ sizeLine; decide, fun g hg => ?_⟩
    refine ⟨_, rfl, l, rfl, ⟨_, (same_new hg).seq hS⟩, for_list (K := K) (a := l) (xs := ns.map V.int) (fun i σ H2 => ∃ (fo : Int) (gs : List Int) (u v : Option V), σ = [some (.ref l), some (.int fo), some (.ref g), u, v] ∧ Same H H2 ∧ H2 g = some (.lst (gs.map V.int)) ∧ gs.length ≤ i ∧ 0 ≤ fo ∧ fo < 2305843009213693951)
      ⟨_, [], _, _, rfl, same_new hg, upd_same, Nat.le_refl _, by decide, by decide⟩ (fun i σ H2 _ ⟨_, _, _, _, _, s2, _⟩ => s2.seq hS) ?_ ?_⟩
    · rintro i x σ H2 hi ⟨fo, gs, u, v, rfl, s2, h2, l2, f0, f1⟩
      have hil : i < (ns.map V.int).length := (List.getElem?_eq_some_iff.mp hi).1
      rw [List.length_map] at hil
      obtain ⟨z, rfl, hz⟩ := ints_at hi
      refine ⟨_, rfl, _, _, rfl, rfl, .inl ⟨by omega, by omega⟩, _, rfl, _, _, rfl, rfl, _, _, rfl, rfl, ⟨by decide, by decide, by decide⟩, _, _, rfl, rfl, _, _, rfl, rfl, ?_, ?_⟩
      · show (0 : Int) < 2 ^ 61 - 1
        decide
      · have fb : 0 ≤ (fo * 1000003 + z) % (2 ^ Int.toNat 61 - 1) ∧ (fo * 1000003 + z) % (2 ^ Int.toNat 61 - 1) < 2305843009213693951 :=
          ⟨Int.emod_nonneg _ (by decide), Int.lt_of_lt_of_le (Int.emod_lt_of_pos _ (by decide)) (by decide)⟩
        refine ⟨_, rfl, _, rfl, _, _, rfl, rfl, _, _, rfl, ?_⟩
        refine ⟨_, rfl, _, _, rfl, rfl, ⟨by decide, by decide, by decide⟩, _, _, rfl, rfl, _, rfl, ?_⟩
        refine ite2 (fun _ => ?_) (fun _ => ?_)
        · refine ⟨_, rfl, .inl ⟨rfl, _, SqL.of h2⟩, _, rfl, _, _, rfl, rfl, ⟨by decide, by decide, by decide⟩, _, _, rfl, rfl, g, _, _, rfl, rfl, h2, small1000 (by rw [List.length_map]; omega), ?_⟩
          exact ⟨_, gs ++ [_], _, _, rfl, Same.upd s2 hg, by rw [upd_same, List.map_append]; rfl, by rw [List.length_append]; show gs.length + 1 ≤ i + 1; omega, fb.1, fb.2⟩
        · exact ⟨_, gs, _, _, rfl, s2, h2, by omega, fb.1, fb.2⟩
    · rintro σ H2 ⟨fo, gs, u, v, rfl, s2, h2, l2, f0, f1⟩
      refine ⟨_, rfl, _, rfl, by show 4 ≤ sizeLine; decide, fun a ha => ?_⟩
      refine k a g _ (s2.free ha) hg ⟨0, fo, 0, gs, upd_same, by rw [upd_ne (ne_of_none h2 ha)]; exact h2, ⟨f0, f1⟩, by decide, by decide⟩ (Same.to_new s2 ha)
def spDraw : Sp := fun vs H Q _ => ∃ (a g : Addr) (n : Nat) (many : Int), vs = [.ref a, .int many] ∧ Tray H a g n ∧ n ≤ 1000000 ∧ 0 < many ∧ many < 2 ^ 60 ∧ ∀ (r : Int) H', 0 ≤ r → r < many → Tray H' a g (n + 1) → Same (ct a g H) (ct a g H') → Q (.int r) H'
theorem sc_draw : FnScope ["tray", "many", "found", "mixed"] ["tray", "many"] (defScope s_l_draw) := ⟨rfl, rfl, rfl, by decide +kernel, rfl, by decide +kernel, by decide +kernel⟩
theorem DpAll.ints {K : PySem.W.Frag} {H : Hp} : ∀ (xs : List Int), DpAll K H (xs.map V.int) (xs.map PyData.int)
  | [] => .nil
  | x :: xs => .cons (.int x) (DpAll.ints xs)
theorem lay_ints : ∀ xs : List Int, PyData.canLayAll0 (xs.map PyData.int) = true ∧ PyData.depthAll (xs.map PyData.int) = 0
  | [] => ⟨rfl, rfl⟩
  | x :: xs => by
    obtain ⟨h1, h2⟩ := lay_ints xs
    constructor
    · simp only [List.map_cons, PyData.canLayAll0, PyData.canLay0, h1, Bool.and_self]
    · simp only [List.map_cons, PyData.depthAll, PyData.depth, h2, Nat.max_self]
theorem shaped_ints (xs : List Int) : SeqAt.shaped (.list (xs.map PyData.int)) = true := by
  obtain ⟨h1, h2⟩ := lay_ints xs
  simp [SeqAt.shaped, PyData.canLay0, PyData.depth, h1, h2]
theorem mix_lt {x : Int} : (x % (2 ^ Int.toNat 61 - 1)).natAbs < 2 ^ 64 := by
  have h0 : 0 ≤ x % (2 ^ Int.toNat 61 - 1) := Int.emod_nonneg _ (by decide)
  have h1 : x % (2 ^ Int.toNat 61 - 1) < 2 ^ Int.toNat 61 - 1 := Int.emod_lt_of_pos _ (by decide)
  have h2 : (2 : Int) ^ Int.toNat 61 - 1 = 2305843009213693951 := by decide
  rw [h2] at *
  omega
def lenAt (g : Addr) (H : Hp) : Nat := match H g with
  | some (.lst xs) => xs.length
  | _ => 0
theorem lenAt_of {g : Addr} {H : Hp} {xs : List V} (h : H g = some (.lst xs)) : lenAt g H = xs.length := by unfold lenAt; rw [h]
theorem tray_ne {H : Hp} {a g : Addr} {c f m : Int} {gs : List Int} (h1 : H a = some (.lst [.ref g, .int c, .int f, .int m])) (h2 : H g = some (.lst (gs.map V.int))) : a ≠ g := ne_of h1 h2 (fun z => by
  have e : [V.ref g, V.int c, V.int f, V.int m] = gs.map V.int := by injection z
  cases gs with
  | nil => cases e
  | cons x r => cases e)
theorem ok_draw (F : FnP K "_law_draw" "_law_draw" s_l_draw f fd) : FnOk P w K mg base CX0 1 f fd ["tray", "many"] spDraw := by
  refine F.ok sc_draw (fun vs H Q E h => ?_) (fun cdv A outer s H vs Q E hr h => ?_)
  · obtain ⟨a, g, n, many, rfl, _⟩ := h
    rfl
  · obtain ⟨a, g, n, many, rfl, hT, hn, m0, m1, k⟩ := h
    have nd := sc_draw.nd
    refine ⟨_, PSs.nox (pss_cons (ps_while PassesOwn.never (PW.pt (pw_and (pt_cmpR op_lt (pe_ix ix_list (pv 0) pe_int (fun _ _ => rfl)) pe_int (nomark _)) (pw_and1 (pt_cmpR (op_neD hr.units) (pe_ix ix_list (pv 0) pe_int (fun _ _ => rfl)) (pe_lst pa_nil) (nomark _)))))
        (pss_one (ps_asg (pe_bm PySem.F.plainAttrs_list PySem.F.slot_list_pop PySem.F.type_list_pop mt_popAt (pe_ix ix_list (pv 0) pe_int (fun _ _ => rfl)) (pa_cons pe_int pa_nil)) (pg_sub (pv 0) pe_int set_list))))
      (pss_cons (ps_if (pt_cmpR op_ge (pe_ix ix_list (pv 0) pe_int (fun _ _ => rfl)) pe_int (nomark _))
        (pss_cons (ps_set (i := 2) nd rfl (Or.inl rfl) (pe_op op_mod (pe_ix ix_list (pv 0) pe_int (fun _ _ => rfl)) (pv 1)))
        (pss_cons (ps_asg (pe_op op_fdivW (pe_ix ix_list (pv 0) pe_int (fun _ _ => rfl)) (pv 1)) (pg_sub (pv 0) pe_int set_list))
        (pss_one (ps_ret (pv 2))))) pss_nil)
      (pss_cons (ps_asg (pe_op op_add (pe_ix ix_list (pv 0) pe_int (fun _ _ => rfl)) pe_int) (pg_sub (pv 0) pe_int set_list))
      (pss_cons (ps_set (i := 3) nd rfl (Or.inl rfl) (pe_op op_mod (pe_op op_add (pe_op op_mul (pe_op op_add (pe_ix ix_list (pv 0) pe_int (fun _ _ => rfl)) pe_int) (pe_op op_pow (pe_op op_add (pe_ix ix_list (pv 0) pe_int (fun _ _ => rfl)) pe_int) pe_int)) (pe_op op_mul pe_int (pe_ix ix_list (pv 0) pe_int (fun _ _ => rfl)))) (pe_op op_sub (pe_op op_pow pe_int pe_int) pe_int)))
      (pss_one (ps_ret (pe_op op_mod (pe_op op_fdiv (pe_op op_mod (pe_op op_pow (pv 3) pe_int) (pe_op op_add (pe_op op_pow pe_int pe_int) pe_int)) pe_int) (pv 1)))))))), ?_⟩
    refine while_by (fun σ H2 => σ = [some (.ref a), some (.int many), none, none] ∧ Tray H2 a g n ∧ Same (ct a g H) (ct a g H2)) (fun _ H2 => lenAt g H2) ⟨rfl, hT, Same.refl _⟩ ?_ ?_
    · rintro σ H2 ⟨rfl, ⟨c, fo, m, gs, h1, h2, hf, hm⟩, s2⟩
      have nag := tray_ne h1 h2
      have eT : ∀ H3, H3 a = some (.lst [.ref g, .int c, .int fo, .int m]) → H3 g = some (.lst (gs.map V.int)) → Same (ct a g H) (ct a g H3) → Tray H3 a g n := fun H3 q1 q2 _ => ⟨c, fo, m, gs, q1, q2, hf, hm⟩
      refine ⟨_, rfl, a, _, _, _, rfl, rfl, SqL.of h1, atI_nat (j := 1) rfl, _, _, rfl, rfl, _, rfl, ?_⟩
      refine ite2 (fun c1 => ?_) (fun c1 => ?_)
      · refine ⟨_, rfl, a, _, _, _, rfl, rfl, SqL.of h1, atI_nat (j := 0) rfl, by show 0 ≤ sizeLine; decide, fun p hp => ?_⟩
        have npa : a ≠ p := ne_of_none h1 hp
        have npg : g ≠ p := ne_of_none h2 hp
        have h1p : upd H2 p (.lst []) a = some (.lst [.ref g, .int c, .int fo, .int m]) := by rw [upd_ne npa]; exact h1
        have h2p : upd H2 p (.lst []) g = some (.lst (gs.map V.int)) := by rw [upd_ne npg]; exact h2
        have s3 : Same (ct a g H) (ct a g (upd H2 p (.lst []))) := s2.trans (ct_same (same_new hp))
        refine ⟨.list (gs.map PyData.int), .list [], .lst (SqL.of h2p) (DpAll.ints gs), .lst (SqL.of upd_same) .nil, shaped_ints gs, by decide, _, rfl, ?_⟩
        cases gs with
        | nil =>
          refine iteF ?_
          refine ⟨_, rfl, a, _, _, _, rfl, rfl, SqL.of h1p, atI_nat (j := 1) rfl, _, _, rfl, rfl, _, rfl, ?_⟩
          refine ite2 (fun c2 => ?_) (fun c2 => ?_)
          · refine ⟨_, rfl, a, _, _, _, rfl, rfl, SqL.of h1p, atI_nat (j := 1) rfl, _, rfl, _, _, rfl, rfl, m0, ?_⟩
            refine ⟨_, rfl, a, _, _, _, rfl, rfl, SqL.of h1p, atI_nat (j := 1) rfl, _, rfl, _, _, rfl, rfl, wide_div (b := 60) m0 (by omega) (by decide) (by decide), _, rfl, a, _, _, 1, rfl, rfl, h1p, rfl, ?_⟩
            exact ⟨_, rfl, k _ _ (Int.emod_nonneg _ (by omega)) (Int.emod_lt_of_pos _ m0) ⟨_, fo, m, _, upd_same, by rw [upd_ne nag.symm]; exact h2p, hf, hm.1, by omega⟩ (by rw [ct_upda]; exact s3)⟩
          · refine ⟨_, rfl, a, _, _, _, rfl, rfl, SqL.of h1p, atI_nat (j := 3) rfl, _, _, rfl, rfl, _, rfl, a, _, _, 3, rfl, rfl, h1p, rfl, ?_⟩
            have q0 := hf.1
            have q1 := hf.2
            have q2 := hm.1
            have q3 := hm.2
            refine ⟨_, rfl, a, _, _, _, rfl, rfl, SqL.of upd_same, atI_nat (j := 2) rfl, _, _, rfl, rfl, _, rfl, a, _, _, _, rfl, rfl, SqL.of upd_same, atI_nat (j := 3) rfl, _, _, rfl, rfl, _, _, rfl, rfl, ⟨by decide, by decide, by omega⟩, _, _, rfl, rfl, .inl ⟨by omega, by omega⟩,
              _, rfl, a, _, _, _, rfl, rfl, SqL.of upd_same, atI_nat (j := 3) rfl, _, _, rfl, rfl, .inl ⟨by decide, by decide⟩, _, _, rfl, rfl, _, _, rfl, rfl, ⟨by decide, by decide, by decide⟩, _, _, rfl, rfl, _, _, rfl, rfl, (by show (0 : Int) < 2 ^ 61 - 1; decide), ?_⟩
            refine ⟨_, rfl, _, _, rfl, rfl, ⟨by decide, by decide, mix_lt⟩, _, _, rfl, rfl, ⟨by decide, by decide, by decide⟩, _, _, rfl, rfl, _, _, rfl, rfl, (by show (0 : Int) < 10 ^ 18 + 9; decide), _, _, rfl, rfl, ⟨by decide, by decide⟩, _, rfl, _, _, rfl, rfl, m0, ?_⟩
            exact k _ _ (Int.emod_nonneg _ (by omega)) (Int.emod_lt_of_pos _ m0) ⟨c, fo, m + 1, _, upd_same, by rw [upd_ne nag.symm]; exact h2p, hf, by omega, by omega⟩ (by rw [ct_upda]; exact s3)
        | cons z zs =>
          refine iteT ?_
          refine ⟨_, rfl, a, _, _, _, rfl, rfl, SqL.of h1p, atI_nat (j := 0) rfl, .inl ⟨rfl, _, SqL.of h2p⟩, g, _, 0, 0, _, rfl, rfl, h2p, by decide, by decide, by simp [seqIndex?], rfl, ?_⟩
          refine ⟨_, rfl, a, _, _, 1, rfl, rfl, (by rw [upd_ne nag]; exact h1p), rfl, ?_⟩
          refine ⟨⟨rfl, ⟨z, fo, m, zs, upd_same, by rw [upd_ne nag.symm, upd_same]; rfl, hf, hm⟩, by rw [ct_upda, ct_updg]; exact s3⟩, ?_⟩
          show lenAt g _ < lenAt g H2
          rw [lenAt_of h2, lenAt_of (g := g) (xs := zs.map V.int) (by rw [upd_ne nag.symm, upd_same]; rfl), List.length_map, List.length_map]
          exact Nat.lt_succ_self _
      · have h1p := h1
        have h2p := h2
        have s3 := s2
        refine iteF ?_
        refine ⟨_, rfl, a, _, _, _, rfl, rfl, SqL.of h1p, atI_nat (j := 1) rfl, _, _, rfl, rfl, _, rfl, ?_⟩
        refine ite2 (fun c2 => ?_) (fun c2 => ?_)
        · refine ⟨_, rfl, a, _, _, _, rfl, rfl, SqL.of h1p, atI_nat (j := 1) rfl, _, rfl, _, _, rfl, rfl, m0, ?_⟩
          refine ⟨_, rfl, a, _, _, _, rfl, rfl, SqL.of h1p, atI_nat (j := 1) rfl, _, rfl, _, _, rfl, rfl, wide_div (b := 60) m0 (by omega) (by decide) (by decide), _, rfl, a, _, _, 1, rfl, rfl, h1p, rfl, ?_⟩
          exact ⟨_, rfl, k _ _ (Int.emod_nonneg _ (by omega)) (Int.emod_lt_of_pos _ m0) ⟨_, fo, m, _, upd_same, by rw [upd_ne nag.symm]; exact h2p, hf, hm.1, by omega⟩ (by rw [ct_upda]; exact s3)⟩
        · have a1 : ¬ c < 2 := fun q => c1 (decide_eq_true q)
          have a2 : ¬ (2 : Int) ≤ c := fun q => c2 (decide_eq_true q)
          exfalso
          omega
    · rintro σ H2 Q1 Q2 hQ ⟨v, e0, p, xs, i, x, e1, e2, hs, ha, i2, j2, e3, e4, b, e5, q⟩
      refine ⟨v, e0, p, xs, i, x, e1, e2, hs, ha, i2, j2, e3, e4, b, e5, ?_⟩
      cases b with
      | false => exact iteF (hQ _ _ (by simpa using q))
      | true =>
        have q := (if_pos rfl : (if true = true then _ else _) = _).mp q
        obtain ⟨v, e0, p, xs, i, x, e1, e2, hs, ha, hl, hp⟩ := q
        refine iteT ⟨v, e0, p, xs, i, x, e1, e2, hs, ha, hl, fun p np => ?_⟩
        obtain ⟨d, e, d1, d2, d3, d4, b, e6, q⟩ := hp p np
        exact ⟨d, e, d1, d2, d3, d4, b, e6, hQ _ _ q⟩
end
end Kd

namespace Kd
open PySem PySem.Spec PyProof.Rows L2
/-! ### text * number -/
theorem op_rep_str {X : Cx} : OpR X (binaryOp .Mult) (fun x y H Q => ∃ z n, x = .str z ∧ y = .int n ∧ MulOk z n ∧ Q (.str (Txt.mul z n)) H) := by
  intro pins s σ H x y v u Q I rx ry h
  obtain ⟨z, n, rfl, rfl, hz, q⟩ := h
  obtain ⟨t, rfl⟩ := rx
  obtain ⟨t2, rfl⟩ := ry
  exact SB.mul hz fun t3 k => ⟨.str (Txt.mul z n), H, I.tok _, ⟨_, rfl⟩, q⟩
/-! ### trays -/
section
variable {H H' H1 H2 H3 : Hp} {a g p D b : Addr} {n m : Nat} {o : HO}
theorem Tray.same (s : Same H H') (t : Tray H a g n) : Tray H' a g n := by
  obtain ⟨c, f, k, gs, h1, h2, h3⟩ := t.ex
  exact ⟨c, f, k, gs, s _ _ h1, s _ _ h2, h3⟩
theorem Tray.new (t : Tray H a g n) (h : H p = Option.none) : Tray (upd H p o) a g n := t.same (same_new h)
theorem Tray.mono (t : Tray H a g n) (h : n ≤ m) : Tray H a g m := by
  obtain ⟨c, f, k, gs, h1, h2, h3, h4, h5⟩ := t.ex
  exact ⟨c, f, k, gs, h1, h2, h3, h4, by omega⟩
theorem Tray.na (t : Tray H a g n) (h : H p = Option.none) : p ≠ a ∧ p ≠ g := by
  obtain ⟨c, f, k, gs, h1, h2, _⟩ := t.ex
  exact ⟨(ne_of_none h1 h).symm, (ne_of_none h2 h).symm⟩
theorem Tray.cd (t : Tray H a g n) (ha : D ≠ a) (hg : D ≠ g) : Tray (cd D H) a g n := by
  obtain ⟨c, f, k, gs, h1, h2, h3⟩ := t.ex
  exact ⟨c, f, k, gs, cd_of h1 ha.symm, cd_of h2 hg.symm, h3⟩
theorem ctnew (h : H p = Option.none) : Same (ct a g H) (ct a g (upd H p o)) := ct_same (same_new h)
theorem ctcd (hD : H1 D = Option.none) (s1 : Same (ct a g H1) (ct a g (cd D H2))) (s2 : Same (ct a g H2) (ct a g H3)) : Same (ct a g H1) (ct a g (cd D H3)) := fun b o e => by
  obtain ⟨na, ng⟩ := ct_ne e
  have nD : b ≠ D := ne_of_none (ct_sub _ _ e) hD
  have e2 := ct_sub _ _ (s1 b o e)
  exact ct_of (cd_of (ct_sub _ _ (s2 b o (ct_of (cd_sub _ _ e2) na ng))) nD) na ng
/-- an object that is no part of the tray stays over a draw -/
theorem ctkeep (s : Same (ct a g H) (ct a g H')) (e : H b = some o) (ha : b ≠ a) (hg : b ≠ g) : H' b = some o := ct_sub _ _ (s b o (ct_of e ha hg))
end
/-! ### names -/
theorem nm_iff {z : Str} : nmB z = true ↔ IsNm z := by
  unfold nmB
  rw [Bool.and_eq_true, Bool.and_eq_true, decide_eq_true_iff, decide_eq_true_iff, List.all_eq_true]
  constructor
  · rintro ⟨h1, h2, h3⟩
    exact ⟨fun c hc => of_decide_eq_true (h3 c hc), h1, h2⟩
  · rintro ⟨h1, h2, h3⟩
    exact ⟨h2, h3, fun c hc => decide_eq_true (h1 c hc)⟩
/-- a name, or the empty text -/
structure Nm0 (z : Str) : Prop where
  low : Low z
  le8 : z.length ≤ 8
theorem IsNm.nm0 {z : Str} (h : IsNm z) : Nm0 z := ⟨h.low, h.le8⟩
theorem Nm0.nm {z : Str} (h : Nm0 z) (ne : z ≠ Str.empty) : IsNm z := ⟨h.low, by
  rcases Nat.eq_zero_or_pos z.length with e | e
  · refine absurd (Str.ext' (Array.eq_empty_of_size_eq_zero e)) ne
  · exact e, h.le8⟩
theorem cut8 (z : Str) : (cutS z none (some 8)).length ≤ 8 := by
  show (((z.cps.toList.drop (HT.sIx z.length 0 none)).take (HT.sIx z.length z.length (some 8) - HT.sIx z.length 0 none)).toArray).size ≤ 8
  rw [List.size_toArray, List.length_take, HT.sIx_none]
  have e : HT.sIx z.length z.length (some ((8 : Nat) : Int)) = min 8 z.length := HT.sIx_nat _ _ _
  have e2 : HT.sIx z.length z.length (some 8) = min 8 z.length := e
  rw [e2]
  omega
theorem flat_len : ∀ (parts : List Str), (∀ z ∈ parts, z.length = 1) → ((parts.map fun z => z.cps.toList).flatten).length = parts.length
  | [], _ => rfl
  | z :: r, h => by
    have ih := flat_len r fun y hy => h y (List.mem_cons_of_mem _ hy)
    have h1 := h z (List.mem_cons_self ..)
    have h2 : z.cps.toList.length = 1 := by rw [Array.length_toList]; exact h1
    rw [List.map_cons, List.flatten_cons, List.length_append, ih, h2, List.length_cons]
    omega
theorem joined {y : Str} (hy : y.cps.toList = []) (parts : List Str) (h1 : ∀ z ∈ parts, z.length = 1) (h2 : ∀ z ∈ parts, Low z) : Low (Txt.join y parts) ∧ (Txt.join y parts).length = parts.length := by
  have e := join_list_eq y hy parts
  constructor
  · intro c hc
    rw [e] at hc
    obtain ⟨l, hl, hcl⟩ := List.mem_flatten.mp hc
    obtain ⟨z, hz, rfl⟩ := List.mem_map.mp hl
    exact h2 z hz c hcl
  · have e2 : (Txt.join y parts).length = (Txt.join y parts).cps.toList.length := by rw [Array.length_toList]; rfl
    rw [e2, e]
    exact flat_len parts h1
theorem sum_ones : ∀ (parts : List Str), (∀ z ∈ parts, z.length = 1) → (parts.map (·.length)).sum = parts.length
  | [], _ => rfl
  | z :: r, h => by
    have ih := sum_ones r fun y hy => h y (List.mem_cons_of_mem _ hy)
    rw [List.map_cons, List.sum_cons, ih, h z (List.mem_cons_self ..), List.length_cons]
    omega
/-- one sign so many times -/
theorem mul_one (c : Nat) (n : Nat) (hn : 2 ≤ n) : Txt.mul ⟨#[c]⟩ (n : Int) = ⟨(List.replicate n c).toArray⟩ := by
  unfold Txt.mul
  have e : ((n : Int) == 1 || (⟨#[c]⟩ : Str).length == 0) = false := by
    have h1 : ((n : Int) == 1) = false := by simp; omega
    have h2 : ((⟨#[c]⟩ : Str).length == 0) = false := rfl
    rw [h1, h2]
    rfl
  rw [if_neg (by omega), e, if_neg Bool.false_ne_true, Int.toNat_natCast]
  have h : ∀ (k : Nat) (acc : List Nat), (List.replicate k #[c]).foldl (· ++ ·) acc.toArray = (acc ++ List.replicate k c).toArray := fun k => by
    induction k with
    | zero => intro acc; simp
    | succ k ih =>
      intro acc
      rw [List.replicate_succ, List.foldl_cons]
      have e2 : acc.toArray ++ #[c] = (acc ++ [c]).toArray := by simp
      rw [e2, ih, List.replicate_succ, List.append_assoc]
      rfl
  have h2 := h n []
  congr 1
theorem mul_nm0 {c : Nat} (hc : 97 ≤ c ∧ c ≤ 122) {n : Nat} (h1 : 2 ≤ n) (h2 : n ≤ 8) : Nm0 (Txt.mul ⟨#[c]⟩ (n : Int)) := by
  rw [mul_one c n h1]
  refine ⟨fun d hd => ?_, ?_⟩
  · have e : d = c := List.eq_of_mem_replicate hd
    rw [e]
    exact hc
  · show (List.replicate n c).toArray.size ≤ 8
    rw [List.size_toArray, List.length_replicate]
    exact h2
theorem mulOk_one (c : Nat) {n : Nat} (h : n ≤ 8) : MulOk ⟨#[c]⟩ (n : Int) := by
  refine ⟨?_, fun h1 _ => ?_, fun _ _ => ?_⟩
  · rw [Bool.or_eq_false_iff]
    exact ⟨decide_eq_false (by omega), decide_eq_false (by omega)⟩
  · show ¬ ((1 : Int) > (2 ^ 63 - 1) / (n : Int))
    have : (1 : Int) ≤ (2 ^ 63 - 1) / (n : Int) := by
      rw [Int.le_ediv_iff_mul_le (by omega)]
      omega
    omega
  · show Builtin.Str.tooLong (1 * (n : Int).toNat) = false
    rw [Int.toNat_natCast, Nat.one_mul]
    have : ∀ k, k ≤ 8 → Builtin.Str.tooLong k = false := by decide
    exact this n h
end Kd

namespace Kd
open PySem PySem.Spec PyProof.Rows L2
section
variable {P : Program} {w : World} {K : PySem.W.Frag} {mg : Str → Option Value} {base : Heap} {f : Addr} {fd : FuncData}
def spName (K : PySem.W.Frag) : Sp := fun vs H Q _ => ∃ (a g u : Addr) (n : Nat) (us : List Str), vs = [.ref a, .ref u] ∧ Tray H a g n ∧ n ≤ 900000 ∧ SqL K (ct a g H) u (us.map V.str) ∧ us.length ≤ 20 ∧ (∀ z ∈ us, IsNm z) ∧
  ∀ z H', IsNm z → z ∉ us → Tray H' a g (n + 13) → Same (ct a g H) (ct a g H') → Q (.str z) H'
abbrev nmN : List Str := ["tray", "used", "letters", "lot", "letter", "k", "name", "words", "old", "at", "one", "some"]
theorem sc_name : FnScope nmN ["tray", "used"] (defScope s_l_name) := ⟨rfl, rfl, rfl, by decide +kernel, rfl, by decide +kernel, by decide +kernel⟩
abbrev rMulS : R2 := fun x y H Q => ∃ z n, x = .str z ∧ y = .int n ∧ MulOk z n ∧ Q (.str (Txt.mul z n)) H
abbrev tDraw (i : Int) : TE := tCall spDraw [] E0 (tCons (tVar 0) (tCons (tC (.int i)) tNil))
/-! #### the last two statements -/
def tTail (K : PySem.W.Frag) : TS := tSeq (tAsg (tOp rCat (tOp rCat (tOp rCat (tLst (tCons (tVar 6) tNil)) (tLc (iStr (tVar 2)) (gName 10) tYes (tVar 10) [10])) (tLc (iStr (tVar 2)) (gName 10) tYes (tOp rMulS (tVar 10) (tC (.int 3))) [10])) (tLc (iStr (tVar 2)) (gName 10) tYes (tOp rMulS (tVar 10) (tC (.int 5))) [10])) (gName 11))
  (tRet (tOp (rIxL K) (tLc (iList K (tVar 11)) (gName 10) (tAnd (tTest (tOp rNe (tVar 10) (tC (.str Str.empty)))) (tTest (tOp (rIn K true) (tVar 10) (tVar 1)))) (tVar 10) [10]) (tC (.int 0))))
theorem cd_is {D : Addr} {H H0 : Hp} (e : cd D H = H0) : Same H0 H := by rw [← e]; exact cd_sub
def tens (F : Nat → Str) (i : Nat) : List V := ((abc.cps.toList.take i).map F).map V.str
theorem tens_add {F : Nat → Str} {i c : Nat} (h : abc.cps[i]? = some c) : tens F i ++ [.str (F c)] = tens F (i + 1) := by
  have h2 : abc.cps.toList[i]? = some c := by rw [Array.getElem?_toList]; exact h
  obtain ⟨h3, h4⟩ := List.getElem?_eq_some_iff.mp h2
  unfold tens
  rw [List.take_succ_eq_append_getElem h3, List.map_append, List.map_append, h4]
  rfl
theorem tens_all (F : Nat → Str) : tens F abc.cps.size = ((List.range' 97 26).map F).map V.str := by
  unfold tens
  rw [List.take_of_length_le (by rw [Array.length_toList]; exact Nat.le_refl _), abc_list]
/-- a comprehension over the letters that makes nothing but texts -/
theorem lc_abc {te : TE} {σ : L2.St} {H1 : Hp} {D : Addr} {Qd : Hp → Prop} (F : Nat → Str) (hD : H1 D = none) (h10 : wipe ((wipe σ [10]).set 10 none) [10] = wipe σ [10])
    (hw : ∀ v, wipe ((wipe σ [10]).set 10 v) [10] = wipe σ [10]) (hte : ∀ (c : Nat) (H2 : Hp) (Q : VK), 97 ≤ c ∧ c ≤ 122 → Q (.str (F c)) H2 → te ((wipe σ [10]).set 10 (some (.str ⟨#[c]⟩))) H2 Q)
    (hd : ∀ H2, H2 D = some (.lst (((List.range' 97 26).map F).map V.str)) → cd D H2 = H1 → Qd H2) :
    ∃ W : Nat → Nat → Hp → Prop, (∃ m, W 0 m (upd H1 D (.lst []))) ∧ ∀ i m H, W i m H →
      ((Its abc).stop i H ∧ Qd H) ∨ ((Its abc).go i H ∧ ∃ Nx : Hp → Prop, (∀ H', Nx H' → ∃ m', m' < m ∧ W (i + 1) m' H') ∧ ∀ x H', (Its abc).yld i H x H' → gName 10 x (wipe σ [10]) H' fun σ2 H2 => wipe σ2 [10] = wipe σ [10] ∧ tYes σ2 H2 fun b H3 =>
        if b = true then te σ2 H3 fun y H4 => ∃ acc, H4 D = some (.lst acc) ∧ acc.length < sizeLine ∧ Nx (upd H4 D (.lst (acc ++ [y]))) else Nx H3) := by
  refine lc_build walk_str hD (fun i ys R => R = H1 ∧ ys = tens F i) ⟨rfl, rfl⟩ (fun _ _ _ _ _ => trivial) ?_ ?_
  · rintro i ys x H2 H2' hi e l ⟨e1, rfl⟩ ⟨rfl, c, hc, rfl⟩
    have hc2 : c ∈ abc.cps.toList := by
      have h2 : abc.cps.toList[i]? = some c := by rw [Array.getElem?_toList]; exact hc
      exact List.mem_of_getElem? h2
    refine ⟨hw _, yes (hte c _ _ (mem_abc.mp hc2) (LcNx.add e l ?_ ⟨e1, tens_add hc⟩))⟩
    have h3 : abc.cps.size = 26 := abc_len
    omega
  · rintro ys H2 e l ⟨e1, rfl⟩
    rw [tens_all] at e
    exact hd H2 e e1
theorem inV_strs (z : Str) : ∀ us : List Str, inV (.str z) (us.map V.str) = decide (z ∈ us)
  | [] => by simp [inV]
  | y :: us => by
    have ih := inV_strs z us
    unfold inV at ih ⊢
    rw [List.map_cons, List.any_cons, ih]
    have e : eqV (.str y) (.str z) = decide (z = y) := by
      show (y == z) = decide (z = y)
      by_cases q : z = y
      · simp [q]
      · have q2 : ¬ y = z := fun h => q h.symm
        simp [q, q2]
    rw [e]
    simp [List.mem_cons]
theorem flat_strs : ∀ us : List Str, (us.map V.str).all flatV = true
  | [] => rfl
  | _ :: us => by
    rw [List.map_cons, List.all_cons, flat_strs us]
    rfl
def keepB (us : List Str) (z : Str) : Bool := !decide (z = Str.empty) && !decide (z ∈ us)
theorem free_letter {us : List Str} (h : us.length ≤ 20) : ∃ c, 97 ≤ c ∧ c ≤ 122 ∧ (⟨#[c]⟩ : Str) ∉ us := by
  apply Classical.byContradiction
  intro hn
  have h1 : ∀ z ∈ (List.range' 97 26).map (fun c => (⟨#[c]⟩ : Str)), z ∈ us := fun z hz => by
    obtain ⟨c, hc, rfl⟩ := List.mem_map.mp hz
    rw [List.mem_range'_1] at hc
    apply Classical.byContradiction
    intro hq
    exact hn ⟨c, by omega, by omega, hq⟩
  have h2 : ((List.range' 97 26).map (fun c => (⟨#[c]⟩ : Str))).Nodup := by decide +kernel
  have h3 := List.Nodup.length_le_of_subset h2 h1
  rw [List.length_map, List.length_range'] at h3
  omega
theorem tail_ok {a g u : Addr} {n m : Nat} {us : List Str} {z : Str} {x3 x4 x5 x7 x8 x9 x10 x11 : Option V} {H Hx : Hp} {Q : VK} {nx : L2.St → Hp → Prop} (hT : Tray Hx a g m) (hm : m ≤ n + 13) (hu : SqL K (ct a g H) u (us.map V.str)) (hs : Same (ct a g H) (ct a g Hx)) (hul : us.length ≤ 20) (hz : Nm0 z)
    (k : ∀ z H', IsNm z → z ∉ us → Tray H' a g (n + 13) → Same (ct a g H) (ct a g H') → Q (.str z) H') :
    tTail K { nx := nx, rt := Q } [some (.ref a), some (.ref u), some (.str abc), x3, x4, x5, some (.str z), x7, x8, x9, x10, x11] Hx := by
  refine ⟨_, rfl, by show 1 ≤ sizeLine; decide, fun p1 n1 => ?_⟩
  refine ⟨_, rfl, abc, rfl, fun D1 d1 => lc_abc (fun c => ⟨#[c]⟩) d1 rfl (fun _ => rfl) (fun c H2 Q2 _ q => ⟨_, rfl, q⟩) fun H2 e2 c2 => ?_⟩
  have s2 := cd_is c2
  have h2 : H2 p1 = some (.lst [.str z]) := s2 _ _ upd_same
  refine ⟨p1, D1, _, _, rfl, rfl, h2, e2, le_line (by simp), fun p3 n3 => ?_⟩
  refine ⟨_, rfl, abc, rfl, fun D4 d4 => lc_abc (fun c => Txt.mul ⟨#[c]⟩ 3) d4 rfl (fun _ => rfl) (fun c H2 Q2 _ q => ⟨_, rfl, _, _, rfl, rfl, mulOk_one c (n := 3) (by decide), q⟩) fun H4 e4 c4 => ?_⟩
  have s4 := cd_is c4
  refine ⟨p3, D4, _, _, rfl, rfl, s4 _ _ upd_same, e4, le_line (by simp), fun p5 n5 => ?_⟩
  refine ⟨_, rfl, abc, rfl, fun D6 d6 => lc_abc (fun c => Txt.mul ⟨#[c]⟩ 5) d6 rfl (fun _ => rfl) (fun c H2 Q2 _ q => ⟨_, rfl, _, _, rfl, rfl, mulOk_one c (n := 5) (by decide), q⟩) fun H6 e6 c6 => ?_⟩
  have s6 := cd_is c6
  refine ⟨p5, D6, _, _, rfl, rfl, s6 _ _ upd_same, e6, le_line (by simp), fun p7 n7 => ?_⟩
  have sx : Same Hx (upd H6 p7 (.lst ([.str z] ++ ((List.range' 97 26).map fun c => (⟨#[c]⟩ : Str)).map V.str ++ ((List.range' 97 26).map fun c => Txt.mul ⟨#[c]⟩ 3).map V.str ++ ((List.range' 97 26).map fun c => Txt.mul ⟨#[c]⟩ 5).map V.str))) :=
    (((((same_new n1).trans s2).trans (same_new n3)).trans s4).trans (same_new n5)).trans (s6.trans (same_new n7))
  have eS : ([V.str z] ++ ((List.range' 97 26).map fun c => (⟨#[c]⟩ : Str)).map V.str ++ ((List.range' 97 26).map fun c => Txt.mul ⟨#[c]⟩ 3).map V.str ++ ((List.range' 97 26).map fun c => Txt.mul ⟨#[c]⟩ 5).map V.str) =
      (z :: ((List.range' 97 26).map (fun c => (⟨#[c]⟩ : Str)) ++ (List.range' 97 26).map (fun c => Txt.mul ⟨#[c]⟩ 3) ++ (List.range' 97 26).map (fun c => Txt.mul ⟨#[c]⟩ 5))).map V.str := by
    simp only [List.map_cons, List.map_append, List.singleton_append, List.cons_append, List.nil_append]
  rw [eS] at sx ⊢
  generalize hSd : z :: ((List.range' 97 26).map (fun c => (⟨#[c]⟩ : Str)) ++ (List.range' 97 26).map (fun c => Txt.mul ⟨#[c]⟩ 3) ++ (List.range' 97 26).map (fun c => Txt.mul ⟨#[c]⟩ 5)) = S at sx ⊢
  have hSl : S.length ≤ 4000 := by rw [← hSd]; simp
  have hS0 : ∀ y ∈ S, Nm0 y := fun y hy => by
    rw [← hSd] at hy
    rcases List.mem_cons.mp hy with rfl | hy
    · exact hz
    · rcases List.mem_append.mp hy with hy | hy
      · rcases List.mem_append.mp hy with hy | hy
        · obtain ⟨c, hc, rfl⟩ := List.mem_map.mp hy
          rw [List.mem_range'_1] at hc
          exact (IsNm.one (by omega)).nm0
        · obtain ⟨c, hc, rfl⟩ := List.mem_map.mp hy
          rw [List.mem_range'_1] at hc
          exact mul_nm0 (n := 3) (by omega) (by decide) (by decide)
      · obtain ⟨c, hc, rfl⟩ := List.mem_map.mp hy
        rw [List.mem_range'_1] at hc
        exact mul_nm0 (n := 5) (by omega) (by decide) (by decide)
  have hS1 : ∀ c, 97 ≤ c ∧ c ≤ 122 → (⟨#[c]⟩ : Str) ∈ S := fun c hc => by
    rw [← hSd]
    refine List.mem_cons_of_mem _ (List.mem_append_left _ (List.mem_append_left _ (List.mem_map.mpr ⟨c, ?_, rfl⟩)))
    rw [List.mem_range'_1]
    omega
  refine ⟨_, rfl, p7, rfl, ⟨_, SqL.of upd_same⟩, fun D hD => lc_build (walk_list (K := K) (a := p7) (xs := S.map V.str)) hD (fun i ys R => R = upd H6 p7 (.lst (S.map V.str)) ∧ ys = ((S.take i).filter (keepB us)).map V.str) ⟨rfl, rfl⟩ (fun i ys H2 _ p => SqL.of (cd_is p.1 _ _ upd_same)) ?_ ?_⟩
  · rintro i ys x H2 H2' hi e l ⟨c, rfl⟩ ⟨rfl, hy⟩
    obtain ⟨y, rfl, hy2⟩ := strs_at hy
    rw [List.length_map] at hi
    have hu2 : SqL K H2' u (us.map V.str) := (((hs.trans (ct_same sx)).trans ct_sub).trans (cd_is c)).seq hu
    refine ⟨rfl, _, rfl, rfl, _, rfl, ?_⟩
    obtain ⟨g1, g2⟩ := List.getElem?_eq_some_iff.mp hy2
    have et : (S.take (i + 1)).filter (keepB us) = (S.take i).filter (keepB us) ++ [y].filter (keepB us) := by
      rw [List.take_succ_eq_append_getElem g1, List.filter_append, g2]
    by_cases c1 : y = Str.empty
    · have e1 : keepB us y = false := by unfold keepB; rw [decide_eq_true c1]; rfl
      rw [c1]
      refine iteNS rfl ?_
      refine iteF (LcNx.skip e l ⟨c, ?_⟩)
      rw [et, List.filter_cons_of_neg (by rw [e1]; decide), List.filter_nil, List.append_nil]
    · have e0 : (!decide (V.str y = V.str Str.empty)) = true := by
        rw [decide_eq_false (fun q => c1 (by injection q))]
        rfl
      rw [e0]
      refine iteT ⟨_, rfl, _, rfl, u, _, rfl, .inl hu2, rfl, flat_strs us, _, rfl, ?_⟩
      rw [inV_strs]
      by_cases c2 : y ∈ us
      · have e1 : keepB us y = false := by unfold keepB; rw [decide_eq_true c2, Bool.not_true, Bool.and_false]
        rw [decide_eq_true c2]
        refine iteF (LcNx.skip e l ⟨c, ?_⟩)
        rw [et, List.filter_cons_of_neg (by rw [e1]; decide), List.filter_nil, List.append_nil]
      · have e1 : keepB us y = true := by unfold keepB; rw [decide_eq_false c2, decide_eq_false c1]; rfl
        rw [decide_eq_false c2]
        refine iteT ⟨_, rfl, LcNx.add e l (by omega) ⟨c, ?_⟩⟩
        rw [et, List.filter_cons_of_pos e1, List.filter_nil, List.map_append]
        rfl
  · rintro ys H2 e l ⟨c, rfl⟩
    rw [List.length_map, List.take_length] at e
    obtain ⟨c1, c2, c3, c4⟩ := free_letter hul
    have hmem : (⟨#[c1]⟩ : Str) ∈ S.filter (keepB us) := List.mem_filter.mpr ⟨hS1 c1 ⟨c2, c3⟩, by
      unfold keepB
      rw [decide_eq_false c4, decide_eq_false (fun q => by
        have q2 : (#[c1] : Array Nat) = #[] := congrArg Str.cps q
        exact absurd (congrArg Array.size q2) (show ¬ (1 : Nat) = 0 by decide))]
      rfl⟩
    cases hf : S.filter (keepB us) with
    | nil => rw [hf] at hmem; cases hmem
    | cons y r =>
      rw [hf] at e
      have hy : y ∈ S.filter (keepB us) := by rw [hf]; exact List.mem_cons_self ..
      obtain ⟨hy1, hy2⟩ := List.mem_filter.mp hy
      unfold keepB at hy2
      rw [Bool.and_eq_true, Bool.not_eq_true', Bool.not_eq_true', decide_eq_false_iff_not, decide_eq_false_iff_not] at hy2
      have s9 : Same Hx H2 := sx.trans (cd_is c)
      refine ⟨D, _, _, _, rfl, rfl, SqL.of e, atI_nat (j := 0) rfl, ?_⟩
      exact k y H2 ((hS0 y hy1).nm hy2.1) hy2.2 ((hT.same s9).mono hm) (hs.trans (ct_same s9))
theorem words_at {j : Nat} (h : j < 12) : ∃ z, (([V.str "dim", V.str "sum", V.str "kind", V.str "fact", V.str "forget", V.str "first", V.str "last", V.str "day", V.str "before", V.str "none", V.str "known", V.str "ok"] : List V)[j]? = some (.str z)) ∧ IsNm z := by
  have h1 : ∀ z ∈ (["dim", "sum", "kind", "fact", "forget", "first", "last", "day", "before", "none", "known", "ok"] : List Str), nmB z = true := by decide +kernel
  have h2 : (["dim", "sum", "kind", "fact", "forget", "first", "last", "day", "before", "none", "known", "ok"] : List Str)[j]? = some ((["dim", "sum", "kind", "fact", "forget", "first", "last", "day", "before", "none", "known", "ok"] : List Str)[j]'h) := List.getElem?_eq_getElem h
  refine ⟨_, ?_, nm_iff.mp (h1 _ (List.getElem_mem h))⟩
  have h3 := congrArg (Option.map V.str) h2
  rw [← List.getElem?_map] at h3
  exact h3
theorem Low.ok {z : Str} (h : Low z) : PyData.strOk z = true := by
  unfold PyData.strOk
  rw [Array.all_eq_true']
  intro c hc
  have := h c (Array.mem_toList_iff.mpr hc)
  exact decide_eq_true (by omega)
theorem lay_strs : ∀ xs : List Str, (∀ z ∈ xs, Low z) → PyData.canLayAll0 (xs.map PyData.str) = true ∧ PyData.depthAll (xs.map PyData.str) = 0
  | [], _ => ⟨rfl, rfl⟩
  | x :: xs, h => by
    obtain ⟨h1, h2⟩ := lay_strs xs fun z hz => h z (List.mem_cons_of_mem _ hz)
    have h3 := (h x (List.mem_cons_self ..)).ok
    constructor
    · simp only [List.map_cons, PyData.canLayAll0, PyData.canLay0, h1, h3, Bool.and_self]
    · simp only [List.map_cons, PyData.depthAll, PyData.depth, h2, Nat.max_self]
theorem shaped_strs (xs : List Str) (h : ∀ z ∈ xs, Low z) : SeqAt.shaped (.list (xs.map PyData.str)) = true := by
  obtain ⟨h1, h2⟩ := lay_strs xs h
  simp [SeqAt.shaped, PyData.canLay0, PyData.depth, h1, h2]
theorem ok_name {fD : Addr} {fdD : FuncData} (F : FnP K "_law_name" "_law_name" s_l_name f fd) (GD : FnOk P w K mg base CX0 1 fD fdD ["tray", "many"] spDraw) (kD : PySem.W.keepIn K (.ref fD) = true) (bD : Binds K fdD ["tray", "many"] []) (gD : mg "_law_draw" = some (.ref fD)) (gr : mg "range" = none) (ge : mg "len" = none) :
    FnOk P w K mg base CX0 2 f fd ["tray", "used"] (spName K) := by
  refine F.ok sc_name (fun vs H Q E h => ?_) (fun cdv A outer s H vs Q E hr h => ?_)
  · obtain ⟨a, g, u, n, us, rfl, _⟩ := h
    rfl
  · obtain ⟨a, g, u, n, us, rfl, hT, hn, hu, hul, hus, k⟩ := h
    have nd := sc_name.nd
    refine ⟨_, PSs.nox (pss_cons (ps_set (i := 2) nd rfl (Or.inr rfl) pe_str)
      (pss_cons (ps_set (i := 3) nd rfl (Or.inl rfl) (pe_call GD hr rfl gD kD bD .nil pass0 (pa_cons (pv 0) (pa_cons pe_int pa_nil))))
      (pss_cons (ps_set (i := 4) nd rfl (Or.inl rfl) (pe_ix ix_str (pv 2) (pe_call GD hr rfl gD kD bD .nil pass0 (pa_cons (pv 0) (pa_cons pe_int pa_nil))) (fun _ _ => rfl)))
      (pss_cons (ps_set (i := 6) nd rfl (Or.inl rfl) (pe_join pe_str (pe_lc (own := [("k", 5)]) (g := gName 5) (tt := tYes) (te := tOp rIxS (tVar 2) (tDraw 26)) rfl nd (pi_range1 rfl gr (pa_cons (pe_op op_add pe_int (pe_call GD hr rfl gD kD bD .nil pass0 (pa_cons (pv 0) (pa_cons pe_int pa_nil)))) pa_nil)) (blkOk_by (own := [("k", 5)]) (N := nmN) (sc := defScope s_l_name) (by decide +kernel))
        (fun _ _ _ _ _ => pg_name (i := 5) nd rfl (Or.inl rfl)) (fun _ _ _ _ _ => pts_nil) (fun _ _ _ _ _ => pe_ix ix_str (pv 2) (pe_call GD hr rfl gD kD bD .nil pass0 (pa_cons (pv 0) (pa_cons pe_int pa_nil))) (fun _ _ => rfl)))))
      (pss_cons (ps_if (pt_cmpR op_eq (pv 3) pe_int (nomark _))
        (pss_cons (ps_set (i := 7) nd rfl (Or.inl rfl) (pe_lst (pa_cons pe_str (pa_cons pe_str (pa_cons pe_str (pa_cons pe_str (pa_cons pe_str (pa_cons pe_str (pa_cons pe_str (pa_cons pe_str (pa_cons pe_str (pa_cons pe_str (pa_cons pe_str (pa_cons pe_str pa_nil))))))))))))))
        (pss_one (ps_set (i := 6) nd rfl (Or.inl rfl) (pe_ix ix_list (pv 7) (pe_call GD hr rfl gD kD bD .nil pass0 (pa_cons (pv 0) (pa_cons pe_int pa_nil))) (fun _ _ => rfl)))))
        (pss_one (ps_if (PW.pt (pw_and (pt_cmpR op_gt (pv 3) pe_int (nomark _)) (pw_and1 (pt_cmpR (op_neD hr.units) (pv 1) (pe_lst pa_nil) (nomark _)))))
          (pss_cons (ps_set (i := 8) nd rfl (Or.inl rfl) (pe_ix ix_list (pv 1) (pe_call GD hr rfl gD kD bD .nil pass0 (pa_cons (pv 0) (pa_cons (pe_callB call_len_seq (by rfl) ge boot_len (pa_cons (pv 1) pa_nil)) pa_nil))) (fun _ _ => rfl)))
          (pss_cons (ps_set (i := 9) nd rfl (Or.inl rfl) (pe_call GD hr rfl gD kD bD .nil pass0 (pa_cons (pv 0) (pa_cons (pe_op op_add (pe_callB call_len_str (by rfl) ge boot_len (pa_cons (pv 8) pa_nil)) pe_int) pa_nil))))
          (pss_one (ps_set (i := 6) nd rfl (Or.inl rfl) (pe_slice sl_str (pe_op op_add_str (pe_op op_add_str (pe_slice sl_str (pv 8) po_none (po_some (pv 9))) (pe_ix ix_list (pe_lst (pa_cons (pv 4) (pa_cons (pv 4) (pa_cons pe_str pa_nil)))) (pe_op op_sub (pv 3) pe_int) (fun _ _ => rfl)))
            (pe_slice sl_str (pv 8) (po_some (pe_op op_add (pv 9) (pe_ix ix_list (pe_lst (pa_cons pe_int (pa_cons pe_int (pa_cons pe_int pa_nil)))) (pe_op op_sub (pv 3) pe_int) (fun _ _ => rfl)))) po_none)) po_none (po_some pe_int)))))) pss_nil)))
      (pss_cons (ps_set (i := 11) nd rfl (Or.inl rfl) (pe_op op_cat (pe_op op_cat (pe_op op_cat (pe_lst (pa_cons (pv 6) pa_nil))
          (pe_lc (own := [("one", 10)]) (g := gName 10) (tt := tYes) rfl nd (pi_str (pv 2)) (blkOk_by (own := [("one", 10)]) (N := nmN) (sc := defScope s_l_name) (by decide +kernel)) (fun _ _ _ _ _ => pg_name (i := 10) nd rfl (Or.inl rfl)) (fun _ _ _ _ _ => pts_nil) (fun _ _ _ _ _ => pv 10)))
          (pe_lc (own := [("one", 10)]) (g := gName 10) (tt := tYes) (te := tOp rMulS (tVar 10) (tC (.int 3))) rfl nd (pi_str (pv 2)) (blkOk_by (own := [("one", 10)]) (N := nmN) (sc := defScope s_l_name) (by decide +kernel)) (fun _ _ _ _ _ => pg_name (i := 10) nd rfl (Or.inl rfl)) (fun _ _ _ _ _ => pts_nil) (fun _ _ _ _ _ => pe_op op_rep_str (pv 10) pe_int)))
          (pe_lc (own := [("one", 10)]) (g := gName 10) (tt := tYes) (te := tOp rMulS (tVar 10) (tC (.int 5))) rfl nd (pi_str (pv 2)) (blkOk_by (own := [("one", 10)]) (N := nmN) (sc := defScope s_l_name) (by decide +kernel)) (fun _ _ _ _ _ => pg_name (i := 10) nd rfl (Or.inl rfl)) (fun _ _ _ _ _ => pts_nil) (fun _ _ _ _ _ => pe_op op_rep_str (pv 10) pe_int))))
      (pss_one (ps_ret (pe_ix ix_list (pe_lc (own := [("one", 10)]) (g := gName 10) (tt := tAnd (tTest (tOp rNe (tVar 10) (tC (.str Str.empty)))) (tTest (tOp (rIn K true) (tVar 10) (tVar 1)))) rfl nd (pi_list (pv 11)) (blkOk_by (own := [("one", 10)]) (N := nmN) (sc := defScope s_l_name) (by decide +kernel)) (fun _ _ _ _ _ => pg_name (i := 10) nd rfl (Or.inl rfl))
          (fun _ _ _ _ _ => pts_one (PW.pt (pw_and (pt_cmpR op_ne (pv 10) pe_str (nomark _)) (pw_and1 (pt_cmpR op_notIn_seq (pv 10) (pv 1) (by rfl)))))) (fun _ _ _ _ _ => pv 10)) pe_int (fun _ _ => rfl)))))))))), ?_⟩
    refine ⟨_, rfl, a, g, n, 5, rfl, hT, by omega, by decide, by decide, fun lot H1 l0 l1 T1 s1 => ?_⟩
    refine ⟨_, rfl, _, rfl, a, g, n + 1, 26, rfl, T1, by omega, by decide, by decide, fun cl H2 c0 c1 T2 s2 => ?_⟩
    obtain ⟨jl, rfl⟩ : ∃ j : Nat, cl = (j : Int) := ⟨cl.toNat, by omega⟩
    refine ⟨abc, _, _, rfl, rfl, le_line (by rw [abc_len]; decide), atI_nat (abc_at (by omega)), ?_⟩
    refine ⟨⟨_, rfl⟩, _, rfl, a, g, n + 1 + 1, 8, rfl, T2, by omega, by decide, by decide, fun r H3 r0 r1 T3 s3 => ?_⟩
    obtain ⟨jr, rfl⟩ : ∃ j : Nat, r = (j : Int) := ⟨r.toNat, by omega⟩
    refine ⟨_, _, rfl, rfl, _, rfl, by omega, by omega, fun D hD => ?_⟩
    have eN : ((1 : Int) + (jr : Int)).toNat = 1 + jr := by omega
    rw [eN]
    obtain ⟨nDa, nDg⟩ := T3.na hD
    refine lc_build (walk_range (lo := 0)) hD (fun i ys R => ∃ parts : List Str, ys = parts.map V.str ∧ parts.length = i ∧ (∀ z ∈ parts, z.length = 1 ∧ Low z) ∧ Tray R a g (n + 3 + i) ∧ Same (ct a g H3) (ct a g R)) ⟨[], rfl, rfl, fun _ h => (nomatch h), T3.mono (by omega), Same.refl _⟩ (fun _ _ _ _ _ => trivial) ?_ ?_
    · rintro i ys x Ha Hb hi e l ⟨parts, rfl, lp, pz, Tp, sp⟩ ⟨rfl, rfl⟩
      refine ⟨rfl, yes ?_⟩
      refine ⟨_, rfl, _, rfl, a, g, n + 3 + i, 26, rfl, Tp.same cd_sub, by omega, by decide, by decide, fun ch Hc h0 h1 Tc sc => ?_⟩
      obtain ⟨jc, rfl⟩ : ∃ j : Nat, ch = (j : Int) := ⟨ch.toNat, by omega⟩
      refine ⟨abc, _, _, rfl, rfl, le_line (by rw [abc_len]; decide), atI_nat (abc_at (by omega)), LcNx.add (ctkeep sc e nDa nDg) l (by omega) ⟨parts ++ [⟨#[97 + jc]⟩], by rw [List.map_append]; rfl, by rw [List.length_append]; show parts.length + 1 = i + 1; omega, fun z hz => ?_, (Tc.cd nDa nDg).mono (by omega), ctcd hD sp sc⟩⟩
      rcases List.mem_append.mp hz with hz | hz
      · exact pz z hz
      · rw [List.mem_singleton.mp hz]
        exact ⟨rfl, Low.one (by omega)⟩
    · rintro ys H4 e l ⟨parts, rfl, lp, pz, Tp, sp⟩
      obtain ⟨jlow, jlen⟩ := joined (y := Str.ofString "") (by decide +kernel) parts (fun z hz => (pz z hz).1) fun z hz => (pz z hz).2
      refine ⟨_, D, parts, rfl, rfl, .inl (SqL.of e), ?_, ?_⟩
      · rw [sum_ones parts fun z hz => (pz z hz).1]
        have e0 : (Str.ofString "").length = 0 := by decide +kernel
        rw [e0]
        omega
      have T4 : Tray H4 a g (n + 11) := (Tp.same cd_sub).mono (by omega)
      have s4 : Same (ct a g H) (ct a g H4) := ((s1.trans s2).trans s3).trans (sp.trans (ct_same cd_sub))
      have hu4 : SqL K H4 u (us.map V.str) := (s4.trans ct_sub).seq hu
      have hu4' : ∀ {p o}, H4 p = none → SqL K (upd H4 p o) u (us.map V.str) := fun h => (same_new h).seq hu4
      have hz4 : Nm0 (Txt.join (Str.ofString "") parts) := ⟨jlow, by omega⟩
      refine ⟨_, rfl, rfl, _, rfl, ?_⟩
      refine ite2 (fun c4 => ?_) (fun c4 => ?_)
      · refine ⟨by show 12 ≤ sizeLine; decide, fun pw nw => ?_⟩
        obtain ⟨nwa, nwg⟩ := T4.na nw
        refine ⟨_, rfl, _, rfl, a, g, n + 11, 12, rfl, T4.new nw, by omega, by decide, by decide, fun q H5 q0 q1 T5 s5 => ?_⟩
        obtain ⟨jq, rfl⟩ : ∃ j : Nat, q = (j : Int) := ⟨q.toNat, by omega⟩
        obtain ⟨wz, w1, w2⟩ := words_at (j := jq) (by omega)
        refine ⟨pw, _, _, _, rfl, rfl, SqL.of (ctkeep s5 upd_same nwa nwg), atI_nat w1, ?_⟩
        exact tail_ok (T5) (by omega) hu ((s4.trans (ctnew nw)).trans s5) hul w2.nm0 k
      · refine ⟨_, rfl, _, _, rfl, rfl, _, rfl, ?_⟩
        have c4 : ¬ lot = 4 := fun q => c4 (decide_eq_true (congrArg V.int q))
        refine ite2 (fun c5 => ?_) (fun c5 => ?_)
        · have c5 : 0 < lot := of_decide_eq_true c5
          refine ⟨_, rfl, by show 0 ≤ sizeLine; decide, fun pe ne => ?_⟩
          refine ⟨.list (us.map PyData.str), .list [], .lst ((hu4' ne)) (DpAll.strs us), .lst (SqL.of upd_same) .nil, shaped_strs us (fun z hz => (hus z hz).low), by decide, _, rfl, ?_⟩
          cases us with
          | nil =>
            refine iteF ?_
            exact tail_ok (T4.new ne) (by omega) hu (s4.trans (ctnew ne)) hul hz4 k
          | cons y0 yr =>
            refine iteT ?_
            have l1 : ((y0 :: yr).map V.str).length = (y0 :: yr).length := List.length_map ..
            refine ⟨_, rfl, _, rfl, _, rfl, u, _, rfl, .inl (hu4' ne), a, g, n + 11, _, rfl, T4.new ne, by omega, by rw [l1]; show (0 : Int) < ((yr.length + 1 : Nat) : Int); omega, by rw [l1]; omega, fun q H5 q0 q1 T5 s5 => ?_⟩
            obtain ⟨jq, rfl⟩ : ∃ j : Nat, q = (j : Int) := ⟨q.toNat, by omega⟩
            have hjq : jq < (y0 :: yr).length := by rw [l1] at q1; omega
            have s45 : Same (ct a g H) (ct a g H5) := (s4.trans (ctnew ne)).trans s5
            have hold := hus _ (List.getElem_mem hjq)
            generalize ho : (y0 :: yr)[jq] = old at hold
            have go : ((y0 :: yr).map V.str)[jq]? = some (.str old) := by rw [List.getElem?_map, List.getElem?_eq_getElem hjq, ho]; rfl
            refine ⟨u, _, _, _, rfl, rfl, (s45.trans ct_sub).seq hu, atI_nat go, ?_⟩
            have lo8 := hold.le8
            refine ⟨_, rfl, _, rfl, old, rfl, le_line (by omega), _, _, rfl, rfl, a, g, n + 11 + 1, _, rfl, T5, by omega, by omega, by omega, fun at_ H6 a0 a1 T6 s6 => ?_⟩
            have l31 : lot = 1 ∨ lot = 2 ∨ lot = 3 := by omega
            have sz0 : ∀ lo hi, (cutS old lo hi).length ≤ 8 := fun lo hi => Nat.le_trans (cutS_length old lo hi) lo8
            have fin : ∀ (t : Str) (lo : Int), Low t → Nm0 (cutS (cutS old none (some at_) ++ t ++ cutS old (some lo) none) none (some 8)) := fun t lo ht => ⟨(((hold.low.cut _ _).append ht).append (hold.low.cut _ _)).cut _ _, cut8 _⟩
            have ll : Low (⟨#[97 + jl]⟩ : Str) := Low.one (by omega)
            have le0 : Low (Str.ofString "") := fun c hc => by
              have e0 : (Str.ofString "").cps.toList = [] := by decide +kernel
              rw [e0] at hc
              cases hc
            have lz0 : (Str.ofString "").length = 0 := by decide +kernel
            have sz1 := sz0 none (some at_)
            rcases l31 with rfl | rfl | rfl
            all_goals
              refine ⟨_, rfl, _, rfl, _, rfl, old, rfl, le_line (by omega), _, rfl, _, rfl, by show 3 ≤ sizeLine; decide, fun p8 n8 => ?_⟩
              refine ⟨_, rfl, _, _, rfl, rfl, p8, _, _, _, rfl, rfl, SqL.of upd_same, rfl, _, _, rfl, rfl, le_line (by first | (show (cutS old none (some at_)).length + 1 ≤ 4000; omega) | (rw [lz0]; omega)), ?_⟩
              refine ⟨_, rfl, _, rfl, by show 3 ≤ sizeLine; decide, fun p9 n9 => ?_⟩
              refine ⟨_, rfl, _, _, rfl, rfl, p9, _, _, _, rfl, rfl, SqL.of upd_same, rfl, _, _, rfl, rfl, _, rfl, old, rfl, le_line (by omega), _, _, rfl, rfl, ?_, ?_⟩
              · refine le_line ?_
                have := sz0 (some (at_ + 0)) none
                have := sz0 (some (at_ + 1)) none
                rw [len_append]
                first | (show (cutS old none (some at_)).length + 1 + _ ≤ 4000; omega) | (rw [lz0]; omega)
              · refine ⟨_, rfl, _, rfl, ?_, ?_⟩
                · refine le_line ?_
                  have := sz0 (some (at_ + 0)) none
                  have := sz0 (some (at_ + 1)) none
                  rw [len_append, len_append]
                  first | (show (cutS old none (some at_)).length + 1 + _ ≤ 4000; omega) | (rw [lz0]; omega)
                · exact tail_ok ((T6.new n8).new n9) (by omega) hu (((s45.trans s6).trans (ctnew n8)).trans (ctnew n9)) hul (fin _ _ (by first | exact ll | exact le0)) k
        · exact tail_ok T4 (by omega) hu s4 hul hz4 k
end
end Kd

namespace Kd
open PySem PySem.Spec PyProof.Rows L2
section
variable {P : Program} {w : World} {K : PySem.W.Frag} {mg : Str → Option Value} {base : Heap} {f : Addr} {fd : FuncData}
/-- a change at an object that was not there ahead -/
theorem ctupd {a g l : Addr} {H0 H : Hp} {o : HO} (s : Same (ct a g H0) (ct a g H)) (hl : H0 l = none) (ha : l ≠ a) (hg : l ≠ g) : Same (ct a g H0) (ct a g (upd H l o)) := by
  rw [ct_upd ha hg]
  exact Same.upd s (ct_none hl)
theorem Tray.updo {a g l : Addr} {H : Hp} {o : HO} {n : Nat} (t : Tray H a g n) (ha : l ≠ a) (hg : l ≠ g) : Tray (upd H l o) a g n := by
  obtain ⟨c, f, k, gs, h1, h2, h3⟩ := t.ex
  exact ⟨c, f, k, gs, by rw [upd_ne ha.symm]; exact h1, by rw [upd_ne hg.symm]; exact h2, h3⟩
def spNames (K : PySem.W.Frag) : Sp := fun vs H Q _ => ∃ (a g : Addr) (n : Nat) (many : Nat), vs = [.ref a, .int (many : Int)] ∧ Tray H a g n ∧ n ≤ 800000 ∧ many ≤ 10 ∧
  ∀ (l : Addr) (xs : List Str) (H' : Hp), H l = none → H' l = some (.lst (xs.map V.str)) → xs.length = many → (∀ z ∈ xs, IsNm z) → xs.Nodup → Tray H' a g (n + 13 * many) → Same (ct a g H) (ct a g H') → Q (.ref l) H'
theorem sc_names : FnScope ["tray", "many", "found", "k"] ["tray", "many"] (defScope s_l_names) := ⟨rfl, rfl, rfl, by decide +kernel, rfl, by decide +kernel, by decide +kernel⟩
theorem ok_names {fN : Addr} {fdN : FuncData} (F : FnP K "_law_names" "_law_names" s_l_names f fd) (GN : FnOk P w K mg base CX0 2 fN fdN ["tray", "used"] (spName K)) (kN : PySem.W.keepIn K (.ref fN) = true) (bN : Binds K fdN ["tray", "used"] []) (gN : mg "_law_name" = some (.ref fN)) (gr : mg "range" = none) :
    FnOk P w K mg base CX0 3 f fd ["tray", "many"] (spNames K) := by
  refine F.ok sc_names (fun vs H Q E h => ?_) (fun cdv A outer s H vs Q E hr h => ?_)
  · obtain ⟨a, g, n, many, rfl, _⟩ := h
    rfl
  · obtain ⟨a, g, n, many, rfl, hT, hn, hm, k⟩ := h
    have nd := sc_names.nd
    refine ⟨_, PSs.nox (pss_cons (ps_set (i := 2) nd rfl (Or.inl rfl) (pe_lst pa_nil))
      (pss_cons (ps_for PassesOwn.never rfl (pi_range1 rfl gr (pa_cons (pv 1) pa_nil)) (pg_name (i := 3) nd rfl (Or.inl rfl))
        (pss_one (ps_expr (pe_bm PySem.F.plainAttrs_list PySem.F.slot_list_append PySem.F.type_list_append mt_append (pv 2) (pa_cons (pe_call GN hr rfl gN kN bN .nil pass0 (pa_cons (pv 0) (pa_cons (pv 2) pa_nil))) pa_nil)))))
      (pss_one (ps_ret (pv 2))))), ?_⟩
    refine ⟨by show 0 ≤ sizeLine; decide, fun l hl => ?_⟩
    obtain ⟨nla, nlg⟩ := hT.na hl
    refine ⟨_, rfl, _, rfl, by omega, by omega, ?_⟩
    rw [Int.toNat_natCast]
    refine for_range (lo := 0) (n := many) (fun i σ H2 => ∃ (xs : List Str) (u : Option V), σ = [some (.ref a), some (.int many), some (.ref l), u] ∧ H2 l = some (.lst (xs.map V.str)) ∧ xs.length = i ∧ (∀ z ∈ xs, IsNm z) ∧ xs.Nodup ∧ Tray H2 a g (n + 13 * i) ∧ Same (ct a g H) (ct a g H2))
      ⟨[], _, rfl, upd_same, rfl, fun _ h => (nomatch h), List.nodup_nil, hT.new hl, ctnew hl⟩ ?_ ?_
    · rintro i σ H2 hi ⟨xs, u, rfl, h2, lx, hx, hd, T2, s2⟩
      refine ⟨_, rfl, .inl ⟨rfl, _, SqL.of h2⟩, _, rfl, _, rfl, a, g, l, n + 13 * i, xs, rfl, T2, by omega, SqL.of (ct_of h2 nla nlg), by omega, hx, fun z H3 hz hz2 T3 s3 => ?_⟩
      have h3 := ctkeep s3 h2 nla nlg
      refine ⟨l, _, _, rfl, rfl, h3, small1000 (by rw [List.length_map]; omega), ?_⟩
      refine ⟨xs ++ [z], _, rfl, by rw [upd_same, List.map_append]; rfl, by rw [List.length_append]; show xs.length + 1 = i + 1; omega, fun y hy => ?_, ?_, (T3.updo nla nlg).mono (by omega), ctupd (s2.trans s3) hl nla nlg⟩
      · rcases List.mem_append.mp hy with hy | hy
        · exact hx y hy
        · rw [List.mem_singleton.mp hy]
          exact hz
      · refine List.nodup_append.mpr ⟨hd, List.nodup_cons.mpr ⟨List.not_mem_nil, List.nodup_nil⟩, fun y hy q hq e => hz2 ?_⟩
        rw [List.mem_singleton.mp hq] at e
        rw [← e]
        exact hy
    · rintro σ H2 ⟨xs, u, rfl, h2, lx, hx, hd, T2, s2⟩
      exact ⟨_, rfl, k l xs H2 hl h2 lx hx hd T2 s2⟩
/-! ### what is drawn is a plan -/
structure Good (ds : List (Str × List (Str × Str))) (ms : List Str) : Prop where
  d1 : 1 ≤ ds.length
  d4 : ds.length ≤ 4
  dn : ∀ d ∈ ds, IsNm d.1
  du : (ds.map (·.1)).Nodup
  al : ∀ d ∈ ds, d.2.length ≤ 5
  an : ∀ d ∈ ds, ∀ a ∈ d.2, IsNm a.1 ∧ IsWay a.2
  au : ∀ d ∈ ds, (d.2.map (·.1)).Nodup
  m4 : ms.length ≤ 4
  mn : ∀ m ∈ ms, IsNm m
  mu : ms.Nodup
theorem flt_false {xs : List Str} {m : Int} (h1 : (xs.length : Int) ≤ m) (h2 : ∀ z ∈ xs, IsNm z) (h3 : xs.Nodup) : fltB xs m = false := by
  unfold fltB
  rw [KdS.dcn_nodup h3 xs.length (Nat.le_refl _), decide_eq_false (by omega), decide_eq_false (by omega), List.all_eq_true.mpr (fun z hz => nm_iff.mpr (h2 z hz))]
  rfl
theorem Good.ff {ds : List (Str × List (Str × Str))} {ms : List Str} (h : Good ds ms) : ffV ds ms = .non := by
  have e1 : ds.isEmpty = false := by
    cases ds with
    | nil => exact absurd h.d1 (by decide)
    | cons _ _ => rfl
  have e2 : fltB (ds.map (·.1)) 4 = false := flt_false (by rw [List.length_map]; have := h.d4; omega) (fun z hz => by
    obtain ⟨d, hd, rfl⟩ := List.mem_map.mp hz
    exact h.dn d hd) h.du
  have e3 : ds.any (fun d => fltB (d.2.map (·.1)) 5) = false := by
    rw [List.any_eq_false]
    intro d hd
    rw [flt_false (by rw [List.length_map]; have := h.al d hd; omega) (fun z hz => by
      obtain ⟨a, ha, rfl⟩ := List.mem_map.mp hz
      exact (h.an d hd a ha).1) (h.au d hd)]
    decide
  have e4 : fltB ms 4 = false := flt_false (by have := h.m4; omega) h.mn h.mu
  unfold ffV
  rw [e1, e2, e3, e4]
  rfl
theorem Good.szd {ds : List (Str × List (Str × Str))} {ms : List Str} (h : Good ds ms) : Szd ds ms where
  dl := by have := h.d4; omega
  dn := fun d hd => ⟨by have := (h.dn d hd).le8; omega, by have := h.al d hd; omega, fun a ha => by have := (h.an d hd a ha).1.le8; omega⟩
  ml := by have := h.m4; omega
  mn := fun m hm => by have := (h.mn m hm).le8; omega
end
end Kd

namespace Kd
open PySem PySem.Spec PyProof.Rows L2
section
variable {P : Program} {w : World} {K : PySem.W.Frag} {mg : Str → Option Value} {base : Heap} {f : Addr} {fd : FuncData}
/-- a tracked list of dimensions -/
def DimsTr (K : PySem.W.Frag) (H : Hp) (l : Addr) (ds : List (Str × List (Str × Str))) : Prop := ∃ xs, H l = some (.lst xs) ∧ Paired (DimAt K H) xs ds
/-- what lists hands back: l a list of ds, m one of ms, no part of the tray -/
structure Lsts (K : PySem.W.Frag) (H : Hp) (a g l m : Addr) (ds : List (Str × List (Str × Str))) (ms : List Str) : Prop where
  dl : DimsTr K (ct a g H) l ds
  ml : ct a g H m = some (.lst (ms.map V.str))
  ok : Good ds ms
/-! tuples do not lean on lists -/
theorem seqT_list {H : Hp} {l r : Addr} {L xs : List V} (hl : H l = some (.lst L)) (h : SqT K H r xs) : SqT K (cd l H) r xs := by
  rcases h with (q | ⟨o, q⟩) | q
  · exact .inl (.inl (cd_of q (ne_of q hl (fun z => nomatch z))))
  · exact .inl (.inr ⟨o, cd_of q (ne_of q hl (fun z => nomatch z))⟩)
  · exact .inr q
theorem seqT_ct {H : Hp} {a g r : Addr} {n : Nat} {xs : List V} (t : Tray H a g n) (h : SqT K H r xs) : SqT K (ct a g H) r xs := by
  obtain ⟨c, f, k, gs, h1, h2, _⟩ := t.ex
  rcases h with (q | ⟨o, q⟩) | q
  · exact .inl (.inl (ct_of q (ne_of q h1 (fun z => nomatch z)) (ne_of q h2 (fun z => nomatch z))))
  · exact .inl (.inr ⟨o, ct_of q (ne_of q h1 (fun z => nomatch z)) (ne_of q h2 (fun z => nomatch z))⟩)
  · exact .inr q
theorem att_list {H : Hp} {l : Addr} {L : List V} {y : V} {d : Str × Str} (hl : H l = some (.lst L)) : AttAt K H y d → AttAt K (cd l H) y d := fun ⟨r, e1, e2⟩ => ⟨r, e1, seqT_list hl e2⟩
theorem dim_list {H : Hp} {l : Addr} {L : List V} {y : V} {d : Str × List (Str × Str)} (hl : H l = some (.lst L)) : DimAt K H y d → DimAt K (cd l H) y d :=
  fun ⟨p, q, h1, h2, zs, h3, h4⟩ => ⟨p, q, h1, seqT_list hl h2, zs, seqT_list hl h3, PySem.Paired.mono (fun _ _ => att_list hl) h4⟩
theorem att_ct {H : Hp} {a g : Addr} {n : Nat} {y : V} {d : Str × Str} (t : Tray H a g n) : AttAt K H y d → AttAt K (ct a g H) y d := fun ⟨r, e1, e2⟩ => ⟨r, e1, seqT_ct t e2⟩
theorem dim_ct {H : Hp} {a g : Addr} {n : Nat} {y : V} {d : Str × List (Str × Str)} (t : Tray H a g n) : DimAt K H y d → DimAt K (ct a g H) y d :=
  fun ⟨p, q, h1, h2, zs, h3, h4⟩ => ⟨p, q, h1, seqT_ct t h2, zs, seqT_ct t h3, PySem.Paired.mono (fun _ _ => att_ct t) h4⟩
/-- over a draw -/
theorem dim_draw {H H' : Hp} {a g : Addr} {n : Nat} {y : V} {d : Str × List (Str × Str)} (t : Tray H a g n) (s : Same (ct a g H) (ct a g H')) (h : DimAt K H y d) : DimAt K H' y d := (dim_ct t h).same (s.trans ct_sub)
/-- over a store to a list -/
theorem dim_store {H : Hp} {l : Addr} {L : List V} {o : HO} {y : V} {d : Str × List (Str × Str)} (hl : H l = some (.lst L)) (h : DimAt K H y d) : DimAt K (upd H l o) y d :=
  (dim_list hl h).same fun b u e => by rw [upd_ne (ct_ne e).1]; exact cd_sub _ _ e
theorem ctcd2 {a g l : Addr} {H H' : Hp} (s : Same (ct a g H) (ct a g H')) : Same (ct a g (cd l H)) (ct a g (cd l H')) := fun b o e => by
  obtain ⟨na, ng⟩ := ct_ne e
  have e2 := ct_sub _ _ e
  exact ct_of (cd_of (ct_sub _ _ (s b o (ct_of (cd_sub _ _ e2) na ng))) (ct_ne e2).1) na ng
def AttOk (ds : List (Str × List (Str × Str))) : Prop := ∀ d ∈ ds, d.2.length ≤ 5 ∧ (∀ a ∈ d.2, IsNm a.1 ∧ IsWay a.2) ∧ (d.2.map (·.1)).Nodup
theorem ways_at {j : Nat} (h : j < 5) : ∃ z, (([V.str "first", V.str "last", V.str "day", V.str "day", V.str "before"] : List V)[j]? = some (.str z)) ∧ IsWay z := by
  have h1 : ∀ z ∈ (["first", "last", "day", "day", "before"] : List Str), z ∈ (["first", "last", "day", "before"] : List Str) := by decide +kernel
  have h2 : (["first", "last", "day", "day", "before"] : List Str)[j]? = some ((["first", "last", "day", "day", "before"] : List Str)[j]'h) := List.getElem?_eq_getElem h
  refine ⟨_, ?_, h1 _ (List.getElem_mem h)⟩
  have h3 := congrArg (Option.map V.str) h2
  rw [← List.getElem?_map] at h3
  exact h3
theorem two_at {wide : Nat} (hw : wide ≤ 1) (x y : Nat) : ∃ v : Nat, atI [V.int (x : Int), V.int (y : Int)] (wide : Int) = some (.int (v : Int)) ∧ (v = x ∨ v = y) := by
  have : wide = 0 ∨ wide = 1 := by omega
  rcases this with rfl | rfl
  · exact ⟨x, atI_nat (j := 0) rfl, .inl rfl⟩
  · exact ⟨y, atI_nat (j := 1) rfl, .inr rfl⟩
def spLists (K : PySem.W.Frag) : Sp := fun vs H Q _ => ∃ (a g : Addr) (n most : Nat) (wide : Nat), vs = [.ref a, .int (most : Int), .int (wide : Int)] ∧ Tray H a g n ∧ n ≤ 700000 ∧ 1 ≤ most ∧ most ≤ 4 ∧ wide ≤ 1 ∧
  ∀ (r l m : Addr) (ds : List (Str × List (Str × Str))) (ms : List Str) (H' : Hp), ct a g H' r = some (.lst [.ref l, .ref m]) → Lsts K H' a g l m ds ms → Tray H' a g (n + 420) → Same (ct a g H) (ct a g H') → Q (.ref r) H'
abbrev liN : List Str := ["tray", "most", "wide", "found", "name", "some", "one", "ways", "k"]
theorem sc_lists : FnScope liN ["tray", "most", "wide"] (defScope s_l_lists) := ⟨rfl, rfl, rfl, by decide +kernel, rfl, by decide +kernel, by decide +kernel⟩
theorem ok_lists {fD fN : Addr} {fdD fdN : FuncData} (F : FnP K "_law_lists" "_law_lists" s_l_lists f fd) (GD : FnOk P w K mg base CX0 1 fD fdD ["tray", "many"] spDraw) (kD : PySem.W.keepIn K (.ref fD) = true) (bD : Binds K fdD ["tray", "many"] []) (gD : mg "_law_draw" = some (.ref fD))
    (GN : FnOk P w K mg base CX0 3 fN fdN ["tray", "many"] (spNames K)) (kN : PySem.W.keepIn K (.ref fN) = true) (bN : Binds K fdN ["tray", "many"] []) (gN : mg "_law_names" = some (.ref fN)) (gr : mg "range" = none) (ge : mg "len" = none) (gt : mg "tuple" = none) :
    FnOk P w K mg base CX0 4 f fd ["tray", "most", "wide"] (spLists K) := by
  refine F.ok sc_lists (fun vs H Q E h => ?_) (fun cdv A outer s H vs Q E hr h => ?_)
  · obtain ⟨a, g, n, most, wide, rfl, _⟩ := h
    rfl
  · obtain ⟨a, g, n, most, wide, rfl, hT, hn, m1, m4, hw, k⟩ := h
    have nd := sc_lists.nd
    have hr1 : Room 1 _ := hr.mono (by decide)
    refine ⟨_, PSs.nox (pss_cons (ps_set (i := 3) nd rfl (Or.inl rfl) (pe_lst pa_nil))
      (pss_cons (ps_for PassesOwn.never rfl (pi_list (pe_call GN hr rfl gN kN bN .nil pass0 (pa_cons (pv 0) (pa_cons (pe_op op_add pe_int (pe_call GD hr1 rfl gD kD bD .nil pass0 (pa_cons (pv 0) (pa_cons (pv 1) pa_nil)))) pa_nil)))) (pg_name (i := 4) nd rfl (Or.inl rfl))
        (pss_cons (ps_set (i := 5) nd rfl (Or.inr rfl) (pe_call GN hr rfl gN kN bN .nil pass0 (pa_cons (pv 0) (pa_cons (pe_call GD hr1 rfl gD kD bD .nil pass0 (pa_cons (pv 0) (pa_cons (pe_ix ix_list (pe_lst (pa_cons pe_int (pa_cons pe_int pa_nil))) (pv 2) (fun _ _ => rfl)) pa_nil))) pa_nil))))
        (pss_cons (ps_set (i := 7) nd rfl (Or.inr rfl) (pe_lc (own := [("one", 6)]) (g := gName 6) (tt := tYes) (te := tOp (rIxL K) (tLst (tCons (tC (.str "first")) (tCons (tC (.str "last")) (tCons (tC (.str "day")) (tCons (tC (.str "day")) (tCons (tC (.str "before")) tNil)))))) (tDraw 5)) rfl nd (pi_list (pv 5)) (blkOk_by (own := [("one", 6)]) (N := liN) (sc := defScope s_l_lists) (by decide +kernel))
          (fun _ _ _ _ _ => pg_name (i := 6) nd rfl (Or.inl rfl)) (fun _ _ _ _ _ => pts_nil) (fun _ _ _ _ _ => pe_ix ix_list (pe_lst (pa_cons pe_str (pa_cons pe_str (pa_cons pe_str (pa_cons pe_str (pa_cons pe_str pa_nil)))))) (pe_call GD hr1 rfl gD kD bD .nil pass0 (pa_cons (pv 0) (pa_cons pe_int pa_nil))) (fun _ _ => rfl))))
        (pss_one (ps_expr (pe_bm PySem.F.plainAttrs_list PySem.F.slot_list_append PySem.F.type_list_append mt_append (pv 3) (pa_cons (pe_tup (pa_cons (pv 4) (pa_cons (pe_callTy call_tuple_of (by rfl) gt (by decide +kernel) (pa_cons
            (pe_lc (own := [("k", 8)]) (g := gName 8) (tt := tYes) (te := tTup (tCons (tOp (rIxL K) (tVar 5) (tVar 8)) (tCons (tOp (rIxL K) (tVar 7) (tVar 8)) tNil))) rfl nd (pi_range1 rfl gr (pa_cons (pe_callB call_len_seq (by rfl) ge boot_len (pa_cons (pv 5) pa_nil)) pa_nil)) (blkOk_by (own := [("k", 8)]) (N := liN) (sc := defScope s_l_lists) (by decide +kernel))
              (fun _ _ _ _ _ => pg_name (i := 8) nd rfl (Or.inl rfl)) (fun _ _ _ _ _ => pts_nil) (fun _ _ _ _ _ => pe_tup (pa_cons (pe_ix ix_list (pv 5) (pv 8) (fun _ _ => rfl)) (pa_cons (pe_ix ix_list (pv 7) (pv 8) (fun _ _ => rfl)) pa_nil)))) pa_nil)) pa_nil))) pa_nil)))))))
      (pss_one (ps_ret (pe_lst (pa_cons (pv 3) (pa_cons (pe_call GN hr rfl gN kN bN .nil pass0 (pa_cons (pv 0) (pa_cons (pe_call GD hr1 rfl gD kD bD .nil pass0 (pa_cons (pv 0) (pa_cons (pe_ix ix_list (pe_lst (pa_cons pe_int (pa_cons pe_int pa_nil))) (pv 2) (fun _ _ => rfl)) pa_nil))) pa_nil))) pa_nil))))))), ?_⟩
    obtain ⟨w1, hw1, hw1b⟩ := two_at hw 4 6
    obtain ⟨w2, hw2, hw2b⟩ := two_at hw 4 5
    refine ⟨by show 0 ≤ sizeLine; decide, fun lf hf => ?_⟩
    obtain ⟨nfa, nfg⟩ := hT.na hf
    have T1 : Tray (upd H lf (.lst [])) a g n := hT.new hf
    refine ⟨_, rfl, _, rfl, _, rfl, a, g, n, most, rfl, T1, by omega, by omega, by omega, fun r H2 r0 r1 T2 s2 => ?_⟩
    obtain ⟨jr, rfl⟩ : ∃ j : Nat, r = (j : Int) := ⟨r.toNat, by omega⟩
    have f2 : H2 lf = some (.lst []) := ctkeep s2 upd_same nfa nfg
    refine ⟨_, _, rfl, rfl, a, g, n + 1, 1 + jr, by show [V.ref a, V.int (1 + (jr : Int))] = [V.ref a, V.int ((1 + jr : Nat) : Int)]; rw [Int.natCast_add]; rfl, T2, by omega, by omega, fun nl ns H3 hnl h3 l3 hz3 hd3 T3 s3 => ?_⟩
    obtain ⟨nna, nng⟩ := T2.na hnl
    have nnf : nl ≠ lf := (ne_of_none f2 hnl).symm
    have f3 : H3 lf = some (.lst []) := ctkeep s3 f2 nfa nfg
    have hB : ct a g (cd lf H3) nl = some (.lst (ns.map V.str)) := ct_of (cd_of h3 nnf) nna nng
    have s0B : Same (ct a g H) (ct a g (cd lf H3)) := fun b o e => by
      obtain ⟨na, ng⟩ := ct_ne e
      have nl : b ≠ lf := ne_of_none (ct_sub _ _ e) hf
      have e3 := s3 b o (s2 b o (ctnew hf b o e))
      exact ct_of (cd_of (ct_sub _ _ e3) nl) na ng
    refine ⟨nl, rfl, ⟨_, SqL.of h3⟩, for_list (K := K) (a := nl) (xs := ns.map V.str) (fun i σ H4 => ∃ (ds : List (Str × List (Str × Str))) (xs : List V) (x4 x5 x6 x7 x8 : Option V), σ = [some (.ref a), some (.int most), some (.int wide), some (.ref lf), x4, x5, x6, x7, x8] ∧ H4 lf = some (.lst xs) ∧ Paired (DimAt K H4) xs ds ∧ ds.map (·.1) = ns.take i ∧ AttOk ds ∧ Tray H4 a g (n + 60 + 75 * i) ∧ Same (ct a g (cd lf H3)) (ct a g (cd lf H4)) ∧ xs.length = i)
      ⟨[], [], _, _, _, _, _, rfl, f3, .nil, rfl, fun _ h => (nomatch h), T3.mono (by omega), Same.refl _, rfl⟩ (fun i σ H4 _ ⟨_, _, _, _, _, _, _, _, _, _, _, _, _, s4, _⟩ => SqL.of (cd_sub _ _ (ct_sub _ _ (s4 _ _ hB)))) ?_ ?_⟩
    · rintro i x σ H4 hi ⟨ds, xs, x4, x5, x6, x7, x8, rfl, f4, p4, e4, a4, T4, s4, l4⟩
      have hil : i < (ns.map V.str).length := (List.getElem?_eq_some_iff.mp hi).1
      rw [List.length_map] at hil
      obtain ⟨z, rfl, hz⟩ := strs_at hi
      have hzn := hz3 z (List.mem_of_getElem? hz)
      refine ⟨_, rfl, _, rfl, by show 2 ≤ sizeLine; decide, fun p5 n5 => ?_⟩
      refine ⟨_, rfl, p5, _, _, _, rfl, rfl, SqL.of upd_same, hw1, a, g, n + 60 + 75 * i, w1, rfl, T4.new n5, by omega, by omega, by omega, fun c H5 c0 c1 T5 s5 => ?_⟩
      obtain ⟨jc, rfl⟩ : ∃ j : Nat, c = (j : Int) := ⟨c.toNat, by omega⟩
      refine ⟨a, g, n + 60 + 75 * i + 1, jc, rfl, T5, by omega, by omega, fun sl ss H6 hsl h6 l6 hz6 hd6 T6 s6 => ?_⟩
      obtain ⟨nsa, nsg⟩ := T5.na hsl
      have s46 : Same (ct a g H4) (ct a g H6) := ((ctnew n5).trans s5).trans s6
      have f6 : H6 lf = some (.lst xs) := ctkeep s46 f4 nfa nfg
      refine ⟨_, rfl, sl, rfl, ⟨_, SqL.of h6⟩, fun D hD => lc_build (walk_list (K := K) (a := sl) (xs := ss.map V.str)) hD (fun j ys R => ∃ ws : List Str, ys = ws.map V.str ∧ ws.length = j ∧ (∀ z ∈ ws, IsWay z) ∧ Tray R a g (n + 60 + 75 * i + 1 + 13 * jc + j) ∧ Same (ct a g H6) (ct a g R))
        ⟨[], rfl, rfl, fun _ h => (nomatch h), T6, Same.refl _⟩ (fun j ys H7 _ ⟨_, _, _, _, _, s7⟩ => SqL.of (cd_sub _ _ (ct_sub _ _ (s7 _ _ (ct_of h6 nsa nsg))))) ?_ ?_⟩
      · rintro j ys y H7 H7' hj e7 l7 ⟨ws, rfl, lw, hw7, T7, s7⟩ ⟨rfl, hy⟩
        obtain ⟨nDa, nDg⟩ := T6.na hD
        rw [List.length_map] at hj
        refine ⟨rfl, yes ?_⟩
        refine ⟨by show 5 ≤ sizeLine; decide, fun p8 n8 => ?_⟩
        obtain ⟨npa, npg⟩ := (T7.same cd_sub).na n8
        refine ⟨_, rfl, a, g, n + 60 + 75 * i + 1 + 13 * jc + j, 5, rfl, (T7.same cd_sub).new n8, by omega, by decide, by decide, fun q H8 q0 q1 T8 s8 => ?_⟩
        obtain ⟨jq, rfl⟩ : ∃ j : Nat, q = (j : Int) := ⟨q.toNat, by omega⟩
        obtain ⟨wz, v1, v2⟩ := ways_at (j := jq) (by omega)
        have s78 := (ctnew (a := a) (g := g) n8).trans s8
        refine ⟨p8, _, _, _, rfl, rfl, SqL.of (ctkeep s8 upd_same npa npg), atI_nat v1, LcNx.add (ctkeep s78 e7 nDa nDg) l7 (by omega) ⟨ws ++ [wz], by rw [List.map_append]; rfl, by rw [List.length_append]; show ws.length + 1 = j + 1; omega, fun y hy => ?_, (T8.cd nDa nDg).mono (by omega), ctcd hD s7 s78⟩⟩
        rcases List.mem_append.mp hy with hy | hy
        · exact hw7 y hy
        · rw [List.mem_singleton.mp hy]
          exact v2
      · rintro ys H7 e7 l7 ⟨ws, rfl, lw, hw7, T7, s7⟩
        obtain ⟨nDa, nDg⟩ := T6.na hD
        rw [List.length_map] at lw
        have s67 : Same (ct a g H6) (ct a g H7) := s7.trans (ct_same cd_sub)
        have h7 : H7 sl = some (.lst (ss.map V.str)) := ctkeep s67 h6 nsa nsg
        have f7 : H7 lf = some (.lst xs) := ctkeep s67 f6 nfa nfg
        have T7' : Tray H7 a g (n + 60 + 75 * (i + 1)) := (T7.same cd_sub).mono (by rw [List.length_map]; omega)
        refine ⟨_, rfl, .inl ⟨rfl, _, SqL.of f7⟩, _, rfl, _, rfl, sl, _, rfl, .inl (SqL.of h7), _, rfl, by rw [List.length_map]; omega, by rw [List.length_map]; omega, fun D2 hD2 => ?_⟩
        rw [List.length_map, Int.toNat_natCast]
        refine lc_build (walk_range (lo := 0)) hD2 (fun j ys R => Same H7 R ∧ Paired (AttAt K R) ys ((ss.zip ws).take j)) ⟨Same.refl _, .nil⟩ (fun _ _ _ _ _ => trivial) ?_ ?_
        · rintro j ys y H8 H8' hj e8 l8 ⟨s8, p8⟩ ⟨rfl, rfl⟩
          have e0 : (0 : Int) + (j : Int) = (j : Int) := Int.zero_add _
          have hjw : j < ws.length := by omega
          have g1 : (ss.map V.str)[j]? = some (.str ss[j]) := by rw [List.getElem?_map, List.getElem?_eq_getElem hj]; rfl
          have g2 : (ws.map V.str)[j]? = some (.str ws[j]) := by rw [List.getElem?_map, List.getElem?_eq_getElem hjw]; rfl
          have s8' := s8.trans cd_sub
          refine ⟨rfl, yes ?_⟩
          refine ⟨_, rfl, _, rfl, sl, _, _, _, rfl, rfl, SqL.of (s8' _ _ h7), (by rw [e0]; exact atI_nat g1), _, rfl, _, rfl, D, _, _, _, rfl, rfl, SqL.of (s8' _ _ e7), (by rw [e0]; exact atI_nat g2), by show 2 ≤ sizeLine; decide, fun t nt => ?_⟩
          have nDt : D2 ≠ t := ne_of_none e8 nt
          have s9 : Same (cd D2 H8') (cd D2 (upd H8' t (.tup [.str ss[j], .str ws[j]]))) := cd_same (same_new nt)
          refine LcNx.add (by rw [upd_ne nDt]; exact e8) l8 (by omega) ⟨s8.trans s9, ?_⟩
          have hjz : j < (ss.zip ws).length := by rw [List.length_zip]; omega
          rw [List.take_succ_eq_append_getElem hjz, List.getElem_zip]
          exact PySem.Paired.snoc (PySem.Paired.mono (fun _ _ => AttAt.same s9) p8) ⟨t, rfl, SqT.of (cd_of upd_same nDt.symm)⟩
        · rintro ys H8 e8 l8 ⟨s8, p8⟩
          rw [List.take_of_length_le (by rw [List.length_zip]; omega)] at p8
          have s8' := s8.trans cd_sub
          refine ⟨D2, ys, rfl, .inl ⟨SqL.of e8, fun q hq => ?_⟩⟩
          refine ⟨by show 2 ≤ sizeLine; decide, fun t ht => ?_⟩
          have s9 : Same H8 (upd (upd H8 q (.tup ys)) t (.tup [.str z, .ref q])) := (same_new hq).trans (same_new ht)
          have f9 := s9 _ _ (s8' _ _ f7)
          refine ⟨lf, _, _, rfl, rfl, f9, small1000 (by omega), ?_⟩
          have s79 := s8'.trans s9
          have dnew : DimAt K (upd (upd H8 q (.tup ys)) t (.tup [.str z, .ref q])) (.ref t) (z, ss.zip ws) := ⟨t, q, rfl, SqT.of upd_same, ys, SqT.of (same_new ht _ _ upd_same), PySem.Paired.mono (fun _ _ h => (AttAt.same cd_sub h).same s9) p8⟩
          refine ⟨ds ++ [(z, ss.zip ws)], xs ++ [.ref t], _, _, _, _, _, rfl, upd_same, ?_, ?_, ?_, (T7'.same s79).updo nfa nfg, ?_, by rw [List.length_append]; show xs.length + 1 = i + 1; omega⟩
          · refine PySem.Paired.snoc (PySem.Paired.mono (fun y d h => dim_store f9 ((dim_draw T4 (s46.trans s67) h).same s79)) p4) (dim_store f9 dnew)
          · obtain ⟨g1, g2⟩ := List.getElem?_eq_some_iff.mp hz
            rw [List.map_append, e4, List.take_succ_eq_append_getElem g1, g2]
            rfl
          · intro d hd
            rcases List.mem_append.mp hd with hd | hd
            · exact a4 d hd
            · rw [List.mem_singleton.mp hd]
              refine ⟨by show (ss.zip ws).length ≤ 5; rw [List.length_zip]; omega, fun y hy => ?_, ?_⟩
              · exact ⟨hz6 y.1 (List.of_mem_zip hy).1, hw7 y.2 (List.of_mem_zip hy).2⟩
              · show ((ss.zip ws).map (·.1)).Nodup
                rw [show (ss.zip ws).map (·.1) = ss from List.map_fst_zip (by omega)]
                exact hd6
          · have e1 : ∀ o, ct a g (cd lf (upd (upd (upd H8 q (.tup ys)) t (.tup [.str z, .ref q])) lf o)) = ct a g (cd lf (upd (upd H8 q (.tup ys)) t (.tup [.str z, .ref q]))) := fun o => by rw [cd_upd]
            rw [e1]
            exact (s4.trans (ctcd2 (s46.trans s67))).trans (ct_same (cd_same s79))
    · rintro σ H4 ⟨ds, xs, x4, x5, x6, x7, x8, rfl, f4, p4, e4, a4, T4, s4, l4⟩
      rw [List.length_map] at e4 T4 l4
      rw [List.take_length] at e4
      refine ⟨_, rfl, _, rfl, _, rfl, by show 2 ≤ sizeLine; decide, fun p5 n5 => ?_⟩
      refine ⟨_, rfl, p5, _, _, _, rfl, rfl, SqL.of upd_same, hw2, a, g, n + 60 + 75 * ns.length, w2, rfl, T4.new n5, by omega, by omega, by omega, fun c H5 c0 c1 T5 s5 => ?_⟩
      obtain ⟨jc, rfl⟩ : ∃ j : Nat, c = (j : Int) := ⟨c.toNat, by omega⟩
      refine ⟨a, g, n + 60 + 75 * ns.length + 1, jc, rfl, T5, by omega, by omega, fun ml ms H6 hml h6 l6 hz6 hd6 T6 s6 => ?_⟩
      obtain ⟨nma, nmg⟩ := T5.na hml
      refine ⟨by show 2 ≤ sizeLine; decide, fun r nr => ?_⟩
      obtain ⟨nra, nrg⟩ := T6.na nr
      have s46 : Same (ct a g H4) (ct a g H6) := ((ctnew n5).trans s5).trans s6
      have f6 : H6 lf = some (.lst xs) := ctkeep s46 f4 nfa nfg
      have T7 := T6.new (o := .lst [.ref lf, .ref ml]) nr
      have hlen : ds.length = ns.length := by
        have := p4.length
        omega
      refine k r lf ml ds ms _ (ct_of upd_same nra nrg) ⟨⟨xs, (ct_of (same_new nr _ _ f6) nfa nfg), PySem.Paired.mono (fun y d h => dim_ct T7 ((dim_draw T4 s46 h).same (same_new nr))) p4⟩, ct_of (same_new nr _ _ h6) nma nmg, ?_⟩ (T7.mono (by omega)) ?_
      · exact ⟨by omega, by omega, fun d hd => hz3 d.1 (by rw [← e4]; exact List.mem_map_of_mem hd), by rw [e4]; exact hd3, fun d hd => (a4 d hd).1, fun d hd => (a4 d hd).2.1, fun d hd => (a4 d hd).2.2, by omega, hz6, hd6⟩
      · have e1 : Same (ct a g H) (ct a g H4) := (s0B.trans s4).trans (ct_same cd_sub)
        exact (e1.trans s46).trans (ctnew nr)
end
end Kd

namespace Kd
open PySem PySem.Spec PyProof.Rows L2
/-! ### the lists as data -/
def attD (a : Str × Str) : PyData := .tuple [.str a.1, .str a.2]
def dimD (d : Str × List (Str × Str)) : PyData := .tuple [.str d.1, .tuple (d.2.map attD)]
def dimsD (ds : List (Str × List (Str × Str))) : PyData := .list (ds.map dimD)
section
variable {K : PySem.W.Frag} {H : Hp}
theorem atts_dp : ∀ {ys : List V} {as : List (Str × Str)}, Paired (AttAt K H) ys as → DpAll K H ys (as.map attD)
  | _, _, .nil => .nil
  | _, _, .cons ⟨r, e1, e2⟩ t => by
    subst e1
    exact .cons (.tup e2 (.cons (.str _) (.cons (.str _) .nil))) (atts_dp t)
theorem dims_dp : ∀ {xs : List V} {ds : List (Str × List (Str × Str))}, Paired (DimAt K H) xs ds → DpAll K H xs (ds.map dimD)
  | _, _, .nil => .nil
  | _, _, .cons ⟨p, q, e1, e2, zs, e3, e4⟩ t => by
    subst e1
    exact .cons (.tup e2 (.cons (.str _) (.cons (.tup e3 (atts_dp e4)) .nil))) (dims_dp t)
theorem DimsAt.dp {l : Addr} {ds : List (Str × List (Str × Str))} (h : DimsAt K H l ds) : Dp K H (.ref l) (dimsD ds) := by
  obtain ⟨xs, h1, h2⟩ := h
  exact .lst h1 (dims_dp h2)
theorem strs_dp {l : Addr} {xs : List Str} (h : SqL K H l (xs.map V.str)) : Dp K H (.ref l) (.list (xs.map PyData.str)) := .lst h (DpAll.strs xs)
end
theorem lay_atts : ∀ as : List (Str × Str), (∀ a ∈ as, Low a.1 ∧ Low a.2) → PyData.canLayAll0 (as.map attD) = true ∧ PyData.depthAll (as.map attD) ≤ 1
  | [], _ => ⟨rfl, by decide⟩
  | a :: as, h => by
    obtain ⟨h1, h2⟩ := lay_atts as fun z hz => h z (List.mem_cons_of_mem _ hz)
    obtain ⟨h3, h4⟩ := h a (List.mem_cons_self ..)
    constructor
    · simp only [List.map_cons, attD, PyData.canLayAll0, PyData.canLay0, h1, h3.ok, h4.ok, Bool.and_self]
    · simp only [List.map_cons, attD, PyData.depthAll, PyData.depth]
      omega
theorem lay_dims : ∀ ds : List (Str × List (Str × Str)), (∀ d ∈ ds, Low d.1 ∧ ∀ a ∈ d.2, Low a.1 ∧ Low a.2) → PyData.canLayAll0 (ds.map dimD) = true ∧ PyData.depthAll (ds.map dimD) ≤ 3
  | [], _ => ⟨rfl, by decide⟩
  | d :: ds, h => by
    obtain ⟨h1, h2⟩ := lay_dims ds fun z hz => h z (List.mem_cons_of_mem _ hz)
    obtain ⟨h3, h4⟩ := h d (List.mem_cons_self ..)
    obtain ⟨h5, h6⟩ := lay_atts d.2 h4
    constructor
    · simp only [List.map_cons, dimD, PyData.canLayAll0, PyData.canLay0, h1, h3.ok, h5, Bool.and_self]
    · simp only [List.map_cons, dimD, PyData.depthAll, PyData.depth]
      omega
theorem shaped_dims {ds : List (Str × List (Str × Str))} {ms : List Str} (h : Good ds ms) : SeqAt.shaped (dimsD ds) = true := by
  obtain ⟨h1, h2⟩ := lay_dims ds fun d hd => ⟨(h.dn d hd).low, fun a ha => ⟨(h.an d hd a ha).1.low, (h.an d hd a ha).2.nm.1⟩⟩
  unfold SeqAt.shaped
  rw [Bool.and_eq_true]
  refine ⟨by unfold dimsD; rw [PyData.canLay0]; exact h1, decide_eq_true ?_⟩
  unfold dimsD
  rw [PyData.depth]
  omega
theorem eqv_self {d : PyData} (h : SeqAt.shaped d = true) : PyData.eqv d d = true := SeqAt.eqv_refl d (SeqAt.canLay_of_shaped h)
end Kd

namespace Kd
open PySem PySem.Spec PyProof.Rows L2
/-! ### slices by whole numbers that are not below 0 -/
theorem cutTo (xs : List V) (j : Nat) : cutV xs none (some (j : Int)) = xs.take j := by
  unfold cutV
  rw [HT.sIx_none, HT.sIx_nat, List.drop_zero, Nat.sub_zero]
  by_cases h : j ≤ xs.length
  · rw [Nat.min_eq_left h]
  · rw [Nat.min_eq_right (by omega), List.take_of_length_le (by omega), List.take_of_length_le (by omega)]
theorem cutFrom (xs : List V) (i : Nat) : cutV xs (some (i : Int)) none = xs.drop i := by
  unfold cutV
  rw [HT.sIx_none, HT.sIx_nat]
  by_cases h : i ≤ xs.length
  · rw [Nat.min_eq_left h, List.take_of_length_le (by rw [List.length_drop]; omega)]
  · rw [Nat.min_eq_right (by omega), List.drop_of_length_le (by omega), List.drop_of_length_le (by omega), List.take_nil]
theorem cutMid (xs : List V) (i j : Nat) : cutV xs (some (i : Int)) (some (j : Int)) = (xs.drop i).take (j - i) := by
  unfold cutV
  rw [HT.sIx_nat, HT.sIx_nat]
  by_cases h : i ≤ xs.length
  · rw [Nat.min_eq_left h]
    by_cases h2 : j ≤ xs.length
    · rw [Nat.min_eq_left h2]
    · rw [Nat.min_eq_right (by omega), List.take_of_length_le (by rw [List.length_drop]; omega), List.take_of_length_le (by rw [List.length_drop]; omega)]
  · rw [List.drop_of_length_le (show xs.length ≤ min i xs.length by omega), List.drop_of_length_le (show xs.length ≤ i by omega), List.take_nil, List.take_nil]
/-! ### pairs -/
theorem paired_app2 {α β : Type} {R : α → β → Prop} : ∀ {a c : List α} {b d : List β}, Paired R a b → Paired R c d → Paired R (a ++ c) (b ++ d)
  | _, _, _, _, .nil, h => h
  | _, _, _, _, .cons x t, h => .cons x (paired_app2 t h)
theorem paired_rev2 {α β : Type} {R : α → β → Prop} : ∀ {a : List α} {b : List β}, Paired R a b → Paired R a.reverse b.reverse
  | _, _, .nil => .nil
  | _, _, .cons x t => by
    rw [List.reverse_cons, List.reverse_cons]
    exact paired_app2 (paired_rev2 t) (.cons x .nil)
theorem paired_take2 {α β : Type} {R : α → β → Prop} : ∀ (n : Nat) {a : List α} {b : List β}, Paired R a b → Paired R (a.take n) (b.take n)
  | 0, _, _, _ => by rw [List.take_zero, List.take_zero]; exact .nil
  | n + 1, _, _, .nil => .nil
  | n + 1, _, _, .cons h t => .cons h (paired_take2 n t)
theorem paired_drop2 {α β : Type} {R : α → β → Prop} : ∀ (n : Nat) {a : List α} {b : List β}, Paired R a b → Paired R (a.drop n) (b.drop n)
  | 0, _, _, h => h
  | n + 1, _, _, .nil => .nil
  | n + 1, _, _, .cons h t => paired_drop2 n t
/-! ### a list with one out, or two turned about -/
def trn {α : Type} (b : Bool) (at_ : Nat) (xs : List α) : List α := if b = true then xs.take at_ ++ xs.drop (at_ + 1) else xs.take at_ ++ ((xs.drop at_).take 2).reverse ++ xs.drop (at_ + 2)
theorem trn_mem {α : Type} {b : Bool} {at_ : Nat} {xs : List α} {x : α} (h : x ∈ trn b at_ xs) : x ∈ xs := by
  unfold trn at h
  split at h
  · rcases List.mem_append.mp h with h | h
    · exact List.mem_of_mem_take h
    · exact List.mem_of_mem_drop h
  · rcases List.mem_append.mp h with h | h
    · rcases List.mem_append.mp h with h | h
      · exact List.mem_of_mem_take h
      · exact List.mem_of_mem_drop (List.mem_of_mem_take (List.mem_reverse.mp h))
    · exact List.mem_of_mem_drop h
theorem trn_len {α : Type} (b : Bool) (at_ : Nat) (xs : List α) : (trn b at_ xs).length ≤ xs.length := by
  unfold trn
  split
  · simp only [List.length_append, List.length_take, List.length_drop]
    omega
  · simp only [List.length_append, List.length_take, List.length_drop, List.length_reverse]
    omega
theorem trn_paired {α β : Type} {R : α → β → Prop} {b : Bool} {at_ : Nat} {xs : List α} {ys : List β} (h : Paired R xs ys) : Paired R (trn b at_ xs) (trn b at_ ys) := by
  unfold trn
  split
  · exact paired_app2 (paired_take2 _ h) (paired_drop2 _ h)
  · exact paired_app2 (paired_app2 (paired_take2 _ h) (paired_rev2 (paired_take2 _ (paired_drop2 _ h)))) (paired_drop2 _ h)
theorem trn_map {α β : Type} (f : α → β) (b : Bool) (at_ : Nat) (xs : List α) : trn b at_ (xs.map f) = (trn b at_ xs).map f := by
  unfold trn
  split <;> simp [List.map_take, List.map_drop]
/-- a text and a text -/
def rAddS : R2 := fun x y H Q => ∃ a b, x = .str a ∧ y = .str b ∧ a.length + b.length ≤ sizeLine ∧ Q (.str (a ++ b)) H
/-- len(x) -/
def rLenQ (K : PySem.W.Frag) : List V → Hp → VK → Prop := fun xs H Q => ∃ p ys, xs = [.ref p] ∧ (SqL K H p ys ∨ SqT K H p ys) ∧ Q (.int (ys.length : Nat)) H
/-- list(x): a new one -/
def rListOf (K : PySem.W.Frag) : List V → Hp → VK → Prop := fun xs H Q => ∃ p ys, xs = [.ref p] ∧ (SqL K H p ys ∨ SqT K H p ys) ∧ ∀ l, H l = none → Q (.ref l) (upd H l (.lst ys))
/-- a new object stands, what was there stands too -/
theorem seqL_new {K : PySem.W.Frag} {H : Hp} {a p : Addr} {o : HO} {xs : List V} (h : SqL K H a xs) (np : H p = none) : SqL K (upd H p o) a xs := Same.seq (same_new np) h
theorem seqT_new {K : PySem.W.Frag} {H : Hp} {a p : Addr} {o : HO} {xs : List V} (h : SqT K H a xs) (np : H p = none) : SqT K (upd H p o) a xs := Same.seqT (same_new np) h
end Kd

namespace KdEx
open PySem PySem.Spec PyProof.Rows L2
section
variable {prog : Program} {w : World} {A : Around} {E : Value → Shared → Prop} {s : Shared}
/-- repr of a tuple, whatever is under way: some text -/
theorem repr_tuple {a : Addr} {o : Obj} {items : Array Value} {n : Nat} {ts : List Str} {Q : Value → Shared → Prop} (hu : A.units + 8 < cLine) (ha : s.heap.get? a = some o) (hc : o.cls = .type "tuple") (hd : o.data = .seq items n) (hT : ReprAll prog w items.toList ts) (hsz : (tupleText ts).length ≤ sizeLine)
    (h : ∀ (m : Str) (u tk : Tok), m.length ≤ (tupleText ts).length + 5 → Q (.str m u) { s with toks := tk }) : wpAny (model prog w) A (call (.builtin "repr") [.ref a]) Q E s :=
  call_repr_slot (by omega) ⟨o, ha, hc⟩ F.slot_tuple_repr (fmt_tuple_repr ha hc hd hT hsz fun m u tk hm => ⟨m, u, rfl, h m u tk hm⟩)
end
section
variable {X : Cx}
/-- a value of which repr is known whatever is under way, and its text -/
def flatT : V → Str
  | .str z => reprText z
  | .non => "None"
  | .int i => toString i
  | _ => ""
def Flat1 : V → Prop
  | .str z => (∀ c ∈ z.cps.toList, c < 16 ^ 8) ∧ z.length ≤ 4000
  | .non => True
  | _ => False
theorem flat_len {v : V} (h : Flat1 v) : (flatT v).length ≤ 50000 := by
  cases v with
  | str z =>
    have := StrLaws.reprText_len z h.1
    show (reprText z).length ≤ 50000
    have h2 := h.2
    omega
  | non => show ("None" : Str).length ≤ 50000; decide +kernel
  | _ => exact h.elim
theorem reprs {prog : Program} {w : World} : ∀ {ys : List V} {its : List Value}, Vals ys its → (∀ y ∈ ys, Flat1 y) → ReprAll prog w its (ys.map flatT)
  | [], _, r, _ => by
    cases r
    exact .nil
  | y :: l, _, r, h => by
    cases r with
    | cons r1 r2 =>
      have ih := reprs (prog := prog) (w := w) r2 fun z hz => h z (List.mem_cons_of_mem _ hz)
      have hy := h y (List.mem_cons_self ..)
      have hl := flat_len hy
      cases y with
      | str z =>
        obtain ⟨t, rfl⟩ := r1
        exact .cons (ReprIs.str z t (Nat.le_trans hl (by decide))) ih
      | non =>
        cases r1
        exact .cons ReprIs.none ih
      | _ => exact hy.elim
theorem piled_le : ∀ (ts : List Str), (∀ t ∈ ts, t.length ≤ 50000) → piled ts ≤ 60000 * ts.length
  | [], _ => Nat.zero_le _
  | t :: ts, h => by
    have ih := piled_le ts fun z hz => h z (List.mem_cons_of_mem _ hz)
    have h1 := h t (List.mem_cons_self ..)
    have e : piled (t :: ts) ≤ t.length + 2 + piled ts := by
      unfold piled
      simp
      try omega
    rw [List.length_cons]
    omega
/-- repr of a text, or of a short tuple of texts and None: some text -/
def rRepr (K : PySem.W.Frag) : List V → Hp → VK → Prop := fun xs H Q => ∃ x, xs = [x] ∧ ((∃ z : Str, x = .str z ∧ Flat1 x) ∨ ∃ (a : Addr) (ys : List V), x = .ref a ∧ SqT K H a ys ∧ ys.length ≤ 8 ∧ ∀ y ∈ ys, Flat1 y) ∧ ∀ m : Str, Q (.str m) H
theorem cr_repr (hu : X.A.units + 64 < cLine) : CallR X (.builtin "repr") (rRepr X.K) := by
  intro pins s σ H xs us Q I r h
  obtain ⟨x, rfl, hx, q⟩ := h
  obtain ⟨u, rfl, rx⟩ := vals1 r
  rcases hx with ⟨z, rfl, hz⟩ | ⟨a, ys, rfl, ht, hl, hy⟩
  · obtain ⟨t, rfl⟩ := rx
    refine PySem.P.repr_of_str ⟨.str _, H, I.tok _, ⟨_, rfl⟩, q _⟩ (Nat.le_trans (flat_len (v := .str z) hz) (by decide))
  · cases rx
    obtain ⟨its, rv, ⟨o, ho, hcl, n, hd⟩, _⟩ := I.tuple ht
    have htx := fmt_text (ys.map flatT)
    have hp := piled_le (ys.map flatT) fun t ht => by
      obtain ⟨y, hym, rfl⟩ := List.mem_map.mp ht
      exact flat_len (hy y hym)
    rw [List.length_map] at hp
    have hsl : sizeLine = sizeLine := rfl
    refine repr_tuple (ts := ys.map flatT) (by omega) ho hcl hd (reprs rv hy) (Nat.le_trans (show _ ≤ 500000 by omega) (by decide)) fun m u tk hm => ⟨.str m, H, I.tok _, ⟨u, rfl⟩, q m⟩
end
section
variable {X : Cx} {CX : CXT} {k : Nat} {f C : Addr} {fd : FuncData} {ps : List Str} {sp : Sp} {dvs : List V} {ds : List Value} {E : XK} {x m : Str} {p1 p2 pos : Pos} {e : Expr} {es : List Expr} {t : TA}
/-- C.m(e, ..), C a class of the program, m a def of it -/
structure ClsFn (K : PySem.W.Frag) (C f : Addr) (m : Str) : Prop where
  sp : PySem.W.specialIn K (.ref C) "__getattribute__" = some (some (.builtin "type.__getattribute__"))
  rd : PySem.W.readsIn K C (.type "type") = true
  fi : PySem.W.findCls K (.ref C) (.type "type") m = some (.val (.ref f))
  kp : PySem.W.keepIn K (.ref f) = true
theorem pe_clsfn {pl : Sem Bool} (hg : Gl X x) (hm : X.mg x = some (.ref C)) (T : ClsFn X.K C f m) (F : FnOk X.prog X.w X.K X.mg X.base CX k f fd ps sp) (hr : Room k X.A) (hb : Binds X.K fd ps ds) (hd : Vals dvs ds) (hx : Passes CX X E) (ha : PA X (e :: es) t)
    (hdb : (x == ("__debug__" : Str)) = false := by decide)
    (hc : eval (.Call (.Attribute (.Name x p1) m p2) (e :: es) [] pos) X.env = (do
      let ov ← eval (.Name x p1) X.env
      standAt p2.atName
      let (f, first) ← holding [ov] (getMethod ov m pl)
      callWith pos f first (backTo pos (starEach (e :: es) X.env)) (backToKw pos (keywordEach [] X.env))) := by rfl)
    (he : starEach (e :: es) X.env = (false, eval e X.env) :: starEach es X.env := by rfl) (hpl : (backTo pos (starEach es X.env)).any (·.1) = false := by rfl) :
    PE X (.Call (.Attribute (.Name x p1) m p2) (e :: es) [] pos) (tCall sp dvs E t) := by
  refine ⟨fun pins s σ H Q I h => ?_⟩
  refine PySem.W.methodCall_KW (ld_glob I hg hm ?_ hdb) hc
  refine PySem.W.method_cls I.kIn T.sp ?_
  refine PySem.W.cls_value I.kIn T.rd T.fi rfl ?_
  show wpAny _ _ (callWith pos (Value.ref f) [] (backTo pos (starEach (e :: es) X.env)) []) _ _ _
  refine PySem.W.callWith_K (h₀ := X.base) I.ok.mod.kin T.kp (thn (ha.run pos pins _ σ H _ (I.tok _) h) fun us s1 ⟨vs, H1, I1, r, q⟩ => ⟨I1.kIn, ?_⟩) he hpl
  exact run_fn F hr hb hd hx I1 r q
end
/-! ### == and != by an own def -/
section
variable {X : Cx} {CX : CXT} {n : Nat} {C f : Addr} {fd : FuncData} {ps : List Str} {sp : Sp} {E : XK} {op : CmpOp}
def rOwn (C : Addr) (sp : Sp) (E : XK) : R2 := fun x y H Q => ∃ a b dx dy fs gs, x = .ref a ∧ y = .ref b ∧ H a = some (.ins C dx fs) ∧ H b = some (.ins C dy gs) ∧ sp [.ref a, .ref b] H (fun v H' => ∃ r, v = .bl r ∧ Q (.bl r) H') E
theorem rich_own (F : FnOk X.prog X.w X.K X.mg X.base CX n f fd ps sp) (hs : PySem.W.findIn X.K (.ref C) (cmpInfo op).2.1 = some (some (.ref f))) (hf : PySem.W.isFn X.K (.ref f) = true) (hb : Binds X.K fd ps []) (hx : Passes CX X E) (hr : Room n X.A)
    {pins : List (Addr × Obj)} {s : Shared} {σ : L2.St} {H : Hp} {x y : V} {v u : Value} {Q : VK} (I : Inv X pins σ H s) (rx : RelV x v) (ry : RelV y u) (h : rOwn C sp E x y H Q) : wpAny (model X.prog X.w) X.A (richCompare op v u) (EP X pins σ Q) X.xe s := by
  obtain ⟨a, b, dx, dy, fs, gs, rfl, rfl, ha, hb', hsp⟩ := h
  cases rx
  cases ry
  obtain ⟨mA, J, _⟩ := ins_get I.hok ha
  obtain ⟨mB, J', _⟩ := ins_get I.hok hb'
  obtain ⟨od, J, _⟩ := J.look
  obtain ⟨od', J', _⟩ := J'.look
  obtain ⟨m, hF⟩ := I.fr
  refine PySem.W.cmp_K (op := op) (tb := .ref C) hr.units0 hF I.ok.mod.kin J J'.type (by simp [PySem.W.notFirst]) hs hf ?_
  have hl := F.len _ _ _ _ hsp
  have r2 : Vals [V.ref a, V.ref b] [Value.ref a, Value.ref b] := .cons rfl (.cons rfl .nil)
  refine wpAny_call (codeAny_mono (F.run X.A X.stack s H ⟨[.ref a, .ref b], []⟩ [.ref a, .ref b] [.ref a, .ref b] _ E hr I.env0 (by
    have := hb s [.ref a, .ref b] I.kIn (by simpa using hl)
    simpa using this) r2 hsp) fun r s' hq => ?_)
  cases r with
  | error e => exact hx pins σ H s e s' I hq
  | ok fl =>
    cases fl with
    | ret w =>
      obtain ⟨z, H', I', rz, r, ez, q⟩ := I.after hq
      subst ez
      cases rz
      exact ⟨.bl r, H', I', rfl, q⟩
    | next => exact False.elim hq
    | brk => exact False.elim hq
    | cont => exact False.elim hq
theorem op_eqOwn (F : FnOk X.prog X.w X.K X.mg X.base CX n f fd ps sp) (hs : PySem.W.findIn X.K (.ref C) "__eq__" = some (some (.ref f))) (hf : PySem.W.isFn X.K (.ref f) = true) (hb : Binds X.K fd ps []) (hx : Passes CX X E) (hr : Room n X.A) : OpR X (compareOp .Eq) (rOwn C sp E) := by
  intro pins s σ H x y v u Q I rx ry h
  exact rich_own (op := .Eq) F hs hf hb hx hr I rx ry h
theorem op_neOwn (F : FnOk X.prog X.w X.K X.mg X.base CX n f fd ps sp) (hs : PySem.W.findIn X.K (.ref C) "__ne__" = some (some (.ref f))) (hf : PySem.W.isFn X.K (.ref f) = true) (hb : Binds X.K fd ps []) (hx : Passes CX X E) (hr : Room n X.A) : OpR X (compareOp .NotEq) (rOwn C sp E) := by
  intro pins s σ H x y v u Q I rx ry h
  exact rich_own (op := .NotEq) F hs hf hb hx hr I rx ry h
end
end KdEx

namespace Kd
open PySem PySem.Spec PyProof.Rows L2
/-! ### a whole number in figures -/
abbrev numT (i : Int) : Str := Str.ofString (toString i)
theorem tl_pos (n : Nat) : TL.tl (numT (n : Int)) = TL.numL n := TL.tl_num n
theorem tl_neg (m : Nat) : TL.tl (numT (Int.negSucc m)) = 45 :: TL.numL (m + 1) := by
  have e : toString (Int.negSucc m) = "-" ++ Nat.repr (m + 1) := rfl
  show TL.tl (Str.ofString (toString (Int.negSucc m))) = _
  rw [e, TL.tl_ofString, String.toList_append, List.map_append]
  have e2 : TL.numL (m + 1) = (Nat.repr (m + 1)).toList.map Char.toNat := by rw [Nat.toList_repr]; rfl
  rw [e2]
  rfl
/-- the signs of a number: figures, - ahead where it is below 0 -/
theorem tl_cases (i : Int) : (∃ n : Nat, i = (n : Int) ∧ TL.tl (numT i) = TL.numL n) ∨ ∃ m : Nat, i = -((m + 1 : Nat) : Int) ∧ TL.tl (numT i) = 45 :: TL.numL (m + 1) := by
  cases i with
  | ofNat n => exact .inl ⟨n, rfl, tl_pos n⟩
  | negSucc m => exact .inr ⟨m, rfl, tl_neg m⟩
theorem num_sign {i : Int} {c : Nat} (h : c ∈ TL.tl (numT i)) : c = 45 ∨ (48 ≤ c ∧ c ≤ 57) := by
  rcases tl_cases i with ⟨n, _, e⟩ | ⟨m, _, e⟩
  · rw [e] at h
    exact .inr (TL.numL_digits n c h)
  · rw [e] at h
    rcases List.mem_cons.mp h with h | h
    · exact .inl h
    · exact .inr (TL.numL_digits _ c h)
theorem num_free {i : Int} {c : Nat} (h : c ≠ 45) (h2 : c < 48 ∨ 57 < c) : c ∉ TL.tl (numT i) := fun q => by
  rcases num_sign q with e | e
  · exact h e
  · omega
theorem numL_pos (n : Nat) : 1 ≤ (TL.numL n).length := List.length_pos_iff.mpr (TL.numL_ne n)
def Wh (i : Int) : Prop := i.natAbs < 10 ^ 60
theorem num_len {i : Int} (h : Wh i) : (numT i).length ≤ 61 := by
  rw [TL.len_tl]
  have h : i.natAbs < 10 ^ 60 := h
  rcases tl_cases i with ⟨n, e1, e⟩ | ⟨m, e1, e⟩
  · rw [e]
    have := TL.numL_len (n := n) (k := 60) (by decide) (by rw [e1] at h; simpa using h)
    omega
  · rw [e]
    have := TL.numL_len (n := m + 1) (k := 60) (by decide) (by rw [e1, Int.natAbs_neg, Int.natAbs_natCast] at h; exact h)
    rw [List.length_cons]
    omega
theorem num_back {i : Int} (h : (numT i).length ≤ 4300) : intText? (numT i) = some i := by
  rcases tl_cases i with ⟨n, rfl, e⟩ | ⟨m, rfl, e⟩
  · rw [intText_digits (by show NumText.AllDigits (TL.tl (numT _)); rw [e]; exact TL.numL_digits n) (by show TL.tl (numT _) ≠ []; rw [e]; exact TL.numL_ne n) h]
    show some ((NumText.digitsVal (TL.tl (numT _)) : Nat) : Int) = _
    rw [e, TL.numL_val]
  · rw [intText_neg (cs := TL.numL (m + 1)) (by show TL.tl (numT _) = _; rw [e]) (TL.numL_digits _) (TL.numL_ne _) h, TL.numL_val]
theorem num_inj {i j : Int} (h : numT i = numT j) : i = j := by
  have e := congrArg TL.tl h
  rcases tl_cases i with ⟨n, h1, e1⟩ | ⟨n, h1, e1⟩ <;> rcases tl_cases j with ⟨m, h2, e2⟩ | ⟨m, h2, e2⟩ <;> rw [e1, e2] at e
  · rw [h1, h2, TL.numL_inj e]
  · exfalso
    have h3 := TL.numL_digits n 45 (by rw [e]; exact List.mem_cons_self ..)
    omega
  · exfalso
    have h3 := TL.numL_digits m 45 (by rw [← e]; exact List.mem_cons_self ..)
    omega
  · injection e with _ e
    rw [h1, h2, TL.numL_inj e]
/-- how a word is looked at as a number: what is behind one - ahead -/
def figL : List Nat → List Nat
  | 45 :: r => r
  | l => l
theorem tl_minus : TL.tl ("-" : Str) = [45] := by decide +kernel
theorem len_minus : ("-" : Str).length = 1 := by decide +kernel
theorem tl_affix {x : Str} {lo hi : Nat} : TL.tl (Txt.affix x (some (lo, hi))) = (if hi - lo == x.length then TL.tl x else ((TL.tl x).take hi).drop lo) := by
  show TL.tl (if hi - lo == x.length then x else Builtin.Str.strSub x lo hi) = _
  split
  · rfl
  · show (x.cps.extract lo hi).toList = _
    rw [Array.toList_extract]
    unfold List.extract
    rw [List.drop_take]
theorem tl_rem (x : Str) : TL.tl (Txt.removeprefix x "-") = figL (TL.tl x) := by
  unfold Txt.removeprefix
  rw [StrLaws.subAt_eq]
  have hl : ("-" : Str).length = 1 := by decide +kernel
  have ht : ("-" : Str).cps.toList = [45] := by decide +kernel
  rw [hl, ht]
  have hx : x.length = (TL.tl x).length := TL.len_tl x
  have e0 : x.cps.toList = TL.tl x := rfl
  rw [e0]
  cases e : TL.tl x with
  | nil =>
    show TL.tl (Txt.affix x none) = _
    exact e
  | cons c r =>
    by_cases hc : c = 45
    · subst hc
      show TL.tl (Txt.affix x (some (1, x.length))) = r
      rw [tl_affix, e, hx, e, List.length_cons]
      have : (r.length + 1 - 1 == r.length + 1) = false := by simp
      rw [this]
      simp
    · have e3 : (((c :: r).drop 0).take 1 == [45]) = false := by simp [hc]
      rw [e3]
      show TL.tl (Txt.affix x none) = _
      show TL.tl x = _
      rw [e]
      unfold figL
      split
      · rename_i h
        injection h with h1 _
        exact absurd h1 hc
      · rfl
def digB (l : List Nat) : Bool := l.all fun c => decide (48 ≤ c ∧ c ≤ 57)
theorem digB_iff {l : List Nat} : digB l = true ↔ NumText.AllDigits l := by
  unfold digB
  rw [List.all_eq_true]
  constructor
  · intro h c hc
    exact of_decide_eq_true (h c hc)
  · intro h c hc
    exact decide_eq_true (h c hc)
theorem digits_lt : ∀ (l : List Nat) (a : Nat), NumText.AllDigits l → l.foldl (fun acc c => acc * 10 + (c - 48)) a < (a + 1) * 10 ^ l.length
  | [], a, _ => by simp
  | c :: r, a, h => by
    rw [List.foldl_cons]
    have ih := digits_lt r (a * 10 + (c - 48)) h.tail
    have hc := h.head
    refine Nat.lt_of_lt_of_le ih ?_
    rw [List.length_cons, Nat.pow_succ, Nat.mul_comm (10 ^ r.length) 10, ← Nat.mul_assoc]
    exact Nat.mul_le_mul_right _ (by omega)
theorem digitsVal_lt {l : List Nat} {k : Nat} (h : NumText.AllDigits l) (hl : l.length ≤ k) : NumText.digitsVal l < 10 ^ k := by
  have := digits_lt l 0 h
  rw [Nat.zero_add, Nat.one_mul] at this
  exact Nat.lt_of_lt_of_le this (Nat.pow_le_pow_right (by decide) hl)
/-- a good look: it reads as a number of at most sixty figures -/
theorem fig_read {x : Str} (h1 : 1 ≤ (figL (TL.tl x)).length) (h2 : (figL (TL.tl x)).length ≤ 60) (h3 : digB (figL (TL.tl x)) = true) : ∃ n, intText? x = some n ∧ Wh n ∧ x.length ≤ 61 := by
  have hd := digB_iff.mp h3
  have hx : x.length = (TL.tl x).length := TL.len_tl x
  have hv := digitsVal_lt hd h2
  by_cases hc : ∃ r, TL.tl x = 45 :: r
  · obtain ⟨r, e⟩ := hc
    rw [e] at hd h1 h2 hv hx
    have hne : r ≠ [] := fun z => by rw [z] at h1; exact absurd h1 (by decide)
    have hd : NumText.AllDigits r := hd
    have h2 : r.length ≤ 60 := h2
    have hv : NumText.digitsVal r < 10 ^ 60 := hv
    rw [List.length_cons] at hx
    exact ⟨_, intText_neg (x := x) e hd hne (by omega), by show (-((NumText.digitsVal r : Nat) : Int)).natAbs < 10 ^ 60; rw [Int.natAbs_neg]; exact hv, by omega⟩
  · have e : figL (TL.tl x) = TL.tl x := by
      unfold figL
      split
      · rename_i r h
        exact absurd ⟨r, h⟩ hc
      · rfl
    rw [e] at hd h1 h2 hv
    exact ⟨_, intText_digits (x := x) hd (fun z => by have z : TL.tl x = [] := z; rw [z] at h1; exact absurd h1 (by decide)) (by omega), hv, by omega⟩
/-- the writing of a number passes the look -/
theorem fig_num {i : Int} (h : Wh i) : 1 ≤ (figL (TL.tl (numT i))).length ∧ (figL (TL.tl (numT i))).length ≤ 60 ∧ digB (figL (TL.tl (numT i))) = true := by
  have h : i.natAbs < 10 ^ 60 := h
  rcases tl_cases i with ⟨n, e1, e⟩ | ⟨m, e1, e⟩
  · have ef : figL (TL.numL n) = TL.numL n := by
      unfold figL
      split
      · rename_i r z
        have := TL.numL_digits n 45 (by rw [z]; exact List.mem_cons_self ..)
        omega
      · rfl
    rw [e, ef]
    exact ⟨numL_pos n, TL.numL_len (by decide) (by rw [e1] at h; simpa using h), digB_iff.mpr (TL.numL_digits n)⟩
  · rw [e]
    exact ⟨numL_pos _, TL.numL_len (by decide) (by rw [e1, Int.natAbs_neg, Int.natAbs_natCast] at h; exact h), digB_iff.mpr (TL.numL_digits _)⟩
end Kd

namespace KdRp
open PySem PySem.Spec PyProof.Rows L2
section
variable {prog : Program} {w : World}
/-- what repr makes of x in this heap is some text of at most L signs -/
def RepW (prog : Program) (w : World) (h : Heap) (d : Nat) (x : Value) (L : Nat) : Prop :=
  ∀ (A : Around) (s : Shared), A.units + d < cLine → s.heap = h → ∀ b, b + L ≤ sizeLine → ∀ (E : Value → Shared → Prop) (Q : Str → Shared → Prop), (∀ t tk, t.length ≤ L → Q t { s with toks := tk }) → wpAny (model prog w) A (pyReprUnder b x) Q E s
theorem RepW.flat {h : Heap} {d L : Nat} {x : Value} {t : Str} (r : ReprIs prog w x t) (hl : t.length ≤ L) : RepW prog w h d x L := fun A s _ _ b hb E Q q => r b (by omega) A E s Q fun tk => q t tk hl
theorem fold_w {h : Heap} {d L : Nat} {A : Around} {E : Value → Shared → Prop} (hu : A.units + d < cLine) : ∀ (l : List Value) (acc : Array Str) (n : Nat) (s : Shared) (Q : (Array Str × Nat) → Shared → Prop), s.heap = h → (∀ x ∈ l, RepW prog w h d x L) → n + 1 + (L + 2) * l.length ≤ sizeLine →
    (∀ (ts : List Str) (m : Nat) (tk : Nat), ts.length = l.length → (∀ t ∈ ts, t.length ≤ L) → Q ⟨acc ++ ts.toArray, m⟩ { s with toks := tk }) → wpAny (model prog w) A (forIn l (⟨acc, n⟩ : (Array Str × Nat)) tupBody) Q E s := by
  intro l
  induction l with
  | nil =>
    intro acc n s Q _ _ _ q
    have q0 := q [] n s.toks rfl (fun _ z => (nomatch z))
    simp only [List.forIn_nil]
    exact wpAny_pure (by simpa using q0)
  | cons x l ih =>
    intro acc n s Q hs hx hn q
    rw [List.length_cons, Nat.mul_succ] at hn
    rw [List.forIn_cons]
    refine wpAny_bind (wpAny_bind (hx x (List.mem_cons_self ..) A s hu hs (n + 1) (by omega) E _ fun t tk ht => wpAny_pure ?_))
    refine ih (acc.push t) (n + (t.length + 2)) { s with toks := tk } Q hs (fun y hy => hx y (List.mem_cons_of_mem _ hy)) (by omega) fun ts m tk' hl hts => ?_
    have q1 := q (t :: ts) m tk' (by rw [List.length_cons, hl, List.length_cons]) fun y hy => by
      rcases List.mem_cons.mp hy with rfl | hy
      · exact ht
      · exact hts y hy
    simpa using q1
theorem piled_of : ∀ (ts : List Str) {L : Nat}, (∀ t ∈ ts, t.length ≤ L) → piled ts ≤ (L + 2) * ts.length
  | [], _, _ => Nat.zero_le _
  | t :: ts, L, h => by
    have ih := piled_of ts fun y hy => h y (List.mem_cons_of_mem _ hy)
    have h1 := h t (List.mem_cons_self ..)
    rw [piled_cons, List.length_cons, Nat.mul_succ]
    omega
theorem join_le (ts : List Str) {L : Nat} (h : ∀ t ∈ ts, t.length ≤ L) : (Str.join ", " ts).length ≤ (L + 2) * ts.length := by
  have p := piled_of ts h
  cases ts with
  | nil => show (Str.join ", " []).length ≤ _; exact Nat.zero_le _
  | cons t ts =>
    have e := join_length_add (t :: ts) (by simp)
    omega
/-- a tuple's signs -/
abbrev tupL (L n : Nat) : Nat := (L + 2) * n + 8
theorem at_w {h : Heap} {d L b : Nat} {A : Around} {E : Value → Shared → Prop} {s : Shared} {a : Addr} {o : Obj} {items : Array Value} {n : Nat} {Q : Fin → Shared → Prop} (hu : A.units + d < cLine) (hs : s.heap = h) (ha : h.get? a = some o) (hd : o.data = .seq items n)
    (hx : ∀ x ∈ items.toList, RepW prog w h d x L) (hb : b + tupL L items.size ≤ sizeLine) (q : ∀ m u tk, m.length ≤ tupL L items.size → Q (.done (.ret (.str m u))) { s with toks := tk }) : wpAny (model prog w) A (Builtin.tupleReprAt b ⟨[.ref a], []⟩) Q E s := by
  have hb' : b + ((L + 2) * items.size + 8) ≤ sizeLine := hb
  rw [tuple_repr_tree]
  refine wpAny_bind (fmt_underWay fun c => ?_)
  cases c with
  | true =>
    refine PySem.W.KFB.if_so rfl ?_
    refine wpAny_bind (wpAny_rule ?_)
    refine wpAny_bind (wpAny_mkStr (wpAny_pure ?_) (by decide +kernel))
    exact q "(...)" _ _ (Nat.le_trans fmt_way (by show 5 ≤ (L + 2) * items.size + 8; omega))
  | false =>
    refine PySem.W.KFB.if_not rfl ?_
    unfold tupleReprRest Builtin.Tuple.tupleItemsOf
    refine wpAny_bind (wpAny_bind (wpAny_seqItems (by rw [hs]; exact ha) hd (wpAny_pure ?_)))
    rw [← Array.forIn_toList]
    have el : items.toList.length = items.size := Array.length_toList
    refine wpAny_bind (fold_w hu _ _ _ _ _ hs hx (by rw [el]; omega) fun ts m tk hl hts => ?_)
    have hj := join_le ts hts
    rw [hl, el] at hj
    have e1 : ((("(" : String) : Str)).length = 1 := rfl
    have e3 : (((if items.size == 1 then ",)" else ")" : String) : Str)).length ≤ 2 := by split <;> decide +kernel
    have e4 : (#[] ++ ts.toArray).toList = ts := by simp
    have hm : ((("(" : Str) ++ Str.join ", " ts ++ ((if items.size == 1 then ",)" else ")" : String) : Str)) : Str).length ≤ tupL L items.size := by
      rw [strLen_append, strLen_append, e1]
      show _ ≤ (L + 2) * items.size + 8
      omega
    have hz := Nat.le_trans hm (Nat.le_trans (Nat.le_add_left _ b) hb)
    refine wpAny_bind (wpAny_mkStr (wpAny_pure ?_) (by simpa using hz))
    have q1 := q _ tk (tk + 1) hm
    simpa using q1
/-- a tuple within -/
theorem RepW.tup {h : Heap} {d L : Nat} {a : Addr} {o : Obj} {items : Array Value} {n : Nat} (ha : h.get? a = some o) (hc : o.cls = .type "tuple") (hd : o.data = .seq items n) (hx : ∀ x ∈ items.toList, RepW prog w h d x L) : RepW prog w h (d + 2) (.ref a) (tupL L items.size) := by
  intro A s hu hs b hb E Q q
  have hT : s.TypeIs (.ref a) "tuple" := ⟨o, by rw [hs]; exact ha, hc⟩
  refine wpAny_pyReprUnder_ref (by omega) (wpAny_pyReprObjUnder_twin (twin := "tuple.__repr__.under") hT F.slot_tuple_repr rfl (by omega) ?_)
  refine call_twin_own (F.quiet_tuple_repr_under _) F.entry_tuple_repr_under F.check_tuple_repr_under hT F.slot_tuple_repr (F.args_tuple_repr_1 _) (wpOwn_of_wpAny ?_)
  refine at_w (by rw [units_under_tuple_repr_under]; omega) hs ha hd hx hb fun m u tk hm => ?_
  exact ⟨⟨m, u, rfl⟩, m, u, rfl, q m tk hm⟩
/-- repr(t) -/
theorem repr_w {h : Heap} {d L : Nat} {A : Around} {E : Value → Shared → Prop} {s : Shared} {a : Addr} {o : Obj} {items : Array Value} {n : Nat} {Q : Value → Shared → Prop} (hu : A.units + (d + 8) < cLine) (hs : s.heap = h) (ha : h.get? a = some o) (hc : o.cls = .type "tuple") (hd : o.data = .seq items n)
    (hx : ∀ x ∈ items.toList, RepW prog w h d x L) (hb : tupL L items.size ≤ sizeLine) (q : ∀ (m : Str) (u tk : Tok), Q (.str m u) { s with toks := tk }) : wpAny (model prog w) A (call (.builtin "repr") [.ref a]) Q E s := by
  have hT : s.TypeIs (.ref a) "tuple" := ⟨o, by rw [hs]; exact ha, hc⟩
  refine call_repr_slot (by omega) hT F.slot_tuple_repr ?_
  refine wpAny_call (codeAny_call_builtin_own (Code.quiet_builtin _ (by decide +kernel)) F.entry_tuple_repr (F.slot_tuple_repr.check _ _ _ _ _ _ _ _ hT (F.args_tuple_repr_1 _) (wpOwn_of_wpAny ?_)))
  refine at_w (b := 0) (by
    have e : A.in1.units ≤ A.units + 1 := by first | exact Nat.le_refl _ | (simp [Around.in1])
    rw [units_under_tuple_repr]
    omega) hs ha hd hx (by omega) fun m u tk _ => ?_
  exact ⟨m, u, rfl, q m u tk⟩
end
/-! ### repr of what a refusal keeps -/
theorem RepW.mono {prog : Program} {w : World} {h : Heap} {d d' L L' : Nat} {x : Value} (r : RepW prog w h d x L) (hd : d ≤ d') (hl : L ≤ L') : RepW prog w h d' x L' :=
  fun A s hu hs b hb E Q q => r A s (by omega) hs b (by omega) E Q fun t tk ht => q t tk (by omega)
/-- a value without parts, of a few signs -/
def FlatS : V → Prop
  | .str z => (∀ c ∈ z.cps.toList, c < 16 ^ 8) ∧ z.length ≤ 100
  | .int i => i.natAbs.log2 < 1920
  | .non => True
  | _ => False
theorem flat_w {prog : Program} {w : World} {h : Heap} {v : V} {u : Value} (r : RelV v u) (f : FlatS v) : RepW prog w h 0 u 2000 := by
  cases v with
  | str z =>
    obtain ⟨t, rfl⟩ := r
    have := StrLaws.reprText_len z f.1
    have f2 := f.2
    have hl : (reprText z).length ≤ 2000 := by omega
    exact .flat (ReprIs.str z t (Nat.le_trans hl (by decide))) hl
  | int i =>
    obtain ⟨t, rfl⟩ := r
    exact .flat (ReprIs.int t f) (Nat.le_trans (int_text_len_1921 f) (by decide))
  | non =>
    cases r
    exact .flat ReprIs.none (by decide +kernel)
  | _ => exact f.elim
theorem flats_w {prog : Program} {w : World} {h : Heap} : ∀ {ys : List V} {us : List Value}, Vals ys us → (∀ y ∈ ys, FlatS y) → ∀ u ∈ us, RepW prog w h 0 u 2000
  | [], _, r, _, u, hu => by
    cases r
    cases hu
  | y :: ys, _, r, hy, u, hu => by
    cases r with
    | cons r1 r2 =>
      rcases List.mem_cons.mp hu with rfl | hu
      · exact flat_w r1 (hy y (List.mem_cons_self ..))
      · exact flats_w r2 (fun z hz => hy z (List.mem_cons_of_mem _ hz)) u hu
/-- a tuple of such -/
def Tup1 (K : PySem.W.Frag) (H : Hp) (y : V) : Prop := ∃ (b : Addr) (zs : List V), y = .ref b ∧ SqT K H b zs ∧ zs.length ≤ 40 ∧ ∀ z ∈ zs, FlatS z
def Rep2 (K : PySem.W.Frag) (x : V) (H : Hp) : Prop := (∃ z : Str, x = .str z ∧ KdEx.Flat1 (.str z)) ∨ (∃ i : Int, x = .int i ∧ i.natAbs.log2 < 1920) ∨ x = .non ∨ ∃ (a : Addr) (ys : List V), x = .ref a ∧ SqT K H a ys ∧ ys.length ≤ 40 ∧ ∀ y ∈ ys, FlatS y ∨ Tup1 K H y
section
variable {X : Cx} {pins : List (Addr × Obj)} {σ : L2.St} {H : Hp} {s : Shared}
theorem parts_w (I : Inv X pins σ H s) : ∀ {ys : List V} {us : List Value}, Vals ys us → (∀ y ∈ ys, FlatS y ∨ Tup1 X.K H y) → ∀ u ∈ us, RepW X.prog X.w s.heap 2 u 80100
  | [], _, r, _, u, hu => by
    cases r
    cases hu
  | y :: ys, _, r, hy, u, hu => by
    cases r with
    | cons r1 r2 =>
      rcases List.mem_cons.mp hu with rfl | hu
      · rcases hy y (List.mem_cons_self ..) with f | ⟨b, zs, rfl, hb, hl, hz⟩
        · exact (flat_w r1 f).mono (by decide) (by decide)
        · cases r1
          obtain ⟨its, rv, ⟨o, ho, hcl, n, hd⟩, _⟩ := I.tuple hb
          have el : its.toArray.size = zs.length := by rw [List.size_toArray, ← rv.length]
          refine RepW.mono (RepW.tup (d := 0) (L := 2000) ho hcl hd (by simpa using flats_w rv hz)) (by decide) ?_
          show (2000 + 2) * its.toArray.size + 8 ≤ 80100
          rw [el]
          omega
      · exact parts_w I r2 (fun z hz => hy z (List.mem_cons_of_mem _ hz)) u hu
def rRep2 (K : PySem.W.Frag) : List V → Hp → VK → Prop := fun xs H Q => ∃ x, xs = [x] ∧ Rep2 K x H ∧ ∀ m : Str, Q (.str m) H
theorem cr_rep2 (hu : X.A.units + 64 < cLine) : CallR X (.builtin "repr") (rRep2 X.K) := by
  intro pins s σ H xs us Q I r h
  obtain ⟨x, rfl, hx, q⟩ := h
  obtain ⟨u, rfl, rx⟩ := vals1 r
  rcases hx with ⟨z, rfl, hz⟩ | ⟨i, rfl, hi⟩ | rfl | ⟨a, ys, rfl, ht, hl, hy⟩
  · obtain ⟨t, rfl⟩ := rx
    exact PySem.P.repr_of_str ⟨.str _, H, I.tok _, ⟨_, rfl⟩, q _⟩ (Nat.le_trans (KdEx.flat_len (v := .str z) hz) (by decide))
  · obtain ⟨t, rfl⟩ := rx
    exact PySem.P.repr_of_int hi ⟨.str _, H, I.tok _, ⟨_, rfl⟩, q _⟩
  · cases rx
    exact PySem.P.repr_of_none ⟨.str _, H, I.tok _, ⟨_, rfl⟩, q _⟩
  · cases rx
    obtain ⟨its, rv, ⟨o, ho, hcl, n, hd⟩, _⟩ := I.tuple ht
    have el : its.toArray.size = ys.length := by rw [List.size_toArray, ← rv.length]
    refine repr_w (d := 2) (L := 80100) (by omega) rfl ho hcl hd (by simpa using parts_w I rv hy) (Nat.le_trans (show (80100 + 2) * its.toArray.size + 8 ≤ 4000000 by rw [el]; omega) (by decide)) fun m u tk => ⟨.str m, H, I.tok _, ⟨u, rfl⟩, q m⟩
end
end KdRp

namespace Kd
open PySem PySem.Spec PyProof.Rows L2
/-! ### kinds -/
/-- a value as the laws draw it -/
inductive Fv where
  | i (z : Int)
  | s (z : Str)
  deriving DecidableEq
def Fv.v : Fv → V
  | .i z => .int z
  | .s z => .str z
def Fv.d : Fv → PyData
  | .i z => .int z
  | .s z => .str z
theorem Fv.v_inj {a b : Fv} (h : a.v = b.v) : a = b := by
  cases a <;> cases b <;> simp [Fv.v] at h <;> rw [h]
theorem Fv.scal (a b : Fv) : L2.scal a.v b.v = true := by
  cases a <;> cases b <;> rfl
theorem Fv.ne (a b : Fv) : (!decide (a.v = b.v)) = !decide (a = b) := by
  by_cases h : a = b
  · rw [h]
    simp
  · have h2 : ¬ a.v = b.v := fun q => h (Fv.v_inj q)
    rw [decide_eq_false h, decide_eq_false h2]
theorem Fv.flat (a : Fv) : flatV a.v = true := by cases a <;> rfl
abbrev Kind := Int × List Fv
section
variable {P : Program} {w : World} {K : PySem.W.Frag} {mg : Str → Option Value} {base : Heap} {f : Addr} {fd : FuncData}
theorem Fv.dp {H : Hp} (a : Fv) : Dp K H a.v a.d := by
  cases a
  · exact .int _
  · exact .str _
def KindAt (K : PySem.W.Frag) (H : Hp) (x : V) (k : Kind) : Prop := ∃ p q, x = .ref p ∧ SqT K H p [.int k.1, .ref q] ∧ SqT K H q (k.2.map Fv.v)
theorem KindAt.same {H H' : Hp} {x : V} {k : Kind} (e : Same H H') : KindAt K H x k → KindAt K H' x k := fun ⟨p, q, h1, h2, h3⟩ => ⟨p, q, h1, Same.seqT e h2, Same.seqT e h3⟩
def KindsAt (K : PySem.W.Frag) (H : Hp) (l : Addr) (ks : List Kind) : Prop := ∃ xs, SqL K H l xs ∧ Paired (KindAt K H) xs ks
theorem KindsAt.same {H H' : Hp} {l : Addr} {ks : List Kind} (e : Same H H') : KindsAt K H l ks → KindsAt K H' l ks := fun ⟨xs, h1, h2⟩ => ⟨xs, e.seq h1, PySem.Paired.mono (fun _ _ => KindAt.same e) h2⟩
theorem map_at {α β : Type} {g : α → β} {l : List α} {i : Nat} (h : i < l.length) : (l.map g)[i]? = some (g l[i]) := by rw [List.getElem?_map, List.getElem?_eq_getElem h]; rfl
end
/-! ### rows -/
inductive Rw where
  | kind (d key : Str) (day : Int) (vals : List Fv)
  | fact (name : Str) (day : Int) (keys : List Str) (nums : List Int)
  | forget (name : Str)
def Rw.at (K : PySem.W.Frag) (H : Hp) (p : Addr) : Rw → Prop
  | .kind d key day vals => ∃ q, SqT K H p [.str "kind", .str d, .str key, .int day, .ref q] ∧ SqT K H q (vals.map Fv.v)
  | .fact name day keys nums => ∃ q1 q2, SqT K H p [.str "fact", .str name, .int day, .ref q1, .ref q2] ∧ SqT K H q1 (keys.map V.str) ∧ SqT K H q2 (nums.map V.int)
  | .forget name => SqT K H p [.str "forget", .str name]
theorem Rw.same {K : PySem.W.Frag} {H H' : Hp} {p : Addr} (e : Same H H') : ∀ {r : Rw}, r.at K H p → r.at K H' p
  | .kind .., ⟨q, h1, h2⟩ => ⟨q, Same.seqT e h1, Same.seqT e h2⟩
  | .fact .., ⟨q1, q2, h1, h2, h3⟩ => ⟨q1, q2, Same.seqT e h1, Same.seqT e h2, Same.seqT e h3⟩
  | .forget .., h => Same.seqT e h
/-- a short text of letters and figures, and more -/
structure Tx (z : Str) : Prop where
  le : z.length ≤ 14
  ok : ∀ c ∈ z.cps.toList, c < 128
def Nu (i : Int) : Prop := i.natAbs < 2 ^ 210
def Fv.ok : Fv → Prop
  | .i z => Nu z
  | .s z => Tx z
def Rw.ok : Rw → Prop
  | .kind d key day vals => Tx d ∧ Tx key ∧ Nu day ∧ vals.length ≤ 10 ∧ ∀ v ∈ vals, v.ok
  | .fact name day keys nums => Tx name ∧ Nu day ∧ (keys.length ≤ 10 ∧ ∀ z ∈ keys, Tx z) ∧ nums.length ≤ 10 ∧ ∀ i ∈ nums, Nu i
  | .forget name => Tx name
theorem IsNm.tx {z : Str} (h : IsNm z) : Tx z := ⟨by have := h.le8; omega, fun c hc => by have := h.low c hc; omega⟩
theorem Tx.sok {z : Str} (h : Tx z) : PyData.strOk z = true := by
  unfold PyData.strOk
  rw [Array.all_eq_true']
  intro c hc
  have := h.ok c (Array.mem_toList_iff.mpr hc)
  exact decide_eq_true (by omega)
theorem Tx.flat {z : Str} (h : Tx z) : KdRp.FlatS (.str z) := ⟨fun c hc => Nat.lt_of_lt_of_le (h.ok c hc) (by decide), by have := h.le; omega⟩
theorem Nu.flat {i : Int} (h : Nu i) : KdRp.FlatS (.int i) := by
  show i.natAbs.log2 < 1920
  by_cases z : i.natAbs = 0
  · rw [z]
    decide
  · exact Nat.lt_trans ((Nat.log2_lt z).mpr h) (by decide)
theorem Fv.ok.flat : ∀ {v : Fv}, v.ok → KdRp.FlatS v.v
  | .i _, h => Nu.flat h
  | .s _, h => Tx.flat h
theorem tx_kind : Tx ("kind" : Str) := ⟨by decide +kernel, by decide +kernel⟩
theorem tx_fact : Tx ("fact" : Str) := ⟨by decide +kernel, by decide +kernel⟩
theorem tx_forget : Tx ("forget" : Str) := ⟨by decide +kernel, by decide +kernel⟩
/-- repr of a row is some text -/
theorem Rw.rep {K : PySem.W.Frag} {H : Hp} {p : Addr} : ∀ {r : Rw}, r.at K H p → r.ok → KdRp.Rep2 K (.ref p) H
  | .kind d key day vals, ⟨q, h1, h2⟩, ⟨o1, o2, o3, o4, o5⟩ => .inr (.inr (.inr ⟨p, _, rfl, h1, by show 5 ≤ 40; decide, fun y hy => by
      simp only [List.mem_cons, List.not_mem_nil, or_false] at hy
      rcases hy with rfl | rfl | rfl | rfl | rfl
      · exact .inl tx_kind.flat
      · exact .inl o1.flat
      · exact .inl o2.flat
      · exact .inl o3.flat
      · exact .inr ⟨q, _, rfl, h2, by rw [List.length_map]; omega, fun z hz => by
          obtain ⟨v, hv, rfl⟩ := List.mem_map.mp hz
          exact (o5 v hv).flat⟩⟩))
  | .fact name day keys nums, ⟨q1, q2, h1, h2, h3⟩, ⟨o1, o2, ⟨o3, o4⟩, o5, o6⟩ => .inr (.inr (.inr ⟨p, _, rfl, h1, by show 5 ≤ 40; decide, fun y hy => by
      simp only [List.mem_cons, List.not_mem_nil, or_false] at hy
      rcases hy with rfl | rfl | rfl | rfl | rfl
      · exact .inl tx_fact.flat
      · exact .inl o1.flat
      · exact .inl o2.flat
      · exact .inr ⟨q1, _, rfl, h2, by rw [List.length_map]; omega, fun z hz => by
          obtain ⟨v, hv, rfl⟩ := List.mem_map.mp hz
          exact (o4 v hv).flat⟩
      · exact .inr ⟨q2, _, rfl, h3, by rw [List.length_map]; omega, fun z hz => by
          obtain ⟨v, hv, rfl⟩ := List.mem_map.mp hz
          exact (o6 v hv).flat⟩⟩))
  | .forget name, h1, o1 => .inr (.inr (.inr ⟨p, _, rfl, h1, by show 2 ≤ 40; decide, fun y hy => by
      simp only [List.mem_cons, List.not_mem_nil, or_false] at hy
      rcases hy with rfl | rfl
      · exact .inl tx_forget.flat
      · exact .inl (Tx.flat o1)⟩))
/-- a small letter or a figure -/
def KeyC (c : Nat) : Prop := (97 ≤ c ∧ c ≤ 122) ∨ (48 ≤ c ∧ c ≤ 57)
structure Ky (z : Str) : Prop where
  ok : ∀ c ∈ z.cps.toList, KeyC c
  ge : 1 ≤ z.length
  le : z.length ≤ 12
theorem Ky.tx {z : Str} (h : Ky z) : Tx z := ⟨by have := h.le; omega, fun c hc => by rcases h.ok c hc with q | q <;> omega⟩
theorem Wh.nu {i : Int} (h : Wh i) : Nu i := Nat.lt_of_lt_of_le h (by decide)
def Fv.good : Fv → Prop
  | .i z => Wh z
  | .s z => Ky z
theorem Fv.good.ok : ∀ {v : Fv}, v.good → v.ok
  | .i _, h => Wh.nu h
  | .s _, h => Ky.tx h
abbrev figs : Str := "abcdefghijklmnopqrstuvwxyz0123456789"
theorem figs_len : figs.length = 36 := by decide +kernel
theorem figs_at {i : Nat} (h : i < 36) : ∃ c, figs.cps.toList[i]? = some c ∧ KeyC c := by
  have hl : i < figs.cps.toList.length := by
    have e : figs.cps.toList.length = 36 := by decide +kernel
    rw [e]
    exact h
  refine ⟨figs.cps.toList[i], List.getElem?_eq_getElem hl, ?_⟩
  have hall : figs.cps.toList.all (fun c => decide ((97 ≤ c ∧ c ≤ 122) ∨ (48 ≤ c ∧ c ≤ 57))) = true := by decide +kernel
  have := of_decide_eq_true (List.all_eq_true.mp hall _ (List.getElem_mem hl))
  exact this
def wordsK : List Str := [("a" : Str), ("b" : Str), ("ab" : Str), ("a1" : Str), ("1" : Str), ("01" : Str), ("x9" : Str), ("abcdefghijkl" : Str), ("abcdefghijkm" : Str)]
theorem wordsK_at {j : Nat} (h : j < 9) : ∃ z, (wordsK.map V.str)[j]? = some (.str z) ∧ Ky z := by
  have hl : j < wordsK.length := h
  refine ⟨wordsK[j], by rw [List.getElem?_map, List.getElem?_eq_getElem hl]; rfl, ?_⟩
  have hall : wordsK.all (fun z => (z.cps.toList.all fun c => decide ((97 ≤ c ∧ c ≤ 122) ∨ (48 ≤ c ∧ c ≤ 57))) && (decide (1 ≤ z.length) && decide (z.length ≤ 12))) = true := by decide +kernel
  obtain ⟨h1, h2⟩ := Bool.and_eq_true_iff.mp (List.all_eq_true.mp hall _ (List.getElem_mem hl))
  obtain ⟨h2, h3⟩ := Bool.and_eq_true_iff.mp h2
  exact ⟨fun c hc => by
    have := of_decide_eq_true (List.all_eq_true.mp h1 c hc)
    exact this, of_decide_eq_true h2, of_decide_eq_true h3⟩
/-- a row of a plan of these lists -/
def Rw.good (ds : List Dm) (ms : List Str) : Rw → Prop
  | .kind d key day vals => (∃ e ∈ ds, d = e.1 ∧ vals.length = e.2.length) ∧ Ky key ∧ Wh day ∧ ∀ v ∈ vals, v.good
  | .fact name day keys nums => Ky name ∧ Wh day ∧ (keys.length = ds.length ∧ ∀ z ∈ keys, Ky z) ∧ nums.length = ms.length ∧ ∀ i ∈ nums, Wh i
  | .forget name => Ky name

/-! ### the writing of rows, as a mirror -/
def valT : Fv → Str
  | .i z => numT z
  | .s z => ("'" : Str) ++ z ++ ("'" : Str)
def rwW : Rw → List Str
  | .kind d key day vals => [("kind" : Str), d, key, numT day] ++ vals.map valT
  | .fact name day keys nums => [("fact" : Str), name, numT day] ++ keys ++ nums.map numT
  | .forget name => [("forget" : Str), name]
def rwT (r : Rw) : Str := Txt.join " " (rwW r)
def rowsT (rs : List Rw) : Str := if rs.isEmpty = true then ("-" : Str) else Txt.join "; " (rs.map rwT)
theorem tl_apo : TL.tl ("'" : Str) = [39] := by decide +kernel
theorem len_apo : ("'" : Str).length = 1 := by decide +kernel
theorem tl_quo (z : Str) : TL.tl (("'" : Str) ++ z ++ ("'" : Str)) = 39 :: (TL.tl z ++ [39]) := by
  rw [TL.tl_append, TL.tl_append, tl_apo]
  rfl
theorem Ky.free {z : Str} (h : Ky z) {c : Nat} (hc : c < 48 ∨ (57 < c ∧ c < 97) ∨ 122 < c) : c ∉ TL.tl z := fun q => by
  rcases h.ok c q with e | e <;> omega
theorem val_free {v : Fv} (h : v.good) {c : Nat} (hc : c = 32 ∨ c = 59) : c ∉ TL.tl (valT v) := by
  cases v with
  | i z => exact num_free (by omega) (by omega)
  | s z =>
    intro q
    rw [show valT (.s z) = ("'" : Str) ++ z ++ ("'" : Str) from rfl, tl_quo] at q
    rcases List.mem_cons.mp q with q | q
    · omega
    · rcases List.mem_append.mp q with q | q
      · exact Ky.free h (by omega) q
      · rw [List.mem_singleton.mp q] at hc
        omega
theorem word_free {z : Str} (h : z = "kind" ∨ z = "fact" ∨ z = "forget") {c : Nat} (hc : c = 32 ∨ c = 59) : c ∉ TL.tl z := by
  rcases h with rfl | rfl | rfl <;> rcases hc with rfl | rfl <;> decide +kernel
/-- a row of good parts, whatever the plan -/
def Rw.fine : Rw → Prop
  | .kind d key day vals => IsNm d ∧ Ky key ∧ Wh day ∧ vals.length ≤ 5 ∧ ∀ v ∈ vals, v.good
  | .fact name day keys nums => Ky name ∧ Wh day ∧ (keys.length ≤ 4 ∧ ∀ z ∈ keys, Ky z) ∧ nums.length ≤ 4 ∧ ∀ i ∈ nums, Wh i
  | .forget name => Ky name
theorem rwW_free {r : Rw} (h : r.fine) {c : Nat} (hc : c = 32 ∨ c = 59) : ∀ p ∈ rwW r, c ∉ TL.tl p := fun p hp => by
  cases r with
  | kind d key day vals =>
    obtain ⟨h1, h2, h3, _, h4⟩ := h
    rcases List.mem_append.mp (show p ∈ [("kind" : Str), d, key, numT day] ++ vals.map valT from hp) with hp | hp
    · simp only [List.mem_cons, List.not_mem_nil, or_false] at hp
      rcases hp with rfl | rfl | rfl | rfl
      · exact word_free (.inl rfl) hc
      · exact h1.low.free (by omega)
      · exact h2.free (by omega)
      · exact num_free (by omega) (by omega)
    · obtain ⟨v, hv, rfl⟩ := List.mem_map.mp hp
      exact val_free (h4 v hv) hc
  | fact name day keys nums =>
    obtain ⟨h1, h2, ⟨_, h3⟩, _, h4⟩ := h
    rcases List.mem_append.mp (show p ∈ [("fact" : Str), name, numT day] ++ keys ++ nums.map numT from hp) with hp | hp
    · rcases List.mem_append.mp hp with hp | hp
      · simp only [List.mem_cons, List.not_mem_nil, or_false] at hp
        rcases hp with rfl | rfl | rfl
        · exact word_free (.inr (.inl rfl)) hc
        · exact h1.free (by omega)
        · exact num_free (by omega) (by omega)
      · exact (h3 p hp).free (by omega)
    · obtain ⟨v, hv, rfl⟩ := List.mem_map.mp hp
      exact num_free (by omega) (by omega)
  | forget name =>
    rcases List.mem_cons.mp (show p ∈ [("forget" : Str), name] from hp) with rfl | hp
    · exact word_free (.inr (.inr rfl)) hc
    · rw [List.mem_singleton.mp hp]
      exact Ky.free h (by omega)
theorem rwW_ne (r : Rw) : rwW r ≠ [] := by cases r <;> simp [rwW]
theorem split_row {r : Rw} (h : r.fine) : Txt.split (rwT r) " " = rwW r := TL.split_join tl_blank (by decide +kernel) (rwW_ne r) (rwW_free h (.inl rfl))
theorem rwT_free {r : Rw} (h : r.fine) : 59 ∉ TL.tl (rwT r) := free_join (by rw [tl_blank]; decide) (rwW_free h (.inr rfl))
theorem split_rows {rs : List Rw} (hn : rs ≠ []) (h : ∀ r ∈ rs, r.fine) : Txt.split (rowsT rs) "; " = rs.map rwT := by
  have e : rowsT rs = Txt.join "; " (rs.map rwT) := by
    unfold rowsT
    rw [if_neg (by simpa using hn)]
  rw [e]
  refine TL.split_join tl_semi (by decide +kernel) (by simpa using hn) fun p hp => ?_
  obtain ⟨r, hr, rfl⟩ := List.mem_map.mp hp
  exact rwT_free (h r hr)
theorem val_len {v : Fv} (h : v.good) : (valT v).length ≤ 61 := by
  cases v with
  | i z => exact num_len h
  | s z =>
    show (("'" : Str) ++ z ++ ("'" : Str)).length ≤ 61
    rw [len_append, len_append, len_apo]
    have := Ky.le h
    omega
theorem rwW_len {r : Rw} (h : r.fine) : ∀ p ∈ rwW r, p.length ≤ 61 := fun p hp => by
  have k1 : ("kind" : Str).length = 4 := by decide +kernel
  have k2 : ("fact" : Str).length = 4 := by decide +kernel
  have k3 : ("forget" : Str).length = 6 := by decide +kernel
  cases r with
  | kind d key day vals =>
    obtain ⟨h1, h2, h3, _, h4⟩ := h
    rcases List.mem_append.mp (show p ∈ [("kind" : Str), d, key, numT day] ++ vals.map valT from hp) with hp | hp
    · simp only [List.mem_cons, List.not_mem_nil, or_false] at hp
      have a1 := h1.le8
      have a2 := h2.le
      rcases hp with rfl | rfl | rfl | rfl
      · omega
      · omega
      · omega
      · exact num_len h3
    · obtain ⟨v, hv, rfl⟩ := List.mem_map.mp hp
      exact val_len (h4 v hv)
  | fact name day keys nums =>
    obtain ⟨h1, h2, ⟨_, h3⟩, _, h4⟩ := h
    rcases List.mem_append.mp (show p ∈ [("fact" : Str), name, numT day] ++ keys ++ nums.map numT from hp) with hp | hp
    · rcases List.mem_append.mp hp with hp | hp
      · simp only [List.mem_cons, List.not_mem_nil, or_false] at hp
        have a1 := h1.le
        rcases hp with rfl | rfl | rfl
        · omega
        · omega
        · exact num_len h2
      · have := (h3 p hp).le
        omega
    · obtain ⟨v, hv, rfl⟩ := List.mem_map.mp hp
      exact num_len (h4 v hv)
  | forget name =>
    rcases List.mem_cons.mp (show p ∈ [("forget" : Str), name] from hp) with rfl | hp
    · omega
    · rw [List.mem_singleton.mp hp]
      have := Ky.le h
      omega
theorem rwW_many {r : Rw} (h : r.fine) : (rwW r).length ≤ 11 := by
  cases r with
  | kind d key day vals =>
    have h4 := h.2.2.2.1
    show ([("kind" : Str), d, key, numT day] ++ vals.map valT).length ≤ 11
    rw [List.length_append, List.length_map]
    show 4 + _ ≤ 11
    omega
  | fact name day keys nums =>
    obtain ⟨_, _, ⟨h3, _⟩, h5, _⟩ := h
    show ([("fact" : Str), name, numT day] ++ keys ++ nums.map numT).length ≤ 11
    rw [List.length_append, List.length_append, List.length_map]
    show 3 + _ + _ ≤ 11
    omega
  | forget name => show 2 ≤ 11; decide
theorem rwT_len {r : Rw} (h : r.fine) : (rwT r).length ≤ 682 := by
  have h1 := join_len (y := (" " : Str)) (rwW_len h)
  have h2 := rwW_many h
  have h3 : (" " : Str).length = 1 := by decide +kernel
  rw [h3] at h1
  unfold rwT
  omega
theorem rwW_fit {r : Rw} (h : r.fine) : ((rwW r).map (·.length)).sum + (rwW r).length * (" " : Str).length ≤ 16777216 := by
  have h1 := sum_le (rwW_len h)
  have h2 := rwW_many h
  have h3 : (" " : Str).length = 1 := by decide +kernel
  rw [h3]
  omega
theorem rows_fit {rs : List Rw} (h : ∀ r ∈ rs, r.fine) (hl : rs.length ≤ 200) : ((rs.map rwT).map (·.length)).sum + (rs.map rwT).length * ("; " : Str).length ≤ 16777216 := by
  have h1 := sum_le (xs := rs.map rwT) (b := 682) fun p hp => by
    obtain ⟨r, hr, rfl⟩ := List.mem_map.mp hp
    exact rwT_len (h r hr)
  have h3 : ("; " : Str).length = 2 := by decide +kernel
  rw [h3]
  rw [List.length_map] at h1 ⊢
  omega
theorem rows_len {rs : List Rw} (h : ∀ r ∈ rs, r.fine) (hl : rs.length ≤ 200) : (rowsT rs).length ≤ 200000 := by
  unfold rowsT
  split
  · have := len_minus
    omega
  · have h1 := join_len (y := ("; " : Str)) (xs := rs.map rwT) (b := 682) fun p hp => by
      obtain ⟨r, hr, rfl⟩ := List.mem_map.mp hp
      exact rwT_len (h r hr)
    have h3 : ("; " : Str).length = 2 := by decide +kernel
    rw [h3, List.length_map] at h1
    omega
/-! ### one writing for each -/
theorem val_inj {u v : Fv} (h : valT u = valT v) : u = v := by
  have e := congrArg TL.tl h
  cases u with
  | i a =>
    cases v with
    | i b => rw [num_inj h]
    | s b =>
      exfalso
      rw [show valT (.s b) = ("'" : Str) ++ b ++ ("'" : Str) from rfl, tl_quo] at e
      have : (39 : Nat) ∈ TL.tl (numT a) := by
        show 39 ∈ TL.tl (valT (.i a))
        rw [e]
        exact List.mem_cons_self ..
      exact num_free (by decide) (by decide) this
  | s a =>
    cases v with
    | i b =>
      exfalso
      rw [show valT (.s a) = ("'" : Str) ++ a ++ ("'" : Str) from rfl, tl_quo] at e
      have : (39 : Nat) ∈ TL.tl (numT b) := by
        show 39 ∈ TL.tl (valT (.i b))
        rw [← e]
        exact List.mem_cons_self ..
      exact num_free (by decide) (by decide) this
    | s b =>
      rw [show valT (.s a) = ("'" : Str) ++ a ++ ("'" : Str) from rfl, show valT (.s b) = ("'" : Str) ++ b ++ ("'" : Str) from rfl, tl_quo, tl_quo] at e
      injection e with _ e
      rw [TL.ext_tl (List.append_cancel_right e)]
theorem map_inj {α β : Type} {f : α → β} (h : ∀ a b, f a = f b → a = b) : ∀ {xs ys : List α}, xs.map f = ys.map f → xs = ys
  | [], [], _ => rfl
  | [], _ :: _, e => by simp at e
  | _ :: _, [], e => by simp at e
  | x :: xs, y :: ys, e => by
    rw [List.map_cons, List.map_cons] at e
    injection e with e1 e2
    rw [h x y e1, map_inj h e2]
theorem w_kf : ¬ (("kind" : Str) = "fact") := by decide +kernel
theorem w_kg : ¬ (("kind" : Str) = "forget") := by decide +kernel
theorem w_fg : ¬ (("fact" : Str) = "forget") := by decide +kernel
theorem rwW_inj {ds : List Dm} {ms : List Str} {r s : Rw} (hr : r.good ds ms) (hs : s.good ds ms) (h : rwW r = rwW s) : r = s := by
  cases r with
  | kind d key day vals =>
    cases s with
    | kind d' key' day' vals' =>
      have h : [("kind" : Str), d, key, numT day] ++ vals.map valT = [("kind" : Str), d', key', numT day'] ++ vals'.map valT := h
      simp only [List.cons_append, List.nil_append, List.cons.injEq, true_and] at h
      obtain ⟨rfl, rfl, h1, h2⟩ := h
      rw [num_inj h1, map_inj (fun _ _ => val_inj) h2]
    | fact name day' keys nums =>
      have h : [("kind" : Str), d, key, numT day] ++ vals.map valT = [("fact" : Str), name, numT day'] ++ keys ++ nums.map numT := h
      simp only [List.cons_append, List.nil_append, List.cons.injEq] at h
      exact absurd h.1 w_kf
    | forget name =>
      have h : [("kind" : Str), d, key, numT day] ++ vals.map valT = [("forget" : Str), name] := h
      simp only [List.cons_append, List.nil_append, List.cons.injEq] at h
      exact absurd h.1 w_kg
  | fact name day keys nums =>
    cases s with
    | kind d' key' day' vals' =>
      have h : [("fact" : Str), name, numT day] ++ keys ++ nums.map numT = [("kind" : Str), d', key', numT day'] ++ vals'.map valT := h
      simp only [List.cons_append, List.nil_append, List.cons.injEq] at h
      exact absurd h.1.symm w_kf
    | fact name' day' keys' nums' =>
      have h : [("fact" : Str), name, numT day] ++ keys ++ nums.map numT = [("fact" : Str), name', numT day'] ++ keys' ++ nums'.map numT := h
      simp only [List.cons_append, List.nil_append, List.cons.injEq, true_and] at h
      obtain ⟨rfl, h1, h2⟩ := h
      have hl : keys.length = keys'.length := by rw [hr.2.2.1.1, hs.2.2.1.1]
      obtain ⟨e1, e2⟩ := List.append_inj h2 hl
      rw [num_inj h1, e1, map_inj (fun _ _ => num_inj) e2]
    | forget name' =>
      have h : [("fact" : Str), name, numT day] ++ keys ++ nums.map numT = [("forget" : Str), name'] := h
      simp only [List.cons_append, List.nil_append, List.cons.injEq] at h
      exact absurd h.1 w_fg
  | forget name =>
    cases s with
    | kind d' key' day' vals' =>
      have h : [("forget" : Str), name] = [("kind" : Str), d', key', numT day'] ++ vals'.map valT := h
      simp only [List.cons_append, List.nil_append, List.cons.injEq] at h
      exact absurd h.1.symm w_kg
    | fact name' day' keys' nums' =>
      have h : [("forget" : Str), name] = [("fact" : Str), name', numT day'] ++ keys' ++ nums'.map numT := h
      simp only [List.cons_append, List.nil_append, List.cons.injEq] at h
      exact absurd h.1.symm w_fg
    | forget name' =>
      have h : [("forget" : Str), name] = [("forget" : Str), name'] := h
      simp only [List.cons.injEq, true_and, and_true] at h
      rw [h]
/-! ### rows as data -/
def rwD : Rw → PyData
  | .kind d key day vals => .tuple [.str "kind", .str d, .str key, .int day, .tuple (vals.map Fv.d)]
  | .fact name day keys nums => .tuple [.str "fact", .str name, .int day, .tuple (keys.map PyData.str), .tuple (nums.map PyData.int)]
  | .forget name => .tuple [.str "forget", .str name]
section
variable {K : PySem.W.Frag}
theorem fvs_dp {H : Hp} : ∀ vs : List Fv, DpAll K H (vs.map Fv.v) (vs.map Fv.d)
  | [] => .nil
  | v :: vs => .cons v.dp (fvs_dp vs)
theorem ints_dpA {H : Hp} : ∀ vs : List Int, DpAll K H (vs.map V.int) (vs.map PyData.int)
  | [] => .nil
  | v :: vs => .cons (.int v) (ints_dpA vs)
theorem strs_dpA {H : Hp} : ∀ vs : List Str, DpAll K H (vs.map V.str) (vs.map PyData.str)
  | [] => .nil
  | v :: vs => .cons (.str v) (strs_dpA vs)
theorem Rw.dp {H : Hp} {p : Addr} : ∀ {r : Rw}, r.at K H p → Dp K H (.ref p) (rwD r)
  | .kind d key day vals, ⟨q, h1, h2⟩ => .tup h1 (.cons (.str _) (.cons (.str _) (.cons (.str _) (.cons (.int _) (.cons (.tup h2 (fvs_dp vals)) .nil)))))
  | .fact name day keys nums, ⟨q1, q2, h1, h2, h3⟩ => .tup h1 (.cons (.str _) (.cons (.str _) (.cons (.int _) (.cons (.tup h2 (strs_dpA keys)) (.cons (.tup h3 (ints_dpA nums)) .nil)))))
  | .forget name, h => .tup h (.cons (.str _) (.cons (.str _) .nil))
theorem lay_fvs : ∀ vs : List Fv, (∀ v ∈ vs, v.ok) → PyData.canLayAll0 (vs.map Fv.d) = true ∧ PyData.depthAll (vs.map Fv.d) = 0
  | [], _ => ⟨rfl, rfl⟩
  | v :: vs, h => by
    obtain ⟨h1, h2⟩ := lay_fvs vs fun z hz => h z (List.mem_cons_of_mem _ hz)
    have h3 := h v (List.mem_cons_self ..)
    cases v with
    | i z =>
      constructor
      · simp only [List.map_cons, Fv.d, PyData.canLayAll0, PyData.canLay0, h1, Bool.and_self]
      · simp only [List.map_cons, Fv.d, PyData.depthAll, PyData.depth, h2]
        rfl
    | s z =>
      have h4 : Tx z := h3
      constructor
      · simp only [List.map_cons, Fv.d, PyData.canLayAll0, PyData.canLay0, h1, h4.sok, Bool.and_self]
      · simp only [List.map_cons, Fv.d, PyData.depthAll, PyData.depth, h2]
        rfl
theorem lay_txs : ∀ vs : List Str, (∀ v ∈ vs, Tx v) → PyData.canLayAll0 (vs.map PyData.str) = true ∧ PyData.depthAll (vs.map PyData.str) = 0
  | [], _ => ⟨rfl, rfl⟩
  | v :: vs, h => by
    obtain ⟨h1, h2⟩ := lay_txs vs fun z hz => h z (List.mem_cons_of_mem _ hz)
    have h3 := h v (List.mem_cons_self ..)
    constructor
    · simp only [List.map_cons, PyData.canLayAll0, PyData.canLay0, h1, h3.sok, Bool.and_self]
    · simp only [List.map_cons, PyData.depthAll, PyData.depth, h2]
      rfl
theorem lay_intsA : ∀ xs : List Int, PyData.canLayAll0 (xs.map PyData.int) = true ∧ PyData.depthAll (xs.map PyData.int) = 0
  | [] => ⟨rfl, rfl⟩
  | x :: xs => by
    obtain ⟨h1, h2⟩ := lay_intsA xs
    constructor
    · simp only [List.map_cons, PyData.canLayAll0, PyData.canLay0, h1, Bool.and_self]
    · simp only [List.map_cons, PyData.depthAll, PyData.depth, h2, Nat.max_self]
theorem lay_rw : ∀ {r : Rw}, r.ok → PyData.canLay0 (rwD r) = true ∧ (rwD r).depth ≤ 2
  | .kind d key day vals, ⟨o1, o2, o3, o4, o5⟩ => by
    obtain ⟨h1, h2⟩ := lay_fvs vals o5
    constructor
    · simp only [rwD, PyData.canLayAll0, PyData.canLay0, h1, o1.sok, o2.sok, tx_kind.sok, Bool.and_self]
    · simp only [rwD, PyData.depthAll, PyData.depth, h2]
      decide
  | .fact name day keys nums, ⟨o1, o2, ⟨o3, o4⟩, o5, o6⟩ => by
    obtain ⟨h1, h2⟩ := lay_txs keys o4
    obtain ⟨h3, h4⟩ := lay_intsA nums
    constructor
    · simp only [rwD, PyData.canLayAll0, PyData.canLay0, h1, h3, o1.sok, tx_fact.sok, Bool.and_self]
    · simp only [rwD, PyData.depthAll, PyData.depth, h2, h4]
      decide
  | .forget name, o => by
    have o : Tx name := o
    constructor
    · simp only [rwD, PyData.canLayAll0, PyData.canLay0, o.sok, tx_forget.sok, Bool.and_self]
    · simp only [rwD, PyData.depthAll, PyData.depth]
      decide
theorem Rw.fine.ok : ∀ {r : Rw}, r.fine → r.ok
  | .kind d key day vals, ⟨h1, h2, h3, h4, h5⟩ => ⟨h1.tx, h2.tx, h3.nu, by omega, fun v hv => (h5 v hv).ok⟩
  | .fact name day keys nums, ⟨h1, h2, ⟨h3, h4⟩, h5, h6⟩ => ⟨h1.tx, h2.nu, ⟨by omega, fun z hz => (h4 z hz).tx⟩, by omega, fun i hi => (h6 i hi).nu⟩
  | .forget name, h => Ky.tx h
/-- a list of rows stands at l -/
def RwAt (K : PySem.W.Frag) (H : Hp) (x : V) (r : Rw) : Prop := ∃ p, x = .ref p ∧ r.at K H p
def RwsAt (K : PySem.W.Frag) (H : Hp) (l : Addr) (rs : List Rw) : Prop := ∃ xs, SqL K H l xs ∧ Paired (RwAt K H) xs rs
theorem RwAt.same {H H' : Hp} {x : V} {r : Rw} (e : Same H H') : RwAt K H x r → RwAt K H' x r := fun ⟨p, h1, h2⟩ => ⟨p, h1, Rw.same e h2⟩
theorem RwsAt.same {H H' : Hp} {l : Addr} {rs : List Rw} (e : Same H H') : RwsAt K H l rs → RwsAt K H' l rs := fun ⟨xs, h1, h2⟩ => ⟨xs, e.seq h1, PySem.Paired.mono (fun _ _ => RwAt.same e) h2⟩
theorem rws_dp {H : Hp} : ∀ {xs : List V} {rs : List Rw}, Paired (RwAt K H) xs rs → DpAll K H xs (rs.map rwD)
  | _, _, .nil => .nil
  | _, _, .cons ⟨p, e1, e2⟩ t => by
    subst e1
    exact .cons (Rw.dp e2) (rws_dp t)
theorem RwsAt.dp {H : Hp} {l : Addr} {rs : List Rw} (h : RwsAt K H l rs) : Dp K H (.ref l) (.list (rs.map rwD)) := by
  obtain ⟨xs, h1, h2⟩ := h
  exact .lst h1 (rws_dp h2)
theorem lay_rws : ∀ {rs : List Rw}, (∀ r ∈ rs, r.ok) → PyData.canLayAll0 (rs.map rwD) = true ∧ PyData.depthAll (rs.map rwD) ≤ 2
  | [], _ => ⟨rfl, Nat.zero_le _⟩
  | r :: rs, h => by
    obtain ⟨h1, h2⟩ := lay_rws fun z hz => h z (List.mem_cons_of_mem _ hz)
    obtain ⟨h3, h4⟩ := lay_rw (h r (List.mem_cons_self ..))
    constructor
    · simp only [List.map_cons, PyData.canLayAll0, h1, h3, Bool.and_self]
    · simp only [List.map_cons, PyData.depthAll]
      omega
theorem rws_shaped {rs : List Rw} (h : ∀ r ∈ rs, r.ok) : SeqAt.shaped (.list (rs.map rwD)) = true := by
  obtain ⟨h1, h2⟩ := lay_rws h
  simp [SeqAt.shaped, PyData.canLay0, PyData.depth, h1]
  omega
theorem eqv_nil (L : List PyData) : PyData.eqv (.list L) (.list []) = L.isEmpty := by
  cases L <;> simp [PyData.eqv, PyData.eqvAll]
theorem sh_nil : SeqAt.shaped (.list []) = true := by decide
end
end Kd

namespace Kd
open PySem PySem.Spec PyProof.Rows L2
def rJoin (K : PySem.W.Frag) : V → List V → Hp → VK → Prop := fun x xs H Q => ∃ a p, ∃ ys : List Str, x = .str a ∧ xs = [.ref p] ∧ (SqL K H p (ys.map V.str) ∨ SqT K H p (ys.map V.str)) ∧ (ys.map (·.length)).sum + ys.length * a.length ≤ 16777216 ∧ Q (.str (Txt.join a ys)) H
def rIntS : List V → Hp → VK → Prop := fun xs H Q => ∃ a n, xs = [.str a] ∧ PySem.intText? a = some n ∧ a.length ≤ 640 ∧ Q (.int n) H
end Kd
namespace KdSt
open PySem PySem.Spec PyProof.Rows L2
section
variable {prog : Program} {w : World} {A : Around} {E : Value → Shared → Prop} {s : Shared}
/-- str of a tuple: some text -/
theorem str_tup {a : Addr} {o : Obj} {items : Array Value} {n : Nat} {ts : List Str} {Q : Value → Shared → Prop} (hu : A.units + 8 < cLine) (ha : s.heap.get? a = some o) (hc : o.cls = .type "tuple") (hd : o.data = .seq items n) (hT : ∀ (prog : Program) (w : World), ReprAll prog w items.toList ts) (hsz : (tupleText ts).length ≤ sizeLine)
    (h : ∀ (m : Str) (u tk : Tok), m.length ≤ (tupleText ts).length + 5 → Q (.str m u) { s with toks := tk }) : wpAny (model prog w) A (call (.type "str") [.ref a]) Q E s :=
  callType_new F.called_str (by decide) (F.typeCall_str_1 _) (F.newCall_str_1 _) (fun obj => F.args_object_init_2 obj _) F.entry_str_new
    (meets_str_new (S := fun A' R s' => A'.units + 5 < cLine ∧ s'.heap.get? a = some o ∧ ∀ (m : Str) (u tk : Tok), m.length ≤ (tupleText ts).length + 5 → R (.ok (.ret (.str m u))) { s' with toks := tk })
      fun prog' w' A' R s' q => wpAny_strOf_slot rfl (by show A'.units + 1 + 1 < cLine; have := q.1; omega) ⟨o, q.2.1, hc⟩ F.slot_tuple_str F.slot_tuple_repr
        (fmt_tuple_repr q.2.1 hc hd (hT prog' w') hsz fun m u tk hm => ⟨m, u, rfl, q.2.2 m u tk hm⟩))
    ⟨by show A.units + 1 + 5 < cLine; omega, ha, fun m u tk hm => ⟨typeIs_str _ _ _, h m u tk hm⟩⟩
end
section
variable {X : Cx}
/-- str of a number, of a text, of a short tuple of texts -/
def rStrA (K : PySem.W.Frag) : List V → Hp → VK → Prop := fun xs H Q => (∃ i : Int, xs = [.int i] ∧ i.natAbs.log2 < 1920 ∧ Q (.str (Kd.numT i)) H) ∨ (∃ z : Str, xs = [.str z] ∧ Q (.str z) H) ∨
  ∃ (a : Addr) (ys : List V), xs = [.ref a] ∧ SqT K H a ys ∧ ys.length ≤ 8 ∧ (∀ y ∈ ys, KdEx.Flat1 y) ∧ ∀ m : Str, Q (.str m) H
theorem cr_strA (hu : X.A.units + 64 < cLine) : CallR X (.type "str") (rStrA X.K) := by
  intro pins s σ H xs us Q I r h
  rcases h with ⟨i, rfl, hz, q⟩ | ⟨z, rfl, q⟩ | ⟨a, ys, rfl, ht, hl, hy, q⟩
  · exact call_str_int pins s σ H [.int i] us Q I r ⟨i, rfl, hz, q⟩
  · exact SkE.call_str_str pins s σ H [.str z] us Q I r ⟨z, rfl, q⟩
  · obtain ⟨u, rfl, rx⟩ := vals1 r
    cases rx
    obtain ⟨its, rv, ⟨o, ho, hcl, n, hd⟩, _⟩ := I.tuple ht
    have htx := fmt_text (ys.map KdEx.flatT)
    have hp := KdEx.piled_le (ys.map KdEx.flatT) fun t ht => by
      obtain ⟨y, hym, rfl⟩ := List.mem_map.mp ht
      exact KdEx.flat_len (hy y hym)
    rw [List.length_map] at hp
    refine str_tup (ts := ys.map KdEx.flatT) (by omega) ho hcl hd (fun _ _ => KdEx.reprs rv hy) (Nat.le_trans (show _ ≤ 500000 by omega) (by decide)) fun m u tk hm => ⟨.str m, H, I.tok _, ⟨u, rfl⟩, q m⟩
end
end KdSt

namespace Kd
open PySem PySem.Spec PyProof.Rows L2
theorem wh_log {i : Int} (h : Wh i) : i.natAbs.log2 < 1920 := Nu.flat (Wh.nu h)
theorem Ky.flat1 {z : Str} (h : Ky z) : KdEx.Flat1 (.str z) := ⟨fun c hc => by rcases h.ok c hc with e | e <;> exact Nat.lt_of_lt_of_le (show c < 128 by omega) (by decide), by have := h.le; omega⟩
theorem take_snocF {α β : Type} {f : α → β} {xs : List α} {i : Nat} {z : α} (h : xs[i]? = some z) : ((xs.take i).map f) ++ [f z] = (xs.take (i + 1)).map f := by
  obtain ⟨h1, h2⟩ := List.getElem?_eq_some_iff.mp h
  rw [List.take_succ_eq_append_getElem h1, List.map_append, h2]
  rfl
theorem map_atF {α β : Type} {f : α → β} {xs : List α} {i : Nat} {x : β} (h : (xs.map f)[i]? = some x) : ∃ z, x = f z ∧ xs[i]? = some z := by
  rw [List.getElem?_map] at h
  cases e : xs[i]? with
  | none => rw [e] at h; cases h
  | some z => rw [e] at h; exact ⟨z, (Option.some.inj h).symm, rfl⟩
theorem take_all {α β : Type} {f : α → β} {xs : List α} : (xs.take (xs.map f).length) = xs := by rw [List.length_map, List.take_length]
theorem iteNT {c A B : Prop} [Decidable c] (hc : ¬ c) (h : A) : if (!decide c) = true then A else B := by
  rw [decide_eq_false hc]
  exact iteT h
theorem u64 {A : Around} {k : Nat} (hr : Room k A) : A.units + 64 < cLine := by
  have := hr.un
  omega
theorem u65 {A : Around} {k : Nat} (hr : Room k A) : A.units + 65 < cLine := by
  have := hr.un
  omega
theorem atI_end {α : Type} {xs : List α} {a : α} (h : xs.getLast? = some a) : atI xs (-1) = some a := by
  obtain ⟨r, rfl⟩ := List.getLast?_eq_some_iff.mp h
  exact atI_last r a
theorem cutLast (xs : List V) : cutV xs none (some (-1)) = xs.take (xs.length - 1) := by
  unfold cutV
  rw [HT.sIx_none]
  have e : HT.sIx xs.length xs.length (some (-1)) = xs.length - 1 := by
    unfold HT.sIx
    simp
    omega
  rw [e]
  simp
theorem cutR1 (a : V) (xs : List V) : cutV (a :: xs) (some 1) none = xs := by
  unfold cutV
  rw [HT.sIx_none]
  have e : HT.sIx (a :: xs).length 0 (some ((1 : Nat) : Int)) = min 1 (a :: xs).length := HT.sIx_nat _ _ _
  have e2 : HT.sIx (a :: xs).length 0 (some 1) = min 1 (a :: xs).length := e
  rw [e2, Nat.min_eq_left (by show 1 ≤ xs.length + 1; omega)]
  simp
/-- a def of the module, its promise and how it is called -/
structure Fun (P : Program) (w : World) (K : PySem.W.Frag) (mg : Str → Option Value) (base : Heap) (x : Str) (n : Nat) (ps : List Str) (sp : Sp) (f : Addr) (fd : FuncData) : Prop where
  G : FnOk P w K mg base CX0 n f fd ps sp
  k : PySem.W.keepIn K (.ref f) = true
  b : Binds K fd ps []
  g : mg x = some (.ref f)
theorem st_eq {t : L2.St → Hp → Prop} {σ σ' : L2.St} {H : Hp} (e : σ = σ') (h : t σ' H) : t σ H := by
  rw [e]
  exact h
theorem set_st {i : Nat} {σ σ' : L2.St} {K : L2.St → Hp → Prop} {v : V} {H : Hp} (e : σ.set i (some v) = σ') (h : K σ' H) : (fun x H1 => gName i x σ H1 K) v H := by
  show K (σ.set i (some v)) H
  rw [e]
  exact h
theorem intEq {x y : Int} (c : decide (V.int x = V.int y) = true) : x = y := V.int.inj (of_decide_eq_true c)
theorem intNe {x y : Int} (h : x ≠ y) : ¬ decide (V.int x = V.int y) = true := fun c => h (intEq c)
theorem iteF0 {c : Prop} [Decidable c] {A B : Prop} (h : ¬ c) (b : B) : if c then A else B := by
  rw [if_neg h]
  exact b
theorem iteT0 {c : Prop} [Decidable c] {A B : Prop} (h : c) (b : A) : if c then A else B := by
  rw [if_pos h]
  exact b
section
variable {P : Program} {w : World} {K : PySem.W.Frag} {mg : Str → Option Value} {base : Heap} {f : Addr} {fd : FuncData}
theorem seqL_ct {H : Hp} {a g l : Addr} {xs : List V} (h : SqL K (ct a g H) l xs) : SqL K H l xs := Same.seq ct_sub h
theorem ct_back {a g p : Addr} {H H' : Hp} (s : Same (ct a g H) (ct a g H')) (h : ct a g H' p = none) : ct a g H p = none := by
  cases e : ct a g H p with
  | none => rfl
  | some o =>
    rw [s _ _ e] at h
    cases h
/-- a new object beside the tray -/
structure NewAt (H H3 : Hp) (p : Addr) (o : HO) (a g : Addr) (n : Nat) : Prop where
  f : H3 p = some o
  T : Tray H3 a g n
  s : Same H H3
  c : Same (ct a g H) (ct a g H3)
  na : p ≠ a
  ng : p ≠ g
theorem newAt {H H3 : Hp} {p : Addr} {o : HO} {a g : Addr} {n : Nat} (T : Tray H a g n) (np : H p = none) (e : upd H p o = H3) : NewAt H H3 p o a g n := by
  subst e
  exact ⟨upd_same, T.new np, same_new np, ctnew np, (T.na np).1, (T.na np).2⟩
theorem NewAt.fc {H H3 : Hp} {p : Addr} {o : HO} {a g : Addr} {n : Nat} (h : NewAt H H3 p o a g n) : ct a g H3 p = some o := ct_of h.f h.na h.ng
/-- a new object, no tray asked -/
structure NewO (H H3 : Hp) (p : Addr) (o : HO) : Prop where
  f : H3 p = some o
  s : Same H H3
theorem newO {H H3 : Hp} {p : Addr} {o : HO} (np : H p = none) (e : upd H p o = H3) : NewO H H3 p o := by
  subst e
  exact ⟨upd_same, same_new np⟩
abbrev InitD (K : PySem.W.Frag) (e f : Addr) (fd : FuncData) : Prop := FunD K "__init__" "Plan.__init__" (defArgs s_Plan_init) (defBody s_Plan_init) (defScope s_Plan_init) [.ref e] [] f fd
theorem init_b2 {e : Addr} (F : InitD K e f fd) : ∃ ds, Vals [V.ref e] ds ∧ Binds K fd ["self", "dimensions", "measures"] ds :=
  F.binds1 (ps := ["self", "dimensions", "measures"]) 2 0 (by simp) rfl fun T kV doc pm an cdv ct us its h1 h2 => match us, its, h1, h2 with
    | [_, _], [_], _, _ => ⟨_, rfl, rfl⟩
theorem init_b3 {e : Addr} (F : InitD K e f fd) : ∃ ds, Vals [] ds ∧ Binds K fd ["self", "dimensions", "measures"] ds :=
  F.binds1 (ps := ["self", "dimensions", "measures"]) 3 1 (by simp) rfl fun T kV doc pm an cdv ct us its h1 h2 => match us, its, h1, h2 with
    | [_, _, _], [_], _, _ => ⟨_, rfl, rfl⟩
/-- the class Plan, and how it is called -/
structure PlanC (P : Program) (w : World) (K : PySem.W.Frag) (mg : Str → Option Value) (base : Heap) (C e fI : Addr) (fdI : FuncData) : Prop where
  T : PlTxt K C
  M : Mk K C fI
  GI : FnOk P w K mg base CX0 5 fI fdI ["self", "dimensions", "measures"] (spInit K C)
  gC : mg "Plan" = some (.ref C)
  I : InitD K e fI fdI
theorem seqT_cdl {D r : Addr} {H : Hp} {A xs : List V} (h1 : H D = some (.lst A)) (h : SqT K H r xs) : SqT K (cd D H) r xs := by
  rcases h with (q | ⟨o, q⟩) | q
  · exact .inl (.inl (cd_of q (ne_of q h1 (fun z => nomatch z))))
  · exact .inl (.inr ⟨o, cd_of q (ne_of q h1 (fun z => nomatch z))⟩)
  · exact .inr q
theorem dim_cdl {D : Addr} {H : Hp} {A : List V} {y : V} {d : Str × List (Str × Str)} (e1 : H D = some (.lst A)) : DimAt K H y d → DimAt K (cd D H) y d :=
  fun ⟨p, q, h1, h2, zs, h3, h4⟩ => ⟨p, q, h1, seqT_cdl e1 h2, zs, seqT_cdl e1 h3, PySem.Paired.mono (fun _ _ ⟨r, q1, q2⟩ => ⟨r, q1, seqT_cdl e1 q2⟩) h4⟩
/-- a Plan that is new behind H -/
structure PlanN (K : PySem.W.Frag) (C : Addr) (H H' : Hp) (x : Addr) (ds : List Dm) (ms : List Str) : Prop where
  ex : ∃ dx a b xs, H' x = some (.ins C dx (plF a b)) ∧ H' a = some (.lst xs) ∧ Paired (DimAt K H') xs ds ∧ H' b = some (.lst (ms.map V.str)) ∧ H x = none ∧ H a = none ∧ H b = none
  s : Same H H'
theorem PlanN.ct {C x a g : Addr} {H H' : Hp} {n : Nat} {ds : List Dm} {ms : List Str} (h : PlanN K C H H' x ds ms) (T : Tray H a g n) : PlanAt K C (ct a g H') x ds ms := by
  obtain ⟨dx, pa, pb, xs, e1, e2, e3, e4, n1, n2, n3⟩ := h.ex
  exact ⟨dx, pa, pb, xs, ct_of e1 (T.na n1).1 (T.na n1).2, ct_of e2 (T.na n2).1 (T.na n2).2, PySem.Paired.mono (fun _ _ => dim_ct (T.same h.s)) e3, ct_of e4 (T.na n3).1 (T.na n3).2⟩
theorem init_good {C hp bp x dx : Addr} {H5 : Hp} {ds : List Dm} {ms : List Str} {B : Hp → Prop} {E : XK} (hd : DimsAt K H5 hp ds) (hm : Txs K H5 bp ms) (sz : Szd ds ms) (ff : ffV ds ms = .non) (nx : H5 x = none) (ndx : H5 dx = none) (nex : dx ≠ x) (k : ∀ H7, PlanN K C H5 H7 x ds ms → B H7) :
    spInit K C [.ref x, .ref hp, .ref bp] (upd (upd H5 dx (.own x)) x (.ins C dx [])) (fun v H2 => v = .non ∧ B H2) E := by
  have sx : Same H5 (upd (upd H5 dx (.own x)) x (.ins C dx [])) := fun b o q => by rw [upd_ne (ne_of_none q nx), upd_ne (ne_of_none q ndx)]; exact q
  refine ⟨x, dx, hp, bp, ds, ms, rfl, upd_same, DimsAt.same sx hd, Same.txs sx hm, sz, ff, fun H7 pa pb px npa npb e1 e2 e3 e4 s7 => ⟨rfl, ?_⟩⟩
  have s57 : Same H5 H7 := fun b o e => cd_sub _ _ (s7 b o (cd_of (sx b o e) (ne_of_none e nx)))
  exact k H7 ⟨⟨dx, pa, pb, px, e1, e2, e3, e4, nx, sx.free npa, sx.free npb⟩, s57⟩
end
end Kd

namespace Kd
open PySem PySem.Spec PyProof.Rows L2
/-! ### what a word reads as -/
open Classical in
noncomputable def readN (z : Str) : Option Int := if h : ∃ i, Wh i ∧ z = numT i then some h.choose else none
theorem readN_iff {z : Str} {i : Int} : readN z = some i ↔ Wh i ∧ z = numT i := by
  unfold readN
  constructor
  · intro h
    split at h
    · rename_i q
      have e := Option.some.inj h
      rw [← e]
      exact q.choose_spec
    · cases h
  · intro h
    rw [dif_pos ⟨i, h⟩]
    have q := (⟨i, h⟩ : ∃ i, Wh i ∧ z = numT i).choose_spec
    rw [num_inj (q.2.symm.trans h.2)]
theorem readN_none {z : Str} : readN z = none ↔ ∀ i, Wh i → z ≠ numT i := by
  constructor
  · intro h i hi e
    rw [readN_iff.mpr ⟨hi, e⟩] at h
    cases h
  · intro h
    cases e : readN z with
    | none => rfl
    | some i => exact absurd (readN_iff.mp e).2 (h i (readN_iff.mp e).1)
open Classical in
noncomputable def readV (z : Str) : Option Fv := if h : ∃ v : Fv, v.good ∧ z = valT v then some h.choose else none
theorem readV_iff {z : Str} {v : Fv} : readV z = some v ↔ v.good ∧ z = valT v := by
  unfold readV
  constructor
  · intro h
    split at h
    · rename_i q
      have e := Option.some.inj h
      rw [← e]
      exact q.choose_spec
    · cases h
  · intro h
    rw [dif_pos ⟨v, h⟩]
    have q := (⟨v, h⟩ : ∃ v : Fv, v.good ∧ z = valT v).choose_spec
    rw [val_inj (q.2.symm.trans h.2)]
theorem readV_num {z : Str} (h : ∀ y, Ky y → z ≠ valT (.s y)) : readV z = (readN z).map Fv.i := by
  cases e : readN z with
  | some i => exact readV_iff.mpr (readN_iff.mp e)
  | none =>
    cases e2 : readV z with
    | none => rfl
    | some v =>
      obtain ⟨h1, h2⟩ := readV_iff.mp e2
      cases v with
      | i j => exact absurd h2 (readN_none.mp e j h1)
      | s y => exact absurd h2 (h y h1)
open Classical in
noncomputable def readR (ds : List Dm) (ms : List Str) (ws : List Str) : Option Rw := if h : ∃ r : Rw, r.good ds ms ∧ ws = rwW r then some h.choose else none
theorem readR_iff {ds : List Dm} {ms ws : List Str} {r : Rw} : readR ds ms ws = some r ↔ r.good ds ms ∧ ws = rwW r := by
  unfold readR
  constructor
  · intro h
    split at h
    · rename_i q
      have e := Option.some.inj h
      rw [← e]
      exact q.choose_spec
    · cases h
  · intro h
    rw [dif_pos ⟨r, h⟩]
    have q := (⟨r, h⟩ : ∃ r : Rw, r.good ds ms ∧ ws = rwW r).choose_spec
    rw [rwW_inj q.1 h.1 (q.2.symm.trans h.2)]
theorem readR_none {ds : List Dm} {ms ws : List Str} (h : ∀ r : Rw, r.good ds ms → ws ≠ rwW r) : readR ds ms ws = none := by
  cases e : readR ds ms ws with
  | none => rfl
  | some r => exact absurd (readR_iff.mp e).2 (h r (readR_iff.mp e).1)
/-! ### None or a value -/
def oI : Option Int → V
  | none => .non
  | some i => .int i
def oV : Option Fv → V
  | none => .non
  | some v => v.v
theorem oI_flat (o : Option Int) : flatV (oI o) = true := by cases o <;> rfl
theorem oV_flat (o : Option Fv) : flatV (oV o) = true := by
  cases o with
  | none => rfl
  | some v => exact v.flat
theorem oI_in (os : List (Option Int)) : inV .non (os.map oI) = os.any Option.isNone := by
  unfold inV
  rw [List.any_map]
  congr 1
  funext o
  cases o <;> rfl
theorem oV_in (os : List (Option Fv)) : inV .non (os.map oV) = os.any Option.isNone := by
  unfold inV
  rw [List.any_map]
  congr 1
  funext o
  cases o with
  | none => rfl
  | some v => cases v <;> rfl
theorem some_all {α : Type} : ∀ {os : List (Option α)}, os.any Option.isNone = false → ∃ xs : List α, os = xs.map some
  | [], _ => ⟨[], rfl⟩
  | none :: os, h => by simp at h
  | some x :: os, h => by
    obtain ⟨xs, e⟩ := some_all (os := os) (by simpa using h)
    exact ⟨x :: xs, by rw [e]; rfl⟩
theorem none_of {α β : Type} {f : β → Option α} {ws : List β} (h : (ws.map f).any Option.isNone = true) : ∃ w ∈ ws, f w = none := by
  obtain ⟨o, ho, h2⟩ := List.any_eq_true.mp h
  obtain ⟨w, hw, rfl⟩ := List.mem_map.mp ho
  exact ⟨w, hw, by simpa using h2⟩
/-! ### keys -/
def keyB (z : Str) : Bool := decide (1 ≤ z.length) && (decide (z.length ≤ 12) && z.cps.toList.all fun c => decide ((97 ≤ c ∧ c ≤ 122) ∨ (48 ≤ c ∧ c ≤ 57)))
theorem keyB_iff {z : Str} : keyB z = true ↔ Ky z := by
  unfold keyB
  rw [Bool.and_eq_true, Bool.and_eq_true, decide_eq_true_iff, decide_eq_true_iff, List.all_eq_true]
  constructor
  · rintro ⟨h1, h2, h3⟩
    exact ⟨fun c hc => (show (97 ≤ c ∧ c ≤ 122) ∨ (48 ≤ c ∧ c ≤ 57) from of_decide_eq_true (h3 c hc)), h1, h2⟩
  · intro h
    exact ⟨h.ge, h.le, fun c hc => decide_eq_true (show (97 ≤ c ∧ c ≤ 122) ∨ (48 ≤ c ∧ c ≤ 57) from h.ok c hc)⟩
abbrev abcF : Str := ("abcdefghijklmnopqrstuvwxyz" : Str) ++ ("0123456789" : Str)
theorem mem_figs {c : Nat} : c ∈ ("0123456789" : Str).cps.toList ↔ 48 ≤ c ∧ c ≤ 57 := by
  have e : ("0123456789" : Str).cps.toList = List.range' 48 10 := by decide +kernel
  rw [e, List.mem_range'_1]
  omega
theorem mem_abcF {c : Nat} : c ∈ abcF.cps.toList ↔ (97 ≤ c ∧ c ≤ 122) ∨ (48 ≤ c ∧ c ≤ 57) := by
  have e : abcF.cps.toList = abc.cps.toList ++ ("0123456789" : Str).cps.toList := TL.tl_append _ _
  rw [e, List.mem_append, mem_abc, mem_figs]
/-! ### a text between apostrophes -/
theorem starts_iff (x : Str) : Txt.startswith x "'" = decide ((TL.tl x).head? = some 39) := by
  unfold Txt.startswith
  rw [StrLaws.subAt_eq, len_apo]
  have ht : ("'" : Str).cps.toList = [39] := by decide +kernel
  have hx : x.length = (TL.tl x).length := TL.len_tl x
  have e0 : x.cps.toList = TL.tl x := rfl
  rw [ht, hx, e0]
  cases TL.tl x with
  | nil => rfl
  | cons c r =>
    simp
    by_cases h : c = 39 <;> simp [h]
theorem ends_iff (x : Str) : Txt.endswith x "'" = decide ((TL.tl x).getLast? = some 39) := by
  unfold Txt.endswith
  rw [StrLaws.subAt_eq, len_apo]
  have ht : ("'" : Str).cps.toList = [39] := by decide +kernel
  have hx : x.length = (TL.tl x).length := TL.len_tl x
  have e0 : x.cps.toList = TL.tl x := rfl
  rw [ht, hx, e0]
  rcases List.eq_nil_or_concat (TL.tl x) with e | ⟨r, c, e⟩
  · rw [e]
    rfl
  · rw [e, List.concat_eq_append, List.getLast?_append]
    simp
    by_cases h : c = 39 <;> simp [h]
theorem cutQ (x : Str) : TL.tl (cutS x (some 1) (some (-1))) = ((TL.tl x).drop 1).take ((TL.tl x).length - 2) := by
  have hx : x.length = (TL.tl x).length := TL.len_tl x
  show ((x.cps.toList.drop (HT.sIx x.length 0 (some 1))).take (HT.sIx x.length x.length (some (-1)) - HT.sIx x.length 0 (some 1))) = _
  have e1 : HT.sIx x.length 0 (some 1) = min 1 x.length := HT.sIx_nat _ 0 1
  have e2 : HT.sIx x.length x.length (some (-1)) = x.length - 1 := by
    unfold HT.sIx
    simp
    omega
  rw [e1, e2, hx]
  have e0 : x.cps.toList = TL.tl x := rfl
  rw [e0]
  cases TL.tl x with
  | nil => simp
  | cons c r =>
    have : min 1 (c :: r).length = 1 := by rw [List.length_cons]; omega
    rw [this]
    congr 1
theorem quo_of {x : Str} (h1 : Txt.startswith x "'" = true) (h2 : Txt.endswith x "'" = true) (h3 : keyB (cutS x (some 1) (some (-1))) = true) : x = valT (.s (cutS x (some 1) (some (-1)))) := by
  rw [starts_iff] at h1
  rw [ends_iff] at h2
  have h1 := of_decide_eq_true h1
  have h2 := of_decide_eq_true h2
  have hk := keyB_iff.mp h3
  have hg := hk.ge
  rw [TL.len_tl, cutQ] at hg
  apply TL.ext_tl
  rw [show valT (.s (cutS x (some 1) (some (-1)))) = ("'" : Str) ++ cutS x (some 1) (some (-1)) ++ ("'" : Str) from rfl, tl_quo, cutQ]
  cases e : TL.tl x with
  | nil => rw [e] at h1; cases h1
  | cons c r =>
    rw [e] at h1 h2 hg
    cases h1
    rcases List.eq_nil_or_concat r with e2 | ⟨q, d, e2⟩
    · rw [e2] at hg
      exact absurd hg (by decide)
    · subst e2
      rw [List.concat_eq_append] at h2 ⊢
      rw [List.getLast?_cons, List.getLast?_append] at h2
      simp at h2
      subst h2
      simp
theorem of_quo {y : Str} (h : Ky y) : Txt.startswith (valT (.s y)) "'" = true ∧ Txt.endswith (valT (.s y)) "'" = true ∧ cutS (valT (.s y)) (some 1) (some (-1)) = y := by
  have e : TL.tl (valT (.s y)) = 39 :: (TL.tl y ++ [39]) := tl_quo y
  refine ⟨?_, ?_, ?_⟩
  · rw [starts_iff, e]
    rfl
  · rw [ends_iff, e, List.getLast?_cons, List.getLast?_append]
    rfl
  · apply TL.ext_tl
    rw [cutQ, e]
    simp
end Kd

namespace Kd
open PySem PySem.Spec PyProof.Rows L2
theorem spl_ne (S : List Nat) : ∀ (l : List Nat) (k : Nat) (acc : List Nat), TL.spl S k acc l ≠ []
  | [], k, acc => by rw [TL.spl_nil]; simp
  | c :: r, 0, acc => by
    show (if TL.pre S (c :: r) = true then acc :: TL.spl S (S.length - 1) [] r else TL.spl S 0 (acc ++ [c]) r) ≠ []
    split
    · simp
    · exact spl_ne S r 0 _
  | c :: r, k + 1, acc => by
    show TL.spl S k acc r ≠ []
    exact spl_ne S r k acc
theorem split_ne {x y : Str} (hy : TL.tl y ≠ []) (hk : y.cps.all (· < 256) = true) : Txt.split x y ≠ [] := fun e => by
  have h := TL.split_spl x y hy (TL.kind_ok hk)
  rw [e] at h
  exact spl_ne _ _ _ _ h.symm
theorem blank_ok : TL.tl (" " : Str) ≠ [] ∧ (" " : Str).cps.all (· < 256) = true := by decide +kernel
theorem semi_ok : TL.tl ("; " : Str) ≠ [] ∧ ("; " : Str).cps.all (· < 256) = true := by decide +kernel
theorem join_of_split (x y : Str) : Txt.join y (Txt.split x y) = x := by rw [TL.join_eq, StrLaws.join_split]
theorem mem_sum : ∀ {l : List Nat} {n : Nat}, n ∈ l → n ≤ l.sum
  | [], _, h => by cases h
  | a :: l, n, h => by
    rw [List.sum_cons]
    rcases List.mem_cons.mp h with rfl | h
    · omega
    · have := mem_sum h
      omega
theorem part_len {x y p : Str} (hy : 1 ≤ y.length) (h : p ∈ Txt.split x y) : p.length ≤ x.length := by
  have h1 := split_weight x y hy
  obtain ⟨i, hi, rfl⟩ := List.mem_iff_getElem.mp h
  have h2 : ((Txt.split x y)[i]).length ≤ ((Txt.split x y).map (·.length)).sum := by
    refine mem_sum (List.mem_map_of_mem (List.getElem_mem hi))
  omega
theorem split_many {x y : Str} (hy : 1 ≤ y.length) : (Txt.split x y).length ≤ x.length + 1 := by
  have := split_weight x y hy
  omega
/-! ### rows of a text -/
theorem rows_inj {ds : List Dm} {ms : List Str} {rs qs : List Rw} (h1 : ∀ r ∈ rs, r.good ds ms ∧ r.fine) (h2 : ∀ r ∈ qs, r.good ds ms ∧ r.fine) (h : rowsT rs = rowsT qs) : rs = qs := by
  have key : ∀ (r : Rw) (rs : List Rw), (∀ q ∈ r :: rs, q.fine) → rowsT (r :: rs) ≠ ("-" : Str) := fun r rs hf e => by
    have h := split_rows (rs := r :: rs) (by simp) hf
    rw [e] at h
    have e2 : Txt.split ("-" : Str) "; " = [("-" : Str)] := by decide +kernel
    rw [e2, List.map_cons] at h
    injection h with h3 _
    have h4 := split_row (hf r (List.mem_cons_self ..))
    rw [← h3] at h4
    have e3 : Txt.split ("-" : Str) " " = [("-" : Str)] := by decide +kernel
    rw [e3] at h4
    cases r with
    | kind d key day vals =>
      have h4 : [("-" : Str)] = [("kind" : Str), d, key, numT day] ++ vals.map valT := h4
      simp at h4
    | fact name day keys nums =>
      have h4 : [("-" : Str)] = [("fact" : Str), name, numT day] ++ keys ++ nums.map numT := h4
      simp at h4
    | forget name =>
      have h4 : [("-" : Str)] = [("forget" : Str), name] := h4
      simp at h4
  cases rs with
  | nil =>
    cases qs with
    | nil => rfl
    | cons q qs => exact absurd h.symm (key q qs fun z hz => (h2 z hz).2)
  | cons r rs =>
    cases qs with
    | nil => exact absurd h (key r rs fun z hz => (h1 z hz).2)
    | cons q qs =>
      have e1 := split_rows (rs := r :: rs) (by simp) fun z hz => (h1 z hz).2
      have e2 := split_rows (rs := q :: qs) (by simp) fun z hz => (h2 z hz).2
      rw [h, e2] at e1
      have go : ∀ {a b : List Rw}, (∀ r ∈ a, r.good ds ms ∧ r.fine) → (∀ r ∈ b, r.good ds ms ∧ r.fine) → a.map rwT = b.map rwT → a = b := by
        intro a
        induction a with
        | nil =>
          intro b _ _ e
          cases b with
          | nil => rfl
          | cons _ _ => simp at e
        | cons x a ih =>
          intro b ha hb e
          cases b with
          | nil => simp at e
          | cons y b =>
            rw [List.map_cons, List.map_cons] at e
            injection e with e3 e4
            have e5 : rwW x = rwW y := by rw [← split_row (ha x (List.mem_cons_self ..)).2, ← split_row (hb y (List.mem_cons_self ..)).2, e3]
            rw [rwW_inj (ha x (List.mem_cons_self ..)).1 (hb y (List.mem_cons_self ..)).1 e5, ih (fun z hz => ha z (List.mem_cons_of_mem _ hz)) (fun z hz => hb z (List.mem_cons_of_mem _ hz)) e4]
      exact go h1 h2 e1.symm
/-- what a text reads as, by a plan -/
def RowsOf (ds : List Dm) (ms : List Str) (t : Str) (rs : List Rw) : Prop := (∀ r ∈ rs, r.good ds ms) ∧ t = rowsT rs
/-- the parts of a text, each read or not -/
noncomputable def partsR (ds : List Dm) (ms : List Str) (t : Str) : List (Option Rw) := (Txt.split t "; ").map fun p => readR ds ms (Txt.split p " ")
theorem parts_some {ds : List Dm} {ms : List Str} {t : Str} {rs : List Rw} (h : partsR ds ms t = rs.map some) : RowsOf ds ms t rs := by
  have hl : (Txt.split t "; ").length = rs.length := by
    have := congrArg List.length h
    unfold partsR at this
    simpa using this
  have hi : ∀ i (h1 : i < (Txt.split t "; ").length) (h2 : i < rs.length), rs[i].good ds ms ∧ (Txt.split t "; ")[i] = rwT rs[i] := fun i h1 h2 => by
    have e := congrArg (fun z : List (Option Rw) => z[i]?) h
    unfold partsR at e
    simp only [List.getElem?_map, List.getElem?_eq_getElem h1, List.getElem?_eq_getElem h2, Option.map_some, Option.some.injEq] at e
    obtain ⟨q1, q2⟩ := readR_iff.mp e
    refine ⟨q1, ?_⟩
    unfold rwT
    rw [← q2, join_of_split]
  constructor
  · intro r hr
    obtain ⟨i, h2, rfl⟩ := List.mem_iff_getElem.mp hr
    exact (hi i (by omega) h2).1
  · have e : Txt.split t "; " = rs.map rwT := by
      refine List.ext_getElem (by rw [List.length_map]; exact hl) fun i h1 h2 => ?_
      rw [List.getElem_map]
      exact (hi i h1 (by rw [List.length_map] at h2; exact h2)).2
    have hne : rs ≠ [] := fun z => by
      rw [z] at e
      exact split_ne semi_ok.1 semi_ok.2 e
    unfold rowsT
    rw [if_neg (by simpa using hne), ← e, join_of_split]
theorem parts_of {ds : List Dm} {ms : List Str} {rs : List Rw} (hn : rs ≠ []) (h : ∀ r ∈ rs, r.good ds ms ∧ r.fine) : partsR ds ms (rowsT rs) = rs.map some := by
  unfold partsR
  rw [split_rows hn fun r hr => (h r hr).2, List.map_map]
  refine List.map_congr_left fun r hr => ?_
  show readR ds ms (Txt.split (rwT r) " ") = some r
  rw [split_row (h r hr).2]
  exact readR_iff.mpr ⟨(h r hr).1, rfl⟩
theorem minus_rows : RowsOf ds ms "-" [] := ⟨fun _ h => (nomatch h), rfl⟩
/-- a text that reads as no rows -/
theorem parts_none {ds : List Dm} {ms : List Str} {t : Str} (hf : ∀ r : Rw, r.good ds ms → r.fine) (ht : t ≠ "-") (h : (partsR ds ms t).any Option.isNone = true) : ∀ rs, ¬ RowsOf ds ms t rs := by
  rintro rs ⟨h1, rfl⟩
  have hn : rs ≠ [] := fun z => ht (by rw [z]; rfl)
  rw [parts_of hn fun r hr => ⟨h1 r hr, hf r (h1 r hr)⟩] at h
  obtain ⟨o, ho, h2⟩ := List.any_eq_true.mp h
  obtain ⟨r, _, rfl⟩ := List.mem_map.mp ho
  cases h2
end Kd

namespace Kd
open PySem PySem.Spec PyProof.Rows L2
/-! ### what a text reads as, as a plan -/
def wayS : List Str := [("first" : Str), ("last" : Str), ("day" : Str), ("before" : Str)]
def attOf (w : Str) : Option (Str × Str) := match Txt.split w ":" with
  | [a, b] => if b ∈ wayS then some (a, b) else none
  | _ => none
theorem colon_ok : TL.tl (":" : Str) ≠ [] ∧ (":" : Str).cps.all (· < 256) = true := by decide +kernel
theorem attOf_some {w : Str} {a : Str × Str} (h : attOf w = some a) : Txt.split w ":" = [a.1, a.2] ∧ a.2 ∈ wayS := by
  unfold attOf at h
  split at h
  · rename_i x y e
    split at h
    · rename_i hm
      cases h
      exact ⟨e, hm⟩
    · cases h
  · cases h
theorem attOf_of {w a b : Str} (h : Txt.split w ":" = [a, b]) (hm : b ∈ wayS) : attOf w = some (a, b) := by
  unfold attOf
  rw [h]
  exact if_pos hm
theorem attOf_txt {w : Str} {a : Str × Str} (h : attOf w = some a) : w = attT a := by
  have h1 := (attOf_some h).1
  have e : attT a = Txt.join ":" [a.1, a.2] := by rw [TL.join_eq]; rfl
  rw [e, ← h1, join_of_split]
def readD (p : Str) : Option Dm := match Txt.split p " " with
  | d :: n :: ws => if d = "dim" ∧ (ws.map attOf).any Option.isNone = false then some (n, ws.map fun w => (attOf w).getD (Str.empty, Str.empty)) else none
  | _ => none
theorem getD_map {α β : Type} {f : β → Option α} {z : α} {ws : List β} (h : (ws.map f).any Option.isNone = false) : ∃ xs : List α, ws.map f = xs.map some ∧ (ws.map fun w => (f w).getD z) = xs := by
  obtain ⟨xs, e⟩ := some_all h
  refine ⟨xs, e, ?_⟩
  have : (ws.map fun w => (f w).getD z) = (ws.map f).map fun o => o.getD z := by rw [List.map_map]; rfl
  rw [this, e, List.map_map]
  exact List.map_id xs
theorem map_some_at {α β : Type} {f : β → Option α} {ws : List β} {xs : List α} (h : ws.map f = xs.map some) : ws.length = xs.length ∧ ∀ i (h1 : i < ws.length) (h2 : i < xs.length), f ws[i] = some xs[i] := by
  have hl : ws.length = xs.length := by
    have := congrArg List.length h
    simpa using this
  refine ⟨hl, fun i h1 h2 => ?_⟩
  have e := congrArg (fun z : List (Option α) => z[i]?) h
  simp only [List.getElem?_map, List.getElem?_eq_getElem h1, List.getElem?_eq_getElem h2, Option.map_some, Option.some.injEq] at e
  exact e
/-- all that a dimension's text says -/
structure ReadD (p : Str) (d : Dm) : Prop where
  t : p = dimT d
  w : ∀ a ∈ d.2, IsWay a.2
  n : d.1.length ≤ p.length
  m : d.2.length ≤ p.length
  a : ∀ a ∈ d.2, a.1.length ≤ p.length
theorem readD_some {p : Str} {d : Dm} (h : readD p = some d) : ReadD p d := by
  unfold readD at h
  split at h
  · rename_i w0 n ws e
    split at h
    · rename_i c
      obtain ⟨xs, e1, e2⟩ := getD_map (z := (Str.empty, Str.empty)) c.2
      rw [e2] at h
      cases h
      obtain ⟨hl, hi⟩ := map_some_at e1
      have hw : ws = xs.map attT := List.ext_getElem (by rw [List.length_map]; exact hl) fun i h1 h2 => by
        rw [List.getElem_map]
        exact attOf_txt (hi i h1 (by omega))
      have hm : ∀ z ∈ Txt.split p " ", z.length ≤ p.length := fun z hz => part_len (by decide +kernel) hz
      refine ⟨?_, fun a ha => ?_, ?_, ?_, fun a ha => ?_⟩
      · unfold dimT dimW
        show p = Txt.join " " ([("dim" : Str), n] ++ xs.map attT)
        rw [← hw, ← c.1]
        have : [w0, n] ++ ws = Txt.split p " " := e.symm
        rw [this, join_of_split]
      · obtain ⟨i, h2, rfl⟩ := List.mem_iff_getElem.mp ha
        have h2 : i < xs.length := h2
        exact (attOf_some (hi i (by omega) h2)).2
      · exact hm n (by rw [e]; simp)
      · have h1 := split_many (x := p) (y := " ") (by decide +kernel)
        rw [e, List.length_cons, List.length_cons] at h1
        show xs.length ≤ p.length
        omega
      · obtain ⟨i, h2, rfl⟩ := List.mem_iff_getElem.mp ha
        have h2 : i < xs.length := h2
        have hiw : i < ws.length := by omega
        have h1 := (attOf_some (hi i hiw h2)).1
        have h3 := part_len (x := ws[i]) (y := ":") (p := xs[i].1) (by decide +kernel) (by rw [h1]; simp)
        have h4 := hm ws[i] (by rw [e]; simp [List.getElem_mem])
        exact Nat.le_trans h3 h4
    · cases h
  · cases h
theorem starts_preA (x y : Str) (hy : TL.tl y ≠ []) : Txt.startswith x y = TL.pre (TL.tl y) (TL.tl x) := by
  have h := TL.at_iff (x := x) hy 0
  rw [List.drop_zero] at h
  cases e : TL.pre (TL.tl y) (TL.tl x) with
  | true =>
    have h1 := h.mpr e
    unfold Txt.startswith
    rw [Bool.and_eq_true]
    exact ⟨decide_eq_true h1.1, h1.2⟩
  | false =>
    unfold Txt.startswith
    cases e2 : (decide (0 + y.length ≤ x.length) && Builtin.Str.subAt x y 0) with
    | false => rfl
    | true =>
      rw [Bool.and_eq_true] at e2
      have h2 := h.mp ⟨of_decide_eq_true e2.1, e2.2⟩
      rw [e] at h2
      cases h2
theorem tl_sumbA : TL.tl ("sum " : Str) = [115, 117, 109, 32] := by decide +kernel
theorem sum_of {x : Str} (h : Txt.startswith x "sum " = true) : ∃ z zs, Txt.split x " " = ("sum" : Str) :: z :: zs := by
  rw [starts_preA _ _ (by rw [tl_sumbA]; simp), tl_sumbA] at h
  obtain ⟨r, hr⟩ : ∃ r, TL.tl x = [115, 117, 109, 32] ++ r := by
    unfold TL.pre at h
    have h := eq_of_beq h
    exact ⟨(TL.tl x).drop 4, by rw [← h]; exact (List.take_append_drop 4 _).symm⟩
  have hs := TL.split_spl x (" " : Str) blank_ok.1 (TL.kind_ok blank_ok.2)
  rw [tl_blank, hr] at hs
  have e2 := TL.spl_part1 (s := 32) (S := []) (p := [115, 117, 109]) (rest := r) (acc := []) (by decide)
  have e3 : ([115, 117, 109] ++ ([32] ++ r) : List Nat) = [115, 117, 109, 32] ++ r := rfl
  rw [e3] at e2
  rw [e2] at hs
  cases hq : Txt.split x " " with
  | nil => rw [hq] at hs; cases hs
  | cons w ws =>
    rw [hq, List.map_cons] at hs
    injection hs with h1 h2
    have hw : w = ("sum" : Str) := TL.ext_tl (by rw [h1]; decide +kernel)
    cases ws with
    | nil => exact absurd h2.symm (spl_ne _ _ _ _)
    | cons z zs => exact ⟨z, zs, by rw [hw]⟩
/-- dimensions, read or not, and measures of a text -/
def planR (t : Str) : List (Option Dm) × List Str :=
  if Txt.startswith ((Txt.split t "; ").getLastD Str.empty) "sum " = true then ((Txt.split t "; ").dropLast.map readD, (Txt.split ((Txt.split t "; ").getLastD Str.empty) " ").drop 1) else ((Txt.split t "; ").map readD, [])
theorem read_dims {ps : List Str} {ds : List Dm} (h : ps.map readD = ds.map some) : ps = ds.map dimT := by
  obtain ⟨hl, hi⟩ := map_some_at h
  refine List.ext_getElem (by rw [List.length_map]; exact hl) fun i h1 h2 => ?_
  rw [List.getElem_map]
  exact (readD_some (hi i h1 (by omega))).t
theorem plan_some {t : Str} {ds : List Dm} {ms : List Str} (h : planR t = (ds.map some, ms)) : t = planT ds ms := by
  have hne := split_ne (x := t) semi_ok.1 semi_ok.2
  have hj := join_of_split t "; "
  unfold planR at h
  rcases List.eq_nil_or_concat (Txt.split t "; ") with hn | ⟨q, e, hc⟩
  · exact absurd hn hne
  rw [List.concat_eq_append] at hc
  rw [hc] at h
  have hl : (q ++ [e]).getLastD Str.empty = e := by simp
  have hd : (q ++ [e]).dropLast = q := by simp
  rw [hl, hd] at h
  unfold planT planW
  split at h
  · rename_i c
    have h1 : q.map readD = ds.map some := congrArg Prod.fst h
    have h2 : (Txt.split e " ").drop 1 = ms := congrArg Prod.snd h
    obtain ⟨z, zs, hz⟩ := sum_of c
    rw [hz] at h2
    have h2 : z :: zs = ms := h2
    have he : e = Txt.join " " (sumW ms) := by
      rw [← h2]
      show e = Txt.join " " (("sum" : Str) :: z :: zs)
      rw [← hz, join_of_split]
    have hs : sumT ms = [e] := by
      unfold sumT
      rw [if_neg (by rw [← h2]; simp), he]
    rw [hs, ← read_dims h1, ← hc, hj]
  · have h1 : (q ++ [e]).map readD = ds.map some := congrArg Prod.fst h
    have h2 : [] = ms := congrArg Prod.snd h
    rw [← h2, ← read_dims h1]
    show t = Txt.join "; " ((q ++ [e]) ++ [])
    rw [List.append_nil, ← hc, hj]
end Kd

namespace Kd
open PySem PySem.Spec PyProof.Rows L2
def wayV : List V := wayS.map V.str
theorem inV_strsW (z : Str) : ∀ us : List Str, inV (.str z) (us.map V.str) = decide (z ∈ us)
  | [] => by simp [inV]
  | y :: us => by
    have ih := inV_strsW z us
    unfold inV at ih ⊢
    rw [List.map_cons, List.any_cons, ih]
    have e : eqV (.str y) (.str z) = decide (z = y) := by
      show (y == z) = decide (z = y)
      by_cases q : z = y
      · simp [q]
      · have q2 : ¬ y = z := fun h => q h.symm
        simp [q, q2]
    rw [e]
    simp [List.mem_cons]
def okA (l : List Str) : Bool := match l with
  | [_, b] => decide (b ∈ wayS)
  | _ => false
theorem okA_iff (w : Str) : okA (Txt.split w ":") = (attOf w).isSome := by
  unfold attOf
  generalize Txt.split w ":" = l
  rcases l with _ | ⟨a, _ | ⟨b, _ | ⟨c, r⟩⟩⟩
  · rfl
  · rfl
  · show decide (b ∈ wayS) = (if b ∈ wayS then some (a, b) else none).isSome
    by_cases h : b ∈ wayS
    · rw [if_pos h, decide_eq_true h]
      rfl
    · rw [if_neg h, decide_eq_false h]
      rfl
  · rfl
theorem any_none {α β : Type} {f : β → Option α} (ws : List β) : (ws.map f).any Option.isNone = !(ws.all fun w => (f w).isSome) := by
  induction ws with
  | nil => rfl
  | cons w ws ih =>
    rw [List.map_cons, List.any_cons, List.all_cons, ih]
    cases f w <;> simp
section
variable {P : Program} {w : World} {K : PySem.W.Frag} {mg : Str → Option Value} {base : Heap} {f : Addr} {fd : FuncData}
/-- a tuple of texts -/
def TxT (K : PySem.W.Frag) (H : Hp) (v : V) (l : List Str) : Prop := ∃ r, v = .ref r ∧ SqT K H r (l.map V.str)
theorem TxT.same {H H' : Hp} {v : V} {l : List Str} (e : Same H H') : TxT K H v l → TxT K H' v l := fun ⟨r, h1, h2⟩ => ⟨r, h1, Same.seqT e h2⟩
theorem txts_atts {H : Hp} : ∀ {zs : List V} {ws : List Str} {as : List (Str × Str)}, Paired (TxT K H) zs (ws.map fun w => Txt.split w ":") → ws.map attOf = as.map some → Paired (AttAt K H) zs as
  | _, [], [], h, _ => by cases h; exact .nil
  | _, [], _ :: _, _, e => by simp at e
  | _, _ :: _, [], _, e => by simp at e
  | _, w :: ws, a :: as, h, e => by
    rw [List.map_cons, List.map_cons] at e
    injection e with e1 e2
    cases h with
    | cons x t =>
      obtain ⟨r, hr, hq⟩ := x
      have hq : SqT K _ r ((Txt.split w ":").map V.str) := hq
      rw [(attOf_some e1).1] at hq
      exact .cons ⟨r, hr, hq⟩ (txts_atts t e2)
def DimV (K : PySem.W.Frag) (H : Hp) (v : V) : Option Dm → Prop
  | none => v = .non
  | some d => DimAt K H v d
theorem DimV.same {H H' : Hp} {v : V} {o : Option Dm} (e : Same H H') (h : DimV K H v o) : DimV K H' v o := by
  cases o with
  | none => exact h
  | some d => exact DimAt.same e h
/-! ### read_dimension, of any text -/
def spReadDX (K : PySem.W.Frag) : Sp := fun vs H Q _ => ∃ p : Str, vs = [.str p] ∧ p.length ≤ 4000 ∧ ∀ v H', Same H H' → DimV K H' v (readD p) → Q v H'
abbrev N_read_dimension : List Str := ["part", "words", "word", "attributes", "attribute"]
theorem sc_read_dimension : FnScope N_read_dimension ["part"] (defScope s_read_dimension) := ⟨rfl, rfl, rfl, by decide +kernel, rfl, by decide +kernel, by decide +kernel⟩
/-! slots: 0 part 1 words 2 word 3 attributes 4 attribute; cells:  -/
set_option maxHeartbeats 0 in
theorem ok_readDX {a_WAYS : Addr} (F : FnP K "read_dimension" "read_dimension" s_read_dimension f fd) (g_WAYS : mg "WAYS" = some (.ref a_WAYS)) (hW : ∀ H, SqT K H a_WAYS wayV) (z_len : mg "len" = none) (z_tuple : mg "tuple" = none) (z_all : mg "all" = none) : FnOk P w K mg base CX0 1 f fd ["part"] (spReadDX K) := by
  refine F.ok sc_read_dimension (fun vs H Q E h => ?_) (fun cdv A outer s H vs Q E hr h => ?_)
  · obtain ⟨p, rfl, _⟩ := h
    rfl
  · obtain ⟨p, rfl, hp, k⟩ := h
    have nd := sc_read_dimension.nd
    refine ⟨_, PSs.nox (pss_cons (ps_set (i := 1) nd rfl (Or.inl rfl) (pe_split (pv 0) pe_str))
      (pss_cons (ps_if (PW.pt (pw_or (pt_cmpR op_lt (pe_callB call_len_seq (by rfl) z_len boot_len (pa_cons (pv 1) pa_nil)) pe_int (nomark _)) (pw_or1 (pt_cmpR op_ne (pe_ix ix_list (pv 1) pe_int (fun _ _ => rfl)) pe_str (nomark _)))))
        (pss_one (ps_ret pe_non))
        pss_nil)
      (pss_cons (ps_setLc (i := 3) (own := [("word", 2)]) (g := gName 2) (tt := tYes) (te := tCB (rTupOf K) (tCons (tM1 rSplit (tVar 2) (tC (.str ":"))) tNil)) rfl nd rfl rfl (sw_true rfl rfl rfl (by decide +kernel)) (pi_list (pe_slice sl_list (pv 1) (po_some pe_int) po_none)) (blkOk_by (own := [("word", 2)]) (N := N_read_dimension) (sc := defScope s_read_dimension) (by decide +kernel))
        (fun _ _ _ _ _ => pg_name (i := 2) nd rfl (Or.inl rfl)) (fun _ _ _ _ _ => pts_nil) (fun _ _ _ _ _ => pe_callTy call_tuple_of (by rfl) z_tuple (by decide +kernel) (pa_cons (pe_split (pv 2) pe_str) pa_nil)))
      (pss_cons (ps_if (pt_not (pt_val (pe_callB (cr_all rfl) (by rfl) z_all (by decide +kernel) (pa_cons (pe_lc (own := [("attribute", 4)]) (g := gName 4) (tt := tYes) (te := tAndV (tOp rEq (tCB (rLenQ K) (tCons (tVar 4) tNil)) (tC (.int 2))) (tOp (rIn K false) (tOp (rIxT K) (tVar 4) (tC (.int 1))) (tC (.ref a_WAYS)))) rfl nd (pi_list (pv 3)) (blkOk_by (own := [("attribute", 4)]) (N := N_read_dimension) (sc := defScope s_read_dimension) (by decide +kernel))
        (fun _ _ _ _ _ => pg_name (i := 4) nd rfl (Or.inl rfl)) (fun _ _ _ _ _ => pts_nil) (fun _ _ _ _ _ => pe_and (pe_cmpR op_eq (pe_callB call_len_seq (by rfl) z_len boot_len (pa_cons (pv 4) pa_nil)) pe_int (nomark _)) (pe_one (pe_cmpR op_in_seq (pe_ix ix_tup (pv 4) pe_int (fun _ _ => rfl)) (pe_glob (v := .ref a_WAYS) rfl g_WAYS rfl) (by rfl))))) pa_nil))))
        (pss_one (ps_ret pe_non))
        pss_nil)
      (pss_one (ps_ret (pe_tup (pa_cons (pe_ix ix_list (pv 1) pe_int (fun _ _ => rfl)) (pa_cons (pe_callTy call_tuple_of (by rfl) z_tuple (by decide +kernel) (pa_cons (pv 3) pa_nil)) pa_nil))))))))), ?_⟩
    refine ⟨_, rfl, ⟨_, rfl⟩, _, _, rfl, rfl, by decide +kernel, Nat.le_trans (show p.length + 2 ≤ 4002 by omega) (by decide), fun l hl => ?_⟩
    have hne := split_ne (x := p) blank_ok.1 blank_ok.2
    have hmany := split_many (x := p) (y := " ") (by decide +kernel)
    have hlen : ∀ z ∈ Txt.split p " ", z.length ≤ p.length := fun z hz => part_len (by decide +kernel) hz
    have kr : readD p = readD p := rfl
    unfold readD at k
    generalize e0 : upd H l _ = H0
    have N0 := newO hl e0
    generalize Txt.split p " " = ws at N0 hne hmany hlen k ⊢
    refine set_st (σ' := [some (.str p), some (.ref l), none, none, none]) rfl ?_
    refine ⟨_, rfl, _, _, rfl, .inl (SqL.of N0.f), _, _, rfl, rfl, _, rfl, ?_⟩
    rw [List.length_map]
    rcases ws with _ | ⟨w0, _ | ⟨n, ws⟩⟩
    · exact absurd rfl hne
    · refine iteT0 (decide_eq_true (show (1 : Int) < 2 by decide)) ?_
      exact k .non _ N0.s rfl
    refine iteF0 (fun q => absurd (of_decide_eq_true q) (by simp; omega)) ?_
    have q0 : SqL K H0 l (.str w0 :: .str n :: ws.map V.str) := SqL.of N0.f
    refine ⟨_, rfl, l, _, _, _, rfl, rfl, q0, atI_nat (j := 0) rfl, rfl, _, rfl, ?_⟩
    by_cases c0 : w0 = "dim"
    case neg =>
      refine iteNT (fun z => c0 (by injection z)) ?_
      refine k .non _ N0.s ?_
      show DimV K H0 .non (if w0 = "dim" ∧ _ then _ else none)
      rw [if_neg (fun z => c0 z.1)]
      rfl
    refine iteNS (congrArg V.str c0) ?_
    rw [List.length_cons, List.length_cons] at hmany
    refine ⟨_, rfl, _, rfl, l, _, rfl, q0, fun p1 n1 => ?_⟩
    have ecut : cutV (.str w0 :: .str n :: ws.map V.str) (some 2) none = ws.map V.str := cutFrom _ 2
    rw [ecut]
    generalize e1 : upd H0 p1 _ = H1
    have N1 := newO n1 e1
    refine ⟨p1, rfl, ⟨_, SqL.of N1.f⟩, fun D hD => lc_build (walk_list (K := K) (a := p1)) hD (fun i zs R => Same H1 R ∧ Paired (TxT K R) zs ((ws.take i).map fun w => Txt.split w ":")) ⟨Same.refl _, .nil⟩ (fun _ _ _ _ z => SqL.of ((z.1.trans cd_sub) _ _ N1.f)) ?_ ?_⟩
    · rintro i zs y H2 H2' hi e2 ly ⟨s2, pz⟩ ⟨rfl, hy⟩
      rw [List.length_map] at hi
      obtain ⟨w, rfl, hwi⟩ := map_atF hy
      have hwl := hlen w (by simp [List.mem_of_getElem? hwi])
      refine ⟨rfl, yes ?_⟩
      refine ⟨_, rfl, ⟨_, rfl⟩, _, _, rfl, rfl, by decide +kernel, Nat.le_trans (show w.length + 2 ≤ 4002 by omega) (by decide), fun p2 n2 => ?_⟩
      generalize e3 : upd H2' p2 _ = H3
      have N3 := newO n2 e3
      refine ⟨p2, _, rfl, .inl ⟨SqL.of N3.f, fun t nt => ?_⟩⟩
      generalize e4 : upd H3 t _ = H4
      have N4 := newO nt e4
      have s4 := N3.s.trans N4.s
      have e5 := s4 _ _ e2
      refine LcNx.add e5 ly (by omega) ⟨s2.trans (cd_same s4), ?_⟩
      rw [← take_snocF (f := fun w => Txt.split w ":") hwi]
      exact PySem.Paired.snoc (PySem.Paired.mono (fun _ _ => TxT.same (cd_same s4)) pz) ⟨t, rfl, seqT_cdl e5 (SqT.of N4.f)⟩
    · rintro zs H2 e2 ly ⟨s2, pz⟩
      rw [take_all] at pz
      have pz2 : Paired (TxT K H2) zs (ws.map fun w => Txt.split w ":") := PySem.Paired.mono (fun _ _ => TxT.same cd_sub) pz
      have hzl := pz2.length
      rw [List.length_map] at hzl
      have s02 : Same H0 H2 := N1.s.trans (s2.trans cd_sub)
      refine set_st (σ' := [some (.str p), some (.ref l), none, some (.ref D), none]) rfl ?_
      refine ⟨_, rfl, D, rfl, ⟨_, SqL.of e2⟩, fun D2 hD2 => lc_build (walk_list (K := K) (a := D) (xs := zs)) hD2 (fun i us R => Same H2 R ∧ us = (ws.take i).map fun w => V.bl (attOf w).isSome) ⟨Same.refl _, rfl⟩ (fun _ _ _ _ z => SqL.of ((z.1.trans cd_sub) _ _ e2)) ?_ ?_⟩
      · rintro i us y H3 H3' hi e3 ly3 ⟨s3, rfl⟩ ⟨rfl, hy⟩
        obtain ⟨sp, hsp, r, rfl, h5⟩ := paired_at pz2 hy
        rw [List.getElem?_map] at hsp
        obtain ⟨w, hw, rfl⟩ := Option.map_eq_some_iff.mp hsp
        have h6 := Same.seqT (s3.trans cd_sub) h5
        refine ⟨rfl, yes ?_⟩
        refine ⟨_, rfl, _, _, rfl, .inr h6, rfl, _, rfl, ?_⟩
        rw [List.length_map]
        have add : ∀ {b : Bool}, b = (attOf w).isSome → ∃ acc, H3' D2 = some (.lst acc) ∧ acc.length < sizeLine ∧ LcNx D2 (fun i us R => Same H2 R ∧ us = (ws.take i).map fun w => V.bl (attOf w).isSome) (i + 1) (upd H3' D2 (.lst (acc ++ [V.bl b]))) := fun {b} hb => by
          rw [hb]
          exact LcNx.add e3 ly3 (by omega) ⟨s3, take_snocF (f := fun w => V.bl (attOf w).isSome) hw⟩
        rw [← okA_iff] at add
        generalize Txt.split w ":" = sl at h6 add ⊢
        rcases sl with _ | ⟨a, _ | ⟨b, _ | ⟨c, sr⟩⟩⟩
        · exact iteF0 (by decide) (add rfl)
        · exact iteF0 (fun q => absurd (V.int.inj (of_decide_eq_true q)) (show ¬ (1 : Int) = 2 by decide)) (add rfl)
        · refine iteT0 (decide_eq_true rfl) ?_
          have h6 : SqT K H3' r [.str a, .str b] := h6
          refine ⟨_, rfl, r, _, _, _, rfl, rfl, h6, atI_nat (j := 1) rfl, a_WAYS, wayV, rfl, .inr (hW _), rfl, by decide +kernel, ?_⟩
          rw [show (if false = true then !inV (V.str b) wayV else inV (V.str b) wayV) = inV (V.str b) (wayS.map V.str) from rfl, inV_strsW]
          exact add rfl
        · refine iteF0 (fun q => ?_) (add rfl)
          have q := V.int.inj (of_decide_eq_true q)
          simp at q
          omega
      · rintro us H3 e3 ly3 ⟨s3, rfl⟩
        have s23 : Same H2 H3 := s3.trans cd_sub
        rw [hzl, List.take_length] at e3
        refine ⟨D2, ws.map fun w => (attOf w).isSome, rfl, SqL.of (by rw [List.map_map]; exact e3), _, rfl, ?_⟩
        have hall : ((ws.map fun w => (attOf w).isSome).all id) = ws.all fun w => (attOf w).isSome := by
          rw [List.all_map]
          rfl
        rw [hall]
        have s03 := s02.trans s23
        cases cv : ws.all fun w => (attOf w).isSome with
        | false =>
          refine iteT0 rfl (k .non _ (N0.s.trans s03) ?_)
          show DimV K H3 .non (if w0 = "dim" ∧ _ then _ else none)
          rw [if_neg (fun z => by rw [any_none, cv] at z; exact Bool.noConfusion z.2)]
          rfl
        | true =>
          refine iteF0 (by decide) ?_
          have hn : (ws.map attOf).any Option.isNone = false := by rw [any_none, cv]; rfl
          obtain ⟨as, ea, eb⟩ := getD_map (z := (Str.empty, Str.empty)) hn
          have hat := txts_atts pz2 ea
          refine ⟨_, rfl, l, _, _, _, rfl, rfl, s03.seq q0, atI_nat (j := 1) rfl, _, rfl, D, zs, rfl, .inl ⟨SqL.of (s23 _ _ e2), fun q hq => ?_⟩⟩
          generalize e4 : upd H3 q _ = H4
          have N4 := newO hq e4
          refine ⟨by show 2 ≤ sizeLine; decide, fun t ht => ?_⟩
          generalize e5 : upd H4 t _ = H5
          have N5 := newO ht e5
          refine k _ H5 (((N0.s.trans s03).trans N4.s).trans N5.s) ?_
          show DimV K H5 _ (if w0 = "dim" ∧ _ then _ else none)
          rw [if_pos ⟨c0, hn⟩, eb]
          exact ⟨t, q, rfl, SqT.of N5.f, zs, SqT.of (N5.s _ _ N4.f), PySem.Paired.mono (fun _ _ => AttAt.same ((s23.trans N4.s).trans N5.s)) hat⟩
end
end Kd

namespace Kd
open PySem PySem.Spec PyProof.Rows L2
section
variable {P : Program} {w : World} {K : PySem.W.Frag} {mg : Str → Option Value} {base : Heap} {f : Addr} {fd : FuncData}
/-- a dimension short enough to be written -/
structure Sht (d : Dm) : Prop where
  n8 : d.1.length ≤ 8
  al : d.2.length ≤ 5
  a8 : ∀ a ∈ d.2, a.1.length ≤ 8 ∧ a.2.length ≤ 8
theorem Good.sht {ds : List Dm} {ms : List Str} (h : Good ds ms) : ∀ d ∈ ds, Sht d := fun d hd => ⟨(h.dn d hd).le8, h.al d hd, fun a ha => ⟨(h.an d hd a ha).1.le8, (h.an d hd a ha).2.nm.2⟩⟩
theorem Good.wok {ds : List Dm} {ms : List Str} (h : Good ds ms) : ∀ d ∈ ds, WOk d := fun d hd => ⟨(h.dn d hd).low, fun a ha => ⟨(h.an d hd a ha).1.low, (h.an d hd a ha).2⟩⟩
theorem dimW_len {d : Dm} (h : Sht d) : ∀ z ∈ dimW d, z.length ≤ 17 := fun z hz => by
  have h3 : ("dim" : Str).length = 3 := by decide +kernel
  unfold dimW at hz
  rcases List.mem_append.mp hz with hz | hz
  · rcases List.mem_cons.mp hz with rfl | hz
    · omega
    · rw [List.mem_singleton.mp hz]
      have := h.n8
      omega
  · obtain ⟨a, ha, rfl⟩ := List.mem_map.mp hz
    exact attT_len (h.a8 a ha).1 (h.a8 a ha).2
theorem dimW_many {d : Dm} (h : Sht d) : (dimW d).length ≤ 7 := by
  unfold dimW
  have := h.al
  rw [List.length_append, List.length_map]
  show 2 + _ ≤ 7
  omega
theorem len_blank : (" " : Str).length = 1 := by decide +kernel
theorem len_semi : ("; " : Str).length = 2 := by decide +kernel
theorem dimW_fit {d : Dm} (h : Sht d) : ((dimW d).map (·.length)).sum + (dimW d).length * (" " : Str).length ≤ 16777216 := by
  have h1 := sum_le (dimW_len h)
  have h2 := dimW_many h
  rw [len_blank]
  omega
theorem dimT_len {d : Dm} (h : Sht d) : (dimT d).length ≤ 126 := by
  have h1 := join_len (y := (" " : Str)) (dimW_len h)
  have h2 := dimW_many h
  rw [len_blank] at h1
  unfold dimT
  omega
end
end Kd

namespace Kd
open PySem PySem.Spec PyProof.Rows L2
section
variable {P : Program} {w : World} {K : PySem.W.Frag} {mg : Str → Option Value} {base : Heap} {f : Addr} {fd : FuncData}
/-! ### _law_plan_shown -/
theorem sumW_fit {ms : List Str} (h4 : ms.length ≤ 4) (h8 : ∀ z ∈ ms, z.length ≤ 8) : (∀ z ∈ sumW ms, z.length ≤ 8) ∧ (sumW ms).length ≤ 5 := by
  have h3 : ("sum" : Str).length = 3 := by decide +kernel
  refine ⟨fun z hz => ?_, ?_⟩
  · unfold sumW at hz
    rcases List.mem_append.mp hz with hz | hz
    · rw [List.mem_singleton.mp hz]
      omega
    · exact h8 z hz
  · unfold sumW
    rw [List.length_append]
    show 1 + _ ≤ 5
    omega
theorem sumW_fit2 {ms : List Str} (h4 : ms.length ≤ 4) (h8 : ∀ z ∈ ms, z.length ≤ 8) : ((sumW ms).map (·.length)).sum + (sumW ms).length * (" " : Str).length ≤ 16777216 := by
  obtain ⟨a, b⟩ := sumW_fit h4 h8
  have h1 := sum_le a
  rw [len_blank]
  omega
theorem planW_len {ds : List Dm} {ms : List Str} (h : Good ds ms) : (∀ z ∈ planW ds ms, z.length ≤ 126) ∧ (planW ds ms).length ≤ 5 := by
  obtain ⟨a, b⟩ := sumW_fit h.m4 fun z hz => (h.mn z hz).le8
  have d4 := h.d4
  refine ⟨fun z hz => ?_, ?_⟩
  · unfold planW at hz
    rcases List.mem_append.mp hz with hz | hz
    · obtain ⟨d, hd, rfl⟩ := List.mem_map.mp hz
      exact dimT_len (h.sht d hd)
    · unfold sumT at hz
      split at hz
      · cases hz
      · rw [List.mem_singleton.mp hz]
        have h1 := join_len (y := (" " : Str)) a
        rw [len_blank] at h1
        omega
  · unfold planW sumT
    rw [List.length_append, List.length_map]
    split
    · show _ + 0 ≤ 5
      omega
    · show _ + 1 ≤ 5
      omega
theorem planW_fit {ds : List Dm} {ms : List Str} (h : Good ds ms) : ((planW ds ms).map (·.length)).sum + (planW ds ms).length * ("; " : Str).length ≤ 16777216 := by
  obtain ⟨a, b⟩ := planW_len h
  have h1 := sum_le a
  rw [len_semi]
  omega
theorem planT_len {ds : List Dm} {ms : List Str} (h : Good ds ms) : (planT ds ms).length ≤ 640 := by
  obtain ⟨a, b⟩ := planW_len h
  have h1 := join_len (y := ("; " : Str)) a
  rw [len_semi] at h1
  unfold planT
  omega
def spShown (K : PySem.W.Frag) : Sp := fun vs H Q _ => ∃ (l m : Addr) (ds : List Dm) (ms : List Str), vs = [.ref l, .ref m] ∧ DimsAt K H l ds ∧ H m = some (.lst (ms.map V.str)) ∧ Good ds ms ∧ ∀ H', Same H H' → Q (.str (planT ds ms)) H'
abbrev N_l_plan_shown : List Str := ["some", "sums", "parts", "name", "rows", "one", "way"]
theorem sc_l_plan_shown : FnScope N_l_plan_shown ["some", "sums"] (defScope s_l_plan_shown) := ⟨rfl, rfl, rfl, by decide +kernel, rfl, by decide +kernel, by decide +kernel⟩
/-! slots: 0 some 1 sums 2 parts 3 name 4 rows 5 one 6 way; cells:  -/
theorem ok_shown (F : FnP K "_law_plan_shown" "_law_plan_shown" s_l_plan_shown f fd) : FnOk P w K mg base CX0 1 f fd ["some", "sums"] (spShown K) := by
  refine F.ok sc_l_plan_shown (fun vs H Q E h => ?_) (fun cdv A outer s H vs Q E hr h => ?_)
  · obtain ⟨l, m, ds, ms, rfl, _⟩ := h
    rfl
  · obtain ⟨l, m, ds, ms, rfl, ⟨xs, hl, hp⟩, hm, hg, k⟩ := h
    have nd := sc_l_plan_shown.nd
    refine ⟨_, PSs.nox (pss_cons (ps_set (i := 2) nd rfl (Or.inl rfl) (pe_lst pa_nil))
      (pss_cons (ps_for PassesOwn.never rfl (pi_list (pv 0)) (pg_tup rfl (pgs_cons (pg_name (i := 3) nd rfl (Or.inl rfl)) (pgs_cons (pg_name (i := 4) nd rfl (Or.inl rfl)) pgs_nil)))
        (pss_one (ps_expr (pe_bm PySem.F.plainAttrs_list PySem.F.slot_list_append PySem.F.type_list_append mt_append (pv 2) (pa_cons (pe_join pe_str (pe_op op_cat (pe_lst (pa_cons pe_str (pa_cons (pv 3) pa_nil))) (pe_lc (own := [("one", 5), ("way", 6)]) (g := gTup K 2 (gCons (gName 5) (gCons (gName 6) gNil))) (tt := tYes) (te := tOp rAddS (tOp rAddS (tVar 5) (tC (.str ":"))) (tVar 6)) rfl nd (pi_tup (pv 4)) (blkOk_by (own := [("one", 5), ("way", 6)]) (N := N_l_plan_shown) (sc := defScope s_l_plan_shown) (by decide +kernel))
        (fun _ _ _ _ _ => pg_tup rfl (pgs_cons (pg_name (i := 5) nd rfl (Or.inl rfl)) (pgs_cons (pg_name (i := 6) nd rfl (Or.inl rfl)) pgs_nil))) (fun _ _ _ _ _ => pts_nil) (fun _ _ _ _ _ => pe_op op_add_str (pe_op op_add_str (pv 5) pe_str) (pv 6))))) pa_nil)))))
      (pss_cons (ps_if (pt_cmpR (op_neD hr.units) (pv 1) (pe_lst pa_nil) (nomark _))
        (pss_one (ps_expr (pe_bm PySem.F.plainAttrs_list PySem.F.slot_list_append PySem.F.type_list_append mt_append (pv 2) (pa_cons (pe_join pe_str (pe_op op_cat (pe_lst (pa_cons pe_str pa_nil)) (pv 1))) pa_nil))))
        pss_nil)
      (pss_one (ps_ret (pe_join pe_str (pv 2))))))), ?_⟩
    have hlen := hp.length
    have d4 := hg.d4
    refine ⟨by show 0 ≤ sizeLine; decide, fun lf hf => ?_⟩
    refine set_st (σ' := [some (.ref l), some (.ref m), some (.ref lf), none, none, none, none]) rfl ?_
    have s0 : Same H (upd H lf (.lst [])) := same_new hf
    refine ⟨_, rfl, l, rfl, ⟨_, s0.seq hl⟩, ?_⟩
    refine for_list (K := K) (a := l) (xs := xs) (fun i σ H2 => ∃ x3 x4 x5 x6 : Option V, σ = [some (.ref l), some (.ref m), some (.ref lf), x3, x4, x5, x6] ∧ H2 lf = some (.lst ((ds.take i).map fun d => V.str (dimT d))) ∧ Same H (cd lf H2)) ⟨_, _, _, _, rfl, upd_same, Same.cd s0 hf⟩ (fun i σ H2 _ ⟨_, _, _, _, _, _, s2⟩ => (s2.trans cd_sub).seq hl) ?_ ?_
    · rintro i x σ H2 hi ⟨x3, x4, x5, x6, rfl, f2, s2⟩
      obtain ⟨d, hd, p, q, rfl, h1, ys, h2, h3⟩ := paired_at hp hi
      have s02 := s2.trans cd_sub
      have hs := hg.sht d (List.mem_of_getElem? hd)
      have hal := hs.al
      have hle := h3.length
      refine ⟨p, _, rfl, Same.seqT s02 h1, rfl, _, _, rfl, _, _, rfl, rfl, ?_⟩
      refine st_eq (σ' := [some (.ref l), some (.ref m), some (.ref lf), some (.str d.1), some (.ref q), x5, x6]) rfl ?_
      refine ⟨_, rfl, .inl ⟨rfl, _, SqL.of f2⟩, ⟨_, rfl⟩, ?_⟩
      refine ⟨_, rfl, by show 2 ≤ sizeLine; decide, fun p0 n0 => ?_⟩
      have s3 : Same H2 (upd H2 p0 (.lst [.str "dim", .str d.1])) := same_new n0
      have e0 : upd H2 p0 (.lst [.str "dim", .str d.1]) p0 = some (.lst [.str "dim", .str d.1]) := upd_same
      generalize upd H2 p0 (.lst [.str "dim", .str d.1]) = H3 at s3 e0 ⊢
      have s03 := s02.trans s3
      refine ⟨_, rfl, q, rfl, ⟨_, Same.seqT s03 h2⟩, fun D hD => ?_⟩
      refine lc_build (walk_tup (K := K) (a := q) (xs := ys)) hD (fun i zs R => Same H3 R ∧ zs = (d.2.take i).map fun a => V.str (attT a)) ⟨Same.refl _, rfl⟩ (fun _ _ _ _ p => Same.seqT (s03.trans (p.1.trans cd_sub)) h2) ?_ ?_
      · rintro j zs y H4 H4' hj e ly ⟨sm, rfl⟩ ⟨rfl, hy⟩
        obtain ⟨a, hA, r, rfl, h5⟩ := paired_at h3 hy
        have sl := hs.a8 a (List.mem_of_getElem? hA)
        have c1 : (":" : Str).length = 1 := by decide +kernel
        refine ⟨r, _, rfl, Same.seqT (s03.trans (sm.trans cd_sub)) h5, rfl, _, _, rfl, _, _, rfl, rfl, rfl, yes ?_⟩
        refine ⟨_, rfl, _, _, rfl, rfl, le_line (by omega), _, rfl, _, _, rfl, rfl, ?_, ?_⟩
        · rw [len_append]
          exact le_line (by omega)
        refine LcNx.add e ly (by omega) ⟨sm, ?_⟩
        obtain ⟨g1, g2⟩ := List.getElem?_eq_some_iff.mp hA
        rw [List.take_succ_eq_append_getElem g1, g2, List.map_append]
        rfl
      · rintro zs H4 e ly ⟨sm, rfl⟩
        rw [hle, List.take_length] at e
        have s4 : Same H3 H4 := sm.trans cd_sub
        refine ⟨p0, D, _, _, rfl, rfl, s4 _ _ e0, e, by rw [List.length_map]; exact le_line (by show 2 + _ ≤ _; omega), fun p1 n1 => ?_⟩
        have s5 := (s3.trans s4).trans (same_new (o := .lst ([.str "dim", .str d.1] ++ d.2.map fun a => V.str (attT a))) n1)
        refine ⟨_, p1, dimW d, rfl, rfl, .inl (SqL.of ?_), dimW_fit hs, ?_⟩
        · rw [upd_same]
          unfold dimW
          rw [List.map_append, List.map_map]
          rfl
        generalize upd H4 p1 (.lst ([.str "dim", .str d.1] ++ d.2.map fun a => V.str (attT a))) = H5 at s5 ⊢
        have f5 := s5 _ _ f2
        refine ⟨lf, _, _, rfl, rfl, f5, small1000 (by rw [List.length_map, List.length_take]; omega), ?_⟩
        refine ⟨_, _, _, _, rfl, ?_, ?_⟩
        · rw [upd_same]
          obtain ⟨g1, g2⟩ := List.getElem?_eq_some_iff.mp hd
          rw [List.take_succ_eq_append_getElem g1, g2, List.map_append]
          rfl
        · rw [cd_upd]
          exact s2.trans (cd_same s5)
    · rintro σ H2 ⟨x3, x4, x5, x6, rfl, f2, s2⟩
      rw [hlen, List.take_length] at f2
      have s02 := s2.trans cd_sub
      have nlm : m ≠ lf := ne_of_none hm hf
      refine ⟨_, rfl, by show 0 ≤ sizeLine; decide, fun p0 n0 => ?_⟩
      have s3 : Same H2 (upd H2 p0 (.lst [])) := same_new n0
      have e3 : upd H2 p0 (.lst []) p0 = some (.lst []) := upd_same
      generalize upd H2 p0 (.lst []) = H3 at s3 e3 ⊢
      refine ⟨.list (ms.map PyData.str), .list [], strs_dp (SqL.of ((s02.trans s3) _ _ hm)), .lst (SqL.of e3) .nil, shaped_strs ms (fun z hz => (hg.mn z hz).low), by decide +kernel, _, rfl, ?_⟩
      cases ms with
      | nil =>
        refine iteF ?_
        refine ⟨⟨_, rfl⟩, _, rfl, _, lf, planW ds [], rfl, rfl, .inl (SqL.of ?_), planW_fit hg, k _ (s02.trans s3)⟩
        rw [s3 _ _ f2]
        unfold planW sumT
        rw [List.map_append, List.map_map]
        simp
      | cons z zs =>
        refine iteT ?_
        have f3 := s3 _ _ f2
        refine ⟨_, rfl, .inl ⟨rfl, _, SqL.of f3⟩, ⟨_, rfl⟩, ?_⟩
        refine ⟨by show 1 ≤ sizeLine; decide, fun p1 n1 => ?_⟩
        have s4 : Same H3 (upd H3 p1 (.lst [.str "sum"])) := same_new n1
        have e4 : upd H3 p1 (.lst [.str "sum"]) p1 = some (.lst [.str "sum"]) := upd_same
        generalize upd H3 p1 (.lst [.str "sum"]) = H4 at s4 e4 ⊢
        have m4 := hg.m4
        refine ⟨_, rfl, p1, m, _, _, rfl, rfl, e4, (s02.trans (s3.trans s4)) _ _ hm, by rw [List.length_map]; exact le_line (by show 1 + _ ≤ _; omega), fun p2 n2 => ?_⟩
        have s5 := s4.trans (same_new (o := .lst ([.str "sum"] ++ (z :: zs).map V.str)) n2)
        refine ⟨_, p2, sumW (z :: zs), rfl, rfl, .inl (SqL.of ?_), sumW_fit2 m4 (fun y hy => (hg.mn y hy).le8), ?_⟩
        · rw [upd_same]
          unfold sumW
          rw [List.map_append]
          rfl
        generalize upd H4 p2 (.lst ([.str "sum"] ++ (z :: zs).map V.str)) = H5 at s5 ⊢
        have f5 := s5 _ _ f3
        refine ⟨lf, _, _, rfl, rfl, f5, small1000 (by rw [List.length_map]; omega), ?_⟩
        refine ⟨⟨_, rfl⟩, _, rfl, _, lf, planW ds (z :: zs), rfl, rfl, .inl (SqL.of ?_), planW_fit hg, k _ ?_⟩
        · rw [upd_same]
          unfold planW sumT
          rw [List.map_append, List.map_map]
          rfl
        · exact Same.upd (s02.trans (s3.trans s5)) hf
end
end Kd

namespace KdXc
open PySem PySem.Spec PyProof.Rows L2
/-! ### C(e, ..) in a try's body, where C's __init__ may raise -/
section
variable {X : Cx} {CX : CXT} {k : Nat} {f C : Addr} {fd : FuncData} {ps : List Str} {sp : Sp} {dvs : List V} {ds : List Value} {E : L2.St → XK} {x : Str} {p pos : Pos} {e : Expr} {es : List Expr} {t : TA}
def tMakeS (C : Addr) (sp : Sp) (dvs : List V) (E : L2.St → XK) (t : TA) : TE := fun σ H Q => t σ H fun vs H1 => ∀ x dx, H1 x = none → H1 dx = none → dx ≠ x →
  sp (.ref x :: (vs ++ dvs)) (upd (upd H1 dx (.own x)) x (.ins C dx [])) (fun v H2 => v = .non ∧ Q (.ref x) H2) (E σ)
theorem run_makeS {pins : List (Addr × Obj)} {σ : L2.St} {H : Hp} {s : Shared} {Q : VK} {us : List Value} {vs : List V} (M : Mk X.K C f) (G : FnOk X.prog X.w X.K X.mg X.base CX k f fd ps sp) (hr : Room (k + 1) X.A) (hb : Binds X.K fd ps ds) (hd : Vals dvs ds)
    (hx : PassesAt CX X σ (E σ)) (I : Inv X pins σ H s) (r : Vals vs us)
    (h : ∀ x dx, H x = none → H dx = none → dx ≠ x → sp (.ref x :: (vs ++ dvs)) (upd (upd H dx (.own x)) x (.ins C dx [])) (fun v H2 => v = .non ∧ Q (.ref x) H2) (E σ)) :
    wpAny (model X.prog X.w) X.A (call (.ref C) us) (EP X pins σ Q) X.xe s := by
  have want := h (s.heap.objs.size + 1) s.heap.objs.size (I.hok.fresh (Nat.le_succ _)) (I.hok.fresh (Nat.le_refl _)) (Nat.ne_of_lt (Nat.lt_succ_self _))
  have J := Inv.made (C := C) I
  have rr : Vals (V.ref (s.heap.objs.size + 1) :: (vs ++ dvs)) (Value.ref (s.heap.objs.size + 1) :: (us ++ ds)) := .cons rfl (r.append hd)
  have hlen : (Value.ref (s.heap.objs.size + 1) :: us ++ ds).length = ps.length := by
    have z := rr.length
    rw [G.len _ _ _ _ want] at z
    exact z.symm
  have go := G.run _ X.stack _ _ ⟨Value.ref (s.heap.objs.size + 1) :: us, []⟩ (Value.ref (s.heap.objs.size + 1) :: (us ++ ds)) _ _ (E σ) (hr.make C us []) (J.env0.make C us []) (hb _ (Value.ref (s.heap.objs.size + 1) :: us) J.kIn hlen) rr want
  refine wpAny_call (make_map (f := f) I.kIn M.makes M.init (beq_iff_eq.mp M.fn) (codeAny_mono go fun r s' back => ?_))
  cases r with
  | error er => exact hx pins _ _ er s' J back
  | ok fl =>
    cases fl with
    | ret u =>
      obtain ⟨v, H', J3, rv, ev, q3⟩ := J.after back
      subst ev
      exact ⟨rv, ⟨V.ref (s.heap.objs.size + 1), H', J3, rfl, q3⟩⟩
    | next => exact False.elim back
    | brk => exact False.elim back
    | cont => exact False.elim back
theorem pe_makeS (M : Mk X.K C f) (G : FnOk X.prog X.w X.K X.mg X.base CX k f fd ps sp) (hr : Room (k + 1) X.A) (hg : Gl X x) (hm : X.mg x = some (.ref C)) (hb : Binds X.K fd ps ds) (hd : Vals dvs ds) (hx : ∀ σ, PassesAt CX X σ (E σ))
    (ha : PA X (e :: es) t) (hdb : (x == ("__debug__" : Str)) = false := by decide) (he : starEach (e :: es) X.env = (false, eval e X.env) :: starEach es X.env := by rfl) (hpl : (backTo pos (starEach es X.env)).any (·.1) = false := by rfl) :
    PE X (.Call (.Name x p) (e :: es) [] pos) (tMakeS C sp dvs E t) := by
  refine ⟨fun pins s σ H Q I h => wpAny_Call_Name_kw (ld_glob I hg hm ?_ hdb)⟩
  refine PySem.W.callWith_K (h₀ := X.base) I.ok.mod.kin M.kp (thn (ha.run pos pins s σ H _ I h) fun us s1 ⟨vs, H1, I1, r, q⟩ => ⟨I1.kIn, run_makeS M G hr hb hd (hx σ) I1 r q⟩) he hpl
end
/-! ### what the head says of a refusal's class -/
def oexB (K : PySem.W.Frag) (C : Addr) : Bool := match K.lookup C with
  | some ⟨.type c, _, .cls cd, sl⟩ => decide (c = "type") && (match cd.mro, sl.toList with
    | .ref D :: bm, [_, _, _, _, some (.builtin n), _] => decide (D = C) && (decide (n = "ValueError.__new__") && (!cd.hasDel && (cd.hasDict && PySem.HandSPX.refsVE bm)))
    | _, _ => false)
  | _ => false
theorem oexB_ok {K : PySem.W.Frag} {C : Addr} (h : oexB K C = true) : ∃ nm q N bs bm sn sub ab col dd k0 k1 k2 k3 k5, K.lookup C = some (excClassObj nm q C N bs bm true sn sub ab col dd k0 k1 k2 k3 k5 "ValueError.__new__") ∧ PySem.HandSPX.refsVE bm = true := by
  unfold oexB at h
  split at h
  · rename_i c dd cd sl ho
    obtain ⟨hc, h⟩ := He.ba h
    have hc : c = "type" := of_decide_eq_true hc
    split at h
    · rename_i D bm k0 k1 k2 k3 n k5 hm hs
      obtain ⟨h1, h⟩ := He.ba h
      obtain ⟨h2, h⟩ := He.ba h
      obtain ⟨h3, h⟩ := He.ba h
      obtain ⟨h4, h5⟩ := He.ba h
      have e1 : D = C := of_decide_eq_true h1
      have e2 : n = "ValueError.__new__" := of_decide_eq_true h2
      have e3 : cd.hasDel = false := by simpa using h3
      obtain ⟨nm, bs, mro, ns, qn, hd, sn, sub, ab, col, del⟩ := cd
      dsimp only at hm e3 h4
      subst hc e1 e2 e3 h4 hm
      have hsl : sl = #[k0, k1, k2, k3, some (.builtin "ValueError.__new__"), k5] := by
        obtain ⟨l⟩ := sl
        simp only at hs
        rw [hs]
      subst hsl
      exact ⟨nm, qn, ns, bs, bm, sn, sub, ab, col, dd, k0, k1, k2, k3, k5, ho, h5⟩
    · cases h
  · cases h
structure ErrC (K : PySem.W.Frag) (C fI : Addr) : Prop where
  o : OexC K C
  iC : PySem.W.findIn K (.ref C) "__init__" = some (some (.ref fI))
  tI : PySem.W.typeIn K (.ref fI) = some (.type "function")
  nW : PySem.W.findIn K (.ref C) "what" = some none
  nN : PySem.W.findIn K (.ref C) "name" = some none
  x : XfC K C
  em : PySem.W.exmOne K (.ref C) (.ref C) = some true
  ca : PySem.W.findIn K (.ref C) "__class__" = some (some (.builtin "object.__class__"))
  cn : PySem.W.specialIn K (.builtin "object.__class__") "__get__" = some (some (.builtin "getset_descriptor.__get__"))
  ct : PySem.W.takesIn K (.builtin "object.__class__") = some true
  cm : PySem.W.mroIn K C (.type "object") = some true
  cs : (PySem.W.clsIn K C).isSome = true
def errB (K : PySem.W.Frag) (C fI : Addr) : Bool := oexB K C && (He.eqO (PySem.W.findIn K (.ref C) "__setattr__") (some (some (.builtin "object.__setattr__"))) && (decide (PySem.W.subIn K (.ref C) (.type "BaseException") = some true) && (decide (PySem.W.typeIn K (.ref C) = some (.type "type")) &&
  (PySem.W.keepIn K (.ref C) && (He.eqO (PySem.W.findIn K (.ref C) "__init__") (some (some (.ref fI))) && (decide (PySem.W.typeIn K (.ref fI) = some (.type "function")) && (He.eqO (PySem.W.findIn K (.ref C) "what") (some none) && (He.eqO (PySem.W.findIn K (.ref C) "name") (some none) &&
  (xfB K C && (decide (PySem.W.exmOne K (.ref C) (.ref C) = some true) && (He.eqO (PySem.W.findIn K (.ref C) "__class__") (some (some (.builtin "object.__class__"))) && (He.eqO (PySem.W.specialIn K (.builtin "object.__class__") "__get__") (some (some (.builtin "getset_descriptor.__get__"))) &&
  (decide (PySem.W.takesIn K (.builtin "object.__class__") = some true) && (decide (PySem.W.mroIn K C (.type "object") = some true) && (PySem.W.clsIn K C).isSome))))))))))))))
theorem errB_ok {K : PySem.W.Frag} {C fI : Addr} (h : errB K C fI = true) : ErrC K C fI := by
  obtain ⟨h1, h⟩ := He.ba h
  obtain ⟨h2, h⟩ := He.ba h
  obtain ⟨h3, h⟩ := He.ba h
  obtain ⟨h4, h⟩ := He.ba h
  obtain ⟨h5, h⟩ := He.ba h
  obtain ⟨h6, h⟩ := He.ba h
  obtain ⟨h7, h⟩ := He.ba h
  obtain ⟨h8, h⟩ := He.ba h
  obtain ⟨h9, h⟩ := He.ba h
  obtain ⟨h10, h⟩ := He.ba h
  obtain ⟨h11, h⟩ := He.ba h
  obtain ⟨h12, h⟩ := He.ba h
  obtain ⟨h13, h⟩ := He.ba h
  obtain ⟨h14, h⟩ := He.ba h
  obtain ⟨h15, h16⟩ := He.ba h
  exact ⟨⟨oexB_ok h1, He.eqO_ok h2, of_decide_eq_true h3, of_decide_eq_true h4, h5⟩, He.eqO_ok h6, of_decide_eq_true h7, He.eqO_ok h8, He.eqO_ok h9, xfB_ok h10, of_decide_eq_true h11, He.eqO_ok h12, He.eqO_ok h13, of_decide_eq_true h14, of_decide_eq_true h15, h16⟩
/-- DayError.__init__ as an attribute of its class, and ValueError's -/
def valB (o : Option PySem.W.CFound) (v : Value) : Bool := match o with
  | some (.val u) => decide (u = v)
  | _ => false
theorem valB_ok {o : Option PySem.W.CFound} {v : Value} (h : valB o v = true) : o = some (.val v) := by
  unfold valB at h
  split at h
  · rw [of_decide_eq_true h]
  · cases h
def cfnB (K : PySem.W.Frag) (C f : Addr) (m : Str) : Bool := He.eqO (PySem.W.specialIn K (.ref C) "__getattribute__") (some (some (.builtin "type.__getattribute__"))) && (PySem.W.readsIn K C (.type "type") && (valB (PySem.W.findCls K (.ref C) (.type "type") m) (.ref f) && PySem.W.keepIn K (.ref f)))
theorem cfnB_ok {K : PySem.W.Frag} {C f : Addr} {m : Str} (h : cfnB K C f m = true) : KdEx.ClsFn K C f m := by
  obtain ⟨h1, h⟩ := He.ba h
  obtain ⟨h2, h⟩ := He.ba h
  obtain ⟨h3, h4⟩ := He.ba h
  exact ⟨He.eqO_ok h1, h2, valB_ok h3, h4⟩
def veB (K : PySem.W.Frag) : Bool := valB (PySem.W.findCls K (.type "ValueError") (.type "type") "__init__") (.builtin "ValueError.__init__")
/-! ### isinstance of a caught refusal -/
theorem refs_vals : ∀ {cs : List Addr} {us : List Value}, Vals (cs.map V.ref) us → us = cs.map Value.ref
  | [], _, r => by cases r; rfl
  | c :: cs, _, r => by
    cases r with
    | cons r1 r2 =>
      cases r1
      rw [refs_vals r2]
      rfl
def rIsX (K : PySem.W.Frag) (D a : Addr) : List V → Hp → VK → Prop := fun xs H Q => ∃ c, xs = [.ref a, c] ∧ ((∃ (cv : Value) (b : Bool), (∀ u, RelV c u → u = cv) ∧ PySem.W.kitOne K (.ref D) cv = some b ∧ Q (.bl b) H) ∨
  ∃ (tp : Addr) (cs : List Addr) (b : Bool), c = .ref tp ∧ SqT K H tp (cs.map V.ref) ∧ PySem.W.kitAny K (.ref D) (cs.map Value.ref) = some b ∧ Q (.bl b) H)
/-- isinstance(e, ..) of what the suite holds -/
def rIsC (K : PySem.W.Frag) (D a : Addr) (cls : Value) (d : Option Addr) : List V → Hp → VK → Prop := fun xs H Q => cls = .ref D ∧ ∃ (dd : Addr) (fs : List (Str × V)), d = some dd ∧ H dd = some (.xd fs) ∧ rIsX K D a xs H Q
theorem call_isX {X : Cx} {a D fI : Addr} {oe : Obj} {cls : Value} {d : Option Addr} {pn : List (Addr × Obj)} (T : ErrC X.K D fI) (hz : Zc cls d oe) (hf : ∃ vs, oe.data = .fields vs) : CallR (X.suite a ((a, oe) :: pn)) (.builtin "isinstance") (rIsC X.K D a cls d) := by
  intro pins s σ H xs us Q I r h
  obtain ⟨rfl, dd, fs, rfl, hdd, c, rfl, hc⟩ := h
  have hx : ObjOk X.prog X.w H s.heap dd (.xd fs) := I.hok dd _ hdd
  obtain ⟨mA, hns, _⟩ := hx
  obtain ⟨od, ho, _⟩ := lookIn_ns hns
  obtain ⟨hget, _⟩ := I.pin (a, oe) (List.mem_append.mpr (.inl List.mem_cons_self))
  obtain ⟨vs, hv⟩ := hf
  have J : PySem.W.InstAt s.heap a oe D (some od) := ⟨hget, hz.1, by unfold PySem.W.notCls; rw [hv] <;> rfl, by rw [hz.2]; exact ho⟩
  have Z : PySem.W.KitX X.K (.ref a) (.ref D) (fun h => PySem.W.InstAt h a oe D (some od)) := PySem.W.kitx_exc T.cs T.x.ga T.x.gg T.x.exC T.ca T.cn T.ct T.cm
  cases r with
  | cons rx rr =>
    cases rr with
    | cons rt rr =>
      cases rr
      cases rx
      rcases hc with ⟨cv, b, hcv, e, q⟩ | ⟨tp, cs, b, rfl, ht, e, q⟩
      · have ec := hcv _ rt
        subst ec
        exact PySem.W.kia_one Z I.kIn J e (fun z => nomatch z) fun tk => ⟨.bl b, H, I.kept (t' := tk) fun _ _ z => z, rfl, q⟩
      · cases rt
        obtain ⟨its, rv, ⟨o, ho, hcl, n, hd⟩, _⟩ := I.tuple ht
        have ei := refs_vals rv
        subst ei
        obtain ⟨ocl, odd, oda, osl⟩ := o
        dsimp only at hcl hd
        subst hcl hd
        exact PySem.W.kia_tup Z I.kIn J ho e (fun z => nomatch z) fun tk => ⟨.bl b, H, I.kept (t' := tk) fun _ _ z => z, rfl, q⟩
/-! ### a refusal is made -/
/-- C(e), C's own __init__ keeping the promise of a refusal: its dict is new and holds fs -/
def spErr (K : PySem.W.Frag) (C : Addr) (fs : V → List (Str × V)) (Ok : V → Hp → Prop) : Sp := fun vs H Q _ => ∃ (a : Addr) (v : V), vs = [.ref a, v] ∧ H a = some (exo a C none) ∧ Ok v H ∧
  ∀ (d : Addr) (H' : Hp), H d = none → d ≠ a → H' a = some (exo a C (some d)) → H' d = some (exd d (fs v)) → (∀ b, b ≠ a → b ≠ d → H' b = H b) → Q .non H'
theorem err_ok {K : PySem.W.Frag} {C : Addr} {fs : V → List (Str × V)} {Ok : V → Hp → Prop} {H1 : Hp} {v : V} {Q : XK} (ok : ∀ a, H1 a = none → Ok v (upd H1 a (exo a C none))) (k : ∀ d, H1 d = none → Q (.ref C) (some d) (upd H1 d (.xd (fs v)))) :
    [v].length ≤ 1000 ∧ ∀ a, H1 a = none → spErr K C fs Ok (.ref a :: ([v] ++ [])) (upd H1 a (exo a C none))
      (fun u H2 => u = .non ∧ ∃ (d : Addr) (gs : List (Str × V)), H2 a = some (exo a C (some d)) ∧ H2 d = some (exd d gs) ∧ H1 d = none ∧ Q (.ref C) (some d) (upd (del H2 a) d (.xd gs))) (fun _ _ _ => False) := by
  refine ⟨by show 1 ≤ 1000; decide, fun a ha => ⟨a, v, rfl, upd_same, ok a ha, fun d H' hd nd e1 e2 rest => ⟨rfl, d, fs v, e1, e2, ?_, ?_⟩⟩⟩
  · rw [upd_ne nd] at hd
    exact hd
  · have hd1 : H1 d = none := by
      rw [upd_ne nd] at hd
      exact hd
    have eq : upd (del H' a) d (.xd (fs v)) = upd H1 d (.xd (fs v)) := by
      funext b
      by_cases hb : b = d
      · rw [hb, upd_same, upd_same]
      · rw [upd_ne hb, upd_ne hb]
        by_cases hba : b = a
        · rw [hba, del_same, ha]
        · rw [del_ne hba, rest b hba hb, upd_ne hba]
    rw [eq]
    exact k d hd1
/-- raise C(e): its making -/
theorem pmk_err {X : Cx} {x : Str} {C fI : Addr} {k : Nat} {fd : FuncData} {ps : List Str} {fs : V → List (Str × V)} {Ok : V → Hp → Prop} {e : Expr} {te : TE} {p pos : Pos} (T : ErrC X.K C fI)
    (G : FnOk X.prog X.w X.K X.mg X.base CX0 k fI fd ps (spErr X.K C fs Ok)) (hr : Room (k + 1) X.A) (hb : Binds X.K fd ps []) (hg : Gl X x) (hm : X.mg x = some (.ref C)) (he : PE X e te)
    (hdb : (x == ("__debug__" : Str)) = false := by decide) (hs : starEach [e] X.env = (false, eval e X.env) :: starEach [] X.env := by rfl) (hpl : (backTo pos (starEach [] X.env)).any (·.1) = false := by rfl) :
    PMk X (.Call (.Name x p) [e] [] pos) (tMkO C (spErr X.K C fs Ok) [] (tCons te tNil)) :=
  pmk_oex T.o T.iC T.tI G hr hb .nil pass0 hg hm (pa_cons he pa_nil hs) hdb hs hpl
/-! ### x in [y], by an own == -/
section
variable {X : Cx} {CX : CXT} {n : Nat} {C f : Addr} {fd : FuncData} {ps : List Str} {sp : Sp} {E : XK}
theorem rich_sub (G : FnOk X.prog X.w X.K X.mg X.base CX n f fd ps sp) (hs : PySem.W.findIn X.K (.ref C) "__eq__" = some (some (.ref f))) (hf : PySem.W.isFn X.K (.ref f) = true) (hb : Binds X.K fd ps []) (hx : Passes CX X E) {A : Around} (sb : Sub X n A)
    {pins : List (Addr × Obj)} {s : Shared} {σ : L2.St} {H : Hp} {x y : V} {v u : Value} {Q : VK} (I : Inv X pins σ H s) (rx : RelV x v) (ry : RelV y u) (h : KdEx.rOwn C sp E x y H Q) : wpAny (model X.prog X.w) A (richCompare .Eq v u) (EP X pins σ Q) X.xe s := by
  obtain ⟨a, b, dx, dy, fs, gs, rfl, rfl, ha, hb', hsp⟩ := h
  cases rx
  cases ry
  obtain ⟨mA, J, _⟩ := ins_get I.hok ha
  obtain ⟨mB, J', _⟩ := ins_get I.hok hb'
  obtain ⟨od, J, _⟩ := J.look
  obtain ⟨od', J', _⟩ := J'.look
  obtain ⟨m, hF⟩ := I.fr
  refine PySem.W.cmp_K (op := .Eq) (tb := .ref C) sb.room.units0 hF I.ok.mod.kin J J'.type (by simp [PySem.W.notFirst]) hs hf ?_
  have en : Env0 X.prog X.w X.K X.mg X.base A X.stack s H := by
    have z := I.env0
    exact ⟨by rw [sb.fr]; exact z.frames, z.mod, z.bs, z.bsz, z.funs, z.frf, z.hok, z.bare⟩
  have hlen := G.len _ _ _ _ hsp
  have rr : Vals [V.ref a, V.ref b] [Value.ref a, Value.ref b] := .cons rfl (.cons rfl .nil)
  have bb := hb s [.ref a, .ref b] I.kIn (by simpa using hlen)
  rw [List.append_nil] at bb
  refine wpAny_call (codeAny_mono (G.run A X.stack s H ⟨[.ref a, .ref b], []⟩ [.ref a, .ref b] [.ref a, .ref b] _ E sb.room en bb rr hsp) fun r s' back => ?_)
  cases r with
  | error er => exact hx pins σ H s er s' I back
  | ok fl =>
    cases fl with
    | ret w =>
      obtain ⟨z, H', J3, rz, r, ez, q⟩ := I.after back
      subst ez
      cases rz
      exact ⟨.bl r, H', J3, rfl, q⟩
    | next => exact False.elim back
    | brk => exact False.elim back
    | cont => exact False.elim back
/-- x in a list of one y -/
def rIn1 (C : Addr) (sp : Sp) (E : XK) : R2 := fun x l H Q => ∃ (a b p : Addr), x = .ref a ∧ l = .ref p ∧ H p = some (.lst [.ref b]) ∧ a ≠ b ∧ KdEx.rOwn C sp E (.ref b) (.ref a) H (fun v H' => (∃ r, v = .bl r) ∧ H' = H ∧ Q v H')
open MeetsSeq MeetsSeq2 MeetsSeq3 SeqRoads2 in
/-- list.__contains__ of a list of one -/
theorem contains_1 {prog : Program} {w : World} {A : Around} {R : Result → Shared → Prop} {s : Shared} {p : Addr} {x y : Value} {n : Nat} {items : Array Value} {dd : Option Addr} {sl : Array (Option Value)} (hl : s.heap.get? p = some { cls := .type "list", dict := dd, data := .seq items n, slots := sl })
    (i0 : items[((0 : Nat) : Int).toNat]? = some y) (i1 : items[((1 : Nat) : Int).toNat]? = none)
    (h : wpAny (model prog w) A.in1 (eqBool y x) (fun r s' => (r = true → R (.ok (.ret (.bool true))) s') ∧ (r = false → ∃ n2 dd2 sl2, s'.heap.get? p = some { cls := .type "list", dict := dd2, data := .seq items n2, slots := sl2 } ∧ R (.ok (.ret (.bool false))) s')) (fun e s' => R (.error e) s') s) :
    wpAny (model prog w) A.in1 (Builtin.«list.__contains__» ⟨[.ref p, x], []⟩) (GQ.FinOf prog w A R) (fun e s' => R (.error e) s') s := by
  have loop : ∀ (i : Nat) (s : Shared), (∃ n dd sl, s.heap.get? p = some { cls := .type "list", dict := dd, data := .seq items n, slots := sl }) → (match items[((i : Nat) : Int).toNat]? with
      | none => R (.ok (.ret (.bool false))) s
      | some y => wpAny (model prog w) A.in1 (eqBool y x) (fun r s' => (r = true → R (.ok (.ret (.bool true))) s') ∧ (r = false → codeAny (model prog w) A (.builtin "list.__contains__.loop" ⟨[.ref p, x, rawInt ((i : Int) + 1)], []⟩) R s')) (fun e s' => R (.error e) s') s) →
      wpAny (model prog w) A.in1 (Builtin.«list.__contains__.loop» ⟨[.ref p, x, rawInt i], []⟩) (GQ.FinOf prog w A R) (fun e s' => R (.error e) s') s := by
    intro i s hs hi
    obtain ⟨n, dd, sl, hl⟩ := hs
    obtain ⟨hp, g, d, tk, os⟩ := s
    cases e : items[((i : Nat) : Int).toNat]? with
    | none =>
      rw [e] at hi
      wp_walk using AutoSeq1.wpAny_loadPart' hl
      rw [e]
      wp_walk
      exact hi
    | some y =>
      rw [e] at hi
      wp_walk using AutoSeq1.wpAny_loadPart' hl
      rw [e]
      refine wpAny_bind (wpAny_mono hi (fun r s2 h2 => ?_) fun _ _ z => z)
      cases r with
      | true =>
        have z := h2.1 rfl
        obtain ⟨hp2, g2, d2, tk2, os2⟩ := s2
        wp_walk
        exact z
      | false =>
        have z := h2.2 rfl
        obtain ⟨hp2, g2, d2, tk2, os2⟩ := s2
        wp_walk
        exact ⟨plainId_quiet plain_contains_loop _, z⟩
  have step : ∀ (i : Nat) (s : Shared), wpAny (model prog w) A.in1 (Builtin.«list.__contains__.loop» ⟨[.ref p, x, rawInt i], []⟩) (GQ.FinOf prog w A R) (fun e s' => R (.error e) s') s → codeAny (model prog w) A (.builtin "list.__contains__.loop" ⟨[.ref p, x, rawInt i], []⟩) R s := fun i s q =>
    codeAny_builtin entry_contains_loop (by
      rw [Around.under_plainId plain_contains_loop _]
      exact q)
  have fin := step 0 s (loop 0 s ⟨_, _, _, hl⟩ (by
    rw [i0]
    refine wpAny_mono h (fun r s' z => ⟨z.1, fun er => ?_⟩) fun _ _ z => z
    obtain ⟨n2, dd2, sl2, hl2, q⟩ := z.2 er
    have e1 : ((0 : Nat) : Int) + 1 = ((1 : Nat) : Int) := by decide
    rw [e1]
    refine step 1 s' (loop 1 s' ⟨_, _, _, hl2⟩ ?_)
    rw [i1]
    exact q))
  obtain ⟨hp, g, d, tk, os⟩ := s
  wp_walk using AutoSeq1.wpAny_loadPart' hl
  exact ⟨plainId_quiet plain_contains_loop _, fin⟩
theorem op_in1 (G : FnOk X.prog X.w X.K X.mg X.base CX n f fd ps sp) (hs : PySem.W.findIn X.K (.ref C) "__eq__" = some (some (.ref f))) (hf : PySem.W.isFn X.K (.ref f) = true) (hb : Binds X.K fd ps []) (hx : Passes CX X E) (hr : Room (n + 1) X.A) : OpR X (compareOp .In) (rIn1 C sp E) := by
  intro pins s σ H x l v u Q I rx rl h
  obtain ⟨a, b, p, rfl, rfl, hp, nab, hown⟩ := h
  cases rx
  cases rl
  have list1 : ∀ {s' : Shared}, Inv X pins σ H s' → ∃ n dd sl, s'.heap.get? p = some { cls := .type "list", dict := dd, data := .seq #[Value.ref b] n, slots := sl } := fun {s'} J => by
    obtain ⟨its, rv, ⟨o, m, e1, e2, e3, e4⟩, _⟩ := J.list (SqL.of hp)
    have ei : its = [Value.ref b] := by
      cases rv with
      | cons r1 r2 =>
        cases r1
        cases r2
        rfl
    subst ei
    obtain ⟨oc, od, oda, osl⟩ := o
    dsimp only at e2 e4
    subst e2 e4
    exact ⟨_, _, _, e1⟩
  obtain ⟨n0, dd, sl, hl⟩ := list1 I
  show wpAny _ _ (do return Value.bool (← contains (.ref p) (.ref a))) _ _ _
  refine wpAny_bind (wpAny_contains_slot ⟨_, hl, rfl⟩ F.slot_list_contains (wpAny_mono (GQ.call_here (Q := fun v s' => ∃ b, v = .bool b ∧ EP X pins σ Q (.bool b) s') F.slot_list_contains ⟨_, hl, rfl⟩ F.entry_list_contains (F.args_list_contains_2 _ _) (contains_1 hl rfl rfl ?_)) (fun v s' hv => ?_) fun _ _ z => z))
  · refine GQ.eqBool_refG (Ne.symm nab) (wpAny_mono (rich_sub G hs hf hb hx (Sub.in1 (X := X) ⟨hr, rfl⟩) (x := .ref b) (y := .ref a) I rfl rfl hown) (fun z s' hz => ?_) fun _ _ q => q)
    obtain ⟨y, H', J, ry, ⟨r, ey⟩, eH, q⟩ := hz
    subst eH ey
    cases ry
    refine ⟨r, rfl, fun e => ?_, fun e => ?_⟩
    · subst e
      exact ⟨true, rfl, .bl true, _, J, rfl, q⟩
    · subst e
      obtain ⟨n2, dd2, sl2, hl2⟩ := list1 J
      exact ⟨n2, dd2, sl2, hl2, false, rfl, .bl false, _, J, rfl, q⟩
  · obtain ⟨r, rfl, hq⟩ := hv
    exact wpAny_truthy_bool (wpAny_pure hq)
end
end KdXc

set_option maxHeartbeats 4000000
namespace KdXv
open PySem PySem.W PySem.Calls PyProof.Rows PySem.HandSPX
open Builtin Builtin.ObjectAttr
/-! ### C(k = v), C an own class over ValueError with an __init__ -/
section
variable {M : Model} {prog : Program} {w : World} {A : Around} {E : Value → Shared → Prop} {R : Result → Shared → Prop} {h : Heap} {g : Array GenState} {d : Drawn} {t : Nat} {os : OsState} {kw : List (Str × Value)}
variable {nm q : Str} {C N : Addr} {bs bm bmB : List Value} {hdct : Bool} {sn : List Str} {sub : List Value} {ab : Bool} {col : Option Bool} {dd : Option Addr} {k0 k1 k2 k3 k5 : Option Value} {B newId initId : String}
theorem check_kw (F : ExcBaseFacts B newId initId bmB) (hT : ∀ X : String, bm.contains (.type X) = bmB.contains (.type X)) {Q : Unit → Shared → Prop} (hC : h.get? C = some (excClassObj nm q C N bs bm hdct sn sub ab col dd k0 k1 k2 k3 k5 newId)) (hq : Q () ⟨h, g, d, t, os⟩) :
    wpAny M A (checkBuiltinCall newId ⟨[.ref C], kw⟩) Q E ⟨h, g, d, t, os⟩ := by
  have has : (Value.ref C :: bm).contains (.type B) = true := by rw [List.contains_cons, hT, F.hasB, Bool.or_true]
  have star := F.noStar
  simp only [checkBuiltinCall, F.newKind, F.newSplit, F.newRow]
  repeat (first | refine wpAny_loadPart_at hC ?_ | (refine wpAny_isSubtype_exc hC ?_; rw [has]) | refine wpAny_staticBase_exc hC ?_ | refine wpAny_madeBy_exc hC ?_ | simp only [bne_self_eq_false, Bool.false_eq_true, if_false] | wp_step)
  exact hq
theorem new_kw (F : ExcBaseFacts B newId initId bmB) (hT : ∀ X : String, bm.contains (.type X) = bmB.contains (.type X)) (hC : h.get? C = some (excClassObj nm q C N bs bm hdct sn sub ab col dd k0 k1 k2 k3 k5 newId))
    (hq : R (.ok (.ret (.ref (h.objs.size + 1)))) ⟨(h.push (W.kdv_tup [])).push (excO C h.objs.size), g, d, t, os⟩) : codeAny (model prog w) A (.builtin newId ⟨[.ref C], kw⟩) R ⟨h, g, d, t, os⟩ := by
  have ends := F.ends
  have c1 : (Value.ref C :: bm).contains (.type B) = true := by rw [List.contains_cons, hT, F.hasB, Bool.or_true]
  have c2 : (Value.ref C :: bm).contains (.type "AttributeError") = false := by rw [List.contains_cons, hT, F.noAttr]; rfl
  have c3 : (Value.ref C :: bm).contains (.type "NameError") = false := by rw [List.contains_cons, hT, F.noName]; rfl
  refine codeAny_builtinAt F.entry ?_
  unfold Builtin.«BaseException.__new__»
  refine _root_.PySem.wpAt_bind ?_
  show _root_.PySem.wpAt _ _ _ (stack >>= _) _ _ _
  refine _root_.PySem.wpAt_bind (_root_.PySem.wpAt_stack fun p below => _root_.PySem.wpAt_of_wpAny ?_)
  wp_walk
  refine _root_.PySem.wpAt_of_wpAny ?_
  rw [F.owner]
  repeat (first | with_reducible refine wpAny_madeHere_exc F.canon hC ?_ | with_reducible refine wpAny_loadPart_at hC ?_ | (with_reducible refine wpAny_isSubtype_exc hC ?_; first | rw [c1] | rw [c2] | rw [c3]) | wp_step)
  show R _ _
  rw [Heap.size_push]
  exact hq
theorem type_kw (F : ExcBaseFacts B newId initId bmB) (hT : ∀ X : String, bm.contains (.type X) = bmB.contains (.type X)) {fI : Addr} {Q : Fin → Shared → Prop} (hC : h.get? C = some (excClassObj nm q C N bs bm hdct sn sub ab col dd k0 k1 k2 k3 k5 newId))
    (hi : W.Looks (model prog w) h (typeLookup (.ref C) "__init__") (some (.ref fI))) (hb : ∀ self, W.Looks (model prog w) h (bindSpecial (.ref fI) self) (.ref fI, [self]))
    (hq : codeAny (model prog w) A (.call (.ref fI) ⟨[.ref (h.objs.size + 1)], kw⟩) (fun r s' => match r with | .ok (.ret v) => v = .none ∧ Q (.done (.ret (.ref (h.objs.size + 1)))) s' | .ok _ => False | .error e => E e s') ⟨(h.push (W.kdv_tup [])).push (excO C h.objs.size), g, d, t, os⟩) :
    wpAny (model prog w) A (Builtin.«type.__call__» ⟨[.ref C], kw⟩) Q E ⟨h, g, d, t, os⟩ := by
  repeat (first | with_reducible refine wpAny_loadPart_at hC ?_ | with_reducible refine wpAny_madeBy_exc hC ?_ | wp_step)
  refine codeAny_call_builtin_code (Code.quiet_builtin _ F.quiet) (check_kw F hT hC ?_)
  refine new_kw F hT hC ?_
  show wpAny _ _ _ _ _ _
  have keep : ∀ b o, h.get? b = some o → ((h.push (W.kdv_tup [])).push (excO C h.objs.size)).get? b = some o := fun b o e => Heap.get?_push_of_some _ (Heap.get?_push_of_some _ e)
  have hC1 := keep _ _ hC
  have here : ((h.push (W.kdv_tup [])).push (excO C h.objs.size)).get? (h.objs.size + 1) = some (excO C h.objs.size) := by heap_get
  have own : (Value.ref C :: bm).contains (.ref C) = true := by simp
  have i1 := hi.keeps keep
  have b1 := (hb (.ref (h.objs.size + 1))).keeps keep
  unfold isInstance
  repeat (first | with_reducible refine wpAny_loadPart_at here ?_ | (with_reducible refine wpAny_isSubtype_exc hC1 ?_; rw [own]) | wp_step)
  show wpAny _ _ (typeLookup (.ref C) _) _ _ _
  refine i1.at ?_
  refine wpAny_holding (wpAny_bind (b1.at ?_))
  refine wpAny_bind (wpAny_call (codeAny_mono hq fun r s' z => ?_))
  rcases r with e | (v | _ | _ | _) <;> first | exact z | exact z.elim | skip
  obtain ⟨rfl, z⟩ := z
  first
    | exact wpAny_pure (wpAny_pure z)
    | (wp_walk; exact z)
theorem call_kw (F : ExcBaseFacts B newId initId bmB) (hT : ∀ X : String, bm.contains (.type X) = bmB.contains (.type X)) {fI : Addr} (hC : h.get? C = some (excClassObj nm q C N bs bm hdct sn sub ab col dd k0 k1 k2 k3 k5 newId))
    (hi : W.Looks (model prog w) h (typeLookup (.ref C) "__init__") (some (.ref fI))) (hb : ∀ self, W.Looks (model prog w) h (bindSpecial (.ref fI) self) (.ref fI, [self]))
    (hq : codeAny (model prog w) (A.under (.builtin "type.__call__" ⟨[.ref C], kw⟩)) (.call (.ref fI) ⟨[.ref (h.objs.size + 1)], kw⟩) (W.InitBack (h.objs.size + 1) R) ⟨(h.push (W.kdv_tup [])).push (excO C h.objs.size), g, d, t, os⟩) :
    codeAny (model prog w) A (.call (.ref C) ⟨[], kw⟩) R ⟨h, g, d, t, os⟩ := by
  have f1 := tc_lookup
  have f2 := tc_bind (.ref C)
  have ty : (⟨h, g, d, t, os⟩ : Shared).TypeIs (.ref C) "type" := ⟨_, hC, rfl⟩
  refine codeAny_of_tree ?_
  show wpAny _ _ (callAny (.ref C) _) _ _ _
  repeat (any_goals (first | assumption | with_reducible refine wpAny_loadPart_at hC ?_ | wp_step))
  refine ⟨rfl, ?_⟩
  have chk : ∀ {Q : Unit → Shared → Prop} {E : Value → Shared → Prop} {A : Around}, Q () ⟨h, g, d, t, os⟩ → wpAny (model prog w) A (checkBuiltinCall "type.__call__" ⟨[.ref C], kw⟩) Q E ⟨h, g, d, t, os⟩ := fun {Q E A} hq' => by
    have f3 := tc_sub
    simp only [checkBuiltinCall, tc_kind, tc_split]
    repeat (any_goals (first | assumption | with_reducible refine wpAny_loadPart_at hC ?_ | with_reducible refine wpAny_onRaise ?_ | with_reducible refine wpAny_map ?_ | wp_step))
  refine codeAny_call_builtin_at (Code.quiet_builtin _ (by decide +kernel)) entry_typeCall (chk (type_kw F hT hC hi hb ?_))
  refine codeAny_mono hq fun r s' z => ?_
  rcases r with e | (v | _ | _ | _) <;> exact z
end
end KdXv
namespace KdXv
open PySem PySem.Spec PyProof.Rows L2 KdXc
/-! ### a refusal's field, as it is made -/
def tMkF (t : L2.St → Hp → XK → Prop) (C : Addr) (f : Str) : TE := fun σ H Q => t σ H fun cls d H2 => cls = .ref C ∧ ∃ (dd : Addr) (fs : List (Str × V)) (v : V), d = some dd ∧ H2 dd = some (.xd fs) ∧ fs.lookup f = some v ∧ Q v H2
theorem pe_mkf {X : Cx} {C : Addr} {e : Expr} {t : L2.St → Hp → XK → Prop} {n : Str} {pos : Pos} (hm : PMk X e t) (T : XfC X.K C) (hno : PySem.W.findIn X.K (.ref C) n = some none) (hb : attributeBase e n X.env (eval e X.env) = eval e X.env := by rfl) : PE X (.Attribute e n pos) (tMkF t C n) := by
  refine ⟨fun pins s σ H Q I h => ?_⟩
  refine attr_of hb (thn (hm pins s σ H _ I h) fun u s1 hu => ?_)
  obtain ⟨a, oe, vs, sI, H', cls, d, rfl, J, k, hne, ha, hz, hd, h1, na, os, ag, r, ec, dd, fs, v, ed, ea, l, q⟩ := hu
  subst ec ed
  have up : sI.heap.UpToSlots s1.heap := fun b o e _ => ⟨o.slots, k b o e⟩
  have J1 : Inv X pins σ H' s1 := J.landed (B := s1.heap) (fun b o e _ => k b o e) (fun _ _ e => e) up os ag
  have hx : ObjOk X.prog X.w H' s1.heap dd (.xd fs) := J1.hok dd _ ea
  obtain ⟨mA, hns, hr⟩ := hx
  obtain ⟨od, ho, hl⟩ := lookIn_ns hns
  obtain ⟨u, hu, ru⟩ := RelO.some_of (v := v) (o := mA n) (by rw [← l]; exact hr n)
  have JJ : PySem.W.InstAt s1.heap a oe C (some od) := ⟨ha, hz.1, by unfold PySem.W.notCls; rw [hd] <;> rfl, by rw [hz.2]; exact ho⟩
  exact HandSPX.exc_get J1.kIn JJ T.ga T.gg T.exC (PySem.W.findObj_own T.hdC hno rfl (by rw [hl, hu])) (handed_of ru) ⟨v, H', J1.tok _, ru, q⟩
/-- C(k = e) -/
def tMkK (C : Addr) (sp : Sp) (te : TE) : L2.St → Hp → XK → Prop := fun σ H Q => tCons te tNil σ H fun zs H1 => ∃ v, zs = [v] ∧ ∀ a, H1 a = none → sp [.ref a, v] (upd H1 a (exo a C none))
  (fun u H2 => u = .non ∧ ∃ (d : Addr) (fs : List (Str × V)), H2 a = some (exo a C (some d)) ∧ H2 d = some (exd d fs) ∧ H1 d = none ∧ Q (.ref C) (some d) (upd (del H2 a) d (.xd fs))) (fun _ _ _ => False)
theorem pmk_kw {X : Cx} {x kn : Str} {C fI : Addr} {k : Nat} {fd : FuncData} {ps : List Str} {sp : Sp} {e : Expr} {te : TE} {p pos kpos : Pos} (T : ErrC X.K C fI) (G : FnOk X.prog X.w X.K X.mg X.base CX0 k fI fd ps sp) (hr : Room (k + 1) X.A)
    (hb : ∀ (s : Shared) (a v : Value), X.K.In s.heap → BindsTo s fd ⟨[a], [(kn, v)]⟩ (ps.zip [a, v])) (hg : Gl X x) (hm : X.mg x = some (.ref C)) (he : PE X e te)
    (hall : (backToKw pos (keywordEach [⟨some kn, e, kpos⟩] X.env)).all (·.1.isSome) = true := by rfl) (hks : (backToKw pos (keywordEach [⟨some kn, e, kpos⟩] X.env)).filterMap (·.1) = [kn] := by rfl) (hdb : (x == ("__debug__" : Str)) = false := by decide)
    (hpl : ((backTo pos (starEach [] X.env)).any (·.1) || (backToKw pos (keywordEach [⟨some kn, e, kpos⟩] X.env)).any (·.1.isNone)) = false := by rfl) : PMk X (.Call (.Name x p) [] [⟨some kn, e, kpos⟩] pos) (tMkK C sp te) := by
  intro pins s σ H Q I h
  obtain ⟨nm, q, N, bs, bm, sn, sub, ab, col, dd, k0, k1, k2, k3, k5, hC, hbm⟩ := T.o.cls
  have hk : PK X [⟨some kn, e, kpos⟩] (tCons te tNil) := pk_cons he pk_nil
  refine wpAny_Call_Name_kw (ld_glob I hg hm ?_ hdb)
  refine PySem.W.callWith_KW0 (h₀ := X.base) I.ok.mod.kin T.o.kC hall ?_ hpl
  refine thn (hk.run pos pins s σ H _ I h) fun ws s1 hh => ?_
  obtain ⟨zs, H1, I1, rz, v, rfl, q1⟩ := hh
  refine ⟨I1.kIn, ?_⟩
  rw [hks]
  cases rz with
  | cons rv rr =>
    cases rr
    rename_i u
    obtain ⟨hp, g, dr, tk, os⟩ := s1
    have hsz : hp.objs.size ≤ hp.objs.size + 1 := Nat.le_succ _
    have hn : H1 (hp.objs.size + 1) = none := I1.hok.fresh hsz
    have want := q1 (hp.objs.size + 1) hn
    have kk : ∀ b o, hp.get? b = some o → ((hp.push (PySem.W.kdv_tup [])).push (PySem.HandSPX.excO C hp.objs.size)).get? b = some o := fun b o e => Heap.get?_push_of_some _ (Heap.get?_push_of_some _ e)
    have here : ((hp.push (PySem.W.kdv_tup [])).push (PySem.HandSPX.excO C hp.objs.size)).get? (hp.objs.size + 1) = some (PySem.HandSPX.excO C hp.objs.size) := by heap_get
    have J : Inv X pins σ (upd H1 (hp.objs.size + 1) (exo (hp.objs.size + 1) C none)) ⟨(hp.push (PySem.W.kdv_tup [])).push (PySem.HandSPX.excO C hp.objs.size), g, dr, tk, os⟩ :=
      I1.laid (t' := tk) (a := hp.objs.size + 1) (o := exo (hp.objs.size + 1) C none) (h' := (hp.push (PySem.W.kdv_tup [])).push (PySem.HandSPX.excO C hp.objs.size)) kk hsz (exo_ok here)
    have r2 : Vals [V.ref (hp.objs.size + 1), v] [Value.ref (hp.objs.size + 1), u] := .cons rfl (.cons rv .nil)
    have go := G.run _ X.stack _ _ ⟨[Value.ref (hp.objs.size + 1)], [(kn, u)]⟩ [Value.ref (hp.objs.size + 1), u] _ _ (fun _ _ _ => False) (hr.make C [] [(kn, u)]) (J.env0.make C [] [(kn, u)]) (hb _ _ _ J.kIn) r2 want
    refine wpAny_call (KdXv.call_kw F.excBase_ValueError (fun Y => PySem.HandSPX.refsVE_contains Y bm hbm) (I1.kIn _ _ hC) (PySem.W.looks_findIn I1.kIn T.iC) (fun self => PySem.W.bind_fn I1.kIn self T.tI) (codeAny_mono go fun r s' back => ?_))
    cases r with
    | error er => exact False.elim back
    | ok fl =>
      cases fl with
      | ret u2 =>
        obtain ⟨v2, H2, os2, bare2, un2, hok2, rv2, ev, d, fs, ea, ed, hd1, q2⟩ := back
        subst ev
        obtain ⟨h2, g2, d2, t2, os'⟩ := s'
        exact ⟨rv2, mk_end (raises_own T.o.exC T.o.tyC) I1 hsz kk un2 hok2 os2 bare2 ea ed hd1 q2⟩
      | next => exact False.elim back
      | brk => exact False.elim back
      | cont => exact False.elim back
/-- what tMkK asks of a refusal -/
theorem err_kw {K : PySem.W.Frag} {C : Addr} {fs : V → List (Str × V)} {Ok : V → Hp → Prop} {H1 : Hp} {v : V} {Q : XK} (ok : ∀ a, H1 a = none → Ok v (upd H1 a (exo a C none))) (k : ∀ d, H1 d = none → Q (.ref C) (some d) (upd H1 d (.xd (fs v)))) :
    ∃ y, [v] = [y] ∧ ∀ a, H1 a = none → spErr K C fs Ok [.ref a, y] (upd H1 a (exo a C none))
      (fun u H2 => u = .non ∧ ∃ (d : Addr) (gs : List (Str × V)), H2 a = some (exo a C (some d)) ∧ H2 d = some (exd d gs) ∧ H1 d = none ∧ Q (.ref C) (some d) (upd (del H2 a) d (.xd gs))) (fun _ _ _ => False) :=
  ⟨v, rfl, (err_ok (K := K) ok k).2⟩
end KdXv

namespace Kd
open PySem PySem.Spec PyProof.Rows L2 KdXc
section
variable {P : Program} {w : World} {K : PySem.W.Frag} {mg : Str → Option Value} {base : Heap} {f : Addr} {fd : FuncData}
/-! ### a refusal's __init__ -/
def dayF (v : V) : List (Str × V) := [("name", .str "DayError"), ("what", v)]
def noF (nm : Str) (v : V) : List (Str × V) := ("name", .str nm) :: dayF v
abbrev RepOk (K : PySem.W.Frag) (v : V) (H : Hp) : Prop := KdRp.Rep2 K v H
theorem what_of (nm : Str) (v : V) : (noF nm v).lookup ("what" : Str) = some v := by
  unfold noF dayF
  rw [List.lookup_cons, show (("what" : Str) == "name") = false by decide +kernel, List.lookup_cons, show (("what" : Str) == "name") = false by decide +kernel, List.lookup_cons, show (("what" : Str) == "what") = true by decide +kernel]
theorem sc_DayError : FnScope ["self", "what"] ["self", "what"] (defScope s_DayError_init) := ⟨rfl, rfl, rfl, by decide +kernel, rfl, by decide +kernel, by decide +kernel⟩
theorem ok_DayError {C fI : Addr} (F : FnP K "__init__" "DayError.__init__" s_DayError_init f fd) (T : ErrC K C fI) (z_ValueError : mg "ValueError" = none) (vV : PySem.W.findCls K (.type "ValueError") (.type "type") "__init__" = some (.val (.builtin "ValueError.__init__"))) (z_repr : mg "repr" = none) :
    FnOk P w K mg base CX0 1 f fd ["self", "what"] (spErr K C dayF (RepOk K)) := by
  refine F.ok sc_DayError (fun vs H Q E h => ?_) (fun cdv A outer s H vs Q E hr h => ?_)
  · obtain ⟨a, v, rfl, _⟩ := h
    rfl
  · obtain ⟨a, v, rfl, ha, hv, k⟩ := h
    have nd := sc_DayError.nd
    refine ⟨_, PSs.nox (pss_cons (ps_expr (pe_veinit rfl z_ValueError vV (pa_cons (pv 0) (pa_cons (pe_callB (KdRp.cr_rep2 hr.units) (by rfl) z_repr (by decide +kernel) (pa_cons (pv 1) pa_nil)) pa_nil))))
      (pss_cons (ps_ost (pv 0) (pv 1)) (pss_one (ps_ost (pv 0) pe_str)))), ?_⟩
    refine ⟨_, rfl, _, rfl, v, rfl, hv, fun m => ⟨a, C, [.str m], rfl, by show 1 ≤ 1000; decide, T.o, ha, ?_⟩⟩
    refine ⟨_, rfl, _, rfl, a, C, rfl, T.o, T.nW, .inl ⟨ha, fun d hd nda => ?_⟩⟩
    refine ⟨_, rfl, a, C, rfl, T.o, T.nN, .inr ⟨d, _, upd_same, by rw [upd_ne nda]; exact upd_same, by show 1 ≤ 900; decide, ?_⟩⟩
    refine k d _ hd nda (by rw [upd_ne nda.symm]; exact upd_same) upd_same fun b hba hbd => ?_
    rw [upd_ne hbd, upd_ne hba, upd_ne hbd]
theorem sc_NoPlan : FnScope ["self", "what"] ["self", "what"] (defScope s_NoPlan_init) := ⟨rfl, rfl, rfl, by decide +kernel, rfl, by decide +kernel, by decide +kernel⟩
theorem ok_NoPlan {C fI D fD : Addr} {fdD : FuncData} (F : FnP K "__init__" "NoPlan.__init__" s_NoPlan_init f fd) (T : ErrC K C fI) (GD : FnOk P w K mg base CX0 1 fD fdD ["self", "what"] (spErr K C dayF (RepOk K))) (cD : KdEx.ClsFn K D fD "__init__") (bD : Binds K fdD ["self", "what"] []) (gD : mg "DayError" = some (.ref D)) :
    FnOk P w K mg base CX0 2 f fd ["self", "what"] (spErr K C (noF "NoPlan") (RepOk K)) := by
  refine F.ok sc_NoPlan (fun vs H Q E h => ?_) (fun cdv A outer s H vs Q E hr h => ?_)
  · obtain ⟨a, v, rfl, _⟩ := h
    rfl
  · obtain ⟨a, v, rfl, ha, hv, k⟩ := h
    refine ⟨_, PSs.nox (pss_cons (ps_expr (KdEx.pe_clsfn rfl gD cD GD hr bD .nil pass0 (pa_cons (pv 0) (pa_cons (pv 1) pa_nil)))) (pss_one (ps_ost (pv 0) pe_str))), ?_⟩
    refine ⟨_, rfl, _, rfl, a, v, rfl, ha, hv, fun d H' hd nda e1 e2 rest => ?_⟩
    refine ⟨_, rfl, a, C, rfl, T.o, T.nN, .inr ⟨d, _, e1, e2, by show 2 ≤ 900; decide, ?_⟩⟩
    refine k d _ hd nda (by rw [upd_ne nda.symm]; exact e1) upd_same fun b hba hbd => ?_
    rw [upd_ne hbd]
    exact rest b hba hbd
theorem sc_NoRow : FnScope ["self", "what"] ["self", "what"] (defScope s_NoRow_init) := ⟨rfl, rfl, rfl, by decide +kernel, rfl, by decide +kernel, by decide +kernel⟩
theorem ok_NoRow {C fI D fD : Addr} {fdD : FuncData} (F : FnP K "__init__" "NoRow.__init__" s_NoRow_init f fd) (T : ErrC K C fI) (GD : FnOk P w K mg base CX0 1 fD fdD ["self", "what"] (spErr K C dayF (RepOk K))) (cD : KdEx.ClsFn K D fD "__init__") (bD : Binds K fdD ["self", "what"] []) (gD : mg "DayError" = some (.ref D)) :
    FnOk P w K mg base CX0 2 f fd ["self", "what"] (spErr K C (noF "NoRow") (RepOk K)) := by
  refine F.ok sc_NoRow (fun vs H Q E h => ?_) (fun cdv A outer s H vs Q E hr h => ?_)
  · obtain ⟨a, v, rfl, _⟩ := h
    rfl
  · obtain ⟨a, v, rfl, ha, hv, k⟩ := h
    refine ⟨_, PSs.nox (pss_cons (ps_expr (KdEx.pe_clsfn rfl gD cD GD hr bD .nil pass0 (pa_cons (pv 0) (pa_cons (pv 1) pa_nil)))) (pss_one (ps_ost (pv 0) pe_str))), ?_⟩
    refine ⟨_, rfl, _, rfl, a, v, rfl, ha, hv, fun d H' hd nda e1 e2 rest => ?_⟩
    refine ⟨_, rfl, a, C, rfl, T.o, T.nN, .inr ⟨d, _, e1, e2, by show 2 ≤ 900; decide, ?_⟩⟩
    refine k d _ hd nda (by rw [upd_ne nda.symm]; exact e1) upd_same fun b hba hbd => ?_
    rw [upd_ne hbd]
    exact rest b hba hbd
theorem sc_NoFact : FnScope ["self", "what"] ["self", "what"] (defScope s_NoFact_init) := ⟨rfl, rfl, rfl, by decide +kernel, rfl, by decide +kernel, by decide +kernel⟩
theorem ok_NoFact {C fI D fD : Addr} {fdD : FuncData} (F : FnP K "__init__" "NoFact.__init__" s_NoFact_init f fd) (T : ErrC K C fI) (GD : FnOk P w K mg base CX0 1 fD fdD ["self", "what"] (spErr K C dayF (RepOk K))) (cD : KdEx.ClsFn K D fD "__init__") (bD : Binds K fdD ["self", "what"] []) (gD : mg "DayError" = some (.ref D)) :
    FnOk P w K mg base CX0 2 f fd ["self", "what"] (spErr K C (noF "NoFact") (RepOk K)) := by
  refine F.ok sc_NoFact (fun vs H Q E h => ?_) (fun cdv A outer s H vs Q E hr h => ?_)
  · obtain ⟨a, v, rfl, _⟩ := h
    rfl
  · obtain ⟨a, v, rfl, ha, hv, k⟩ := h
    refine ⟨_, PSs.nox (pss_cons (ps_expr (KdEx.pe_clsfn rfl gD cD GD hr bD .nil pass0 (pa_cons (pv 0) (pa_cons (pv 1) pa_nil)))) (pss_one (ps_ost (pv 0) pe_str))), ?_⟩
    refine ⟨_, rfl, _, rfl, a, v, rfl, ha, hv, fun d H' hd nda e1 e2 rest => ?_⟩
    refine ⟨_, rfl, a, C, rfl, T.o, T.nN, .inr ⟨d, _, e1, e2, by show 2 ≤ 900; decide, ?_⟩⟩
    refine k d _ hd nda (by rw [upd_ne nda.symm]; exact e1) upd_same fun b hba hbd => ?_
    rw [upd_ne hbd]
    exact rest b hba hbd
theorem sc_NoThing : FnScope ["self", "what"] ["self", "what"] (defScope s_NoThing_init) := ⟨rfl, rfl, rfl, by decide +kernel, rfl, by decide +kernel, by decide +kernel⟩
theorem ok_NoThing {C fI D fD : Addr} {fdD : FuncData} (F : FnP K "__init__" "NoThing.__init__" s_NoThing_init f fd) (T : ErrC K C fI) (GD : FnOk P w K mg base CX0 1 fD fdD ["self", "what"] (spErr K C dayF (RepOk K))) (cD : KdEx.ClsFn K D fD "__init__") (bD : Binds K fdD ["self", "what"] []) (gD : mg "DayError" = some (.ref D)) :
    FnOk P w K mg base CX0 2 f fd ["self", "what"] (spErr K C (noF "NoThing") (RepOk K)) := by
  refine F.ok sc_NoThing (fun vs H Q E h => ?_) (fun cdv A outer s H vs Q E hr h => ?_)
  · obtain ⟨a, v, rfl, _⟩ := h
    rfl
  · obtain ⟨a, v, rfl, ha, hv, k⟩ := h
    refine ⟨_, PSs.nox (pss_cons (ps_expr (KdEx.pe_clsfn rfl gD cD GD hr bD .nil pass0 (pa_cons (pv 0) (pa_cons (pv 1) pa_nil)))) (pss_one (ps_ost (pv 0) pe_str))), ?_⟩
    refine ⟨_, rfl, _, rfl, a, v, rfl, ha, hv, fun d H' hd nda e1 e2 rest => ?_⟩
    refine ⟨_, rfl, a, C, rfl, T.o, T.nN, .inr ⟨d, _, e1, e2, by show 2 ≤ 900; decide, ?_⟩⟩
    refine k d _ hd nda (by rw [upd_ne nda.symm]; exact e1) upd_same fun b hba hbd => ?_
    rw [upd_ne hbd]
    exact rest b hba hbd
theorem sc_Twice : FnScope ["self", "what"] ["self", "what"] (defScope s_Twice_init) := ⟨rfl, rfl, rfl, by decide +kernel, rfl, by decide +kernel, by decide +kernel⟩
theorem ok_Twice {C fI D fD : Addr} {fdD : FuncData} (F : FnP K "__init__" "Twice.__init__" s_Twice_init f fd) (T : ErrC K C fI) (GD : FnOk P w K mg base CX0 1 fD fdD ["self", "what"] (spErr K C dayF (RepOk K))) (cD : KdEx.ClsFn K D fD "__init__") (bD : Binds K fdD ["self", "what"] []) (gD : mg "DayError" = some (.ref D)) :
    FnOk P w K mg base CX0 2 f fd ["self", "what"] (spErr K C (noF "Twice") (RepOk K)) := by
  refine F.ok sc_Twice (fun vs H Q E h => ?_) (fun cdv A outer s H vs Q E hr h => ?_)
  · obtain ⟨a, v, rfl, _⟩ := h
    rfl
  · obtain ⟨a, v, rfl, ha, hv, k⟩ := h
    refine ⟨_, PSs.nox (pss_cons (ps_expr (KdEx.pe_clsfn rfl gD cD GD hr bD .nil pass0 (pa_cons (pv 0) (pa_cons (pv 1) pa_nil)))) (pss_one (ps_ost (pv 0) pe_str))), ?_⟩
    refine ⟨_, rfl, _, rfl, a, v, rfl, ha, hv, fun d H' hd nda e1 e2 rest => ?_⟩
    refine ⟨_, rfl, a, C, rfl, T.o, T.nN, .inr ⟨d, _, e1, e2, by show 2 ≤ 900; decide, ?_⟩⟩
    refine k d _ hd nda (by rw [upd_ne nda.symm]; exact e1) upd_same fun b hba hbd => ?_
    rw [upd_ne hbd]
    exact rest b hba hbd
theorem sc_NoGroup : FnScope ["self", "what"] ["self", "what"] (defScope s_NoGroup_init) := ⟨rfl, rfl, rfl, by decide +kernel, rfl, by decide +kernel, by decide +kernel⟩
theorem ok_NoGroup {C fI D fD : Addr} {fdD : FuncData} (F : FnP K "__init__" "NoGroup.__init__" s_NoGroup_init f fd) (T : ErrC K C fI) (GD : FnOk P w K mg base CX0 1 fD fdD ["self", "what"] (spErr K C dayF (RepOk K))) (cD : KdEx.ClsFn K D fD "__init__") (bD : Binds K fdD ["self", "what"] []) (gD : mg "DayError" = some (.ref D)) :
    FnOk P w K mg base CX0 2 f fd ["self", "what"] (spErr K C (noF "NoGroup") (RepOk K)) := by
  refine F.ok sc_NoGroup (fun vs H Q E h => ?_) (fun cdv A outer s H vs Q E hr h => ?_)
  · obtain ⟨a, v, rfl, _⟩ := h
    rfl
  · obtain ⟨a, v, rfl, ha, hv, k⟩ := h
    refine ⟨_, PSs.nox (pss_cons (ps_expr (KdEx.pe_clsfn rfl gD cD GD hr bD .nil pass0 (pa_cons (pv 0) (pa_cons (pv 1) pa_nil)))) (pss_one (ps_ost (pv 0) pe_str))), ?_⟩
    refine ⟨_, rfl, _, rfl, a, v, rfl, ha, hv, fun d H' hd nda e1 e2 rest => ?_⟩
    refine ⟨_, rfl, a, C, rfl, T.o, T.nN, .inr ⟨d, _, e1, e2, by show 2 ≤ 900; decide, ?_⟩⟩
    refine k d _ hd nda (by rw [upd_ne nda.symm]; exact e1) upd_same fun b hba hbd => ?_
    rw [upd_ne hbd]
    exact rest b hba hbd
theorem sc_NoMeasure : FnScope ["self", "what"] ["self", "what"] (defScope s_NoMeasure_init) := ⟨rfl, rfl, rfl, by decide +kernel, rfl, by decide +kernel, by decide +kernel⟩
theorem ok_NoMeasure {C fI D fD : Addr} {fdD : FuncData} (F : FnP K "__init__" "NoMeasure.__init__" s_NoMeasure_init f fd) (T : ErrC K C fI) (GD : FnOk P w K mg base CX0 1 fD fdD ["self", "what"] (spErr K C dayF (RepOk K))) (cD : KdEx.ClsFn K D fD "__init__") (bD : Binds K fdD ["self", "what"] []) (gD : mg "DayError" = some (.ref D)) :
    FnOk P w K mg base CX0 2 f fd ["self", "what"] (spErr K C (noF "NoMeasure") (RepOk K)) := by
  refine F.ok sc_NoMeasure (fun vs H Q E h => ?_) (fun cdv A outer s H vs Q E hr h => ?_)
  · obtain ⟨a, v, rfl, _⟩ := h
    rfl
  · obtain ⟨a, v, rfl, ha, hv, k⟩ := h
    refine ⟨_, PSs.nox (pss_cons (ps_expr (KdEx.pe_clsfn rfl gD cD GD hr bD .nil pass0 (pa_cons (pv 0) (pa_cons (pv 1) pa_nil)))) (pss_one (ps_ost (pv 0) pe_str))), ?_⟩
    refine ⟨_, rfl, _, rfl, a, v, rfl, ha, hv, fun d H' hd nda e1 e2 rest => ?_⟩
    refine ⟨_, rfl, a, C, rfl, T.o, T.nN, .inr ⟨d, _, e1, e2, by show 2 ≤ 900; decide, ?_⟩⟩
    refine k d _ hd nda (by rw [upd_ne nda.symm]; exact e1) upd_same fun b hba hbd => ?_
    rw [upd_ne hbd]
    exact rest b hba hbd
theorem sc_NoWatch : FnScope ["self", "what"] ["self", "what"] (defScope s_NoWatch_init) := ⟨rfl, rfl, rfl, by decide +kernel, rfl, by decide +kernel, by decide +kernel⟩
theorem ok_NoWatch {C fI D fD : Addr} {fdD : FuncData} (F : FnP K "__init__" "NoWatch.__init__" s_NoWatch_init f fd) (T : ErrC K C fI) (GD : FnOk P w K mg base CX0 1 fD fdD ["self", "what"] (spErr K C dayF (RepOk K))) (cD : KdEx.ClsFn K D fD "__init__") (bD : Binds K fdD ["self", "what"] []) (gD : mg "DayError" = some (.ref D)) :
    FnOk P w K mg base CX0 2 f fd ["self", "what"] (spErr K C (noF "NoWatch") (RepOk K)) := by
  refine F.ok sc_NoWatch (fun vs H Q E h => ?_) (fun cdv A outer s H vs Q E hr h => ?_)
  · obtain ⟨a, v, rfl, _⟩ := h
    rfl
  · obtain ⟨a, v, rfl, ha, hv, k⟩ := h
    refine ⟨_, PSs.nox (pss_cons (ps_expr (KdEx.pe_clsfn rfl gD cD GD hr bD .nil pass0 (pa_cons (pv 0) (pa_cons (pv 1) pa_nil)))) (pss_one (ps_ost (pv 0) pe_str))), ?_⟩
    refine ⟨_, rfl, _, rfl, a, v, rfl, ha, hv, fun d H' hd nda e1 e2 rest => ?_⟩
    refine ⟨_, rfl, a, C, rfl, T.o, T.nN, .inr ⟨d, _, e1, e2, by show 2 ≤ 900; decide, ?_⟩⟩
    refine k d _ hd nda (by rw [upd_ne nda.symm]; exact e1) upd_same fun b hba hbd => ?_
    rw [upd_ne hbd]
    exact rest b hba hbd
theorem sc_NoTime : FnScope ["self", "what"] ["self", "what"] (defScope s_NoTime_init) := ⟨rfl, rfl, rfl, by decide +kernel, rfl, by decide +kernel, by decide +kernel⟩
theorem ok_NoTime {C fI D fD : Addr} {fdD : FuncData} (F : FnP K "__init__" "NoTime.__init__" s_NoTime_init f fd) (T : ErrC K C fI) (GD : FnOk P w K mg base CX0 1 fD fdD ["self", "what"] (spErr K C dayF (RepOk K))) (cD : KdEx.ClsFn K D fD "__init__") (bD : Binds K fdD ["self", "what"] []) (gD : mg "DayError" = some (.ref D)) :
    FnOk P w K mg base CX0 2 f fd ["self", "what"] (spErr K C (noF "NoTime") (RepOk K)) := by
  refine F.ok sc_NoTime (fun vs H Q E h => ?_) (fun cdv A outer s H vs Q E hr h => ?_)
  · obtain ⟨a, v, rfl, _⟩ := h
    rfl
  · obtain ⟨a, v, rfl, ha, hv, k⟩ := h
    refine ⟨_, PSs.nox (pss_cons (ps_expr (KdEx.pe_clsfn rfl gD cD GD hr bD .nil pass0 (pa_cons (pv 0) (pa_cons (pv 1) pa_nil)))) (pss_one (ps_ost (pv 0) pe_str))), ?_⟩
    refine ⟨_, rfl, _, rfl, a, v, rfl, ha, hv, fun d H' hd nda e1 e2 rest => ?_⟩
    refine ⟨_, rfl, a, C, rfl, T.o, T.nN, .inr ⟨d, _, e1, e2, by show 2 ≤ 900; decide, ?_⟩⟩
    refine k d _ hd nda (by rw [upd_ne nda.symm]; exact e1) upd_same fun b hba hbd => ?_
    rw [upd_ne hbd]
    exact rest b hba hbd
theorem sc_NoText : FnScope ["self", "what"] ["self", "what"] (defScope s_NoText_init) := ⟨rfl, rfl, rfl, by decide +kernel, rfl, by decide +kernel, by decide +kernel⟩
theorem ok_NoText {C fI D fD : Addr} {fdD : FuncData} (F : FnP K "__init__" "NoText.__init__" s_NoText_init f fd) (T : ErrC K C fI) (GD : FnOk P w K mg base CX0 1 fD fdD ["self", "what"] (spErr K C dayF (RepOk K))) (cD : KdEx.ClsFn K D fD "__init__") (bD : Binds K fdD ["self", "what"] []) (gD : mg "DayError" = some (.ref D)) :
    FnOk P w K mg base CX0 2 f fd ["self", "what"] (spErr K C (noF "NoText") (RepOk K)) := by
  refine F.ok sc_NoText (fun vs H Q E h => ?_) (fun cdv A outer s H vs Q E hr h => ?_)
  · obtain ⟨a, v, rfl, _⟩ := h
    rfl
  · obtain ⟨a, v, rfl, ha, hv, k⟩ := h
    refine ⟨_, PSs.nox (pss_cons (ps_expr (KdEx.pe_clsfn rfl gD cD GD hr bD .nil pass0 (pa_cons (pv 0) (pa_cons (pv 1) pa_nil)))) (pss_one (ps_ost (pv 0) pe_str))), ?_⟩
    refine ⟨_, rfl, _, rfl, a, v, rfl, ha, hv, fun d H' hd nda e1 e2 rest => ?_⟩
    refine ⟨_, rfl, a, C, rfl, T.o, T.nN, .inr ⟨d, _, e1, e2, by show 2 ≤ 900; decide, ?_⟩⟩
    refine k d _ hd nda (by rw [upd_ne nda.symm]; exact e1) upd_same fun b hba hbd => ?_
    rw [upd_ne hbd]
    exact rest b hba hbd
theorem sc_NoDeskRow : FnScope ["self", "what"] ["self", "what"] (defScope s_NoDeskRow_init) := ⟨rfl, rfl, rfl, by decide +kernel, rfl, by decide +kernel, by decide +kernel⟩
theorem ok_NoDeskRow {C fI D fD : Addr} {fdD : FuncData} (F : FnP K "__init__" "NoDeskRow.__init__" s_NoDeskRow_init f fd) (T : ErrC K C fI) (GD : FnOk P w K mg base CX0 1 fD fdD ["self", "what"] (spErr K C dayF (RepOk K))) (cD : KdEx.ClsFn K D fD "__init__") (bD : Binds K fdD ["self", "what"] []) (gD : mg "DayError" = some (.ref D)) :
    FnOk P w K mg base CX0 2 f fd ["self", "what"] (spErr K C (noF "NoDeskRow") (RepOk K)) := by
  refine F.ok sc_NoDeskRow (fun vs H Q E h => ?_) (fun cdv A outer s H vs Q E hr h => ?_)
  · obtain ⟨a, v, rfl, _⟩ := h
    rfl
  · obtain ⟨a, v, rfl, ha, hv, k⟩ := h
    refine ⟨_, PSs.nox (pss_cons (ps_expr (KdEx.pe_clsfn rfl gD cD GD hr bD .nil pass0 (pa_cons (pv 0) (pa_cons (pv 1) pa_nil)))) (pss_one (ps_ost (pv 0) pe_str))), ?_⟩
    refine ⟨_, rfl, _, rfl, a, v, rfl, ha, hv, fun d H' hd nda e1 e2 rest => ?_⟩
    refine ⟨_, rfl, a, C, rfl, T.o, T.nN, .inr ⟨d, _, e1, e2, by show 2 ≤ 900; decide, ?_⟩⟩
    refine k d _ hd nda (by rw [upd_ne nda.symm]; exact e1) upd_same fun b hba hbd => ?_
    rw [upd_ne hbd]
    exact rest b hba hbd
end
end Kd

namespace Kd
open PySem PySem.Spec PyProof.Rows L2 KdXc
/-- a def that lets nothing out keeps its promise among those that may -/
theorem fn_calm {P : Program} {w : World} {K : PySem.W.Frag} {mg : Str → Option Value} {base : Heap} {k : Nat} {f : Addr} {fd : FuncData} {ps : List Str} {sp : Sp} (G : FnOk P w K mg base CX0 k f fd ps sp) : FnOk P w K mg base (L2.CX P w) k f fd ps sp :=
  ⟨G.len, fun A outer s H args us vs Q E hr he hb hv hs => codeAny_mono (G.run A outer s H args us vs Q E hr he hb hv hs) fun r s' z => by
    cases r with
    | error e => exact False.elim z
    | ok fl => cases fl <;> exact z⟩
/-- two promises of one def -/
theorem fn_or {P : Program} {w : World} {K : PySem.W.Frag} {mg : Str → Option Value} {base : Heap} {CX : CXT} {k : Nat} {f : Addr} {fd : FuncData} {ps : List Str} {sp sp' : Sp} (G : FnOk P w K mg base CX k f fd ps sp) (G' : FnOk P w K mg base CX k f fd ps sp') : FnOk P w K mg base CX k f fd ps (fun vs H Q E => sp vs H Q E ∨ sp' vs H Q E) :=
  ⟨fun vs H Q E h => h.elim (G.len vs H Q E) (G'.len vs H Q E), fun A outer s H args us vs Q E hr he hb hv hs => hs.elim (fun z => G.run A outer s H args us vs Q E hr he hb hv z) (fun z => G'.run A outer s H args us vs Q E hr he hb hv z)⟩
section
variable {P : Program} {w : World} {K : PySem.W.Frag} {mg : Str → Option Value} {base : Heap} {f : Addr} {fd : FuncData}
theorem ff_cases (ds : List (Str × List (Str × Str))) (ms : List Str) : ffV ds ms = .non ∨ ∃ z : Str, ffV ds ms = .str z ∧ KdEx.Flat1 (.str z) := by
  have w1 : KdEx.Flat1 (.str "dimensions") := ⟨by decide +kernel, by decide +kernel⟩
  have w2 : KdEx.Flat1 (.str "attributes") := ⟨by decide +kernel, by decide +kernel⟩
  have w3 : KdEx.Flat1 (.str "measures") := ⟨by decide +kernel, by decide +kernel⟩
  unfold ffV
  by_cases c1 : (ds.isEmpty || fltB (ds.map (·.1)) 4) = true
  · rw [if_pos c1]
    exact .inr ⟨_, rfl, w1⟩
  · rw [if_neg c1]
    by_cases c2 : ds.any (fun d => fltB (d.2.map (·.1)) 5) = true
    · rw [if_pos c2]
      exact .inr ⟨_, rfl, w2⟩
    · rw [if_neg c2]
      by_cases c3 : fltB ms 4 = true
      · rw [if_pos c3]
        exact .inr ⟨_, rfl, w3⟩
      · rw [if_neg c3]
        exact .inl rfl
/-- a class of refusals, and how one is made -/
structure ErrM (P : Program) (w : World) (K : PySem.W.Frag) (mg : Str → Option Value) (base : Heap) (x : Str) (C fI : Addr) (fdI : FuncData) : Prop where
  T : ErrC K C fI
  G : FnOk P w K mg base CX0 2 fI fdI ["self", "what"] (spErr K C (noF x) (RepOk K))
  b : Binds K fdI ["self", "what"] []
  g : mg x = some (.ref C)
/-! ### Plan.__init__ of faulty lists -/
def spFail (K : PySem.W.Frag) (N : Addr) : Sp := fun vs H _ E => ∃ (x l m : Addr) (ds : List (Str × List (Str × Str))) (ms : List Str) (z : Str), vs = [.ref x, .ref l, .ref m] ∧ DimsAt K H l ds ∧ Txs K H m ms ∧ Szd ds ms ∧ ffV ds ms = .str z ∧
  ∀ H1 d, Same H H1 → H1 d = none → E (.ref N) (some d) (upd H1 d (.xd (noF "NoPlan" (.str z))))
theorem ok_fail {fF N fN : Addr} {fdF fdN : FuncData} {dvs : List V} (F : FunD K "__init__" "Plan.__init__" (defArgs s_Plan_init) (defBody s_Plan_init) (defScope s_Plan_init) dvs [] f fd) (GF : FnOk P w K mg base CX0 4 fF fdF ["dimensions", "measures"] (spFirst K)) (kF : PySem.W.keepIn K (.ref fF) = true) (bF : Binds K fdF ["dimensions", "measures"] []) (gF : mg "first_fault" = some (.ref fF))
    (M : ErrM P w K mg base "NoPlan" N fN fdN) : FnOk P w K mg base (L2.CX P w) 5 f fd ["self", "dimensions", "measures"] (spFail K N) := by
  refine F.ok sc_init (fun vs H Q E h => ?_) (fun cdv A outer s H vs Q E hr h => ?_)
  · obtain ⟨x, l, m, ds, ms, z, rfl, _⟩ := h
    rfl
  · obtain ⟨x, l, m, ds, ms, z, rfl, hl, hm, sz, ev, k⟩ := h
    have nd := sc_init.nd
    refine ⟨_, pss_cons (ps_set (i := 3) nd rfl (Or.inl rfl) (pe_call GF hr rfl gF kF bF .nil pass0 (pa_cons (pv 1) (pa_cons (pv 2) pa_nil))))
      (pss_cons (ps_if (pt_cmp (pc_notN (pv 3))) (pss_one (ps_raise rfl (takes_of rfl rfl rfl rfl) (pmk_err M.T M.G (hr.mono (by decide)) M.b rfl M.g (pv 3)))) pss_nil)
      (pss_cons ps_never (pss_one ps_never))), ?_⟩
    refine ⟨_, rfl, _, rfl, l, m, ds, ms, rfl, hl, hm, sz, fun H1 s1 => ?_⟩
    rw [ev]
    refine ⟨_, rfl, _, rfl, iteT ?_⟩
    refine ⟨_, rfl, err_ok (fun a ha => .inl ⟨z, rfl, ?_⟩) fun d hd => k H1 d s1 hd⟩
    rcases ff_cases ds ms with e | ⟨y, e, hy⟩
    · rw [ev] at e
      cases e
    · rw [ev] at e
      cases e
      exact hy
def spInitX (K : PySem.W.Frag) (C N : Addr) : Sp := fun vs H Q E => spInit K C vs H Q E ∨ spFail K N vs H Q E
theorem ok_initX {C N : Addr} (G : FnOk P w K mg base CX0 5 f fd ["self", "dimensions", "measures"] (spInit K C)) (G' : FnOk P w K mg base (L2.CX P w) 5 f fd ["self", "dimensions", "measures"] (spFail K N)) : FnOk P w K mg base (L2.CX P w) 5 f fd ["self", "dimensions", "measures"] (spInitX K C N) := fn_or (fn_calm G) G'
end
end Kd

namespace KdHot
open PySem PySem.Spec PyProof.Rows L2 HotX
section
variable {X : Cx} {CX : CXT} {k : Nat} {f C : Addr} {fd : FuncData} {ps : List Str} {sp : Sp} {E : L2.St → XK} {x m : Str} {p1 p2 pos : Pos} {e : Expr} {es : List Expr} {t : TA}
/-- C.m(e, ..) of an own class, while an exception is handled -/
theorem pe_clsfnH {pl : Sem Bool} (hg : Gl X x) (hm : X.mg x = some (.ref C)) (T : KdEx.ClsFn X.K C f m) (F : L2H.FnH X.prog X.w X.K X.mg X.base CX k f fd ps sp) (hr : L2H.RoomH k X.A) (hc : L2H.HotC X) (hb : Binds X.K fd ps []) (hx : ∀ σ, PassesAt CX X σ (E σ)) (ha : PA X (e :: es) t)
    (hdb : (x == ("__debug__" : Str)) = false := by decide)
    (hc2 : eval (.Call (.Attribute (.Name x p1) m p2) (e :: es) [] pos) X.env = (do
      let ov ← eval (.Name x p1) X.env
      standAt p2.atName
      let (f, first) ← holding [ov] (getMethod ov m pl)
      callWith pos f first (backTo pos (starEach (e :: es) X.env)) (backToKw pos (keywordEach [] X.env))) := by rfl)
    (he : starEach (e :: es) X.env = (false, eval e X.env) :: starEach es X.env := by rfl) (hpl : (backTo pos (starEach es X.env)).any (·.1) = false := by rfl) :
    PE X (.Call (.Attribute (.Name x p1) m p2) (e :: es) [] pos) (tCallS sp E t) := by
  refine ⟨fun pins s σ H Q I h => ?_⟩
  refine PySem.W.methodCall_KW (ld_glob I hg hm ?_ hdb) hc2
  refine PySem.W.method_cls I.kIn T.sp ?_
  refine PySem.W.cls_value I.kIn T.rd T.fi rfl ?_
  show wpAny _ _ (callWith pos (Value.ref f) [] (backTo pos (starEach (e :: es) X.env)) []) _ _ _
  refine PySem.W.callWith_K (h₀ := X.base) I.ok.mod.kin T.kp (thn (ha.run pos pins _ σ H _ (I.tok _) h) fun us s1 ⟨vs, H1, I1, r, q⟩ => ⟨I1.kIn, ?_⟩) he hpl
  exact L2H.run_fnH F hr hc hb (hx σ) I1 r q
end
end KdHot

namespace Kd
open PySem PySem.Spec PyProof.Rows L2 KdXc
theorem roomH_units {k : Nat} {A : Around} (r : L2H.RoomH k A) : A.units + 64 < cLine := by
  have := r.un
  omega
section
variable {P : Program} {w : World} {K : PySem.W.Frag} {mg : Str → Option Value} {base : Heap} {f : Addr} {fd : FuncData}
/-! ### a refusal's __init__ while another one is handled -/
theorem okH_DayError {C fI : Addr} (F : FnP K "__init__" "DayError.__init__" s_DayError_init f fd) (T : ErrC K C fI) (z_ValueError : mg "ValueError" = none) (vV : PySem.W.findCls K (.type "ValueError") (.type "type") "__init__" = some (.val (.builtin "ValueError.__init__"))) (z_repr : mg "repr" = none) :
    L2H.FnH P w K mg base CX0 1 f fd ["self", "what"] (spErr K C dayF (RepOk K)) := by
  obtain ⟨oc, od, dV, kV, doc, pm, an, cdv, ct, osl, rfl, lk, hcd, _, _⟩ := F.ex
  refine L2H.fn_ofH lk hcd sc_DayError (fun vs H Q E h => ?_) (fun A outer s H vs Q E p hot hr h => ?_)
  · obtain ⟨a, v, rfl, _⟩ := h
    rfl
  · obtain ⟨a, v, rfl, ha, hv, k⟩ := h
    have nd := sc_DayError.nd
    have hu := roomH_units hr
    refine ⟨_, (pss_cons (ps_expr (pe_veinit rfl z_ValueError vV (pa_cons (pv 0) (pa_cons (pe_callB (KdRp.cr_rep2 hu) (by rfl) z_repr (by decide +kernel) (pa_cons (pv 1) pa_nil)) pa_nil))))
      (pss_cons (ps_ost (pv 0) (pv 1)) (pss_one (ps_ost (pv 0) pe_str)))), ?_⟩
    refine ⟨_, rfl, _, rfl, v, rfl, hv, fun m => ⟨a, C, [.str m], rfl, by show 1 ≤ 1000; decide, T.o, ha, ?_⟩⟩
    refine ⟨_, rfl, _, rfl, a, C, rfl, T.o, T.nW, .inl ⟨ha, fun d hd nda => ?_⟩⟩
    refine ⟨_, rfl, a, C, rfl, T.o, T.nN, .inr ⟨d, _, upd_same, by rw [upd_ne nda]; exact upd_same, by show 1 ≤ 900; decide, ?_⟩⟩
    refine k d _ hd nda (by rw [upd_ne nda.symm]; exact upd_same) upd_same fun b hba hbd => ?_
    rw [upd_ne hbd, upd_ne hba, upd_ne hbd]
theorem okH_NoText {C fI D fD : Addr} {fdD : FuncData} (F : FnP K "__init__" "NoText.__init__" s_NoText_init f fd) (T : ErrC K C fI) (GD : L2H.FnH P w K mg base CX0 1 fD fdD ["self", "what"] (spErr K C dayF (RepOk K))) (cD : KdEx.ClsFn K D fD "__init__") (bD : Binds K fdD ["self", "what"] []) (gD : mg "DayError" = some (.ref D)) :
    L2H.FnH P w K mg base CX0 2 f fd ["self", "what"] (spErr K C (noF "NoText") (RepOk K)) := by
  obtain ⟨oc, od, dV, kV, doc, pm, an, cdv, ct, osl, rfl, lk, hcd, _, _⟩ := F.ex
  refine L2H.fn_ofH lk hcd sc_NoText (fun vs H Q E h => ?_) (fun A outer s H vs Q E p hot hr h => ?_)
  · obtain ⟨a, v, rfl, _⟩ := h
    rfl
  · obtain ⟨a, v, rfl, ha, hv, k⟩ := h
    refine ⟨_, (pss_cons (ps_expr (KdHot.pe_clsfnH (E := fun _ => E0) rfl gD cD GD hr ⟨p, hot, List.mem_singleton.mpr rfl⟩ bD (fun σ pins H s e s' I q => (show False from q).elim) (pa_cons (pv 0) (pa_cons (pv 1) pa_nil)))) (pss_one (ps_ost (pv 0) pe_str))), ?_⟩
    refine ⟨_, rfl, _, rfl, a, v, rfl, ha, hv, fun d H' hd nda e1 e2 rest => ?_⟩
    refine ⟨_, rfl, a, C, rfl, T.o, T.nN, .inr ⟨d, _, e1, e2, by show 2 ≤ 900; decide, ?_⟩⟩
    refine k d _ hd nda (by rw [upd_ne nda.symm]; exact e1) upd_same fun b hba hbd => ?_
    rw [upd_ne hbd]
    exact rest b hba hbd
end
end Kd

namespace KdXn
open PySem PySem.Spec PyProof.Rows L2 KdXc
/-- C(e, ..) of an own class of exceptions where nothing is handled, for a clause that raises anew -/
theorem pmkN_oex {X : Cx} {CX : CXT} {x : Str} {e : Expr} {es : List Expr} {ta : TA} {p pos : Pos} {C fI : Addr} {k : Nat} {fd : FuncData} {ps : List Str} {sp : Sp} {ds : List Value} {dvs : List V} (T : OexC X.K C) (iC : PySem.W.findIn X.K (.ref C) "__init__" = some (some (.ref fI))) (tI : PySem.W.typeIn X.K (.ref fI) = some (.type "function"))
    (F1 : FnOk X.prog X.w X.K X.mg X.base CX k fI fd ps sp) (hr : Room (k + 1) X.A) (hb : Binds X.K fd ps ds) (hd : Vals dvs ds) (hx : Passes CX X (fun _ _ _ => False)) (hg : Gl X x) (hm : X.mg x = some (.ref C)) (ha : PA X (e :: es) ta)
    (hdb : (x == ("__debug__" : Str)) = false := by decide) (he : starEach (e :: es) X.env = (false, eval e X.env) :: starEach es X.env := by rfl) (hpl : (backTo pos (starEach es X.env)).any (·.1) = false := by rfl) :
    L2N.PMk X (.Call (.Name x p) (e :: es) [] pos) (tMkO C sp dvs ta) := by
  intro pins s σ H Q I h
  obtain ⟨nm, q, N, bs, bm, sn, sub, ab, col, dd, k0, k1, k2, k3, k5, hC, hbm⟩ := T.cls
  refine wpAny_Call_Name_kw (ld_glob I hg hm ?_ hdb)
  refine PySem.W.callWith_K (h₀ := X.base) I.ok.mod.kin T.kC (thn (ha.run pos pins s σ H _ I h) fun us s1 ⟨vs, H1, I1, r1, hz, q1⟩ => ⟨I1.kIn, ?_⟩) he hpl
  show wpAny _ _ (call (.ref C) us) _ _ _
  obtain ⟨hp, g, dr, tk, os⟩ := s1
  have hsz : hp.objs.size ≤ hp.objs.size + 1 := Nat.le_succ _
  have hn : H1 (hp.objs.size + 1) = none := I1.hok.fresh hsz
  have hq := q1 (hp.objs.size + 1) hn
  have kk : ∀ b o, hp.get? b = some o → ((hp.push (PySem.W.kdv_tup us)).push (PySem.HandSPX.excO C hp.objs.size)).get? b = some o := fun b o e => Heap.get?_push_of_some _ (Heap.get?_push_of_some _ e)
  have hget : ((hp.push (PySem.W.kdv_tup us)).push (PySem.HandSPX.excO C hp.objs.size)).get? (hp.objs.size + 1) = some (PySem.HandSPX.excO C hp.objs.size) := by heap_get
  have I2 : Inv X pins σ (upd H1 (hp.objs.size + 1) (exo (hp.objs.size + 1) C none)) ⟨(hp.push (PySem.W.kdv_tup us)).push (PySem.HandSPX.excO C hp.objs.size), g, dr, tk, os⟩ :=
    I1.laid (t' := tk) (a := hp.objs.size + 1) (o := exo (hp.objs.size + 1) C none) (h' := (hp.push (PySem.W.kdv_tup us)).push (PySem.HandSPX.excO C hp.objs.size)) kk hsz (exo_ok hget)
  have r2 : Vals (V.ref (hp.objs.size + 1) :: (vs ++ dvs)) (Value.ref (hp.objs.size + 1) :: (us ++ ds)) := .cons rfl (r1.append hd)
  have hl : (Value.ref (hp.objs.size + 1) :: us ++ ds).length = ps.length := by
    have e := r2.length
    rw [F1.len _ _ _ _ hq] at e
    exact e.symm
  have hus : us.length ≤ sizeLine := by
    rw [← Paired.length r1, sizeLine_eq]
    omega
  refine wpAny_call (PySem.HandSPX.call_own F.excBase_ValueError (fun Y => PySem.HandSPX.refsVE_contains Y bm hbm) (I1.kIn _ _ hC) (PySem.W.looks_findIn I1.kIn iC) (fun self => PySem.W.bind_fn I1.kIn self tI) hus
    (codeAny_mono (F1.run _ X.stack _ _ ⟨Value.ref (hp.objs.size + 1) :: us, []⟩ (Value.ref (hp.objs.size + 1) :: (us ++ ds)) _ _ (fun _ _ _ => False) (hr.make C us []) (I2.env0.make C us []) (hb _ (Value.ref (hp.objs.size + 1) :: us) I2.kIn hl) r2 hq) fun r s' hq' => ?_))
  cases r with
  | error er => exact hx pins σ _ _ er s' I2 hq'
  | ok fl =>
    cases fl with
    | ret u =>
      obtain ⟨v, H2, os2, bare2, un2, hok2, rv, ev, d, fs, ea, ed, hd1, q2⟩ := hq'
      subst ev
      obtain ⟨h2, g2, d2, t2, os'⟩ := s'
      obtain ⟨t0, G, J, kG, ge, hoe, na⟩ := mk_end0 (d2 := d2) (t2 := t2) I1 hsz kk un2 hok2 os2 bare2 ea ed hd1
      refine ⟨rv, ⟨hp.objs.size + 1, _, _, ⟨G, g2, d2, t2, os'⟩, _, .ref C, some d, rfl, J, kG, ge, hoe, ⟨rfl, rfl, fun vs hv => ?_⟩, rfl, rfl, na, rfl, bare2, raises_own T.exC T.tyC, q2⟩⟩
      cases hv
      rfl
    | next => exact False.elim hq'
    | brk => exact False.elim hq'
    | cont => exact False.elim hq'
theorem pmkN_err {X : Cx} {x : Str} {C fI : Addr} {k : Nat} {fd : FuncData} {ps : List Str} {fs : V → List (Str × V)} {Ok : V → Hp → Prop} {e : Expr} {te : TE} {p pos : Pos} (T : ErrC X.K C fI)
    (G : FnOk X.prog X.w X.K X.mg X.base CX0 k fI fd ps (spErr X.K C fs Ok)) (hr : Room (k + 1) X.A) (hb : Binds X.K fd ps []) (hg : Gl X x) (hm : X.mg x = some (.ref C)) (he : PE X e te)
    (hdb : (x == ("__debug__" : Str)) = false := by decide) (hs : starEach [e] X.env = (false, eval e X.env) :: starEach [] X.env := by rfl) (hpl : (backTo pos (starEach [] X.env)).any (·.1) = false := by rfl) :
    L2N.PMk X (.Call (.Name x p) [e] [] pos) (tMkO C (spErr X.K C fs Ok) [] (tCons te tNil)) :=
  pmkN_oex T.o T.iC T.tI G hr hb .nil pass0 hg hm (pa_cons he pa_nil hs) hdb hs hpl
/-- the same while another one is handled -/
theorem pmkH_err {X : Cx} {x : Str} {C fI : Addr} {k : Nat} {fd : FuncData} {ps : List Str} {fs : V → List (Str × V)} {Ok : V → Hp → Prop} {e : Expr} {te : TE} {p pos : Pos} (T : ErrC X.K C fI)
    (G : L2H.FnH X.prog X.w X.K X.mg X.base CX0 k fI fd ps (spErr X.K C fs Ok)) (hr : L2H.RoomH (k + 1) X.A) (hc : L2H.HotC X) (hb : Binds X.K fd ps []) (hg : Gl X x) (hm : X.mg x = some (.ref C)) (he : PE X e te)
    (hdb : (x == ("__debug__" : Str)) = false := by decide) (hs : starEach [e] X.env = (false, eval e X.env) :: starEach [] X.env := by rfl) (hpl : (backTo pos (starEach [] X.env)).any (·.1) = false := by rfl) :
    L2H.PMk5 X (.Call (.Name x p) [e] [] pos) (tMkO C (spErr X.K C fs Ok) [] (tCons te tNil)) :=
  L2H.pmk5_oexH T.o T.iC T.tI G hr hc hb pass0 hg hm (pa_cons he pa_nil hs) hdb hs hpl
section
variable {P : Program} {w : World} {K : PySem.W.Frag} {mg : Str → Option Value} {base : Heap} {k : Nat} {f : Addr} {fd : FuncData} {ps : List Str} {sp sp' : Sp}
/-- a def that lets nothing out keeps its promise among those that may (before a clause that raises anew) -/
theorem fn_calmN (G : FnOk P w K mg base CX0 k f fd ps sp) : FnOk P w K mg base (L2N.CX P w) k f fd ps sp :=
  ⟨G.len, fun A outer s H args us vs Q E hr he hb hv hs => codeAny_mono (G.run A outer s H args us vs Q E hr he hb hv hs) fun r s' z => by
    cases r with
    | error e => exact False.elim z
    | ok fl => cases fl <;> exact z⟩
/-- a def that may raise, where it does not -/
theorem fn_still (G : FnOk P w K mg base (L2.CX P w) k f fd ps sp) : FnOk P w K mg base CX0 k f fd ps (fun vs H Q _ => sp vs H Q (fun _ _ _ => False)) :=
  ⟨fun vs H Q E h => G.len vs H Q _ h, fun A outer s H args us vs Q E hr he hb hv hs => codeAny_mono (G.run A outer s H args us vs Q (fun _ _ _ => False) hr he hb hv hs) fun r s' z => by
    cases r with
    | error e =>
      obtain ⟨a, B, H', cls, d, _, _, _, _, _, _, _, z⟩ := z
      exact z
    | ok fl => cases fl <;> exact z⟩
/-- a weaker promise -/
theorem fn_weak {CX : CXT} (G : FnOk P w K mg base CX k f fd ps sp) (h : ∀ vs H Q E, sp' vs H Q E → sp vs H Q E) : FnOk P w K mg base CX k f fd ps sp' :=
  ⟨fun vs H Q E z => G.len vs H Q E (h _ _ _ _ z), fun A outer s H args us vs Q E hr he hb hv hs => G.run A outer s H args us vs Q E hr he hb hv (h _ _ _ _ hs)⟩
end
end KdXn

namespace Kd
open PySem PySem.Spec PyProof.Rows L2
/-- a text of plain signs, not too long -/
structure Plain (t : Str) : Prop where
  ok : ∀ c ∈ TL.tl t, c < 256
  le : t.length ≤ 4000
theorem mem_joinL2 {S : List Nat} {c : Nat} : ∀ {ps : List (List Nat)} {p : List Nat}, p ∈ ps → c ∈ p → c ∈ TL.joinL S ps
  | [], _, h, _ => by cases h
  | [q], _, h, hc => by
    rw [List.mem_singleton.mp h] at hc
    exact hc
  | q :: r :: ps, p, h, hc => by
    show c ∈ q ++ (S ++ TL.joinL S (r :: ps))
    rcases List.mem_cons.mp h with rfl | h
    · exact List.mem_append_left _ hc
    · exact List.mem_append_right _ (List.mem_append_right _ (mem_joinL2 h hc))
theorem part_tl {x y p : Str} (h : p ∈ Txt.split x y) {c : Nat} (hc : c ∈ TL.tl p) : c ∈ TL.tl x := by
  have e := congrArg TL.tl (join_of_split x y)
  rw [tl_joinL] at e
  rw [← e]
  exact mem_joinL2 (List.mem_map.mpr ⟨p, h, rfl⟩) hc
theorem Plain.part {x y p : Str} (hx : Plain x) (hy : 1 ≤ y.length) (h : p ∈ Txt.split x y) : Plain p := ⟨fun c hc => hx.ok c (part_tl h hc), Nat.le_trans (part_len hy h) hx.le⟩
theorem Plain.strOk {z : Str} (h : Plain z) : PyData.strOk z = true := by
  unfold PyData.strOk
  rw [Array.all_eq_true']
  intro c hc
  have := h.ok c (Array.mem_toList_iff.mpr hc)
  exact decide_eq_true (by omega)
theorem Plain.flat1 {z : Str} (h : Plain z) : KdEx.Flat1 (.str z) := ⟨fun c hc => by have := h.ok c hc; omega, h.le⟩
/-- what a dimension that was read is made of -/
theorem readD_plain {p : Str} {d : Dm} (hp : Plain p) (h : readD p = some d) : Plain d.1 ∧ ∀ a ∈ d.2, Plain a.1 ∧ Plain a.2 := by
  unfold readD at h
  split at h
  · rename_i w0 n ws e
    split at h
    · rename_i c
      obtain ⟨xs, e1, e2⟩ := getD_map (z := (Str.empty, Str.empty)) c.2
      rw [e2] at h
      cases h
      obtain ⟨hl, hi⟩ := map_some_at e1
      refine ⟨hp.part (y := " ") (by decide +kernel) (by rw [e]; simp), fun a ha => ?_⟩
      obtain ⟨i, h2, rfl⟩ := List.mem_iff_getElem.mp ha
      have h2 : i < xs.length := h2
      have hiw : i < ws.length := by omega
      have h1 := (attOf_some (hi i hiw h2)).1
      have hw : Plain ws[i] := hp.part (y := " ") (by decide +kernel) (by rw [e]; simp [List.getElem_mem])
      exact ⟨hw.part (y := ":") (by decide +kernel) (by rw [h1]; simp), hw.part (y := ":") (by decide +kernel) (by rw [h1]; simp)⟩
    · cases h
  · cases h
end Kd

namespace Kd
open PySem PySem.Spec PyProof.Rows L2 KdXc KdXn
/-! ### good lists are those without a fault -/
theorem flt_of {xs : List Str} {m : Int} (h : fltB xs m = false) : (xs.length : Int) ≤ m ∧ xs.Nodup ∧ ∀ z ∈ xs, IsNm z := by
  unfold fltB at h
  rw [Bool.or_eq_false_iff, Bool.or_eq_false_iff] at h
  obtain ⟨h1, h2, h3⟩ := h
  refine ⟨by have := of_decide_eq_false h1; omega, ?_, fun z hz => ?_⟩
  · have h2 := of_decide_eq_false h2
    rw [List.nodup_iff_pairwise_ne, List.pairwise_iff_getElem]
    intro i j hi hj hij e
    have := KdS.dcn_dup hij hj e xs.length hj
    omega
  · have h3 : xs.all nmB = true := by
      cases q : xs.all nmB with
      | true => rfl
      | false => rw [q] at h3; cases h3
    exact nm_iff.mp (List.all_eq_true.mp h3 z hz)
theorem good_of {ds : List Dm} {ms : List Str} (h : ffV ds ms = .non) (hw : ∀ d ∈ ds, ∀ a ∈ d.2, IsWay a.2) : Good ds ms := by
  unfold ffV at h
  by_cases c1 : (ds.isEmpty || fltB (ds.map (·.1)) 4) = true
  · rw [if_pos c1] at h; cases h
  rw [if_neg c1] at h
  by_cases c2 : ds.any (fun d => fltB (d.2.map (·.1)) 5) = true
  · rw [if_pos c2] at h; cases h
  rw [if_neg c2] at h
  by_cases c3 : fltB ms 4 = true
  · rw [if_pos c3] at h; cases h
  have c1 := Bool.eq_false_iff.mpr c1
  have c2 := Bool.eq_false_iff.mpr c2
  rw [Bool.or_eq_false_iff] at c1
  obtain ⟨a1, a2, a3⟩ := flt_of c1.2
  obtain ⟨b1, b2, b3⟩ := flt_of (Bool.eq_false_iff.mpr c3)
  have c4 : ∀ d ∈ ds, ((d.2.map (·.1)).length : Int) ≤ 5 ∧ (d.2.map (·.1)).Nodup ∧ ∀ z ∈ d.2.map (·.1), IsNm z := fun d hd => flt_of (Bool.eq_false_iff.mpr (List.any_eq_false.mp c2 d hd))
  refine ⟨?_, ?_, fun d hd => a3 _ (List.mem_map.mpr ⟨d, hd, rfl⟩), a2, fun d hd => ?_, fun d hd a ha => ⟨(c4 d hd).2.2 _ (List.mem_map.mpr ⟨a, ha, rfl⟩), hw d hd a ha⟩, fun d hd => (c4 d hd).2.1, ?_, b3, b2⟩
  · cases ds with
    | nil => exact absurd c1.1 (by decide)
    | cons d ds => exact Nat.succ_le_succ (Nat.zero_le _)
  · rw [List.length_map] at a1; omega
  · have := (c4 d hd).1
    rw [List.length_map] at this
    omega
  · omega
/-! ### dimensions, read or not, as data -/
def doD : Option Dm → PyData
  | none => .none
  | some d => dimD d
theorem lay_attsP : ∀ as : List (Str × Str), (∀ a ∈ as, Plain a.1 ∧ Plain a.2) → PyData.canLayAll0 (as.map attD) = true ∧ PyData.depthAll (as.map attD) ≤ 1
  | [], _ => ⟨rfl, by decide⟩
  | a :: as, h => by
    obtain ⟨h1, h2⟩ := lay_attsP as fun z hz => h z (List.mem_cons_of_mem _ hz)
    obtain ⟨h3, h4⟩ := h a (List.mem_cons_self ..)
    constructor
    · simp only [List.map_cons, attD, PyData.canLayAll0, PyData.canLay0, h1, h3.strOk, h4.strOk, Bool.and_self]
    · simp only [List.map_cons, attD, PyData.depthAll, PyData.depth]
      omega
theorem lay_dos : ∀ {os : List (Option Dm)}, (∀ d, some d ∈ os → Plain d.1 ∧ ∀ a ∈ d.2, Plain a.1 ∧ Plain a.2) → PyData.canLayAll0 (os.map doD) = true ∧ PyData.depthAll (os.map doD) ≤ 3
  | [], _ => ⟨rfl, Nat.zero_le _⟩
  | none :: os, h => by
    obtain ⟨h1, h2⟩ := lay_dos (os := os) fun r hr => h r (List.mem_cons_of_mem _ hr)
    constructor
    · simp only [List.map_cons, doD, PyData.canLayAll0, PyData.canLay0, h1, Bool.and_self]
    · simp only [List.map_cons, doD, PyData.depthAll, PyData.depth]
      omega
  | some d :: os, h => by
    obtain ⟨h1, h2⟩ := lay_dos (os := os) fun r hr => h r (List.mem_cons_of_mem _ hr)
    obtain ⟨h3, h4⟩ := h d (List.mem_cons_self ..)
    obtain ⟨h5, h6⟩ := lay_attsP d.2 h4
    constructor
    · simp only [List.map_cons, doD, dimD, PyData.canLayAll0, PyData.canLay0, h1, h3.strOk, h5, Bool.and_self]
    · simp only [List.map_cons, doD, dimD, PyData.depthAll, PyData.depth]
      omega
theorem dos_shaped {os : List (Option Dm)} (h : ∀ d, some d ∈ os → Plain d.1 ∧ ∀ a ∈ d.2, Plain a.1 ∧ Plain a.2) : SeqAt.shaped (.list (os.map doD)) = true := by
  obtain ⟨h1, h2⟩ := lay_dos h
  simp [SeqAt.shaped, PyData.canLay0, PyData.depth, h1]
  omega
theorem dos_none : ∀ (os : List (Option Dm)), ((os.map doD).any fun z => PyData.eqv z .none) = os.any Option.isNone
  | [] => rfl
  | none :: os => by
    rw [List.map_cons, List.any_cons, List.any_cons]
    simp [doD, PyData.eqv]
  | some r :: os => by
    rw [List.map_cons, List.any_cons, List.any_cons, dos_none os]
    simp [doD, dimD, PyData.eqv]
section
variable {P : Program} {w : World} {K : PySem.W.Frag} {mg : Str → Option Value} {base : Heap} {f : Addr} {fd : FuncData}
theorem dimV_cdl {D : Addr} {H : Hp} {A : List V} {v : V} {o : Option Dm} (hD : H D = some (.lst A)) (h : DimV K H v o) : DimV K (cd D H) v o := by
  cases o with
  | none => exact h
  | some r => exact dim_cdl hD h
theorem dimVs_some {H : Hp} : ∀ {ys : List V} {rs : List Dm}, Paired (DimV K H) ys (rs.map some) → Paired (DimAt K H) ys rs
  | _, [], h => by cases h; exact .nil
  | _, r :: rs, h => by
    cases h with
    | cons a t => exact .cons a (dimVs_some t)
theorem dimVs_dp {H : Hp} : ∀ {ys : List V} {os : List (Option Dm)}, Paired (DimV K H) ys os → DpAll K H ys (os.map doD)
  | _, _, .nil => .nil
  | _, _, .cons (b := none) a t => by
    have a : _ = V.non := a
    rw [a]
    exact .cons .non (dimVs_dp t)
  | _, _, .cons (b := some d) a t => by
    obtain ⟨p, q, e, h1, ys, h2, h3⟩ := a
    rw [e]
    exact .cons (.tup h1 (.cons (.str _) (.cons (.tup h2 (atts_dp h3)) .nil))) (dimVs_dp t)
/-! ### Plan.__init__ of faulty lists, before a clause that raises anew -/
theorem ok_failN {fF N fN : Addr} {fdF fdN : FuncData} {dvs : List V} (F : FunD K "__init__" "Plan.__init__" (defArgs s_Plan_init) (defBody s_Plan_init) (defScope s_Plan_init) dvs [] f fd) (GF : FnOk P w K mg base CX0 4 fF fdF ["dimensions", "measures"] (spFirst K)) (kF : PySem.W.keepIn K (.ref fF) = true) (bF : Binds K fdF ["dimensions", "measures"] []) (gF : mg "first_fault" = some (.ref fF))
    (M : ErrM P w K mg base "NoPlan" N fN fdN) : FnOk P w K mg base (L2N.CX P w) 5 f fd ["self", "dimensions", "measures"] (spFail K N) := by
  refine F.ok sc_init (fun vs H Q E h => ?_) (fun cdv A outer s H vs Q E hr h => ?_)
  · obtain ⟨x, l, m, ds, ms, z, rfl, _⟩ := h
    rfl
  · obtain ⟨x, l, m, ds, ms, z, rfl, hl, hm, sz, ev, k⟩ := h
    have nd := sc_init.nd
    refine ⟨_, pss_cons (ps_set (i := 3) nd rfl (Or.inl rfl) (pe_call GF hr rfl gF kF bF .nil pass0 (pa_cons (pv 1) (pa_cons (pv 2) pa_nil))))
      (pss_cons (ps_if (pt_cmp (pc_notN (pv 3))) (pss_one (L2N.ps_raise rfl (L2N.takes_of rfl rfl rfl rfl) (pmkN_err M.T M.G (hr.mono (by decide)) M.b rfl M.g (pv 3)))) pss_nil)
      (pss_cons ps_never (pss_one ps_never))), ?_⟩
    refine ⟨_, rfl, _, rfl, l, m, ds, ms, rfl, hl, hm, sz, fun H1 s1 => ?_⟩
    rw [ev]
    refine ⟨_, rfl, _, rfl, iteT ?_⟩
    refine ⟨_, rfl, err_ok (fun a ha => .inl ⟨z, rfl, ?_⟩) fun d hd => k H1 d s1 hd⟩
    rcases ff_cases ds ms with e | ⟨y, e, hy⟩
    · rw [ev] at e
      cases e
    · rw [ev] at e
      cases e
      exact hy
theorem init_bad {C N hp bp : Addr} {H5 : Hp} {ds : List Dm} {ms : List Str} {Q : VK} {E : XK} {z : Str} (hd : DimsAt K H5 hp ds) (hm : Txs K H5 bp ms) (sz : Szd ds ms) (ff : ffV ds ms = .str z) (k : ∀ d H7, Same H5 H7 → H7 d = some (.xd (noF "NoPlan" (.str z))) → H5 d = none → E (.ref N) (some d) H7)
    {x dx : Addr} (nx : H5 x = none) (ndx : H5 dx = none) (nex : dx ≠ x) : spFail K N [.ref x, .ref hp, .ref bp] (upd (upd H5 dx (.own x)) x (.ins C dx [])) Q E := by
  have sx : Same H5 (upd (upd H5 dx (.own x)) x (.ins C dx [])) := fun b o q => by rw [upd_ne (ne_of_none q nx), upd_ne (ne_of_none q ndx)]; exact q
  exact ⟨x, hp, bp, ds, ms, z, rfl, DimsAt.same sx hd, Same.txs sx hm, sz, ff, fun H1 d s1 hd => k d _ ((sx.trans s1).trans (same_new hd)) upd_same ((sx.trans s1).free hd)⟩
theorem PlanN.at1 {C x : Addr} {H H' : Hp} {ds : List Dm} {ms : List Str} (h : PlanN K C H H' x ds ms) : PlanAt K C H' x ds ms := by
  obtain ⟨dx, pa, pb, xs, e1, e2, e3, e4, _, _, _⟩ := h.ex
  exact ⟨dx, pa, pb, xs, e1, e2, e3, e4⟩
/-! ### read_plan, of any text -/
def ReadP (t : Str) (ds : List Dm) (ms : List Str) : Prop := planR t = (ds.map some, ms) ∧ Good ds ms
def spReadPX (K : PySem.W.Frag) (C N : Addr) : Sp := fun vs H Q E => ∃ t : Str, vs = [.str t] ∧ Plain t ∧
  (∀ ds ms, ReadP t ds ms → ∀ x H', PlanAt K C H' x ds ms → Same H H' → Q (.ref x) H') ∧
  ((∀ ds ms, ¬ ReadP t ds ms) → ∀ d H', Same H H' → H d = none → H' d = some (.xd (noF "NoText" (.str t))) → E (.ref N) (some d) H')
abbrev N_read_plan : List Str := ["text", "parts", "measures", "part", "dimensions", "plan"]
theorem sc_read_plan : FnScope N_read_plan ["text"] (defScope s_read_plan) := ⟨rfl, rfl, rfl, by decide +kernel, rfl, by decide +kernel, by decide +kernel⟩
/-! slots: 0 text 1 parts 2 measures 3 part 4 dimensions 5 plan; cells:  -/
def tRz (K : PySem.W.Frag) (N : Addr) (E : XK) : TS := fun _ σ H => tMkO N (spErr K N (noF "NoText") (RepOk K)) [] (tCons (tVar 0) tNil) σ H fun cls d H' => E cls d H'
def tPlanT (K : PySem.W.Frag) (C N NP : Addr) (E : XK) : TS := tSeq (tAsg (tLc (iList K (tVar 1)) (gName 3) tYes (tCall (spReadDX K) [] E0 (tCons (tVar 3) tNil)) [3]) (gName 4))
  (tSeq (tIfS (tTest (tOp (rInD K) (tC .non) (tVar 4))) (tRz K N E) tNext)
  (tSeq (fun D σ H => tAsg (tMakeS C (spInitX K C NP) [] (WE (wOnly K (.ref NP) (fun _ _ _ => tRz K N E) (fun cls d _ H => E cls d H) D)) (tCons (tVar 4) (tCons (tVar 2) tNil))) (gName 5) D σ H) (tRet (tVar 5))))
theorem planT_ok {C N NP pl mo : Addr} {t : Str} {ps ms : List Str} {H : Hp} {D : Ends} {E : XK} (em : PySem.W.exmOne K (.ref NP) (.ref NP) = some true) (hp : H pl = some (.lst (ps.map V.str))) (hm : H mo = some (.lst (ms.map V.str))) (ht : Plain t) (pp : ∀ p ∈ ps, Plain p) (pm : ∀ m ∈ ms, Plain m) (lp : ps.length ≤ 4000) (lm : ms.length ≤ 4000)
    (k1 : ∀ ds, ps.map readD = ds.map some → Good ds ms → ∀ x H', PlanAt K C H' x ds ms → Same H H' → D.rt (.ref x) H')
    (k2 : (∀ ds, ps.map readD = ds.map some → ¬ Good ds ms) → ∀ d H', Same H H' → H d = none → H' d = some (.xd (noF "NoText" (.str t))) → E (.ref N) (some d) H') : tPlanT K C N NP E D [some (.str t), some (.ref pl), some (.ref mo), none, none, none] H := by
  refine ⟨_, rfl, pl, rfl, ⟨_, SqL.of hp⟩, fun D1 hD => ?_⟩
  refine lc_build (walk_list (K := K) (a := pl) (xs := ps.map V.str)) hD (fun i zs R => Same H R ∧ Paired (DimV K R) zs ((ps.take i).map readD)) ⟨Same.refl _, .nil⟩ (fun _ _ _ _ p => SqL.of ((p.1.trans cd_sub) _ _ hp)) ?_ ?_
  · rintro i zs y H2 H2' hi e ly ⟨sm, pz⟩ ⟨rfl, hy⟩
    rw [List.length_map] at hi
    obtain ⟨p, rfl, hpi⟩ := map_atF hy
    refine ⟨rfl, yes ?_⟩
    refine ⟨_, rfl, p, rfl, (pp p (List.mem_of_getElem? hpi)).le, fun x H3 s3 hx => ?_⟩
    have e3 := s3 _ _ e
    refine LcNx.add e3 ly (by omega) ⟨sm.trans (cd_same s3), ?_⟩
    rw [← take_snocF (f := readD) hpi]
    exact PySem.Paired.snoc (PySem.Paired.mono (fun _ _ => DimV.same (cd_same s3)) pz) (dimV_cdl e3 hx)
  · rintro zs H2 e ly ⟨sm, pz⟩
    rw [take_all] at pz
    have s2 : Same H H2 := sm.trans cd_sub
    have pz2 : Paired (DimV K H2) zs (ps.map readD) := PySem.Paired.mono (fun _ _ => DimV.same cd_sub) pz
    refine set_st (σ' := [some (.str t), some (.ref pl), some (.ref mo), none, some (.ref D1), none]) rfl ?_
    refine ⟨_, rfl, .none, (ps.map readD).map doD, .non, .lst (SqL.of e) (dimVs_dp pz2), by decide +kernel, dos_shaped (fun d hd => ?_), _, rfl, ?_⟩
    · obtain ⟨p, hp1, hp2⟩ := List.mem_map.mp hd
      exact readD_plain (pp p hp1) hp2
    rw [dos_none]
    cases cn : (ps.map readD).any Option.isNone with
    | true =>
      refine iteT ⟨_, rfl, err_ok (fun a ha => .inl ⟨t, rfl, ht.flat1⟩) fun d hd => ?_⟩
      refine k2 (fun ds he _ => ?_) d _ (s2.trans (same_new hd)) (s2.free hd) upd_same
      rw [he, List.any_map] at cn
      obtain ⟨z, _, hz⟩ := List.any_eq_true.mp cn
      cases hz
    | false =>
      obtain ⟨ds, hds⟩ := some_all cn
      rw [hds] at pz2
      have pd := dimVs_some pz2
      obtain ⟨hl, hi⟩ := map_some_at hds
      have rd : ∀ d ∈ ds, ∃ p, Plain p ∧ ReadD p d := fun d hd => by
        obtain ⟨i, h2, rfl⟩ := List.mem_iff_getElem.mp hd
        exact ⟨ps[i]'(by omega), pp _ (List.getElem_mem _), readD_some (hi i (by omega) h2)⟩
      have sz : Szd ds ms := ⟨by omega, fun d hd => by
        obtain ⟨p, hp1, hp2⟩ := rd d hd
        have := hp1.le
        exact ⟨Nat.le_trans hp2.n this, Nat.le_trans hp2.m this, fun a ha => Nat.le_trans (hp2.a a ha) this⟩, lm, fun m hm => (pm m hm).le⟩
      have hm2 : Txs K H2 mo ms := .inl (SqL.of (s2 _ _ hm))
      have hd2 : DimsAt K H2 D1 ds := ⟨zs, SqL.of e, pd⟩
      refine iteF ?_
      refine ⟨_, rfl, _, rfl, fun x dx nx ndx nex => ?_⟩
      rcases ff_cases ds ms with ff | ⟨z, ff, _⟩
      · refine .inl (init_good (B := fun H7 => tRet (tVar 5) D [some (.str t), some (.ref pl), some (.ref mo), none, some (.ref D1), some (.ref x)] H7) hd2 hm2 sz ff nx ndx nex fun H7 hN => ?_)
        refine ⟨_, rfl, k1 ds hds (good_of ff fun d hd => ?_) x H7 ?_ (s2.trans hN.s)⟩
        · obtain ⟨p, hp1, hp2⟩ := rd d hd
          exact hp2.w
        · exact hN.at1
      · refine .inr (init_bad hd2 hm2 sz ff (fun d H7 s7 hd nd7 => ?_) nx ndx nex)
        refine ⟨true, em, fun _ a ha => ?_, fun q => nomatch q⟩
        refine ⟨_, rfl, err_ok (fun a ha => .inl ⟨t, rfl, ht.flat1⟩) fun d hd => ?_⟩
        refine k2 (fun ds' he hg => ?_) d _ ((s2.trans s7).trans (same_new hd)) ((s2.trans s7).free hd) upd_same
        have : ds' = ds := (List.map_inj_right (fun _ _ h => Option.some.inj h)).mp (he.symm.trans hds)
        rw [this] at hg
        rw [hg.ff] at ff
        cases ff
/-- the class Plan, made in a try whose clause raises anew -/
structure PlanR (P : Program) (w : World) (K : PySem.W.Frag) (mg : Str → Option Value) (base : Heap) (C e fI : Addr) (fdI : FuncData) (N fN : Addr) (fdN : FuncData) : Prop where
  M : Mk K C fI
  G : FnOk P w K mg base (L2N.CX P w) 5 fI fdI ["self", "dimensions", "measures"] (spInitX K C N)
  gC : mg "Plan" = some (.ref C)
  I : InitD K e fI fdI
  E : ErrM P w K mg base "NoPlan" N fN fdN
set_option maxHeartbeats 0 in
theorem ok_readPX {C e fI fR NP fNP N fN : Addr} {fdI fdR fdNP fdN : FuncData} (F : FnP K "read_plan" "read_plan" s_read_plan f fd) (PC : PlanR P w K mg base C e fI fdI NP fNP fdNP) (c_read_dimension : Fun P w K mg base "read_dimension" 1 ["part"] (spReadDX K) fR fdR) (M : ErrM P w K mg base "NoText" N fN fdN) (GH : L2H.FnH P w K mg base CX0 2 fN fdN ["self", "what"] (spErr K N (noF "NoText") (RepOk K))) : FnOk P w K mg base (L2.CX P w) 7 f fd ["text"] (spReadPX K C N) := by
  obtain ⟨i3, v3, b3⟩ := init_b3 PC.I
  refine F.ok sc_read_plan (fun vs H Q E h => ?_) (fun cdv A outer s H vs Q E hr h => ?_)
  · obtain ⟨t, rfl, _⟩ := h
    rfl
  · obtain ⟨t, rfl, ht, k1, k2⟩ := h
    have nd := sc_read_plan.nd
    have tk := takes_of (X := cxOf (L2.CX P w) P w K mg base N_read_plan "read_plan" (defScope s_read_plan) f cdv A outer s H E) rfl rfl rfl rfl
    refine ⟨_, (pss_cons (ps_set (i := 1) nd rfl (Or.inl rfl) (pe_split (pv 0) pe_str))
      (pss_cons (ps_set (i := 2) nd rfl (Or.inl rfl) (pe_lst pa_nil))
      (pss_cons (ps_if (pt_val (pe_m1 PySem.F.slot_str_startswith PySem.F.type_str_startswith mt_startswith (pe_ix ix_list (pv 1) (pe_un un_neg pe_int) (fun _ _ => rfl)) pe_str))
        (pss_cons (ps_set (i := 2) nd rfl (Or.inl rfl) (pe_slice sl_list (pe_split (pe_ix ix_list (pv 1) (pe_un un_neg pe_int) (fun _ _ => rfl)) pe_str) (po_some pe_int) po_none))
        (pss_one (ps_set (i := 1) nd rfl (Or.inl rfl) (pe_slice sl_list (pv 1) po_none (po_some (pe_un un_neg pe_int))))))
        pss_nil)
      (pss_cons (ps_setLc (i := 4) (own := [("part", 3)]) (g := gName 3) (tt := tYes) (te := tCall (spReadDX K) [] E0 (tCons (tVar 3) tNil)) rfl nd rfl rfl (sw_true rfl rfl rfl (by decide +kernel)) (pi_list (pv 1)) (blkOk_by (own := [("part", 3)]) (N := N_read_plan) (sc := defScope s_read_plan) (by decide +kernel))
        (fun _ _ _ _ _ => pg_name (i := 3) nd rfl (Or.inl rfl)) (fun _ _ _ _ _ => pts_nil) (fun _ _ _ _ _ => pe_call c_read_dimension.G (hr.mono (by decide)) rfl c_read_dimension.g c_read_dimension.k c_read_dimension.b .nil pass0 (pa_cons (pv 3) pa_nil)))
      (pss_cons (ps_if (pt_cmpR (op_inD (u65 hr)) pe_non (pv 4) (by rfl))
        (pss_one (ps_raise rfl tk (pmk_err M.T M.G (hr.mono (by decide)) M.b rfl M.g (pv 0))))
        pss_nil)
      (pss_cons (L2H.ps_try_onlyX (tb := fun W => tAsg (tMakeS C (spInitX K C NP) [] (WE W) (tCons (tVar 4) (tCons (tVar 2) tNil))) (gName 5)) (ts := fun _ _ _ => tRz K N E) (Wout := fun cls d _ H => E cls d H) rfl rfl ⟨rfl, by decide, .inl PC.E.g⟩ (L2H.passesAt_of rfl) tk
        (fun W pn xe tkN _ _ => pss_one (ps_set (i := 5) nd rfl (Or.inl rfl) (by exact (pe_makeS PC.M PC.G (hr.mono (by decide)) rfl PC.gC b3 v3 (fun σ => L2N.passAt tkN σ) (by exact (pa_cons (pv 4) (pa_cons (pv 2) pa_nil)))))))
        (fun a oe cls d pn hz hf tk2 hc => pss_one (by exact (L2H.ps_raiseHN hc tk2 (pmkH_err M.T GH (L2H.roomH_mark (hr.mono (by decide)) _) hc M.b rfl M.g (pv 0))))))
      (pss_one (ps_ret (pv 5))))))))), ?_⟩
    have le := ht.le
    refine ⟨_, rfl, ⟨_, rfl⟩, _, _, rfl, rfl, by decide +kernel, Nat.le_trans (show t.length + 2 ≤ 4002 by omega) (by decide), fun l hl => ?_⟩
    have hne := split_ne (x := t) semi_ok.1 semi_ok.2
    have hmany := split_many (x := t) (y := "; ") (by decide +kernel)
    have hpl : ∀ p ∈ Txt.split t "; ", Plain p := fun p hp => ht.part (by decide +kernel) hp
    have hlen : (Txt.split t "; ").length ≤ 2001 := by
      have h1 := congrArg Str.length (join_of_split t "; ")
      have h2 := split_weight t "; " (by decide +kernel)
      rw [TL.join_eq] at h1
      cases hs : Txt.split t "; " with
      | nil => exact Nat.zero_le _
      | cons q qs =>
        rw [hs, len_join_cons, show ("; " : Str).length = 2 by decide +kernel] at h1
        rw [List.length_cons]
        omega
    have hR : planR t = if Txt.startswith ((Txt.split t "; ").getLastD Str.empty) "sum " = true then ((Txt.split t "; ").dropLast.map readD, (Txt.split ((Txt.split t "; ").getLastD Str.empty) " ").drop 1) else ((Txt.split t "; ").map readD, []) := rfl
    generalize e0 : upd H l _ = H0
    have N0 := newO hl e0
    generalize Txt.split t "; " = parts at N0 hne hpl hlen hR ⊢
    obtain ⟨q, e, rfl⟩ : ∃ q e, parts = q ++ [e] := by
      rcases List.eq_nil_or_concat parts with hn | ⟨q, e, hc⟩
      · exact absurd hn hne
      · exact ⟨q, e, by rw [hc, List.concat_eq_append]⟩
    rw [show (q ++ [e]).getLastD Str.empty = e by simp, show (q ++ [e]).dropLast = q by simp] at hR
    have he := hpl e (by simp)
    have hel := he.le
    refine set_st (σ' := [some (.str t), some (.ref l), none, none, none, none]) rfl ?_
    refine ⟨by show 0 ≤ sizeLine; decide, fun m nm => ?_⟩
    generalize e1 : upd H0 m _ = H1
    have N1 := newO nm e1
    refine set_st (σ' := [some (.str t), some (.ref l), some (.ref m), none, none, none]) rfl ?_
    have hl1 : H1 l = some (.lst ((q ++ [e]).map V.str)) := N1.s _ _ N0.f
    have s01 := N0.s.trans N1.s
    have al : atI ((q ++ [e]).map V.str) (-1) = some (V.str e) := by
      rw [List.map_append]
      exact atI_last _ _
    refine ⟨_, rfl, _, rfl, l, _, _, _, rfl, rfl, SqL.of hl1, al, ⟨_, rfl⟩, _, _, rfl, rfl, _, rfl, ?_⟩
    cases cs : Txt.startswith e "sum " with
    | false =>
      rw [cs] at hR
      refine iteF ?_
      refine planT_ok (ms := []) PC.E.T.em hl1 N1.f ht hpl (fun _ h => nomatch h) (by omega) (Nat.zero_le _) (fun ds hd hg x H' hx sx => ?_) (fun hn d H' sx hd0 hd1 => ?_)
      · exact k1 ds [] ⟨by rw [hR, hd]; rfl, hg⟩ x H' hx (s01.trans sx)
      · refine k2 (fun ds ms ⟨hq, hg⟩ => ?_) d H' (s01.trans sx) (s01.free hd0) hd1
        rw [hR] at hq
        have h1 : (q ++ [e]).map readD = ds.map some := congrArg Prod.fst hq
        have h2 : [] = ms := congrArg Prod.snd hq
        rw [← h2] at hg
        exact hn ds h1 hg
    | true =>
      rw [cs] at hR
      refine iteT ?_
      obtain ⟨z, zs, hz⟩ := sum_of cs
      rw [hz] at hR
      have hzp : ∀ y ∈ z :: zs, Plain y := fun y hy => he.part (y := " ") (by decide +kernel) (by rw [hz]; exact List.mem_cons_of_mem _ hy)
      have hzl := split_many (x := e) (y := " ") (by decide +kernel)
      rw [hz, List.length_cons] at hzl
      refine ⟨_, rfl, _, rfl, l, _, _, _, rfl, rfl, SqL.of hl1, al, ⟨_, rfl⟩, _, _, rfl, rfl, by decide +kernel, Nat.le_trans (show e.length + 2 ≤ 4002 by omega) (by decide), fun p hp => ?_⟩
      rw [hz]
      generalize e2 : upd H1 p _ = H2
      have N2 := newO hp e2
      refine ⟨_, rfl, p, _, rfl, SqL.of N2.f, fun m2 nm2 => ?_⟩
      have ec : cutV ((("sum" : Str) :: z :: zs).map V.str) (some 1) none = (z :: zs).map V.str := cutR1 _ _
      rw [ec]
      generalize e3 : upd H2 m2 _ = H3
      have N3 := newO nm2 e3
      refine set_st (σ' := [some (.str t), some (.ref l), some (.ref m2), none, none, none]) rfl ?_
      have s13 := N2.s.trans N3.s
      refine ⟨_, rfl, _, rfl, _, rfl, l, _, rfl, SqL.of (s13 _ _ hl1), fun l2 nl2 => ?_⟩
      have ec3 : cutV ((q ++ [e]).map V.str) none (some (-(1 : Int))) = q.map V.str := by
        have : cutV ((q ++ [e]).map V.str) none (some (-1)) = q.map V.str := by
          rw [cutLast]
          simp
        exact this
      rw [ec3]
      generalize e4 : upd H3 l2 _ = H4
      have N4 := newO nl2 e4
      refine set_st (σ' := [some (.str t), some (.ref l2), some (.ref m2), none, none, none]) rfl ?_
      have s04 := (s01.trans s13).trans N4.s
      rw [List.length_append] at hlen
      refine planT_ok (ms := z :: zs) PC.E.T.em N4.f (N4.s _ _ N3.f) ht (fun p hp => hpl p (List.mem_append_left _ hp)) hzp (by omega) (by omega) (fun ds hd hg x H' hx sx => ?_) (fun hn d H' sx hd0 hd1 => ?_)
      · exact k1 ds (z :: zs) ⟨by rw [hR, hd]; rfl, hg⟩ x H' hx (s04.trans sx)
      · refine k2 (fun ds ms ⟨hq, hg⟩ => ?_) d H' (s04.trans sx) (s04.free hd0) hd1
        rw [hR] at hq
        have h1 : q.map readD = ds.map some := congrArg Prod.fst hq
        have h2 : z :: zs = ms := congrArg Prod.snd hq
        rw [← h2] at hg
        exact hn ds h1 hg
end
end Kd

namespace Kd
open PySem PySem.Spec PyProof.Rows L2
/-- a text of at most b plain signs -/
structure Tq (b : Nat) (z : Str) : Prop where
  le : z.length ≤ b
  ok : ∀ c ∈ TL.tl z, c < 128
theorem Tq.mono {b c : Nat} {z : Str} (h : Tq b z) (hb : b ≤ c) : Tq c z := ⟨Nat.le_trans h.le hb, h.ok⟩
theorem Tq.app {a b : Nat} {x y : Str} (h : Tq a x) (h2 : Tq b y) : Tq (a + b) (x ++ y) := ⟨by rw [len_append]; have := h.le; have := h2.le; omega, fun c hc => by
  rw [TL.tl_append] at hc
  exact (List.mem_append.mp hc).elim (h.ok c) (h2.ok c)⟩
theorem tl_cutS (x : Str) (lo hi : Option Int) : TL.tl (cutS x lo hi) = ((TL.tl x).drop (HT.sIx x.length 0 lo)).take (HT.sIx x.length x.length hi - HT.sIx x.length 0 lo) := rfl
theorem Tq.cut {b : Nat} {z : Str} (h : Tq b z) (lo hi : Option Int) : Tq b (cutS z lo hi) := ⟨Nat.le_trans (cutS_length z lo hi) h.le, fun c hc => by
  rw [tl_cutS] at hc
  exact h.ok c (List.mem_of_mem_drop (List.mem_of_mem_take hc))⟩
/-- cut in two and the second part put behind: no more than all -/
theorem cut2 (z : Str) (i j : Nat) (h : i ≤ j) : (cutS z none (some (i : Int))).length + (cutS z (some (j : Int)) none).length ≤ z.length := by
  have hx : z.length = (TL.tl z).length := TL.len_tl z
  rw [TL.len_tl, TL.len_tl, tl_cutS, tl_cutS, HT.sIx_none, HT.sIx_none, HT.sIx_nat, HT.sIx_nat, List.length_take, List.length_take, List.length_drop, List.length_drop]
  omega
theorem mem_joinL_of {S : List Nat} {c : Nat} : ∀ {ps : List (List Nat)} {p : List Nat}, p ∈ ps → c ∈ p → c ∈ TL.joinL S ps
  | [q], p, h, hc => by rw [List.mem_singleton.mp h] at hc; exact hc
  | q :: r :: ps, p, h, hc => by
    show c ∈ q ++ (S ++ TL.joinL S (r :: ps))
    rcases List.mem_cons.mp h with rfl | h
    · exact List.mem_append.mpr (.inl hc)
    · exact List.mem_append.mpr (.inr (List.mem_append.mpr (.inr (mem_joinL_of h hc))))
theorem part_ok {b : Nat} {x y p : Str} (h : Tq b x) (hp : p ∈ Txt.split x y) : ∀ c ∈ TL.tl p, c < 128 := fun c hc => by
  refine h.ok c ?_
  rw [← join_of_split x y, tl_joinL]
  exact mem_joinL_of (List.mem_map_of_mem hp) hc
theorem join_ok {y : Str} {ps : List Str} (hy : ∀ c ∈ TL.tl y, c < 128) (h : ∀ p ∈ ps, ∀ c ∈ TL.tl p, c < 128) : ∀ c ∈ TL.tl (Txt.join y ps), c < 128 := fun c hc => by
  rw [tl_joinL] at hc
  rcases mem_joinL hc with q | ⟨p, hp, q⟩
  · exact hy c q
  · obtain ⟨z, hz, rfl⟩ := List.mem_map.mp hp
    exact h z hz c q
/-- what texts weigh when they are joined -/
def wt (n : Nat) (ps : List Str) : Nat := (ps.map (·.length)).sum + ps.length * n
theorem join_wt (y : Str) (ps : List Str) : (Txt.join y ps).length ≤ wt y.length ps := by
  rw [TL.len_tl, tl_joinL]
  refine Nat.le_trans (joinL_len _) ?_
  have e : ((ps.map TL.tl).map (·.length)).sum = (ps.map (·.length)).sum := by
    rw [List.map_map]
    exact congrArg List.sum (List.map_congr_left fun z _ => (TL.len_tl z).symm)
  rw [e, List.length_map, ← TL.len_tl]
  exact Nat.le_refl _
theorem split_wt {x y : Str} (h : Txt.split x y ≠ []) : wt y.length (Txt.split x y) = x.length + y.length := by
  have h1 := congrArg Str.length (join_of_split x y)
  rw [TL.join_eq] at h1
  unfold wt
  cases hs : Txt.split x y with
  | nil => exact absurd hs h
  | cons a l =>
    rw [hs, len_join_cons] at h1
    rw [List.length_cons, Nat.add_mul]
    omega
theorem wt_cons (n : Nat) (p : Str) (ps : List Str) : wt n (p :: ps) = p.length + n + wt n ps := by
  unfold wt
  rw [List.map_cons, List.sum_cons, List.length_cons, Nat.add_mul]
  omega
theorem wt_app (n : Nat) : ∀ (ps qs : List Str), wt n (ps ++ qs) = wt n ps + wt n qs
  | [], qs => by unfold wt; simp
  | p :: ps, qs => by rw [List.cons_append, wt_cons, wt_cons, wt_app n ps qs]; omega
theorem wt_mem {n : Nat} : ∀ {ps : List Str} {p : Str}, p ∈ ps → p.length + n ≤ wt n ps
  | q :: ps, p, h => by
    rw [wt_cons]
    rcases List.mem_cons.mp h with rfl | h
    · omega
    · have := wt_mem (n := n) h
      omega
theorem wt_erase (n : Nat) : ∀ (ps : List Str) (i : Nat), wt n (ps.eraseIdx i) ≤ wt n ps
  | [], i => by simp
  | p :: ps, 0 => by rw [List.eraseIdx_cons_zero, wt_cons]; omega
  | p :: ps, i + 1 => by
    rw [List.eraseIdx_cons_succ, wt_cons, wt_cons]
    have := wt_erase n ps i
    omega
theorem wt_set (n : Nat) (q : Str) : ∀ (ps : List Str) (i : Nat), wt n (ps.set i q) ≤ wt n ps + q.length
  | [], i => by simp [wt]
  | p :: ps, 0 => by rw [List.set_cons_zero, wt_cons, wt_cons]; omega
  | p :: ps, i + 1 => by
    rw [List.set_cons_succ, wt_cons, wt_cons]
    have := wt_set n q ps i
    omega
theorem wt_take (n : Nat) (ps : List Str) (i : Nat) : wt n (ps.take i) + wt n (ps.drop i) = wt n ps := by rw [← wt_app, List.take_append_drop]
theorem fit_wt {y : Str} {ps : List Str} (h : wt y.length ps ≤ 16777216) : (ps.map (·.length)).sum + ps.length * y.length ≤ 16777216 := h
/-- signs of a written text -/
theorem sign_at {z : Str} {n i : Nat} (h1 : z.cps.toList.length = n) (h2 : (z.cps.toList.all fun c => decide (c < 128)) = true) (h : i < n) : ∃ c, z.cps.toList[i]? = some c ∧ c < 128 := by
  have hl : i < z.cps.toList.length := by omega
  exact ⟨_, List.getElem?_eq_getElem hl, of_decide_eq_true (List.all_eq_true.mp h2 _ (List.getElem_mem hl))⟩
def tqB (b : Nat) (z : Str) : Bool := decide (z.length ≤ b) && z.cps.toList.all fun c => decide (c < 128)
theorem tqB_ok {b : Nat} {z : Str} (h : tqB b z = true) : Tq b z := by
  obtain ⟨h1, h2⟩ := Bool.and_eq_true_iff.mp h
  exact ⟨of_decide_eq_true h1, fun c hc => of_decide_eq_true (List.all_eq_true.mp h2 c hc)⟩
/-- the joints -/
def joints : List Str := [("; " : Str), (" " : Str), (":" : Str), (" " : Str), ("'" : Str), ("dim " : Str), ("sum " : Str), ("kind " : Str), ("fact " : Str), ("forget " : Str)]
structure Jt (j : Str) : Prop where
  q : Tq 7 j
  ne : TL.tl j ≠ []
  kd : j.cps.all (· < 256) = true
  st : Tq 7 (Txt.strip j)
  rs : Tq 7 (Txt.rstrip j)
def jtB (j : Str) : Bool := tqB 7 j && (!(TL.tl j).isEmpty && (j.cps.all (fun c => decide (c < 256)) && (tqB 7 (Txt.strip j) && tqB 7 (Txt.rstrip j))))
theorem jtB_ok {j : Str} (h : jtB j = true) : Jt j := by
  obtain ⟨h1, h⟩ := Bool.and_eq_true_iff.mp h
  obtain ⟨h2, h⟩ := Bool.and_eq_true_iff.mp h
  obtain ⟨h3, h⟩ := Bool.and_eq_true_iff.mp h
  obtain ⟨h4, h5⟩ := Bool.and_eq_true_iff.mp h
  exact ⟨tqB_ok h1, (fun z => by rw [z] at h2; cases h2), h3, tqB_ok h4, tqB_ok h5⟩
theorem joint_at {i : Nat} (h : i < 10) : ∃ j, (joints.map V.str)[i]? = some (.str j) ∧ Jt j := by
  have hl : i < joints.length := h
  refine ⟨joints[i], by rw [List.getElem?_map, List.getElem?_eq_getElem hl]; rfl, ?_⟩
  have hall : joints.all jtB = true := by decide +kernel
  exact jtB_ok (List.all_eq_true.mp hall _ (List.getElem_mem hl))
theorem Jt.len {j : Str} (h : Jt j) : (j.length == 0) = false ∧ 1 ≤ j.length := by
  have : 1 ≤ j.length := by
    rw [TL.len_tl]
    exact List.length_pos_iff.mpr h.ne
  exact ⟨by simp; omega, this⟩
def amids : List Str := [("; " : Str), (" " : Str), (" " : Str), (":" : Str)]
theorem amid_at {i : Nat} (h : i < 4) : ∃ j, (amids.map V.str)[i]? = some (.str j) ∧ Jt j := by
  have hl : i < amids.length := h
  refine ⟨amids[i], by rw [List.getElem?_map, List.getElem?_eq_getElem hl]; rfl, ?_⟩
  have hall : amids.all jtB = true := by decide +kernel
  exact jtB_ok (List.all_eq_true.mp hall _ (List.getElem_mem hl))
end Kd

namespace Kd
open PySem PySem.Spec PyProof.Rows L2
theorem Tq.plain {z : Str} (h : Tq 4000 z) : Plain z := ⟨fun c hc => by have := h.ok c hc; omega, h.le⟩
/-! ### what a dimension's text reads, word by word -/
theorem readD_head {p w0 : Str} {r : List Str} (e : Txt.split p " " = w0 :: r) (h : w0 ≠ "dim") : readD p = none := by
  unfold readD
  rw [e]
  cases r with
  | nil => rfl
  | cons n ws => exact if_neg fun z => h z.1
theorem readD_one {p w0 : Str} (e : Txt.split p " " = [w0]) : readD p = none := by
  unfold readD
  rw [e]
theorem readD_bad {p w0 n : Str} {ws : List Str} (e : Txt.split p " " = w0 :: n :: ws) {w : Str} (hw : w ∈ ws) (h : attOf w = none) : readD p = none := by
  unfold readD
  rw [e]
  refine if_neg fun z => ?_
  have := List.any_eq_false.mp z.2 (attOf w) (List.mem_map.mpr ⟨w, hw, rfl⟩)
  rw [h] at this
  exact this rfl
theorem readD_good {p n : Str} {ws : List Str} {as : List (Str × Str)} (e : Txt.split p " " = ("dim" : Str) :: n :: ws) (h : ws.map attOf = as.map some) : readD p = some (n, as) := by
  have hn : (ws.map attOf).any Option.isNone = false := by
    rw [h, List.any_map]
    exact List.any_eq_false.mpr fun x _ => by simp
  unfold readD
  rw [e]
  obtain ⟨xs, e1, e2⟩ := getD_map (z := (Str.empty, Str.empty)) hn
  have : xs = as := (List.map_inj_right (fun _ _ h => Option.some.inj h)).mp (e1.symm.trans h)
  show (if ("dim" : Str) = "dim" ∧ _ then some (n, _) else none) = _
  rw [if_pos ⟨rfl, hn⟩, e2, this]
/-- a way that is none -/
def badW (w : Str) : Option Str := match Txt.split w ":" with
  | [_, b] => if b ∈ wayS then none else some b
  | _ => none
theorem badW_some {w a b : Str} (e : Txt.split w ":" = [a, b]) (h : b ∉ wayS) : badW w = some b := by
  unfold badW
  rw [e]
  exact if_neg h
theorem badW_none {w a b : Str} (e : Txt.split w ":" = [a, b]) (h : b ∈ wayS) : badW w = none := by
  unfold badW
  rw [e]
  exact if_pos h
theorem attOf_len {w : Str} (h : (Txt.split w ":").length ≠ 2) : attOf w = none := by
  unfold attOf
  generalize Txt.split w ":" = l at h
  rcases l with _ | ⟨a, _ | ⟨b, _ | ⟨c, r⟩⟩⟩
  · rfl
  · rfl
  · exact absurd rfl h
  · rfl
theorem two_of {l : List Str} (h : l.length = 2) : ∃ a b, l = [a, b] := by
  rcases l with _ | ⟨a, _ | ⟨b, _ | ⟨c, r⟩⟩⟩
  · cases h
  · cases h
  · exact ⟨a, b, rfl⟩
  · simp at h
theorem attOf_bad {w a b : Str} (e : Txt.split w ":" = [a, b]) (h : b ∉ wayS) : attOf w = none := by
  unfold attOf
  rw [e]
  exact if_neg h
theorem eqv_empty (xs : List PyData) : PyData.eqv (.list xs) (.list []) = xs.isEmpty := by
  cases xs <;> simp [PyData.eqv, PyData.eqvAll]
/-! ### a text's last part, that begins with sum -/
theorem starts_of {x z : Str} {zs : List Str} (h : Txt.split x " " = ("sum" : Str) :: z :: zs) : Txt.startswith x "sum " = true := by
  have e := join_of_split x " "
  rw [h] at e
  have e2 := congrArg TL.tl e
  rw [tl_joinL] at e2
  rw [starts_preA _ _ (by rw [tl_sumbA]; simp), tl_sumbA, ← e2]
  have ed : TL.tl ("sum" : Str) = [115, 117, 109] := by decide +kernel
  show TL.pre _ (TL.tl ("sum" : Str) ++ (TL.tl (" " : Str) ++ _)) = true
  rw [ed, tl_blank]
  exact TL.pre_self [115, 117, 109, 32] _
/-- lists of texts as data -/
def tupD (l : List Str) : PyData := .tuple (l.map PyData.str)
theorem lay_strsP : ∀ ms : List Str, (∀ m ∈ ms, Plain m) → PyData.canLayAll0 (ms.map PyData.str) = true ∧ PyData.depthAll (ms.map PyData.str) = 0
  | [], _ => ⟨rfl, rfl⟩
  | m :: ms, h => by
    obtain ⟨h1, h2⟩ := lay_strsP ms fun z hz => h z (List.mem_cons_of_mem _ hz)
    constructor
    · simp only [List.map_cons, PyData.canLayAll0, PyData.canLay0, (h m (List.mem_cons_self ..)).strOk, h1, Bool.and_self]
    · simp only [List.map_cons, PyData.depthAll, PyData.depth, h2]
      rfl
theorem strs_shapedP {ms : List Str} (h : ∀ m ∈ ms, Plain m) : SeqAt.shaped (.list (ms.map PyData.str)) = true := by
  obtain ⟨h1, h2⟩ := lay_strsP ms h
  simp [SeqAt.shaped, PyData.canLay0, PyData.depth, h1, h2]
theorem lay_tupsP : ∀ ls : List (List Str), (∀ l ∈ ls, ∀ m ∈ l, Plain m) → PyData.canLayAll0 (ls.map tupD) = true ∧ PyData.depthAll (ls.map tupD) ≤ 1
  | [], _ => ⟨rfl, Nat.zero_le _⟩
  | l :: ls, h => by
    obtain ⟨h1, h2⟩ := lay_tupsP ls fun z hz => h z (List.mem_cons_of_mem _ hz)
    obtain ⟨h3, h4⟩ := lay_strsP l (h l (List.mem_cons_self ..))
    constructor
    · simp only [List.map_cons, tupD, PyData.canLayAll0, PyData.canLay0, h1, h3, Bool.and_self]
    · simp only [List.map_cons, tupD, PyData.depthAll, PyData.depth, h4]
      omega
theorem tups_shapedP {ls : List (List Str)} (h : ∀ l ∈ ls, ∀ m ∈ l, Plain m) : SeqAt.shaped (.list (ls.map tupD)) = true := by
  obtain ⟨h1, h2⟩ := lay_tupsP ls h
  simp [SeqAt.shaped, PyData.canLay0, PyData.depth, h1]
  omega
section
variable {P : Program} {w : World} {K : PySem.W.Frag} {mg : Str → Option Value} {base : Heap} {f : Addr} {fd : FuncData}
theorem txts_dp {H : Hp} : ∀ {zs : List V} {ls : List (List Str)}, Paired (TxT K H) zs ls → DpAll K H zs (ls.map tupD)
  | _, _, .nil => .nil
  | _, _, .cons ⟨r, e, h⟩ t => by
    subst e
    exact .cons (.tup h (DpAll.strs _)) (txts_dp t)
/-- a list of words -/
def WsL (H : Hp) (v : V) (l : List Str) : Prop := ∃ r, v = .ref r ∧ H r = some (.lst (l.map V.str))
theorem WsL.same {H H' : Hp} {v : V} {l : List Str} (s : Same H H') : WsL H v l → WsL H' v l := fun ⟨r, e, h⟩ => ⟨r, e, s _ _ h⟩
def DimsTr2 (K : PySem.W.Frag) (H : Hp) (l : Addr) (ds : List Dm) : Prop := ∃ xs, H l = some (.lst xs) ∧ Paired (DimAt K H) xs ds
/-! ### _law_plan_of -/
def spPlanOf (K : PySem.W.Frag) : Sp := fun vs H Q _ => ∃ t : Str, vs = [.str t] ∧ Tq 4000 t ∧
  (∀ ds ms, planR t = (ds.map some, ms) → ∀ r lo mo H', Same H H' → H' r = some (.lst [.ref lo, .ref mo]) → DimsTr2 K H' lo ds → H' mo = some (.lst (ms.map V.str)) → Q (.ref r) H') ∧
  ((∀ ds ms, ¬ ReadP t ds ms) → ∀ H', Same H H' → Q .non H')
abbrev N_l_plan_of : List Str := ["text", "part", "parts", "sums", "found", "words", "word", "pairs", "ways", "pair", "one", "way"]
theorem sc_l_plan_of : FnScope N_l_plan_of ["text"] (defScope s_l_plan_of) := ⟨rfl, rfl, rfl, by decide +kernel, rfl, by decide +kernel, by decide +kernel⟩
/-! slots: 0 text 1 part 2 parts 3 sums 4 found 5 words 6 word 7 pairs 8 ways 9 pair 10 one 11 way; cells: ways -/
theorem paired_take {α β : Type} {R : α → β → Prop} : ∀ {xs : List α} {ys : List β}, Paired R xs ys → ∀ n, Paired R (xs.take n) (ys.take n)
  | _, _, .nil, n => by simp; exact .nil
  | _, _, .cons a t, 0 => .nil
  | _, _, .cons a t, n + 1 => .cons a (paired_take t n)
theorem with_if {c : TT} {A B : TS} {D : Ends} {σ : L2.St} {H : Hp} (C : L2.St → Hp → Prop) (h1 : ∀ σ' H', C σ' H' → D.nx σ' H') (h2 : (∀ σ' H', C σ' H' → D.nx σ' H') → tIfS c A B D σ H) : tIfS c A B D σ H := h2 h1
theorem fltM {α β : Type} {g : α → Option β} {xs : List α} {i : Nat} {z : α} (h : xs[i]? = some z) : (xs.take (i + 1)).filterMap g = (xs.take i).filterMap g ++ (match g z with | some y => [y] | none => []) := by
  obtain ⟨h1, h2⟩ := List.getElem?_eq_some_iff.mp h
  rw [List.take_succ_eq_append_getElem h1, List.filterMap_append, h2]
  cases e : g z <;> simp [e]
structure LoopR (t : Str) (ps ms : List Str) : Prop where
  a : ∀ ds : List Dm, ps.map readD = ds.map some → planR t = (ds.map some, ms)
  b : (∃ p ∈ ps, readD p = none) → ∀ (ds : List Dm) (ms : List Str), ¬ ReadP t ds ms
theorem loopR {t : Str} {ps ms : List Str} (h : planR t = (ps.map readD, ms)) : LoopR t ps ms where
  a := fun ds hd => by rw [h, hd]
  b := fun ⟨p, hp, hn⟩ ds ms' ⟨h1, _⟩ => by
    rw [h] at h1
    have h2 : ps.map readD = ds.map some := congrArg Prod.fst h1
    have h3 : readD p ∈ ds.map some := by rw [← h2]; exact List.mem_map.mpr ⟨p, hp, rfl⟩
    rw [hn] at h3
    obtain ⟨_, _, h4⟩ := List.mem_map.mp h3
    cases h4
theorem take_fltB {α : Type} {p : α → Bool} {xs : List α} {i : Nat} {z : α} (h : xs[i]? = some z) : (xs.take (i + 1)).filter p = (xs.take i).filter p ++ if p z = true then [z] else [] := by
  obtain ⟨h1, h2⟩ := List.getElem?_eq_some_iff.mp h
  rw [List.take_succ_eq_append_getElem h1, List.filter_append, h2]
  by_cases c : p z = true <;> simp [c]
/-- what holds behind the choice of the sums -/
def LoopC (K : PySem.W.Frag) (t : Str) (Dp : Addr) (H0 : Hp) : L2.St → Hp → Prop := fun σ H => ∃ (mo : Addr) (zs : List V) (ps ms : List Str), σ = [some (.str t), none, some (.ref Dp), some (.ref mo), none, none, none, none, none, none, none, none] ∧ H Dp = some (.lst zs) ∧ Paired (WsL H) zs (ps.map fun p => Txt.split p " ") ∧ H mo = some (.lst (ms.map V.str)) ∧ LoopR t ps ms ∧ (∀ p ∈ ps, Plain p) ∧ ps.length ≤ 2001 ∧ Same H0 H
set_option maxHeartbeats 0 in
theorem ok_planOf (F : FnP K "_law_plan_of" "_law_plan_of" s_l_plan_of f fd) (z_len : mg "len" = none) (z_tuple : mg "tuple" = none) : FnOk P w K mg base CX0 1 f fd ["text"] (spPlanOf K) := by
  refine F.ok sc_l_plan_of (fun vs H Q E h => ?_) (fun cdv A outer s H vs Q E hr h => ?_)
  · obtain ⟨t, rfl, _⟩ := h
    rfl
  · obtain ⟨t, rfl, htq, k1, k2⟩ := h
    have nd := sc_l_plan_of.nd
    have ht := htq.plain
    have le := ht.le
    refine ⟨_, PSs.nox (pss_cons (ps_setLc (i := 2) (own := [("part", 1)]) (g := gName 1) (tt := tYes) (te := tM1 rSplit (tVar 1) (tC (.str " "))) rfl nd rfl rfl (sw_true rfl rfl rfl (by decide +kernel)) (pi_list (pe_split (pv 0) pe_str)) (blkOk_by (own := [("part", 1)]) (N := N_l_plan_of) (sc := defScope s_l_plan_of) (by decide +kernel))
        (fun _ _ _ _ _ => pg_name (i := 1) nd rfl (Or.inl rfl)) (fun _ _ _ _ _ => pts_nil) (fun _ _ _ _ _ => pe_split (pv 1) pe_str))
      (pss_cons (ps_set (i := 3) nd rfl (Or.inl rfl) (pe_lst pa_nil))
      (pss_cons (ps_if (PW.pt (pw_and (pt_cmpR op_gt (pe_callB call_len_seq (by rfl) z_len boot_len (pa_cons (pv 2) pa_nil)) pe_int (nomark _)) (pw_and1 (pt_cmpR op_eq (pe_ix ix_list (pe_ix ix_list (pv 2) (pe_un un_neg pe_int) (fun _ _ => rfl)) pe_int (fun _ _ => rfl)) pe_str (nomark _)))))
        (pss_cons (ps_set (i := 3) nd rfl (Or.inl rfl) (pe_slice sl_list (pe_bm0 PySem.F.plainAttrs_list PySem.F.slot_list_pop PySem.F.type_list_pop mt_pop (pv 2)) (po_some pe_int) po_none))
        (pss_one (ps_if (pt_cmpR (op_eqD hr.units) (pv 3) (pe_lst pa_nil) (nomark _))
          (pss_one (ps_ret pe_non))
          pss_nil)))
        pss_nil)
      (pss_cons (ps_set (i := 4) nd rfl (Or.inl rfl) (pe_lst pa_nil))
      (pss_cons (ps_for PassesOwn.never rfl (pi_list (pv 2)) (pg_name (i := 5) nd rfl (Or.inl rfl))
        (pss_cons (ps_setLc (i := 7) (own := [("word", 6)]) (g := gName 6) (tt := tYes) (te := tCB (rTupOf K) (tCons (tM1 rSplit (tVar 6) (tC (.str ":"))) tNil)) rfl nd rfl rfl (sw_true rfl rfl rfl (by decide +kernel)) (pi_list (pe_slice sl_list (pv 5) (po_some pe_int) po_none)) (blkOk_by (own := [("word", 6)]) (N := N_l_plan_of) (sc := defScope s_l_plan_of) (by decide +kernel))
        (fun _ _ _ _ _ => pg_name (i := 6) nd rfl (Or.inl rfl)) (fun _ _ _ _ _ => pts_nil) (fun _ _ _ _ _ => pe_callTy call_tuple_of (by rfl) z_tuple (by decide +kernel) (pa_cons (pe_split (pv 6) pe_str) pa_nil)))
        (pss_cons (ps_set (i := 8) nd rfl (Or.inr rfl) (pe_lst (pa_cons pe_str (pa_cons pe_str (pa_cons pe_str (pa_cons pe_str pa_nil))))))
        (pss_cons (ps_if (PW.pt (pw_or (pt_cmpR op_ne (pe_ix ix_list (pv 5) pe_int (fun _ _ => rfl)) pe_str (nomark _)) (pw_or (pt_cmpR op_lt (pe_callB call_len_seq (by rfl) z_len boot_len (pa_cons (pv 5) pa_nil)) pe_int (nomark _)) (pw_or1 (pt_cmpR (op_neD hr.units) (pe_lc (own := [("pair", 9)]) (g := gName 9) (tt := tTest (tOp rNe (tCB (rLenQ K) (tCons (tVar 9) tNil)) (tC (.int 2)))) (te := tVar 9) rfl nd (pi_list (pv 7)) (blkOk_by (own := [("pair", 9)]) (N := N_l_plan_of) (sc := defScope s_l_plan_of) (by decide +kernel))
        (fun _ _ _ _ _ => pg_name (i := 9) nd rfl (Or.inl rfl)) (fun _ _ _ _ _ => pts_one (pt_cmpR op_ne (pe_callB call_len_seq (by rfl) z_len boot_len (pa_cons (pv 9) pa_nil)) pe_int (nomark _))) (fun _ _ _ _ _ => pv 9)) (pe_lst pa_nil) (nomark _))))))
          (pss_one (ps_ret pe_non))
          pss_nil)
        (pss_cons (ps_if (pt_cmpR (op_neD hr.units) (pe_lc (own := [("one", 10), ("way", 11)]) (g := gTup K 2 (gCons (gName 10) (gCons (gName 11) gNil))) (tt := tTest (tOp (rIn K true) (tVar 11) (tVar 8))) (te := tVar 11) rfl nd (pi_list (pv 7)) (blkOk_by (own := [("one", 10), ("way", 11)]) (N := N_l_plan_of) (sc := defScope s_l_plan_of) (by decide +kernel))
        (fun _ _ _ _ _ => pg_tup rfl (pgs_cons (pg_name (i := 10) nd rfl (Or.inl rfl)) (pgs_cons (pg_name (i := 11) nd rfl (Or.inl rfl)) pgs_nil))) (fun _ _ _ _ _ => pts_one (pt_cmpR op_notIn_seq (pv 11) (pv 8) (by rfl))) (fun _ _ _ _ _ => pv 11)) (pe_lst pa_nil) (nomark _))
          (pss_one (ps_ret pe_non))
          pss_nil)
        (pss_one (ps_expr (pe_bm PySem.F.plainAttrs_list PySem.F.slot_list_append PySem.F.type_list_append mt_append (pv 4) (pa_cons (pe_tup (pa_cons (pe_ix ix_list (pv 5) pe_int (fun _ _ => rfl)) (pa_cons (pe_callTy call_tuple_of (by rfl) z_tuple (by decide +kernel) (pa_cons (pv 7) pa_nil)) pa_nil))) pa_nil)))))))))
      (pss_one (ps_ret (pe_lst (pa_cons (pv 4) (pa_cons (pv 3) pa_nil)))))))))), ?_⟩
    refine ⟨_, rfl, ⟨_, rfl⟩, _, _, rfl, rfl, by decide +kernel, Nat.le_trans (show t.length + 2 ≤ 4002 by omega) (by decide), fun l hl => ?_⟩
    have hne := split_ne (x := t) semi_ok.1 semi_ok.2
    have hpl : ∀ p ∈ Txt.split t "; ", Plain p := fun p hp => ht.part (by decide +kernel) hp
    have hlen : (Txt.split t "; ").length ≤ 2001 := by
      have h1 := congrArg Str.length (join_of_split t "; ")
      rw [TL.join_eq] at h1
      cases hs : Txt.split t "; " with
      | nil => exact Nat.zero_le _
      | cons q qs =>
        rw [hs, len_join_cons, show ("; " : Str).length = 2 by decide +kernel] at h1
        rw [List.length_cons]
        omega
    have hR : planR t = if Txt.startswith ((Txt.split t "; ").getLastD Str.empty) "sum " = true then ((Txt.split t "; ").dropLast.map readD, (Txt.split ((Txt.split t "; ").getLastD Str.empty) " ").drop 1) else ((Txt.split t "; ").map readD, []) := rfl
    generalize e0 : upd H l _ = H0
    have N0 := newO hl e0
    generalize Txt.split t "; " = parts at N0 hne hpl hlen hR ⊢
    refine ⟨l, rfl, ⟨_, SqL.of N0.f⟩, fun D hD => lc_build (walk_list (K := K) (a := l)) hD (fun i zs R => Same H0 R ∧ Paired (WsL R) zs ((parts.take i).map fun p => Txt.split p " ")) ⟨Same.refl _, .nil⟩ (fun _ _ _ _ z => SqL.of ((z.1.trans cd_sub) _ _ N0.f)) ?_ ?_⟩
    · rintro i zs y H2 H2' hi e2 ly ⟨s2, pz⟩ ⟨rfl, hy⟩
      rw [List.length_map] at hi
      obtain ⟨p, rfl, hpi⟩ := map_atF hy
      have hpl2 := (hpl p (List.mem_of_getElem? hpi)).le
      refine ⟨rfl, yes ?_⟩
      refine ⟨_, rfl, ⟨_, rfl⟩, _, _, rfl, rfl, by decide +kernel, Nat.le_trans (show p.length + 2 ≤ 4002 by omega) (by decide), fun p2 n2 => ?_⟩
      generalize e3 : upd H2' p2 _ = H3
      have N3 := newO n2 e3
      have e4 := N3.s _ _ e2
      refine LcNx.add e4 ly (by omega) ⟨s2.trans (cd_same N3.s), ?_⟩
      rw [← take_snocF (f := fun p => Txt.split p " ") hpi]
      exact PySem.Paired.snoc (PySem.Paired.mono (fun _ _ => WsL.same (cd_same N3.s)) pz) ⟨p2, rfl, cd_of N3.f (ne_of_none e2 n2).symm⟩
    · rintro zs H2 e2 ly ⟨s2, pz⟩
      rw [take_all] at pz
      have pz2 : Paired (WsL H2) zs (parts.map fun p => Txt.split p " ") := PySem.Paired.mono (fun _ _ => WsL.same cd_sub) pz
      have hzl := pz2.length
      rw [List.length_map] at hzl
      have s02 : Same H H2 := N0.s.trans (s2.trans cd_sub)
      have nD : H D = none := N0.s.free hD
      refine set_st (σ' := [some (.str t), none, some (.ref D), none, none, none, none, none, none, none, none, none]) rfl ?_
      refine ⟨by show 0 ≤ sizeLine; decide, fun m nm => ?_⟩
      generalize e3 : upd H2 m _ = H3
      have N3 := newO nm e3
      refine set_st (σ' := [some (.str t), none, some (.ref D), some (.ref m), none, none, none, none, none, none, none, none]) rfl ?_
      obtain ⟨q, e, rfl⟩ : ∃ q e, parts = q ++ [e] := by
        rcases List.eq_nil_or_concat parts with hn | ⟨q, e, hc⟩
        · exact absurd hn hne
        · exact ⟨q, e, by rw [hc, List.concat_eq_append]⟩
      rw [show (q ++ [e]).getLastD Str.empty = e by simp, show (q ++ [e]).dropLast = q by simp] at hR
      have he := hpl e (by simp)
      dsimp only [tSeq]
      refine with_if (LoopC K t D H) ?_ ?_
      · rintro σ3 H3 ⟨mo, zs, ps, ms, rfl, hD3, pz3, hm3, R, hpp, hps, s3⟩
        refine ⟨by show 0 ≤ sizeLine; decide, fun lf hf => ?_⟩
        generalize e4 : upd H3 lf _ = H4
        have N4 := newO hf e4
        have hzl3 := pz3.length
        rw [List.length_map] at hzl3
        refine set_st (σ' := [some (.str t), none, some (.ref D), some (.ref mo), some (.ref lf), none, none, none, none, none, none, none]) rfl ?_
        refine ⟨_, rfl, D, rfl, ⟨_, SqL.of (N4.s _ _ hD3)⟩, ?_⟩
        refine for_list (K := K) (a := D) (xs := zs) (fun i σ H5 => ∃ (x5 x6 x7 x8 x9 x10 x11 : Option V) (ys : List V) (ds : List Dm), σ = [some (.str t), none, some (.ref D), some (.ref mo), some (.ref lf), x5, x6, x7, x8, x9, x10, x11] ∧ H5 lf = some (.lst ys) ∧ Paired (DimAt K (cd lf H5)) ys ds ∧ (ps.take i).map readD = ds.map some ∧ Same H3 (cd lf H5)) ⟨_, _, _, _, _, _, _, [], [], rfl, N4.f, .nil, rfl, by rw [← e4]; exact Same.cd (same_new hf) hf⟩ (fun i σ H5 _ ⟨_, _, _, _, _, _, _, _, _, _, _, _, _, s5⟩ => SqL.of ((s5.trans cd_sub) _ _ hD3)) ?_ ?_
        · rintro i v σ H5 hi ⟨x5, x6, x7, x8, x9, x10, x11, ys, ds, rfl, f5, py, hds, s5⟩
          obtain ⟨ws, hws, r, rfl, hr3⟩ := paired_at pz3 hi
          obtain ⟨p, rfl, hpi⟩ := map_atF hws
          have hp := hpp p (List.mem_of_getElem? hpi)
          have bad : readD p = none → ∀ ds ms, ¬ ReadP t ds ms := fun hn => R.b ⟨p, List.mem_of_getElem? hpi, hn⟩
          have hr5 := (s5.trans cd_sub) _ _ hr3
          have hwp : ∀ z ∈ Txt.split p " ", Plain z := fun z hz => hp.part (by decide +kernel) hz
          have hwne := split_ne (x := p) blank_ok.1 blank_ok.2
          have hwl := split_many (x := p) (y := " ") (by decide +kernel)
          have hple := hp.le
          generalize hws : Txt.split p " " = ws at hr5 hwp hwne hwl
          have s05 : Same H (cd lf H5) := s3.trans s5
          refine set_st (σ' := [some (.str t), none, some (.ref D), some (.ref mo), some (.ref lf), some (.ref r), x6, x7, x8, x9, x10, x11]) rfl ?_
          refine ⟨_, rfl, _, rfl, r, _, rfl, SqL.of hr5, fun p1 n1 => ?_⟩
          have ecut : cutV (ws.map V.str) (some 2) none = (ws.drop 2).map V.str := by
            have h9 : cutV (ws.map V.str) (some ((2 : Nat) : Int)) none = (ws.map V.str).drop 2 := cutFrom _ 2
            rw [List.map_drop]
            exact h9
          rw [ecut]
          generalize e6 : upd H5 p1 _ = H6
          have N6 := newO n1 e6
          have hdl : (ws.drop 2).length ≤ 3999 := by rw [List.length_drop]; omega
          have hdp : ∀ z ∈ ws.drop 2, Plain z := fun z hz => hwp z (List.mem_of_mem_drop hz)
          generalize hwd : ws.drop 2 = wss at N6 hdl hdp
          refine ⟨p1, rfl, ⟨_, SqL.of N6.f⟩, fun D1 hD1 => lc_build (walk_list (K := K) (a := p1)) hD1 (fun i zs R => Same H6 R ∧ Paired (TxT K R) zs ((wss.take i).map fun w => Txt.split w ":")) ⟨Same.refl _, .nil⟩ (fun _ _ _ _ z => SqL.of ((z.1.trans cd_sub) _ _ N6.f)) ?_ ?_⟩
          · rintro j us y Ha Hb hj e2 ly ⟨s2, pu⟩ ⟨rfl, hy⟩
            rw [List.length_map] at hj
            obtain ⟨w, rfl, hwi⟩ := map_atF hy
            have hwl2 := (hdp w (List.mem_of_getElem? hwi)).le
            refine ⟨rfl, yes ?_⟩
            refine ⟨_, rfl, ⟨_, rfl⟩, _, _, rfl, rfl, by decide +kernel, Nat.le_trans (show w.length + 2 ≤ 4002 by omega) (by decide), fun p2 n2 => ?_⟩
            generalize q3 : upd Hb p2 _ = Hc
            have N3 := newO n2 q3
            refine ⟨p2, _, rfl, .inl ⟨SqL.of N3.f, fun t2 nt2 => ?_⟩⟩
            generalize q4 : upd Hc t2 _ = Hd
            have Nd := newO nt2 q4
            have s4 := N3.s.trans Nd.s
            have e5 := s4 _ _ e2
            refine LcNx.add e5 ly (by omega) ⟨s2.trans (cd_same s4), ?_⟩
            rw [← take_snocF (f := fun w => Txt.split w ":") hwi]
            exact PySem.Paired.snoc (PySem.Paired.mono (fun _ _ => TxT.same (cd_same s4)) pu) ⟨t2, rfl, seqT_cdl e5 (SqT.of Nd.f)⟩
          · rintro us H7 e7 ly ⟨s7, pu⟩
            rw [take_all] at pu
            have pu7 : Paired (TxT K H7) us (wss.map fun w => Txt.split w ":") := PySem.Paired.mono (fun _ _ => TxT.same cd_sub) pu
            have hul := pu7.length
            rw [List.length_map] at hul
            have s57 : Same H5 H7 := N6.s.trans (s7.trans cd_sub)
            refine set_st (σ' := [some (.str t), none, some (.ref D), some (.ref mo), some (.ref lf), some (.ref r), x6, some (.ref D1), x8, x9, x10, x11]) rfl ?_
            refine ⟨by show 4 ≤ sizeLine; decide, fun pw npw => ?_⟩
            generalize e8 : upd H7 pw _ = H8
            have N8 : NewO H7 H8 pw (.lst wayV) := newO npw e8
            refine set_st (σ' := [some (.str t), none, some (.ref D), some (.ref mo), some (.ref lf), some (.ref r), x6, some (.ref D1), some (.ref pw), x9, x10, x11]) rfl ?_
            have s58 := s57.trans N8.s
            have s08 : Same H H8 := (s05.trans cd_sub).trans s58
            have hr8 := s58 _ _ hr5
            have pu8 : Paired (TxT K H8) us (wss.map fun w => Txt.split w ":") := PySem.Paired.mono (fun _ _ => TxT.same N8.s) pu7
            have e78 := N8.s _ _ e7
            obtain ⟨w0, wr, rfl⟩ := List.exists_cons_of_ne_nil hwne
            refine ⟨_, rfl, r, _, _, _, rfl, rfl, SqL.of hr8, atI_nat (j := 0) rfl, rfl, _, rfl, ?_⟩
            by_cases c0 : w0 = "dim"
            case neg =>
              refine iteNT (fun z => c0 (by injection z)) ?_
              exact k2 (bad (readD_head hws c0)) _ s08
            refine iteNS (congrArg V.str c0) ?_
            refine ⟨_, rfl, _, _, rfl, .inl (SqL.of hr8), _, _, rfl, rfl, _, rfl, ?_⟩
            cases wr with
            | nil =>
              refine iteT0 (decide_eq_true (show (1 : Int) < 2 by decide)) ?_
              exact k2 (bad (readD_one hws)) _ s08
            | cons n wr =>
            refine iteF0 (fun z => absurd (of_decide_eq_true z) (by simp; omega)) ?_
            have hwd : wr = wss := hwd
            subst hwd
            subst c0
            -- pairs that are none
            refine ⟨_, rfl, D1, rfl, ⟨_, SqL.of e78⟩, fun D2 hD2 => lc_build (walk_list (K := K) (a := D1) (xs := us)) hD2 (fun i vs R => Same H8 R ∧ Paired (TxT K R) vs (((wr.map fun w => Txt.split w ":").take i).filter fun l : List Str => l.length != 2)) ⟨Same.refl _, .nil⟩ (fun _ _ _ _ z => SqL.of ((z.1.trans cd_sub) _ _ e78)) ?_ ?_⟩
            · rintro j vs y Ha Hb hj e2 ly ⟨s2, pv3⟩ ⟨rfl, hy⟩
              obtain ⟨sl, hsl, r2, rfl, h2⟩ := paired_at pu8 hy
              have h3 := Same.seqT (s2.trans cd_sub) h2
              refine ⟨rfl, _, rfl, _, _, rfl, .inr h3, rfl, _, rfl, ?_⟩
              rw [List.length_map]
              by_cases c2 : sl.length = 2
              · refine iteF0 ?_ (LcNx.skip e2 ly ⟨s2, ?_⟩)
                · rw [c2]; decide
                · rw [take_fltB hsl, if_neg (by rw [c2]; decide), List.append_nil]
                  exact pv3
              · refine iteT0 ?_ ?_
                · rw [decide_eq_false (fun z => c2 (by have := V.int.inj z; omega))]; rfl
                · refine ⟨_, rfl, LcNx.add e2 ly (by omega) ⟨s2, ?_⟩⟩
                  rw [take_fltB hsl, if_pos (by simp [c2])]
                  exact PySem.Paired.snoc pv3 ⟨r2, rfl, seqT_cdl e2 h3⟩
            · rintro vs H9 e9 ly2 ⟨s9, pv3⟩
              have hul2 : us.length = (wr.map fun w => Txt.split w ":").length := by rw [List.length_map]; exact hul
              rw [hul2, List.take_length] at pv3
              have pv9 : Paired (TxT K H9) vs ((wr.map fun w => Txt.split w ":").filter fun l : List Str => l.length != 2) := PySem.Paired.mono (fun _ _ => TxT.same cd_sub) pv3
              have s89 : Same H8 H9 := s9.trans cd_sub
              refine ⟨by show 0 ≤ sizeLine; decide, fun p3 np3 => ?_⟩
              generalize e10 : upd H9 p3 _ = H10
              have N10 := newO np3 e10
              have s810 := s89.trans N10.s
              have s010 := s08.trans s810
              have hfl : ∀ l ∈ (wr.map fun w => Txt.split w ":").filter (fun l : List Str => l.length != 2), ∃ w ∈ wr, l = Txt.split w ":" ∧ (Txt.split w ":").length ≠ 2 := fun l hl => by
                obtain ⟨h1, h2⟩ := List.mem_filter.mp hl
                obtain ⟨w, hw, rfl⟩ := List.mem_map.mp h1
                exact ⟨w, hw, rfl, by simpa using h2⟩
              refine ⟨.list (((wr.map fun w => Txt.split w ":").filter fun l : List Str => l.length != 2).map tupD), .list [], .lst (SqL.of (N10.s _ _ e9)) (txts_dp (PySem.Paired.mono (fun _ _ => TxT.same N10.s) pv9)), .lst (SqL.of N10.f) .nil, tups_shapedP (fun l hl m hm => ?_), by decide +kernel, _, rfl, ?_⟩
              · obtain ⟨w, hw, rfl, _⟩ := hfl l hl
                exact (hdp w hw).part (by decide +kernel) hm
              rw [eqv_empty, List.isEmpty_map]
              cases cf : ((wr.map fun w => Txt.split w ":").filter fun l : List Str => l.length != 2).isEmpty with
              | false =>
                refine iteT ?_
                obtain ⟨l0, l1, hl0⟩ := List.exists_cons_of_ne_nil (l := (wr.map fun w => Txt.split w ":").filter fun l : List Str => l.length != 2) (fun z => by rw [z] at cf; cases cf)
                obtain ⟨w, hw, _, hn⟩ := hfl l0 (by rw [hl0]; exact List.mem_cons_self ..)
                exact k2 (bad (readD_bad hws hw (attOf_len hn))) _ s010
              | true =>
                refine iteF ?_
                have all2 : ∀ w ∈ wr, ∃ a b, Txt.split w ":" = [a, b] := fun w hw => two_of (by
                  have h1 := List.isEmpty_iff.mp cf
                  have h2 := List.filter_eq_nil_iff.mp h1 (Txt.split w ":") (List.mem_map.mpr ⟨w, hw, rfl⟩)
                  simpa using h2)
                have e710 := s810 _ _ e78
                have pu10 : Paired (TxT K H10) us (wr.map fun w => Txt.split w ":") := PySem.Paired.mono (fun _ _ => TxT.same s810) pu8
                have pw10 := s810 _ _ N8.f
                -- ways that are none
                refine ⟨_, rfl, D1, rfl, ⟨_, SqL.of e710⟩, fun D3 hD3 => lc_build (walk_list (K := K) (a := D1) (xs := us)) hD3 (fun i vs R => Same H10 R ∧ vs = ((wr.take i).filterMap badW).map V.str) ⟨Same.refl _, rfl⟩ (fun _ _ _ _ z => SqL.of ((z.1.trans cd_sub) _ _ e710)) ?_ ?_⟩
                · rintro j vs y Ha Hb hj e2 ly ⟨s2, rfl⟩ ⟨rfl, hy⟩
                  obtain ⟨sl, hsl, r2, rfl, h2⟩ := paired_at pu10 hy
                  obtain ⟨w, rfl, hwi⟩ := map_atF hsl
                  obtain ⟨a, b, hab⟩ := all2 w (List.mem_of_getElem? hwi)
                  have h2 : SqT K H10 r2 ((Txt.split w ":").map V.str) := h2
                  rw [hab] at h2
                  have s2' := s2.trans cd_sub
                  refine ⟨r2, _, rfl, Same.seqT s2' h2, rfl, _, _, rfl, _, _, rfl, rfl, rfl, ?_⟩
                  refine ⟨_, rfl, _, rfl, pw, wayV, rfl, .inl (SqL.of (s2' _ _ pw10)), rfl, by decide +kernel, _, rfl, ?_⟩
                  rw [show (if true = true then !inV (V.str b) wayV else inV (V.str b) wayV) = !inV (V.str b) (wayS.map V.str) from rfl, inV_strsW]
                  by_cases cw : b ∈ wayS
                  · rw [decide_eq_true cw]
                    refine iteF (LcNx.skip e2 ly ⟨s2, ?_⟩)
                    rw [fltM hwi, badW_none hab cw, List.append_nil]
                  · rw [decide_eq_false cw]
                    refine iteT ⟨_, rfl, LcNx.add e2 ly (by omega) ⟨s2, ?_⟩⟩
                    rw [fltM hwi, badW_some hab cw, List.map_append]
                    rfl
                · rintro vs H11 e11 ly3 ⟨s11, rfl⟩
                  rw [hul, List.take_length] at e11
                  have s1011 : Same H10 H11 := s11.trans cd_sub
                  refine ⟨by show 0 ≤ sizeLine; decide, fun p4 np4 => ?_⟩
                  generalize e12 : upd H11 p4 _ = H12
                  have N12 := newO np4 e12
                  have s812 := (s810.trans s1011).trans N12.s
                  have s012 := s08.trans s812
                  refine ⟨.list ((wr.filterMap badW).map PyData.str), .list [], strs_dp (SqL.of (N12.s _ _ e11)), .lst (SqL.of N12.f) .nil, strs_shapedP (fun m hm => ?_), by decide +kernel, _, rfl, ?_⟩
                  · obtain ⟨w, hw, hb⟩ := List.mem_filterMap.mp hm
                    obtain ⟨a, b, hab⟩ := all2 w hw
                    unfold badW at hb
                    rw [hab] at hb
                    have hb : (if b ∈ wayS then none else some b) = some m := hb
                    split at hb
                    · cases hb
                    · cases hb
                      exact (hdp w hw).part (y := ":") (by decide +kernel) (by rw [hab]; simp)
                  rw [eqv_empty, List.isEmpty_map]
                  cases cg : (wr.filterMap badW).isEmpty with
                  | false =>
                    refine iteT ?_
                    obtain ⟨m, ml, hm⟩ := List.exists_cons_of_ne_nil (l := wr.filterMap badW) (fun z => by rw [z] at cg; cases cg)
                    obtain ⟨w, hw, hb⟩ := List.mem_filterMap.mp (show m ∈ wr.filterMap badW by rw [hm]; exact List.mem_cons_self ..)
                    obtain ⟨a, b, hab⟩ := all2 w hw
                    refine k2 (bad (readD_bad hws hw ?_)) _ s012
                    by_cases cw : b ∈ wayS
                    · rw [badW_none hab cw] at hb
                      cases hb
                    · exact attOf_bad hab cw
                  | true =>
                    refine iteF ?_
                    have hall : ∀ w ∈ wr, ∃ y, attOf w = some y := fun w hw => by
                      obtain ⟨a, b, hab⟩ := all2 w hw
                      by_cases cw : b ∈ wayS
                      · exact ⟨_, attOf_of hab cw⟩
                      · have h1 := List.filterMap_eq_nil_iff.mp (List.isEmpty_iff.mp cg) w hw
                        rw [badW_some hab cw] at h1
                        cases h1
                    have hn : (wr.map attOf).any Option.isNone = false := by
                      rw [List.any_eq_false]
                      intro o ho
                      obtain ⟨w, hw, rfl⟩ := List.mem_map.mp ho
                      obtain ⟨y, hy⟩ := hall w hw
                      rw [hy]
                      simp
                    obtain ⟨as, ea, _⟩ := getD_map (z := (Str.empty, Str.empty)) hn
                    have hrd := readD_good hws ea
                    have hat := txts_atts pu8 ea
                    have f12 := (s58.trans s812) _ _ f5
                    refine ⟨_, rfl, .inl ⟨rfl, _, SqL.of f12⟩, ?_⟩
                    refine ⟨_, rfl, r, _, _, _, rfl, rfl, SqL.of (s812 _ _ hr8), atI_nat (j := 1) rfl, _, rfl, D1, us, rfl, .inl ⟨SqL.of (s812 _ _ e78), fun q13 hq13 => ?_⟩⟩
                    generalize e13 : upd H12 q13 _ = H13
                    have N13 := newO hq13 e13
                    refine ⟨by show 2 ≤ sizeLine; decide, fun t14 ht14 => ?_⟩
                    generalize e14 : upd H13 t14 _ = H14
                    have N14 := newO ht14 e14
                    have s514 : Same H5 H14 := ((s58.trans s812).trans N13.s).trans N14.s
                    have hyl := py.length
                    have hdl2 : ds.length ≤ 2001 := by
                      have h1 := congrArg List.length hds
                      rw [List.length_map, List.length_map, List.length_take] at h1
                      omega
                    refine ⟨lf, _, _, rfl, rfl, s514 _ _ f5, Nat.lt_of_le_of_lt (show ys.length ≤ 2001 by omega) (by decide), ?_⟩
                    refine ⟨_, _, _, _, _, _, _, ys ++ [.ref t14], ds ++ [(n, as)], rfl, upd_same, ?_, ?_, ?_⟩
                    · rw [cd_upd]
                      refine PySem.Paired.snoc (PySem.Paired.mono (fun _ _ h => DimAt.same (cd_same s514) h) py) (dim_cdl (s514 _ _ f5) ?_)
                      exact ⟨t14, q13, rfl, SqT.of N14.f, us, SqT.of (N14.s _ _ N13.f), PySem.Paired.mono (fun _ _ => AttAt.same ((s812.trans N13.s).trans N14.s)) hat⟩
                    · rw [← take_snocF (f := readD) hpi, hds, hrd, List.map_append]
                      rfl
                    · rw [cd_upd]
                      exact s5.trans (cd_same s514)
        · rintro σ H5 ⟨x5, x6, x7, x8, x9, x10, x11, ys, ds, rfl, f5, py, hds, s5⟩
          rw [hzl3, List.take_length] at hds
          refine ⟨_, rfl, _, rfl, by show 2 ≤ sizeLine; decide, fun r nr => ?_⟩
          generalize e9 : upd H5 r _ = H9
          have N9 := newO nr e9
          exact k1 ds ms (R.a ds hds) r lf mo H9 ((s3.trans (s5.trans cd_sub)).trans N9.s) N9.f ⟨ys, N9.s _ _ f5, PySem.Paired.mono (fun _ _ h => DimAt.same (cd_sub.trans N9.s) h) py⟩ (((s5.trans cd_sub).trans N9.s) _ _ hm3)
      · intro loop
        have e3D := N3.s _ _ e2
        have pz3 : Paired (WsL H3) zs ((q ++ [e]).map fun p => Txt.split p " ") := PySem.Paired.mono (fun _ _ => WsL.same N3.s) pz2
        have s03 := s02.trans N3.s
        rw [List.length_append] at hzl hlen
        have hzl : zs.length = q.length + 1 := hzl
        have hlen : q.length + 1 ≤ 2001 := hlen
        refine ⟨_, rfl, D, zs, rfl, .inl (SqL.of e3D), _, _, rfl, rfl, _, rfl, ite2 (fun c => ?_) (fun c => ?_)⟩
        · have c := of_decide_eq_true c
          have hvl : q.length < zs.length := by omega
          obtain ⟨wl, hwl, r, er, hr⟩ := paired_at pz3 (List.getElem?_eq_getElem hvl)
          have hwl : wl = Txt.split e " " := by
            rw [List.map_append, List.getElem?_append_right (by rw [List.length_map]; exact Nat.le_refl _), List.length_map, Nat.sub_self] at hwl
            exact (Option.some.inj hwl).symm
          subst hwl
          have hzq : zs[q.length]? = some (.ref r) := by rw [← er]; exact List.getElem?_eq_getElem hvl
          have hlast : zs[zs.length - 1]? = some (.ref r) := by rw [hzl]; exact hzq
          have al : atI zs (-1) = some (V.ref r) := atI_end (by rw [List.getLast?_eq_getElem?]; exact hlast)
          have hwne := split_ne (x := e) blank_ok.1 blank_ok.2
          have hwp : ∀ z ∈ Txt.split e " ", Plain z := fun z hz => he.part (by decide +kernel) hz
          have hso : ∀ z zr, Txt.split e " " = ("sum" : Str) :: z :: zr → Txt.startswith e "sum " = true := fun z zr h => starts_of h
          have hns : (∀ z zr, Txt.split e " " ≠ ("sum" : Str) :: z :: zr) → Txt.startswith e "sum " = false := fun h => by
            cases cs : Txt.startswith e "sum " with
            | false => rfl
            | true =>
              obtain ⟨z, zr, hz⟩ := sum_of cs
              exact absurd hz (h z zr)
          generalize hws : Txt.split e " " = ws at hr hwne hwp hso hns hR
          obtain ⟨w0, wr, rfl⟩ := List.exists_cons_of_ne_nil hwne
          refine ⟨_, rfl, _, rfl, D, _, _, _, rfl, rfl, SqL.of e3D, al, r, _, _, _, rfl, rfl, SqL.of hr, atI_nat (j := 0) rfl, rfl, _, rfl, ?_⟩
          by_cases cs : w0 = "sum"
          · refine iteT0 (decide_eq_true (congrArg V.str cs)) ?_
            subst cs
            refine ⟨_, rfl, .inl ⟨rfl, _, SqL.of e3D⟩, D, zs, _, rfl, rfl, e3D, hlast, ?_⟩
            have nrD : r ≠ D := fun z => by
              rw [z] at hr
              rw [hr] at e3D
              have h1 := HO.lst.inj (Option.some.inj e3D)
              have h2 : zs.length = (("sum" : Str) :: wr).length := by rw [← h1, List.length_map]
              have h3 := List.getElem?_map (f := V.str) (l := ("sum" : Str) :: wr) (i := q.length)
              rw [h1, hzq] at h3
              cases h4 : (("sum" : Str) :: wr)[q.length]? with
              | none => rw [h4] at h3; cases h3
              | some y => rw [h4] at h3; cases h3
            have hr4 : upd H3 D (.lst zs.dropLast) r = some (.lst ((("sum" : Str) :: wr).map V.str)) := by rw [upd_ne nrD]; exact hr
            refine ⟨_, rfl, r, _, rfl, SqL.of hr4, fun m2 nm2 => ?_⟩
            have ec : cutV ((("sum" : Str) :: wr).map V.str) (some 1) none = wr.map V.str := cutR1 _ _
            rw [ec]
            have s04 : Same H (upd H3 D (.lst zs.dropLast)) := Same.upd s03 nD
            have d4 : upd H3 D (.lst zs.dropLast) D = some (.lst zs.dropLast) := upd_same
            have p4 : Paired (WsL (upd H3 D (.lst zs.dropLast))) zs.dropLast (q.map fun p => Txt.split p " ") := by
              have h1 : zs.dropLast = zs.take q.length := by rw [List.dropLast_eq_take, hzl]; rfl
              rw [h1]
              have h2 := paired_take pz3 q.length
              rw [List.map_append, List.take_left' (by rw [List.length_map])] at h2
              refine PySem.Paired.mono (fun v ws ⟨rr, e1, e2⟩ => ⟨rr, e1, ?_⟩) h2
              have nn : rr ≠ D := fun z => by
                rw [z, e3D] at e2
                have h5 := HO.lst.inj (Option.some.inj e2)
                rw [h5, List.getElem?_map] at hzq
                cases h6 : ws[q.length]? with
                | none => rw [h6] at hzq; cases hzq
                | some y => rw [h6] at hzq; cases hzq
              rw [upd_ne nn]
              exact e2
            generalize upd H3 D (.lst zs.dropLast) = H4 at s04 d4 p4 nm2 ⊢
            generalize e5 : upd H4 m2 _ = H5
            have N5 := newO nm2 e5
            refine set_st (σ' := [some (.str t), none, some (.ref D), some (.ref m2), none, none, none, none, none, none, none, none]) rfl ?_
            refine ⟨_, rfl, by show 0 ≤ sizeLine; decide, fun p6 np6 => ?_⟩
            generalize e6 : upd H5 p6 _ = H6
            have N6 := newO np6 e6
            have s46 := N5.s.trans N6.s
            refine ⟨.list (wr.map PyData.str), .list [], strs_dp (SqL.of (N6.s _ _ N5.f)), .lst (SqL.of N6.f) .nil, strs_shapedP (fun z hz => hwp z (List.mem_cons_of_mem _ hz)), by decide +kernel, _, rfl, ?_⟩
            rw [eqv_empty, List.isEmpty_map]
            cases wr with
            | nil =>
              refine iteT ?_
              have hst := hns (fun z zr hz => by cases hz)
              rw [hst] at hR
              exact k2 ((loopR hR).b ⟨e, by simp, readD_one hws⟩) _ (s04.trans s46)
            | cons z zr =>
              refine iteF ?_
              have hst := hso z zr rfl
              rw [hst] at hR
              refine loop _ _ ⟨m2, zs.dropLast, q, z :: zr, rfl, s46 _ _ d4, PySem.Paired.mono (fun _ _ => WsL.same s46) p4, N6.s _ _ N5.f, loopR hR, fun p hp => hpl p (List.mem_append_left _ hp), by omega, s04.trans s46⟩
          · refine iteF0 (fun z => cs (by have := of_decide_eq_true z; injection this)) ?_
            have hst := hns (fun z zr hz => cs (by injection hz))
            rw [hst] at hR
            exact loop _ _ ⟨m, zs, q ++ [e], [], rfl, e3D, pz3, N3.f, loopR hR, hpl, by rw [List.length_append]; exact hlen, s03⟩
        · have c := fun z => c (decide_eq_true z)
          have hq0 : q = [] := by
            cases q with
            | nil => rfl
            | cons a b => exact absurd (show (1 : Int) < (zs.length : Int) by rw [hzl, List.length_cons]; omega) c
          subst hq0
          have R : LoopR t ([] ++ [e]) [] := by
            cases cs : Txt.startswith e "sum " with
            | false =>
              rw [cs] at hR
              exact loopR hR
            | true =>
              rw [cs] at hR
              obtain ⟨z, zr, hz⟩ := sum_of cs
              have hn : readD e = none := readD_head hz (by decide +kernel)
              refine ⟨fun ds hd => ?_, fun _ ds ms ⟨h1, h2⟩ => ?_⟩
              · have h1 : readD e ∈ ds.map some := by rw [← hd]; simp
                rw [hn] at h1
                obtain ⟨_, _, h4⟩ := List.mem_map.mp h1
                cases h4
              · rw [hR] at h1
                have h3 : [] = ds.map some := congrArg Prod.fst h1
                have h4 := h2.d1
                rw [List.map_eq_nil_iff.mp h3.symm] at h4
                exact absurd h4 (by decide)
          exact loop _ _ ⟨m, zs, [] ++ [e], [], rfl, e3D, pz3, N3.f, R, hpl, by show 1 ≤ 2001; decide, s03⟩
end
end Kd

namespace Kd
open PySem PySem.Spec PyProof.Rows L2 KdXc
/-- how much a text that reads holds -/
theorem szd_of {t : Str} {ds : List Dm} {ms : List Str} (ht : Plain t) (h : planR t = (ds.map some, ms)) : Szd ds ms ∧ ∀ d ∈ ds, ∀ a ∈ d.2, IsWay a.2 := by
  have hpl : ∀ p ∈ Txt.split t "; ", Plain p := fun p hp => ht.part (by decide +kernel) hp
  have hlen := split_many (x := t) (y := "; ") (by decide +kernel)
  have le := ht.le
  have hne := split_ne (x := t) semi_ok.1 semi_ok.2
  have hweigh : (Txt.split t "; ").length ≤ 2001 := by
    have h1 := congrArg Str.length (join_of_split t "; ")
    rw [TL.join_eq] at h1
    cases hs : Txt.split t "; " with
    | nil => exact Nat.zero_le _
    | cons q qs =>
      rw [hs, len_join_cons, show ("; " : Str).length = 2 by decide +kernel] at h1
      rw [List.length_cons]
      omega
  have hms : ms.length ≤ 4000 ∧ ∀ m ∈ ms, m.length ≤ 4000 := by
    unfold planR at h
    split at h
    · have h2 : (Txt.split ((Txt.split t "; ").getLastD Str.empty) " ").drop 1 = ms := congrArg Prod.snd h
      have hp : Plain ((Txt.split t "; ").getLastD Str.empty) := hpl _ (by
        rcases List.eq_nil_or_concat (Txt.split t "; ") with hn | ⟨q, e, hc⟩
        · exact absurd hn hne
        · rw [hc, List.concat_eq_append]
          simp)
      have hm := split_many (x := (Txt.split t "; ").getLastD Str.empty) (y := " ") (by decide +kernel)
      have hl := hp.le
      rw [← h2]
      refine ⟨by rw [List.length_drop]; omega, fun m hm2 => (hp.part (y := " ") (by decide +kernel) (List.mem_of_mem_drop hm2)).le⟩
    · have h2 : [] = ms := congrArg Prod.snd h
      rw [← h2]
      exact ⟨Nat.zero_le _, fun _ h => nomatch h⟩
  obtain ⟨ps, hps, hsub, hpl2⟩ : ∃ ps : List Str, ps.map readD = ds.map some ∧ (∀ p ∈ ps, Plain p) ∧ ps.length ≤ 2001 := by
    unfold planR at h
    split at h
    · exact ⟨_, congrArg Prod.fst h, fun p hp => hpl p (List.dropLast_subset _ hp), by rw [List.length_dropLast]; omega⟩
    · exact ⟨_, congrArg Prod.fst h, hpl, hweigh⟩
  obtain ⟨hl, hi⟩ := map_some_at hps
  have rd : ∀ d ∈ ds, ∃ p, Plain p ∧ ReadD p d := fun d hd => by
    obtain ⟨i, h2, rfl⟩ := List.mem_iff_getElem.mp hd
    exact ⟨ps[i]'(by omega), hsub _ (List.getElem_mem _), readD_some (hi i (by omega) h2)⟩
  refine ⟨⟨by omega, fun d hd => ?_, hms.1, hms.2⟩, fun d hd => ?_⟩
  · obtain ⟨p, hp1, hp2⟩ := rd d hd
    have := hp1.le
    exact ⟨Nat.le_trans hp2.n this, Nat.le_trans hp2.m this, fun a ha => Nat.le_trans (hp2.a a ha) this⟩
  · obtain ⟨p, hp1, hp2⟩ := rd d hd
    exact hp2.w
theorem readP_one {t : Str} {ds ds' : List Dm} {ms ms' : List Str} (h : planR t = (ds.map some, ms)) (h' : planR t = (ds'.map some, ms')) : ds = ds' ∧ ms = ms' := by
  have e := h.symm.trans h'
  have e1 : ds.map some = ds'.map some := congrArg Prod.fst e
  exact ⟨(List.map_inj_right (fun _ _ h => Option.some.inj h)).mp e1, congrArg Prod.snd e⟩
section
variable {P : Program} {w : World} {K : PySem.W.Frag} {mg : Str → Option Value} {base : Heap} {f : Addr} {fd : FuncData}
/-! ### _law_due -/
def spDue (K : PySem.W.Frag) (C : Addr) : Sp := fun vs H Q _ => ∃ t : Str, vs = [.str t] ∧ Tq 4000 t ∧
  (∀ ds ms, ReadP t ds ms → ∀ x H', PlanAt K C H' x ds ms → Same H H' → Q (.ref x) H') ∧ ((∀ ds ms, ¬ ReadP t ds ms) → ∀ H', Same H H' → Q .non H')
abbrev N_l_due : List Str := ["text", "lists", "made"]
theorem sc_l_due : FnScope N_l_due ["text"] (defScope s_l_due) := ⟨rfl, rfl, rfl, by decide +kernel, rfl, by decide +kernel, by decide +kernel⟩
/-! slots: 0 text 1 lists 2 made; cells:  -/
structure PlanX (P : Program) (w : World) (K : PySem.W.Frag) (mg : Str → Option Value) (base : Heap) (C e fI : Addr) (fdI : FuncData) (N fN : Addr) (fdN : FuncData) : Prop where
  M : Mk K C fI
  GX : FnOk P w K mg base (L2.CX P w) 5 fI fdI ["self", "dimensions", "measures"] (spInitX K C N)
  gC : mg "Plan" = some (.ref C)
  I : InitD K e fI fdI
  E : ErrM P w K mg base "NoPlan" N fN fdN
set_option maxHeartbeats 0 in
theorem ok_due {C e fI fP NP fNP : Addr} {fdI fdP fdNP : FuncData} (F : FnP K "_law_due" "_law_due" s_l_due f fd) (PC : PlanX P w K mg base C e fI fdI NP fNP fdNP) (c_plan_of : Fun P w K mg base "_law_plan_of" 1 ["text"] (spPlanOf K) fP fdP) : FnOk P w K mg base CX0 7 f fd ["text"] (spDue K C) := by
  obtain ⟨i3, v3, b3⟩ := init_b3 PC.I
  refine F.ok sc_l_due (fun vs H Q E h => ?_) (fun cdv A outer s H vs Q E hr h => ?_)
  · obtain ⟨t, rfl, _⟩ := h
    rfl
  · obtain ⟨t, rfl, ht, k1, k2⟩ := h
    have nd := sc_l_due.nd
    refine ⟨_, pss_cons (ps_set (i := 1) nd rfl (Or.inl rfl) (pe_call c_plan_of.G (hr.mono (by decide)) rfl c_plan_of.g c_plan_of.k c_plan_of.b .nil pass0 (pa_cons (pv 0) pa_nil)))
      (pss_cons (ps_set (i := 2) nd rfl (Or.inl rfl) pe_non)
      (pss_cons (ps_if (pt_cmp (pc_isN (pv 1)))
        (pss_one (ps_ret pe_non))
        pss_nil)
      (pss_cons (ps_try_only (tb := fun W => tAsg (tMakeS C (spInitX K C NP) [] (WE W) (tCons (tOp (rIxL K) (tVar 1) (tC (.int 0))) (tCons (tOp (rIxL K) (tVar 1) (tC (.int 1))) tNil))) (gName 2)) (ts := fun _ _ _ => tAsg (tC .non) (gName 2)) (Wout := fun _ _ _ _ => False) rfl rfl ⟨rfl, by decide, .inl PC.E.g⟩ takes0
        (fun W pn xe tk _ => pss_one (ps_set (i := 2) nd rfl (Or.inl rfl) (by exact (pe_makeS PC.M PC.GX (hr.mono (by decide)) rfl PC.gC b3 v3 (fun σ => passAt tk σ) (by exact (pa_cons (pe_ix ix_list (pv 1) pe_int (fun _ _ => rfl)) (pa_cons (pe_ix ix_list (pv 1) pe_int (fun _ _ => rfl)) pa_nil)))))))
        (fun a oe cls d pn hz hf => pss_one (ps_set (i := 2) nd rfl (Or.inl rfl) (by exact pe_non))))
      (pss_one (ps_ret (pv 2)))))), ?_⟩
    refine ⟨_, rfl, t, rfl, ht, fun ds ms hR r lo mo H1 s1 hr1 hd1 hm1 => ?_, fun hn H1 s1 => ?_⟩
    · refine set_st (σ' := [some (.str t), some (.ref r), none]) rfl ?_
      dsimp only
      refine set_st (σ' := [some (.str t), some (.ref r), some .non]) rfl ?_
      refine ⟨_, rfl, _, rfl, iteF ?_⟩
      obtain ⟨xs, d1, d2⟩ := hd1
      obtain ⟨sz, hw⟩ := szd_of ht.plain hR
      refine ⟨_, rfl, r, _, _, _, rfl, rfl, SqL.of hr1, atI_nat (j := 0) rfl, _, rfl, r, _, _, _, rfl, rfl, SqL.of hr1, atI_nat (j := 1) rfl, fun x dx nx ndx nex => ?_⟩
      have hd2 : DimsAt K H1 lo ds := ⟨xs, SqL.of d1, d2⟩
      have hm2 : Txs K H1 mo ms := .inl (SqL.of hm1)
      rcases ff_cases ds ms with ff | ⟨z, ff, _⟩
      · refine .inl (init_good (B := fun H7 => tRet (tVar 2) { nx := fun x H' => Q V.non H', rt := Q } [some (.str t), some (.ref r), some (.ref x)] H7) hd2 hm2 sz ff nx ndx nex fun H7 hN => ?_)
        exact ⟨_, rfl, k1 ds ms ⟨hR, good_of ff hw⟩ x H7 hN.at1 (s1.trans hN.s)⟩
      · refine .inr (init_bad hd2 hm2 sz ff (fun d H7 s7 hd nd7 => ?_) nx ndx nex)
        refine ⟨true, PC.E.T.em, fun _ a ha => ?_, fun q => nomatch q⟩
        refine set_st (σ' := [some (.str t), some (.ref r), some .non]) rfl ?_
        refine ⟨_, rfl, k2 (fun ds' ms' hp => ?_) H7 (s1.trans s7)⟩
        obtain ⟨rfl, rfl⟩ := readP_one hR hp.1
        rw [hp.2.ff] at ff
        cases ff
    · refine set_st (σ' := [some (.str t), some .non, none]) rfl ?_
      dsimp only
      refine set_st (σ' := [some (.str t), some .non, some .non]) rfl ?_
      refine ⟨_, rfl, _, rfl, iteT ?_⟩
      exact k2 hn H1 s1
end
end Kd

namespace Kd
open PySem PySem.Spec PyProof.Rows L2
theorem next_st {D : Ends} {σ σ' : L2.St} {H : Hp} (e : σ = σ') (h : D.nx σ' H) : tNext D σ H := by
  rw [e]
  exact h
theorem le_big2 {n : Nat} (h : n ≤ 10000000) : n ≤ sizeLine := Nat.le_trans h (by decide)
abbrev signs1 : Str := " ,;:'-.0123456789abdefiklmnorstuwy"
abbrev signs2 : Str := (" !\"#$&'()*+,-./0123456789:;<=>?@ABCDEFGHIJKLMNOPQRSTUVWXYZ[\\]^_`" : Str) ++ ("abcdefghijklmnopqrstuvwxyz{|}~" : Str)
section
variable {P : Program} {w : World} {K : PySem.W.Frag} {mg : Str → Option Value} {base : Heap} {f : Addr} {fd : FuncData}
/-! ### _law_sign -/
def spSign : Sp := fun vs H Q _ => ∃ (a g : Addr) (n : Nat), vs = [.ref a] ∧ Tray H a g n ∧ n ≤ 900000 ∧ ∀ (z : Str) H', Tq 1 z → Tray H' a g (n + 2) → Same (ct a g H) (ct a g H') → Q (.str z) H'
abbrev N_l_sign : List Str := ["tray", "some"]
theorem sc_l_sign : FnScope N_l_sign ["tray"] (defScope s_l_sign) := ⟨rfl, rfl, rfl, by decide +kernel, rfl, by decide +kernel, by decide +kernel⟩
/-! slots: 0 tray 1 some; cells:  -/
theorem ok_sign {fD : Addr} {fdD : FuncData} (F : FnP K "_law_sign" "_law_sign" s_l_sign f fd) (c_draw : Fun P w K mg base "_law_draw" 1 ["tray", "many"] spDraw fD fdD) (z_len : mg "len" = none) : FnOk P w K mg base CX0 2 f fd ["tray"] spSign := by
  refine F.ok sc_l_sign (fun vs H Q E h => ?_) (fun cdv A outer s H vs Q E hr h => ?_)
  · obtain ⟨a, g, n, rfl, _⟩ := h
    rfl
  · obtain ⟨a, g, n, rfl, hT, hn, k⟩ := h
    have nd := sc_l_sign.nd
    refine ⟨_, PSs.nox (pss_cons (ps_if (pt_cmpR op_eq (pe_call c_draw.G (hr.mono (by decide)) rfl c_draw.g c_draw.k c_draw.b .nil pass0 (pa_cons (pv 0) (pa_cons pe_int pa_nil))) pe_int (nomark _))
        (pss_cons (ps_set (i := 1) nd rfl (Or.inl rfl) pe_str)
        (pss_one (ps_ret (pe_ix ix_str (pv 1) (pe_call c_draw.G (hr.mono (by decide)) rfl c_draw.g c_draw.k c_draw.b .nil pass0 (pa_cons (pv 0) (pa_cons (pe_callB call_len_str (by rfl) z_len boot_len (pa_cons (pv 1) pa_nil)) pa_nil))) (fun _ _ => rfl)))))
        pss_nil)
      (pss_cons (ps_set (i := 1) nd rfl (Or.inl rfl) pe_str)
      (pss_cons (ps_set (i := 1) nd rfl (Or.inl rfl) (pe_op op_add_str (pv 1) pe_str))
      (pss_one (ps_ret (pe_ix ix_str (pv 1) (pe_call c_draw.G (hr.mono (by decide)) rfl c_draw.g c_draw.k c_draw.b .nil pass0 (pa_cons (pv 0) (pa_cons (pe_callB call_len_str (by rfl) z_len boot_len (pa_cons (pv 1) pa_nil)) pa_nil))) (fun _ _ => rfl))))))), ?_⟩
    have one : ∀ {c : Nat}, c < 128 → Tq 1 ⟨#[c]⟩ := fun {c} hc => ⟨by show 1 ≤ 1; decide, fun d hd => by
      have : d = c := by simpa using hd
      omega⟩
    refine ⟨_, rfl, a, g, n, _, rfl, hT, by omega, by decide, by decide, fun r H1 r0 r1 T1 s1 => ⟨rfl, _, rfl, ite2 (fun c => ?_) (fun c => ?_)⟩⟩
    · refine set_st (σ' := [some (.ref a), some (.str signs1)]) rfl ?_
      have l1 : signs1.cps.toList.length = 34 := by decide +kernel
      have l2 : signs1.length = 34 := by decide +kernel
      refine ⟨_, rfl, _, rfl, _, rfl, _, rfl, le_line (by rw [l2]; decide), a, g, n + 1, _, rfl, T1, by omega, by rw [l2]; decide, by rw [l2]; decide, fun q H2 q0 q1 T2 s2 => ?_⟩
      rw [l2] at q1
      obtain ⟨j, rfl⟩ : ∃ j : Nat, q = (j : Int) := ⟨q.toNat, by omega⟩
      obtain ⟨d, hd, kd⟩ := sign_at (z := signs1) (i := j) l1 (by decide +kernel) (by omega)
      exact ⟨signs1, _, _, rfl, rfl, le_line (by rw [l2]; decide), atI_nat hd, k _ H2 (one kd) T2 (s1.trans s2)⟩
    · refine next_st (σ' := [some (.ref a), none]) rfl ?_
      dsimp only
      refine set_st (σ' := [some (.ref a), some (.str " !\"#$&'()*+,-./0123456789:;<=>?@ABCDEFGHIJKLMNOPQRSTUVWXYZ[\\]^_`")]) rfl ?_
      refine ⟨_, rfl, _, _, rfl, rfl, by decide +kernel, ?_⟩
      refine set_st (σ' := [some (.ref a), some (.str signs2)]) rfl ?_
      have l1 : signs2.cps.toList.length = 94 := by decide +kernel
      have l2 : signs2.length = 94 := by decide +kernel
      refine ⟨_, rfl, _, rfl, _, rfl, _, rfl, le_line (by rw [l2]; decide), a, g, n + 1, _, rfl, T1, by omega, by rw [l2]; decide, by rw [l2]; decide, fun q H2 q0 q1 T2 s2 => ?_⟩
      rw [l2] at q1
      obtain ⟨j, rfl⟩ : ∃ j : Nat, q = (j : Int) := ⟨q.toNat, by omega⟩
      obtain ⟨d, hd, kd⟩ := sign_at (z := signs2) (i := j) l1 (by decide +kernel) (by omega)
      exact ⟨signs2, _, _, rfl, rfl, le_line (by rw [l2]; decide), atI_nat hd, k _ H2 (one kd) T2 (s1.trans s2)⟩
/-! ### _law_sign_spoilt -/
def spSpo2 : Sp := fun vs H Q _ => ∃ (a g : Addr) (n b : Nat) (t : Str), vs = [.ref a, .str t] ∧ Tray H a g n ∧ n ≤ 800000 ∧ Tq b t ∧ b ≤ 1000000 ∧ ∀ (z : Str) H', Tq (2 * b + 22) z → Tray H' a g (n + 10) → Same (ct a g H) (ct a g H') → Q (.str z) H'
abbrev N_l_sign_spoilt : List Str := ["tray", "text", "lot", "at", "sign"]
theorem sc_l_sign_spoilt : FnScope N_l_sign_spoilt ["tray", "text"] (defScope s_l_sign_spoilt) := ⟨rfl, rfl, rfl, by decide +kernel, rfl, by decide +kernel, by decide +kernel⟩
/-! slots: 0 tray 1 text 2 lot 3 at 4 sign; cells:  -/
theorem ok_signS {fD fS : Addr} {fdD fdS : FuncData} (F : FnP K "_law_sign_spoilt" "_law_sign_spoilt" s_l_sign_spoilt f fd) (c_draw : Fun P w K mg base "_law_draw" 1 ["tray", "many"] spDraw fD fdD) (c_sign : Fun P w K mg base "_law_sign" 2 ["tray"] spSign fS fdS) (z_len : mg "len" = none) (z_int : mg "int" = none) : FnOk P w K mg base CX0 3 f fd ["tray", "text"] spSpo2 := by
  refine F.ok sc_l_sign_spoilt (fun vs H Q E h => ?_) (fun cdv A outer s H vs Q E hr h => ?_)
  · obtain ⟨a, g, n, b, t, rfl, _⟩ := h
    rfl
  · obtain ⟨a, g, n, b, t, rfl, hT, hn, ht, hb, k⟩ := h
    have nd := sc_l_sign_spoilt.nd
    have tl := ht.le
    refine ⟨_, PSs.nox (pss_cons (ps_set (i := 2) nd rfl (Or.inl rfl) (pe_call c_draw.G (hr.mono (by decide)) rfl c_draw.g c_draw.k c_draw.b .nil pass0 (pa_cons (pv 0) (pa_cons pe_int pa_nil))))
      (pss_cons (ps_set (i := 3) nd rfl (Or.inl rfl) (pe_call c_draw.G (hr.mono (by decide)) rfl c_draw.g c_draw.k c_draw.b .nil pass0 (pa_cons (pv 0) (pa_cons (pe_op op_add (pe_callB call_len_str (by rfl) z_len boot_len (pa_cons (pv 1) pa_nil)) pe_int) pa_nil))))
      (pss_cons (ps_set (i := 4) nd rfl (Or.inl rfl) (pe_ix ix_list (pe_lst (pa_cons pe_str (pa_cons (pe_call c_sign.G (hr.mono (by decide)) rfl c_sign.g c_sign.k c_sign.b .nil pass0 (pa_cons (pv 0) pa_nil)) pa_nil))) (pe_callTy call_int1 (by rfl) z_int (by decide +kernel) (pa_cons (pe_cmpR op_gt (pv 2) pe_int (nomark _)) pa_nil)) (fun _ _ => rfl)))
      (pss_one (ps_ret (pe_op op_add_str (pe_op op_add_str (pe_slice sl_str (pv 1) po_none (po_some (pv 3))) (pv 4)) (pe_slice sl_str (pv 1) (po_some (pe_op op_add (pv 3) (pe_callTy call_int1 (by rfl) z_int (by decide +kernel) (pa_cons (pe_cmpR op_lt (pv 2) pe_int (nomark _)) pa_nil)))) po_none))))))), ?_⟩
    refine ⟨_, rfl, a, g, n, _, rfl, hT, by omega, by decide, by decide, fun lot H1 l0 l1 T1 s1 => ?_⟩
    refine set_st (σ' := [some (.ref a), some (.str t), some (.int lot), none, none]) rfl ?_
    refine ⟨_, rfl, _, rfl, _, rfl, le_big2 (by omega), _, _, rfl, rfl, a, g, n + 1, _, rfl, T1, by omega, by omega, by omega, fun at_ H2 a0 a1 T2 s2 => ?_⟩
    obtain ⟨j, rfl⟩ : ∃ j : Nat, at_ = (j : Int) := ⟨at_.toNat, by omega⟩
    refine set_st (σ' := [some (.ref a), some (.str t), some (.int lot), some (.int (j : Int)), none]) rfl ?_
    refine ⟨_, rfl, a, g, n + 1 + 1, rfl, T2, by omega, fun sg H3 hsg T3 s3 => ?_⟩
    refine ⟨by show 2 ≤ sizeLine; decide, fun p np => ?_⟩
    generalize e4 : upd H3 p _ = H4
    have N4 := newAt T3 np e4
    refine ⟨_, rfl, _, _, rfl, rfl, .inr ⟨_, rfl, ?_⟩⟩
    obtain ⟨sn, hsn, hat⟩ : ∃ sn, Tq 1 sn ∧ atI [V.str "", V.str sg] (if decide (0 < lot) = true then 1 else 0) = some (.str sn) := by
      by_cases c : 0 < lot
      · exact ⟨sg, hsg, by rw [decide_eq_true c]; rfl⟩
      · exact ⟨"", ⟨by decide +kernel, by decide +kernel⟩, by rw [decide_eq_false c]; rfl⟩
    refine ⟨p, _, _, _, rfl, rfl, SqL.of N4.f, hat, ?_⟩
    refine set_st (σ' := [some (.ref a), some (.str t), some (.int lot), some (.int (j : Int)), some (.str sn)]) rfl ?_
    refine ⟨_, rfl, _, rfl, _, rfl, t, rfl, le_big2 (by omega), _, rfl, _, _, rfl, rfl, ?_, ?_⟩
    · have := cutS_length t none (some (j : Int))
      have := hsn.le
      exact le_big2 (by omega)
    refine ⟨_, rfl, _, rfl, _, rfl, _, _, rfl, rfl, .inr ⟨_, rfl, _, _, rfl, rfl, _, rfl, t, rfl, le_big2 (by omega), ?_⟩⟩
    obtain ⟨jj, hjj, hj2⟩ : ∃ jj : Nat, j ≤ jj ∧ (j : Int) + (if decide (lot < 2) = true then 1 else 0) = (jj : Int) := by
      by_cases c : lot < 2
      · exact ⟨j + 1, by omega, by rw [decide_eq_true c]; rfl⟩
      · exact ⟨j, by omega, by rw [decide_eq_false c]; simp⟩
    rw [hj2]
    have hc := cut2 t j jj hjj
    have c1 := ht.cut none (some (j : Int))
    have c2 := ht.cut (some (jj : Int)) none
    have hs1 := hsn.le
    refine ⟨_, _, rfl, rfl, ?_, k _ H4 ?_ (N4.T.mono (by omega)) (((s1.trans s2).trans s3).trans N4.c)⟩
    · rw [len_append]
      exact le_big2 (by omega)
    · exact ⟨by rw [len_append, len_append]; omega, ((c1.app hsn).app c2).ok⟩
/-! ### _law_joint_spoilt -/
abbrev N_l_joint_spoilt : List Str := ["tray", "text", "joint", "parts", "at", "some", "other"]
theorem sc_l_joint_spoilt : FnScope N_l_joint_spoilt ["tray", "text"] (defScope s_l_joint_spoilt) := ⟨rfl, rfl, rfl, by decide +kernel, rfl, by decide +kernel, by decide +kernel⟩
/-! slots: 0 tray 1 text 2 joint 3 parts 4 at 5 some 6 other; cells:  -/
theorem ok_jointS {fD : Addr} {fdD : FuncData} (F : FnP K "_law_joint_spoilt" "_law_joint_spoilt" s_l_joint_spoilt f fd) (c_draw : Fun P w K mg base "_law_draw" 1 ["tray", "many"] spDraw fD fdD) (z_len : mg "len" = none) : FnOk P w K mg base CX0 2 f fd ["tray", "text"] spSpo2 := by
  refine F.ok sc_l_joint_spoilt (fun vs H Q E h => ?_) (fun cdv A outer s H vs Q E hr h => ?_)
  · obtain ⟨a, g, n, b, t, rfl, _⟩ := h
    rfl
  · obtain ⟨a, g, n, b, t, rfl, hT, hn, ht, hb, k⟩ := h
    have nd := sc_l_joint_spoilt.nd
    have tl := ht.le
    refine ⟨_, PSs.nox (pss_cons (ps_set (i := 2) nd rfl (Or.inl rfl) (pe_ix ix_list (pe_lst (pa_cons pe_str (pa_cons pe_str (pa_cons pe_str (pa_cons pe_str (pa_cons pe_str (pa_cons pe_str (pa_cons pe_str (pa_cons pe_str (pa_cons pe_str (pa_cons pe_str pa_nil))))))))))) (pe_call c_draw.G (hr.mono (by decide)) rfl c_draw.g c_draw.k c_draw.b .nil pass0 (pa_cons (pv 0) (pa_cons pe_int pa_nil))) (fun _ _ => rfl)))
      (pss_cons (ps_set (i := 3) nd rfl (Or.inl rfl) (pe_split (pv 1) (pv 2)))
      (pss_cons (ps_if (pt_cmpR op_eq (pe_callB call_len_seq (by rfl) z_len boot_len (pa_cons (pv 3) pa_nil)) pe_int (nomark _))
        (pss_one (ps_ret (pv 1)))
        pss_nil)
      (pss_cons (ps_set (i := 4) nd rfl (Or.inl rfl) (pe_op op_add pe_int (pe_call c_draw.G (hr.mono (by decide)) rfl c_draw.g c_draw.k c_draw.b .nil pass0 (pa_cons (pv 0) (pa_cons (pe_op op_sub (pe_callB call_len_seq (by rfl) z_len boot_len (pa_cons (pv 3) pa_nil)) pe_int) pa_nil)))))
      (pss_cons (ps_set (i := 5) nd rfl (Or.inl rfl) (pe_lst (pa_cons (pe_op op_add_str (pv 2) pe_str) (pa_cons (pe_op op_add_str pe_str (pv 2)) (pa_cons (pe_m0 PySem.F.slot_str_strip PySem.F.type_str_strip mt_strip (pv 2)) (pa_cons (pe_op op_add_str (pv 2) (pv 2)) pa_nil))))))
      (pss_cons (ps_set (i := 6) nd rfl (Or.inl rfl) (pe_ix ix_list (pe_op op_cat (pv 5) (pe_lst (pa_cons (pe_op op_add_str (pv 2) pe_str) (pa_cons (pe_op op_add_str (pe_m0 PySem.F.slot_str_rstrip PySem.F.type_str_rstrip mt_rstrip (pv 2)) pe_str) (pa_cons pe_str (pa_cons pe_str pa_nil)))))) (pe_call c_draw.G (hr.mono (by decide)) rfl c_draw.g c_draw.k c_draw.b .nil pass0 (pa_cons (pv 0) (pa_cons pe_int pa_nil))) (fun _ _ => rfl)))
      (pss_one (ps_ret (pe_op op_add_str (pe_op op_add_str (pe_join (pv 2) (pe_slice sl_list (pv 3) po_none (po_some (pv 4)))) (pv 6)) (pe_join (pv 2) (pe_slice sl_list (pv 3) (po_some (pv 4)) po_none))))))))))), ?_⟩
    refine ⟨by show 10 ≤ sizeLine; decide, fun p np => ?_⟩
    generalize e1 : upd H p _ = H1
    have N1 : NewAt H H1 p (.lst (joints.map V.str)) a g n := newAt hT np e1
    refine ⟨_, rfl, a, g, n, _, rfl, N1.T, by omega, by decide, by decide, fun r H2 r0 r1 T2 s2 => ?_⟩
    obtain ⟨i, rfl⟩ : ∃ j : Nat, r = (j : Int) := ⟨r.toNat, by omega⟩
    obtain ⟨j, hj, J⟩ := joint_at (i := i) (by omega)
    obtain ⟨jl0, jl1⟩ := J.len
    have jl := J.q.le
    refine ⟨p, _, _, _, rfl, rfl, SqL.of (ctkeep s2 N1.f N1.na N1.ng), atI_nat hj, ?_⟩
    refine set_st (σ' := [some (.ref a), some (.str t), some (.str j), none, none, none, none]) rfl ?_
    refine ⟨_, rfl, ⟨_, rfl⟩, _, rfl, _, _, rfl, rfl, jl0, le_big2 (by omega), fun ps nps => ?_⟩
    have hne := split_ne (x := t) J.ne J.kd
    have hw := split_wt hne
    have hmany := split_many (x := t) jl1
    have hpo : ∀ q ∈ Txt.split t j, ∀ c ∈ TL.tl q, c < 128 := fun q hq => part_ok ht hq
    generalize e3 : upd H2 ps _ = H3
    have N3 := newAt T2 nps e3
    generalize Txt.split t j = parts at hne hw hmany hpo N3 ⊢
    refine set_st (σ' := [some (.ref a), some (.str t), some (.str j), some (.ref ps), none, none, none]) rfl ?_
    have s03 := (N1.c.trans s2).trans N3.c
    refine ⟨_, rfl, ps, _, rfl, .inl (SqL.of N3.f), rfl, _, rfl, ?_⟩
    by_cases c1 : parts.length = 1
    · refine iteT0 (decide_eq_true (by rw [List.length_map, c1]; rfl)) ?_
      exact ⟨_, rfl, k t H3 (ht.mono (by omega)) (N3.T.mono (by omega)) s03⟩
    refine iteF0 (fun z => c1 (by
      have z := V.int.inj (of_decide_eq_true z)
      rw [List.length_map] at z
      omega)) ?_
    have c2 : 2 ≤ parts.length := by
      have : 0 < parts.length := List.length_pos_iff.mpr hne
      omega
    refine ⟨_, rfl, _, rfl, ps, _, rfl, .inl (SqL.of N3.f), _, _, rfl, rfl, a, g, n + 1, _, rfl, N3.T, by omega, by rw [List.length_map]; omega, by rw [List.length_map]; omega, fun q H4 q0 q1 T4 s4 => ⟨_, _, rfl, rfl, ?_⟩⟩
    rw [List.length_map] at q1
    obtain ⟨at_, hat⟩ : ∃ m : Nat, 1 + q = (m : Int) := ⟨(1 + q).toNat, by omega⟩
    refine set_st (σ' := [some (.ref a), some (.str t), some (.str j), some (.ref ps), some (.int (at_ : Int)), none, none]) (by rw [← hat]; rfl) ?_
    have f4 : H4 ps = _ := ctkeep s4 N3.f N3.na N3.ng
    have lb : (" " : Str).length = 1 := by decide +kernel
    have ld : ("-" : Str).length = 1 := by decide +kernel
    have l3 : (" - " : Str).length = 3 := by decide +kernel
    have tb : Tq 1 (" " : Str) := tqB_ok (by decide +kernel)
    have td : Tq 1 ("-" : Str) := tqB_ok (by decide +kernel)
    have t3 : Tq 3 (" - " : Str) := tqB_ok (by decide +kernel)
    have t0 : Tq 0 ("" : Str) := tqB_ok (by decide +kernel)
    have jst := J.st.le
    have jrs := J.rs.le
    refine ⟨_, rfl, _, _, rfl, rfl, le_line (by omega), _, rfl, _, _, rfl, rfl, le_line (by omega), _, rfl, ⟨_, rfl⟩, j, rfl, rfl, le_line (by omega), _, rfl, _, rfl, _, _, rfl, rfl, le_line (by omega), by show 4 ≤ sizeLine; decide, fun p5 np5 => ?_⟩
    generalize e5 : upd H4 p5 _ = H5
    have N5 := newAt T4 np5 e5
    refine set_st (σ' := [some (.ref a), some (.str t), some (.str j), some (.ref ps), some (.int (at_ : Int)), some (.ref p5), none]) rfl ?_
    refine ⟨_, rfl, _, rfl, _, _, rfl, rfl, le_line (by omega), _, rfl, ⟨_, rfl⟩, j, rfl, rfl, le_line (by omega), _, _, rfl, rfl, le_line (by omega), by show 4 ≤ sizeLine; decide, fun p6 np6 => ?_⟩
    generalize e6 : upd H5 p6 _ = H6
    have N6 := newAt N5.T np6 e6
    refine ⟨p5, p6, _, _, rfl, rfl, N6.s _ _ N5.f, N6.f, by show 8 ≤ sizeLine; decide, fun p7 np7 => ?_⟩
    generalize e7 : upd H6 p7 _ = H7
    have N7 := newAt N6.T np7 e7
    refine ⟨_, rfl, a, g, _, _, rfl, N7.T, by omega, by decide, by decide, fun u H8 u0 u1 T8 s8 => ?_⟩
    obtain ⟨m, rfl⟩ : ∃ j : Nat, u = (j : Int) := ⟨u.toNat, by omega⟩
    obtain ⟨ot, hot, hto⟩ : ∃ ot, ([V.str (j ++ (" " : Str)), V.str ((" " : Str) ++ j), V.str (Txt.strip j), V.str (j ++ j)] ++ [V.str (j ++ ("-" : Str)), V.str (Txt.rstrip j ++ (" - " : Str)), V.str ("-" : Str), V.str ("" : Str)])[m]? = some (.str ot) ∧ Tq 14 ot := by
      have hm : m < 8 := by omega
      match m, hm with
      | 0, _ => exact ⟨_, rfl, (J.q.app tb).mono (by omega)⟩
      | 1, _ => exact ⟨_, rfl, (tb.app J.q).mono (by omega)⟩
      | 2, _ => exact ⟨_, rfl, J.st.mono (by omega)⟩
      | 3, _ => exact ⟨_, rfl, J.q.app J.q⟩
      | 4, _ => exact ⟨_, rfl, (J.q.app td).mono (by omega)⟩
      | 5, _ => exact ⟨_, rfl, (J.rs.app t3).mono (by omega)⟩
      | 6, _ => exact ⟨_, rfl, td.mono (by omega)⟩
      | 7, _ => exact ⟨_, rfl, t0.mono (by omega)⟩
    refine ⟨p7, _, _, _, rfl, rfl, SqL.of (ctkeep s8 N7.f N7.na N7.ng), atI_nat hot, ?_⟩
    refine set_st (σ' := [some (.ref a), some (.str t), some (.str j), some (.ref ps), some (.int (at_ : Int)), some (.ref p5), some (.str ot)]) rfl ?_
    have c48 : Same (ct a g H4) (ct a g H8) := ((N5.c.trans N6.c).trans N7.c).trans s8
    have f8 : H8 ps = some (.lst (parts.map V.str)) := ctkeep c48 f4 N3.na N3.ng
    refine ⟨_, rfl, ⟨_, rfl⟩, _, rfl, _, rfl, _, rfl, ps, _, rfl, SqL.of f8, fun p9 np9 => ?_⟩
    have ec : cutV (parts.map V.str) none (some (at_ : Int)) = (parts.take at_).map V.str := by rw [cutTo, List.map_take]
    rw [ec]
    generalize e9 : upd H8 p9 _ = H9
    have N9 := newAt T8 np9 e9
    have w2 := wt_take j.length parts at_
    refine ⟨_, p9, parts.take at_, rfl, rfl, .inl (SqL.of N9.f), fit_wt (by omega), ?_⟩
    have w3 := join_wt j (parts.take at_)
    have w4 := join_wt j (parts.drop at_)
    have h14 := hto.le
    refine ⟨_, rfl, _, _, rfl, rfl, le_big2 (by omega), ?_⟩
    refine ⟨_, rfl, ⟨_, rfl⟩, _, rfl, _, rfl, _, rfl, ps, _, rfl, SqL.of (N9.s _ _ f8), fun p10 np10 => ?_⟩
    have ec2 : cutV (parts.map V.str) (some (at_ : Int)) none = (parts.drop at_).map V.str := by rw [cutFrom, List.map_drop]
    rw [ec2]
    generalize e10 : upd H9 p10 _ = H10
    have N10 := newAt N9.T np10 e10
    refine ⟨_, p10, parts.drop at_, rfl, rfl, .inl (SqL.of N10.f), fit_wt (by omega), ?_⟩
    refine ⟨_, _, rfl, rfl, by rw [len_append]; exact le_big2 (by omega), ?_⟩
    refine k _ H10 ⟨by rw [len_append, len_append]; omega, fun c hc => ?_⟩ (N10.T.mono (by omega)) ((((s03.trans s4).trans c48).trans N9.c).trans N10.c)
    rw [TL.tl_append, TL.tl_append] at hc
    rcases List.mem_append.mp hc with hc | hc
    · rcases List.mem_append.mp hc with hc | hc
      · exact join_ok J.q.ok (fun q hq => hpo q (List.mem_of_mem_take hq)) c hc
      · exact hto.ok c hc
    · exact join_ok J.q.ok (fun q hq => hpo q (List.mem_of_mem_drop hq)) c hc
end
end Kd

namespace Kd
open PySem PySem.Spec PyProof.Rows L2
theorem six_natA {n j : Nat} (h : j < n) : seqIndex? (j : Int) n = some j := by
  unfold seqIndex?
  have h0 : ¬ (j : Int) < 0 := by omega
  simp [h, h0]
theorem ixN_natA {n j : Nat} (h : j < n) : ixN n (j : Int) = some j := by
  unfold ixN
  rw [if_pos (by omega), if_pos (by omega)]
  simp
theorem map_erase {α β : Type} (f : α → β) : ∀ (xs : List α) (i : Nat), (xs.map f).eraseIdx i = (xs.eraseIdx i).map f
  | [], i => by simp
  | x :: xs, 0 => rfl
  | x :: xs, i + 1 => by
    rw [List.map_cons, List.eraseIdx_cons_succ, List.eraseIdx_cons_succ, map_erase f xs i]
    rfl
theorem set_ok {ps : List Str} {q : Str} {i : Nat} (h : ∀ p ∈ ps, ∀ c ∈ TL.tl p, c < 128) (hq : ∀ c ∈ TL.tl q, c < 128) : ∀ p ∈ ps.set i q, ∀ c ∈ TL.tl p, c < 128 := fun p hp => by
  rcases List.mem_or_eq_of_mem_set hp with hp | rfl
  · exact h p hp
  · exact hq
theorem wt_set_eq (n : Nat) (q : Str) : ∀ (ps : List Str) (i : Nat) (h : i < ps.length), wt n (ps.set i q) + (ps[i]).length = wt n ps + q.length
  | p :: ps, 0, _ => by
    rw [List.set_cons_zero, wt_cons, wt_cons]
    show _ + p.length = _
    omega
  | p :: ps, i + 1, h => by
    rw [List.set_cons_succ, wt_cons, wt_cons]
    have := wt_set_eq n q ps i (by simpa using h)
    show _ + (ps[i]'(by simpa using h)).length = _
    omega
section
variable {P : Program} {w : World} {K : PySem.W.Frag} {mg : Str → Option Value} {base : Heap} {f : Addr} {fd : FuncData}
/-! ### _law_words_spoilt -/
def spSpo3 (K : PySem.W.Frag) : Sp := fun vs H Q _ => ∃ (a g so : Addr) (n b : Nat) (t : Str) (os : List Str), vs = [.ref a, .str t, .ref so] ∧ Tray H a g n ∧ n ≤ 800000 ∧ Tq b t ∧ b ≤ 1000000 ∧ SqL K (ct a g H) so (os.map V.str) ∧ 1 ≤ os.length ∧ os.length ≤ 100 ∧ (∀ z ∈ os, Tq 11 z) ∧ ∀ (z : Str) H', Tq (2 * b + 22) z → Tray H' a g (n + 12) → Same (ct a g H) (ct a g H') → Q (.str z) H'
abbrev N_l_words_spoilt : List Str := ["tray", "text", "some", "amid", "parts", "at", "other", "lot", "kept"]
theorem sc_l_words_spoilt : FnScope N_l_words_spoilt ["tray", "text", "some"] (defScope s_l_words_spoilt) := ⟨rfl, rfl, rfl, by decide +kernel, rfl, by decide +kernel, by decide +kernel⟩
/-! slots: 0 tray 1 text 2 some 3 amid 4 parts 5 at 6 other 7 lot 8 kept; cells:  -/
set_option maxHeartbeats 0 in
theorem ok_wordsS {fD : Addr} {fdD : FuncData} (F : FnP K "_law_words_spoilt" "_law_words_spoilt" s_l_words_spoilt f fd) (c_draw : Fun P w K mg base "_law_draw" 1 ["tray", "many"] spDraw fD fdD) (z_len : mg "len" = none) : FnOk P w K mg base CX0 2 f fd ["tray", "text", "some"] (spSpo3 K) := by
  refine F.ok sc_l_words_spoilt (fun vs H Q E h => ?_) (fun cdv A outer s H vs Q E hr h => ?_)
  · obtain ⟨a, g, so, n, b, t, os, rfl, _⟩ := h
    rfl
  · obtain ⟨a, g, so, n, b, t, os, rfl, hT, hn, ht, hb, hso, o1, o100, hos, k⟩ := h
    have nd := sc_l_words_spoilt.nd
    have tl := ht.le
    refine ⟨_, PSs.nox (pss_cons (ps_set (i := 3) nd rfl (Or.inl rfl) (pe_ix ix_list (pe_lst (pa_cons pe_str (pa_cons pe_str (pa_cons pe_str (pa_cons pe_str pa_nil))))) (pe_call c_draw.G (hr.mono (by decide)) rfl c_draw.g c_draw.k c_draw.b .nil pass0 (pa_cons (pv 0) (pa_cons pe_int pa_nil))) (fun _ _ => rfl)))
      (pss_cons (ps_set (i := 4) nd rfl (Or.inl rfl) (pe_split (pv 1) (pv 3)))
      (pss_cons (ps_set (i := 5) nd rfl (Or.inl rfl) (pe_call c_draw.G (hr.mono (by decide)) rfl c_draw.g c_draw.k c_draw.b .nil pass0 (pa_cons (pv 0) (pa_cons (pe_callB call_len_seq (by rfl) z_len boot_len (pa_cons (pv 4) pa_nil)) pa_nil))))
      (pss_cons (ps_set (i := 6) nd rfl (Or.inl rfl) (pe_call c_draw.G (hr.mono (by decide)) rfl c_draw.g c_draw.k c_draw.b .nil pass0 (pa_cons (pv 0) (pa_cons (pe_callB call_len_seq (by rfl) z_len boot_len (pa_cons (pv 4) pa_nil)) pa_nil))))
      (pss_cons (ps_set (i := 7) nd rfl (Or.inl rfl) (pe_call c_draw.G (hr.mono (by decide)) rfl c_draw.g c_draw.k c_draw.b .nil pass0 (pa_cons (pv 0) (pa_cons pe_int pa_nil))))
      (pss_cons (ps_if (pt_cmpR op_eq (pv 7) pe_int (nomark _))
        (pss_one (ps_expr (pe_bm PySem.F.plainAttrs_list PySem.F.slot_list_pop PySem.F.type_list_pop mt_popAt (pv 4) (pa_cons (pv 5) pa_nil))))
        (pss_one (ps_if (pt_cmpR op_eq (pv 7) pe_int (nomark _))
          (pss_one (ps_expr (pe_bm PySem.F.plainAttrs_list PySem.F.slot_list_insert PySem.F.type_list_insert mt_insert (pv 4) (pa_cons (pv 6) (pa_cons (pe_ix ix_list (pv 4) (pv 5) (fun _ _ => rfl)) pa_nil)))))
          (pss_one (ps_if (pt_cmpR op_eq (pv 7) pe_int (nomark _))
            (pss_cons (ps_set (i := 8) nd rfl (Or.inl rfl) (pe_ix ix_list (pv 4) (pv 5) (fun _ _ => rfl)))
            (pss_cons (ps_asg (pe_ix ix_list (pv 4) (pv 6) (fun _ _ => rfl)) (pg_sub (pv 4) (pv 5) set_list))
            (pss_one (ps_asg (pv 8) (pg_sub (pv 4) (pv 6) set_list)))))
            (pss_one (ps_asg (pe_ix ix_list (pv 2) (pe_call c_draw.G (hr.mono (by decide)) rfl c_draw.g c_draw.k c_draw.b .nil pass0 (pa_cons (pv 0) (pa_cons (pe_callB call_len_seq (by rfl) z_len boot_len (pa_cons (pv 2) pa_nil)) pa_nil))) (fun _ _ => rfl)) (pg_sub (pv 4) (pv 5) set_list))))))))
      (pss_one (ps_ret (pe_join (pv 3) (pv 4)))))))))), ?_⟩
    refine ⟨by show 4 ≤ sizeLine; decide, fun p np => ?_⟩
    generalize e1 : upd H p _ = H1
    have N1 : NewAt H H1 p (.lst (amids.map V.str)) a g n := newAt hT np e1
    refine ⟨_, rfl, a, g, n, _, rfl, N1.T, by omega, by decide, by decide, fun r H2 r0 r1 T2 s2 => ?_⟩
    obtain ⟨i, rfl⟩ : ∃ j : Nat, r = (j : Int) := ⟨r.toNat, by omega⟩
    obtain ⟨y, hy, J⟩ := amid_at (i := i) (by omega)
    obtain ⟨jl0, jl1⟩ := J.len
    have jl := J.q.le
    refine ⟨p, _, _, _, rfl, rfl, SqL.of (ctkeep s2 N1.f N1.na N1.ng), atI_nat hy, ?_⟩
    refine set_st (σ' := [some (.ref a), some (.str t), some (.ref so), some (.str y), none, none, none, none, none]) rfl ?_
    refine ⟨_, rfl, ⟨_, rfl⟩, _, rfl, _, _, rfl, rfl, jl0, le_big2 (by omega), fun ps nps => ?_⟩
    have hne := split_ne (x := t) J.ne J.kd
    have hw := split_wt hne
    have hmany := split_many (x := t) jl1
    have hpo : ∀ q ∈ Txt.split t y, ∀ c ∈ TL.tl q, c < 128 := fun q hq => part_ok ht hq
    generalize e3 : upd H2 ps _ = H3
    have N3 := newAt T2 nps e3
    generalize Txt.split t y = parts at hne hw hmany hpo N3 ⊢
    have hl0 : 0 < parts.length := List.length_pos_iff.mpr hne
    refine set_st (σ' := [some (.ref a), some (.str t), some (.ref so), some (.str y), some (.ref ps), none, none, none, none]) rfl ?_
    have s02 : Same (ct a g H) (ct a g H2) := N1.c.trans s2
    have nps0 : ct a g H ps = none := ct_back s02 (ct_none nps)
    refine ⟨_, rfl, _, rfl, ps, _, rfl, .inl (SqL.of N3.f), a, g, n + 1, _, rfl, N3.T, by omega, by rw [List.length_map]; omega, by rw [List.length_map]; omega, fun at_ H4 a0 a1 T4 s4 => ?_⟩
    rw [List.length_map] at a1
    obtain ⟨i, rfl⟩ : ∃ j : Nat, at_ = (j : Int) := ⟨at_.toNat, by omega⟩
    have hi : i < parts.length := by omega
    refine set_st (σ' := [some (.ref a), some (.str t), some (.ref so), some (.str y), some (.ref ps), some (.int (i : Int)), none, none, none]) rfl ?_
    have f4 : H4 ps = some (.lst (parts.map V.str)) := ctkeep s4 N3.f N3.na N3.ng
    refine ⟨_, rfl, _, rfl, ps, _, rfl, .inl (SqL.of f4), a, g, n + 1 + 1, _, rfl, T4, by omega, by rw [List.length_map]; omega, by rw [List.length_map]; omega, fun ot H5 o0 o1' T5 s5 => ?_⟩
    rw [List.length_map] at o1'
    obtain ⟨j, rfl⟩ : ∃ j : Nat, ot = (j : Int) := ⟨ot.toNat, by omega⟩
    have hj : j < parts.length := by omega
    refine set_st (σ' := [some (.ref a), some (.str t), some (.ref so), some (.str y), some (.ref ps), some (.int (i : Int)), some (.int (j : Int)), none, none]) rfl ?_
    have f5 : H5 ps = some (.lst (parts.map V.str)) := ctkeep s5 f4 N3.na N3.ng
    refine ⟨_, rfl, a, g, n + 1 + 1 + 1, _, rfl, T5, by omega, by decide, by decide, fun lot H6 l0 l1 T6 s6 => ?_⟩
    refine set_st (σ' := [some (.ref a), some (.str t), some (.ref so), some (.str y), some (.ref ps), some (.int (i : Int)), some (.int (j : Int)), some (.int lot), none]) rfl ?_
    have f6 : H6 ps = some (.lst (parts.map V.str)) := ctkeep s6 f5 N3.na N3.ng
    have s06 : Same (ct a g H) (ct a g H6) := (((s02.trans N3.c).trans s4).trans s5).trans s6
    have vi : (parts.map V.str)[i]? = some (.str parts[i]) := by rw [List.getElem?_map, List.getElem?_eq_getElem hi]; rfl
    have vj : (parts.map V.str)[j]? = some (.str parts[j]) := by rw [List.getElem?_map, List.getElem?_eq_getElem hj]; rfl
    have wi := wt_mem (n := y.length) (List.getElem_mem hi)
    have wj := wt_mem (n := y.length) (List.getElem_mem hj)
    -- the end, whatever became of the parts
    have fin : ∀ {H9 : Hp} {qs : List Str} {m : Nat} {x8 : Option V}, H9 ps = some (.lst (qs.map V.str)) → wt y.length qs ≤ 2 * b + 22 → (∀ q ∈ qs, ∀ c ∈ TL.tl q, c < 128) → Tray H9 a g m → m ≤ n + 12 → Same (ct a g H) (ct a g H9) →
        tRet (tM1 (fun x xs H Q => ∃ a p, ∃ ys : List Str, x = .str a ∧ xs = [.ref p] ∧ (SqL K H p (ys.map V.str) ∨ SqT K H p (ys.map V.str)) ∧ (ys.map (·.length)).sum + ys.length * a.length ≤ 16777216 ∧ Q (.str (Txt.join a ys)) H) (tVar 3) (tVar 4)) { nx := fun x H' => Q V.non H', rt := Q } [some (.ref a), some (.str t), some (.ref so), some (.str y), some (.ref ps), some (.int (i : Int)), some (.int (j : Int)), some (.int lot), x8] H9 := fun {H9 qs m x8} f9 w9 o9 T9 m9 s9 => by
      refine ⟨_, rfl, ⟨_, rfl⟩, _, rfl, _, ps, qs, rfl, rfl, .inl (SqL.of f9), fit_wt (by omega), ?_⟩
      have := join_wt y qs
      exact k _ H9 ⟨by omega, join_ok J.q.ok o9⟩ (T9.mono m9) s9
    have st : ∀ {H9 : Hp} {o : HO}, Same (ct a g H) (ct a g H9) → Same (ct a g H) (ct a g (upd H9 ps o)) := fun {H9 o} s9 => by
      rw [ct_upd N3.na N3.ng]
      exact Same.upd s9 nps0
    have tu : ∀ {H9 : Hp} {o : HO} {m : Nat}, Tray H9 a g m → Tray (upd H9 ps o) a g m := fun {H9 o m} T9 => T9.updo N3.na N3.ng
    refine ⟨_, rfl, rfl, _, rfl, ite2 (fun c => ?_) (fun c => ?_)⟩
    · -- pop
      refine ⟨_, rfl, .inl ⟨rfl, _, SqL.of f6⟩, _, rfl, ps, _, _, i, _, rfl, rfl, f6, by omega, by omega, six_natA (by rw [List.length_map]; exact hi), vi, ?_⟩
      exact fin (qs := parts.eraseIdx i) (by rw [upd_same, map_erase]) (Nat.le_trans (wt_erase _ _ _) (by omega)) (fun q hq => hpo q (List.mem_of_mem_eraseIdx hq)) (tu T6) (by omega) (st s06)
    refine ⟨_, rfl, rfl, _, rfl, ite2 (fun c2 => ?_) (fun c2 => ?_)⟩
    · -- insert
      refine ⟨_, rfl, .inl ⟨rfl, _, SqL.of f6⟩, _, rfl, _, rfl, _, rfl, ps, _, _, _, rfl, rfl, SqL.of f6, atI_nat vi, ps, _, _, _, rfl, rfl, f6, ?_, by omega, by omega, ?_⟩
      · rw [List.length_map]
        exact Nat.lt_of_le_of_lt (show parts.length ≤ 1000001 by omega) (by decide)
      · refine fin (qs := parts.take j ++ [parts[i]] ++ parts.drop j) ?_ ?_ ?_ (tu T6) (by omega) (st s06)
        · rw [upd_same, Int.toNat_natCast, List.map_append, List.map_append, List.map_take, List.map_drop]
          rfl
        · have w2 := wt_take y.length parts j
          rw [wt_app, wt_app]
          have : wt y.length [parts[i]] = parts[i].length + y.length := by rw [wt_cons]; show _ + 0 = _; simp [wt]
          omega
        · intro q hq
          rcases List.mem_append.mp hq with hq | hq
          · rcases List.mem_append.mp hq with hq | hq
            · exact hpo q (List.mem_of_mem_take hq)
            · rw [List.mem_singleton.mp hq]
              exact hpo _ (List.getElem_mem hi)
          · exact hpo q (List.mem_of_mem_drop hq)
    refine ⟨_, rfl, rfl, _, rfl, ite2 (fun c3 => ?_) (fun c3 => ?_)⟩
    · -- two turned about
      refine ⟨_, rfl, _, rfl, ps, _, _, _, rfl, rfl, SqL.of f6, atI_nat vi, ?_⟩
      refine set_st (σ' := [some (.ref a), some (.str t), some (.ref so), some (.str y), some (.ref ps), some (.int (i : Int)), some (.int (j : Int)), some (.int lot), some (.str parts[i])]) rfl ?_
      refine ⟨_, rfl, _, rfl, ps, _, _, _, rfl, rfl, SqL.of f6, atI_nat vj, ?_⟩
      refine ⟨_, rfl, _, rfl, ps, _, _, i, rfl, rfl, f6, ixN_natA (by rw [List.length_map]; exact hi), ?_⟩
      have e7 : (parts.map V.str).set i (.str parts[j]) = (parts.set i parts[j]).map V.str := (List.map_set ..).symm
      rw [e7]
      refine ⟨_, rfl, _, rfl, _, rfl, ps, _, _, j, rfl, rfl, upd_same, ixN_natA (by rw [List.length_map, List.length_set]; exact hj), ?_⟩
      have e8 : ((parts.set i parts[j]).map V.str).set j (.str parts[i]) = ((parts.set i parts[j]).set j parts[i]).map V.str := (List.map_set ..).symm
      rw [e8]
      have w1 := wt_set_eq y.length parts[i] (parts.set i parts[j]) j (by rw [List.length_set]; exact hj)
      have w2 := wt_set_eq y.length parts[j] parts i hi
      have e9 : (parts.set i parts[j])[j]'(by rw [List.length_set]; exact hj) = parts[j] := by
        rw [List.getElem_set]
        split <;> rfl
      rw [e9] at w1
      exact fin (qs := (parts.set i parts[j]).set j parts[i]) upd_same (by omega) (set_ok (set_ok hpo (hpo _ (List.getElem_mem hj))) (hpo _ (List.getElem_mem hi))) (tu (tu T6)) (by omega) (st (st s06))
    · -- another word
      have so6 := s06.seq hso
      refine ⟨_, rfl, _, rfl, _, rfl, so, _, rfl, .inl (ct_sub.seq so6), a, g, _, _, rfl, T6, by omega, by rw [List.length_map]; omega, by rw [List.length_map]; omega, fun u H7 u0 u1 T7 s7 => ?_⟩
      rw [List.length_map] at u1
      obtain ⟨m, rfl⟩ : ∃ j : Nat, u = (j : Int) := ⟨u.toNat, by omega⟩
      have hm : m < os.length := by omega
      have vm : (os.map V.str)[m]? = some (.str os[m]) := by rw [List.getElem?_map, List.getElem?_eq_getElem hm]; rfl
      have f7 : H7 ps = some (.lst (parts.map V.str)) := ctkeep s7 f6 N3.na N3.ng
      refine ⟨so, _, _, _, rfl, rfl, ct_sub.seq (s7.seq so6), atI_nat vm, ?_⟩
      refine ⟨_, rfl, _, rfl, ps, _, _, i, rfl, rfl, f7, ixN_natA (by rw [List.length_map]; exact hi), ?_⟩
      have e7 : (parts.map V.str).set i (.str os[m]) = (parts.set i os[m]).map V.str := (List.map_set ..).symm
      rw [e7]
      have w2 := wt_set y.length os[m] parts i
      have l7 := (hos _ (List.getElem_mem hm)).le
      exact fin (qs := parts.set i os[m]) upd_same (by omega) (set_ok hpo (hos _ (List.getElem_mem hm)).ok) (tu T7) (by omega) (st (s06.trans s7))
/-! ### _law_spoilt -/
def spSpo4 (K : PySem.W.Frag) : Sp := fun vs H Q _ => ∃ (a g so : Addr) (n b : Nat) (t : Str) (os : List Str), vs = [.ref a, .str t, .ref so] ∧ Tray H a g n ∧ n ≤ 700000 ∧ Tq b t ∧ b ≤ 1000000 ∧ SqL K (ct a g H) so (os.map V.str) ∧ 1 ≤ os.length ∧ os.length ≤ 100 ∧ (∀ z ∈ os, Tq 11 z) ∧ ∀ (z : Str) H', Tq (2 * b + 22) z → Tray H' a g (n + 13) → Same (ct a g H) (ct a g H') → Q (.str z) H'
abbrev N_l_spoilt : List Str := ["tray", "text", "some", "lot"]
theorem sc_l_spoilt : FnScope N_l_spoilt ["tray", "text", "some"] (defScope s_l_spoilt) := ⟨rfl, rfl, rfl, by decide +kernel, rfl, by decide +kernel, by decide +kernel⟩
/-! slots: 0 tray 1 text 2 some 3 lot; cells:  -/
theorem ok_spoS {fD fS fW fJ : Addr} {fdD fdS fdW fdJ : FuncData} (F : FnP K "_law_spoilt" "_law_spoilt" s_l_spoilt f fd) (c_draw : Fun P w K mg base "_law_draw" 1 ["tray", "many"] spDraw fD fdD) (c_sign_spoilt : Fun P w K mg base "_law_sign_spoilt" 3 ["tray", "text"] spSpo2 fS fdS) (c_words_spoilt : Fun P w K mg base "_law_words_spoilt" 2 ["tray", "text", "some"] (spSpo3 K) fW fdW) (c_joint_spoilt : Fun P w K mg base "_law_joint_spoilt" 2 ["tray", "text"] spSpo2 fJ fdJ) :
    FnOk P w K mg base CX0 4 f fd ["tray", "text", "some"] (spSpo4 K) := by
  refine F.ok sc_l_spoilt (fun vs H Q E h => ?_) (fun cdv A outer s H vs Q E hr h => ?_)
  · obtain ⟨a, g, so, n, b, t, os, rfl, _⟩ := h
    rfl
  · obtain ⟨a, g, so, n, b, t, os, rfl, hT, hn, ht, hb, hso, o1, o100, hos, k⟩ := h
    have nd := sc_l_spoilt.nd
    refine ⟨_, PSs.nox (pss_cons (ps_set (i := 3) nd rfl (Or.inl rfl) (pe_call c_draw.G (hr.mono (by decide)) rfl c_draw.g c_draw.k c_draw.b .nil pass0 (pa_cons (pv 0) (pa_cons pe_int pa_nil))))
      (pss_cons (ps_if (pt_cmpR op_eq (pv 3) pe_int (nomark _))
        (pss_one (ps_ret (pe_call c_sign_spoilt.G (hr.mono (by decide)) rfl c_sign_spoilt.g c_sign_spoilt.k c_sign_spoilt.b .nil pass0 (pa_cons (pv 0) (pa_cons (pv 1) pa_nil)))))
        pss_nil)
      (pss_cons (ps_if (pt_cmpR op_eq (pv 3) pe_int (nomark _))
        (pss_one (ps_ret (pe_call c_words_spoilt.G (hr.mono (by decide)) rfl c_words_spoilt.g c_words_spoilt.k c_words_spoilt.b .nil pass0 (pa_cons (pv 0) (pa_cons (pv 1) (pa_cons (pv 2) pa_nil))))))
        pss_nil)
      (pss_one (ps_ret (pe_call c_joint_spoilt.G (hr.mono (by decide)) rfl c_joint_spoilt.g c_joint_spoilt.k c_joint_spoilt.b .nil pass0 (pa_cons (pv 0) (pa_cons (pv 1) pa_nil)))))))), ?_⟩
    refine ⟨_, rfl, a, g, n, _, rfl, hT, by omega, by decide, by decide, fun lot H1 l0 l1 T1 s1 => ?_⟩
    refine set_st (σ' := [some (.ref a), some (.str t), some (.ref so), some (.int lot)]) rfl ?_
    refine ⟨_, rfl, rfl, _, rfl, ite2 (fun c => ?_) (fun c => ?_)⟩
    · exact ⟨_, rfl, _, rfl, a, g, n + 1, b, t, rfl, T1, by omega, ht, hb, fun z H2 hz T2 s2 => k z H2 hz (T2.mono (by omega)) (s1.trans s2)⟩
    refine ⟨_, rfl, rfl, _, rfl, ite2 (fun c2 => ?_) (fun c2 => ?_)⟩
    · exact ⟨_, rfl, _, rfl, _, rfl, a, g, so, n + 1, b, t, os, rfl, T1, by omega, ht, hb, s1.seq hso, o1, o100, hos, fun z H2 hz T2 s2 => k z H2 hz (T2.mono (by omega)) (s1.trans s2)⟩
    · exact ⟨_, rfl, _, rfl, a, g, n + 1, b, t, rfl, T1, by omega, ht, hb, fun z H2 hz T2 s2 => k z H2 hz (T2.mono (by omega)) (s1.trans s2)⟩
end
end Kd

namespace Kd
open PySem PySem.Spec PyProof.Rows L2
section
variable {P : Program} {w : World} {K : PySem.W.Frag} {mg : Str → Option Value} {base : Heap} {f : Addr} {fd : FuncData}
/-! ### Plan.__eq__ of plans of the same lists -/
def spEq (K : PySem.W.Frag) (C : Addr) (r : Bool) : Sp := fun vs H Q _ => ∃ (x y : Addr) (ds : List Dm) (ms : List Str), vs = [.ref x, .ref y] ∧ PlanAt K C H x ds ms ∧ PlanAt K C H y ds ms ∧ Good ds ms ∧ Q (.bl r) H
theorem sc_eq : FnScope ["self", "other"] ["self", "other"] (defScope s_Plan_eq) := ⟨rfl, rfl, rfl, by decide +kernel, rfl, by decide +kernel, by decide +kernel⟩
theorem sc_ne : FnScope ["self", "other"] ["self", "other"] (defScope s_Plan_ne) := ⟨rfl, rfl, rfl, by decide +kernel, rfl, by decide +kernel, by decide +kernel⟩
theorem ok_eq {C : Addr} (F : FnP K "__eq__" "Plan.__eq__" s_Plan_eq f fd) (T : PlTxt K C) (gC : mg "Plan" = some (.ref C)) (hI : ∀ (H : Hp) (x dx : Addr) (fs : List (Str × V)), H x = some (.ins C dx fs) → TyOf K H (.ref x) (.ref C)) (kC : PySem.W.kitOne K (.ref C) (.ref C) = some true) (z_isinstance : mg "isinstance" = none) : FnOk P w K mg base CX0 1 f fd ["self", "other"] (spEq K C true) := by
  refine F.ok sc_eq (fun vs H Q E h => ?_) (fun cdv A outer s H vs Q E hr h => ?_)
  · obtain ⟨x, y, ds, ms, rfl, _⟩ := h
    rfl
  · obtain ⟨x, y, ds, ms, rfl, hx, hy, hg, k⟩ := h
    have nd := sc_eq.nd
    obtain ⟨dx, xa, xb, xs, x1, x2, x3, x4⟩ := id hx.ex
    obtain ⟨dy, ya, yb, ys, y1, y2, y3, y4⟩ := id hy.ex
    refine ⟨_, PSs.nox (pss_one (ps_ret (pe_and (pe_callB call_isi (by rfl) z_isinstance (by decide +kernel) (pa_cons (pv 1) (pa_cons (pe_glob (v := .ref C) rfl gC rfl) pa_nil))) (pe_and (pe_cmpR (op_eqD hr.units) (pe_fld (pv 0) rfl) (pe_fld (pv 1) rfl) (nomark _)) (pe_one (pe_cmpR (op_eqD hr.units) (pe_fld (pv 0) rfl) (pe_fld (pv 1) rfl) (nomark _))))))), ?_⟩
    refine ⟨_, rfl, _, _, _, _, _, rfl, ClsV.own C, .base (hI _ _ _ _ y1), kC, _, rfl, iteT ?_⟩
    refine ⟨_, rfl, x, C, dx, _, _, rfl, x1, T.cl, T.nD, pl_dim xa xb, _, rfl, y, C, dy, _, _, rfl, y1, T.cl, T.nD, pl_dim ya yb, ?_⟩
    refine ⟨dimsD ds, dimsD ds, DimsAt.dp ⟨xs, SqL.of x2, x3⟩, DimsAt.dp ⟨ys, SqL.of y2, y3⟩, shaped_dims hg, shaped_dims hg, _, rfl, ?_⟩
    rw [eqv_self (shaped_dims hg)]
    refine iteT ?_
    have hsm := shaped_strs ms (fun z hz => (hg.mn z hz).low)
    refine ⟨_, rfl, x, C, dx, _, _, rfl, x1, T.cl, T.nM, pl_mea xa xb, _, rfl, y, C, dy, _, _, rfl, y1, T.cl, T.nM, pl_mea ya yb, ?_⟩
    refine ⟨.list (ms.map PyData.str), .list (ms.map PyData.str), strs_dp (SqL.of x4), strs_dp (SqL.of y4), hsm, hsm, ?_⟩
    rw [eqv_self hsm]
    exact k
/-! ### Plan.__ne__ -/
theorem ok_ne {C fE : Addr} {fdE : FuncData} (F : FnP K "__ne__" "Plan.__ne__" s_Plan_ne f fd) (GE : FnOk P w K mg base CX0 1 fE fdE ["self", "other"] (spEq K C true)) (hE : PySem.W.findIn K (.ref C) "__eq__" = some (some (.ref fE))) (kE : PySem.W.isFn K (.ref fE) = true) (bE : Binds K fdE ["self", "other"] []) : FnOk P w K mg base CX0 2 f fd ["self", "other"] (spEq K C false) := by
  refine F.ok sc_ne (fun vs H Q E h => ?_) (fun cdv A outer s H vs Q E hr h => ?_)
  · obtain ⟨x, y, ds, ms, rfl, _⟩ := h
    rfl
  · obtain ⟨x, y, ds, ms, rfl, hx, hy, hg, k⟩ := h
    have nd := sc_ne.nd
    obtain ⟨dx, xa, xb, xs, x1, x2, x3, x4⟩ := id hx.ex
    obtain ⟨dy, ya, yb, ys, y1, y2, y3, y4⟩ := id hy.ex
    refine ⟨_, PSs.nox (pss_one (ps_ret (pe_not (pe_cmpR (KdEx.op_eqOwn GE hE kE bE pass0 (hr.mono (by decide))) (pv 0) (pv 1) (nomark _))))), ?_⟩
    refine ⟨_, rfl, _, rfl, x, y, dx, dy, _, _, rfl, rfl, x1, y1, x, y, ds, ms, rfl, hx, hy, hg, _, rfl, ?_⟩
    first
      | exact ⟨_, rfl, k⟩
      | exact k
end
end Kd

namespace Kd
open PySem PySem.Spec PyProof.Rows L2 KdXc
theorem low_128 {z : Str} (h : Low z) : ∀ c ∈ TL.tl z, c < 128 := fun c hc => by
  have := h c hc
  omega
theorem wt_le {n b : Nat} {ps : List Str} (h : ∀ p ∈ ps, p.length ≤ b) : wt n ps ≤ ps.length * (b + n) := by
  have h1 := sum_le h
  unfold wt
  rw [Nat.mul_add]
  omega
theorem way6 {z : Str} (h : IsWay z) : z.length ≤ 6 := (by decide +kernel : ∀ z ∈ (["first", "last", "day", "before"] : List Str), z.length ≤ 6) z h
theorem dim_tight {ds : List Dm} {ms : List Str} (h : Good ds ms) {d : Dm} (hd : d ∈ ds) : (dimT d).length ≤ 93 := by
  have h1 := join_wt (" " : Str) (dimW d)
  unfold dimT
  refine Nat.le_trans h1 ?_
  rw [len_blank]
  unfold dimW
  rw [wt_app, wt_cons, wt_cons]
  have h0 : wt 1 ([] : List Str) = 0 := rfl
  have h3 : ("dim" : Str).length = 3 := by decide +kernel
  have h8 := (h.dn d hd).le8
  have h2 := wt_le (n := 1) (b := 15) (ps := d.2.map attT) fun p hp => by
    obtain ⟨a, ha, rfl⟩ := List.mem_map.mp hp
    obtain ⟨q1, q2⟩ := h.an d hd a ha
    have := q1.le8
    have := way6 q2
    have c1 : (":" : Str).length = 1 := by decide +kernel
    unfold attT
    rw [len_append, len_append]
    omega
  rw [List.length_map] at h2
  have := h.al d hd
  omega
theorem plan_tight {ds : List Dm} {ms : List Str} (h : Good ds ms) : (planT ds ms).length ≤ 425 := by
  have h1 := join_wt ("; " : Str) (planW ds ms)
  unfold planT
  refine Nat.le_trans h1 ?_
  rw [len_semi]
  unfold planW
  rw [wt_app]
  have h2 := wt_le (n := 2) (b := 93) (ps := ds.map dimT) fun p hp => by
    obtain ⟨d, hd, rfl⟩ := List.mem_map.mp hp
    exact dim_tight h hd
  rw [List.length_map] at h2
  have d4 := h.d4
  have h3 : wt 2 (sumT ms) ≤ 42 := by
    unfold sumT
    split
    · exact Nat.zero_le _
    · rw [wt_cons]
      have h4 := join_wt (" " : Str) (sumW ms)
      rw [len_blank] at h4
      have h5 : wt 1 (sumW ms) ≤ 40 := by
        unfold sumW
        rw [wt_app, wt_cons]
        have h0 : wt 1 ([] : List Str) = 0 := rfl
        have h3 : ("sum" : Str).length = 3 := by decide +kernel
        have h6 := wt_le (n := 1) (b := 8) (ps := ms) fun p hp => (h.mn p hp).le8
        have := h.m4
        omega
      have h7 : wt 2 ([] : List Str) = 0 := rfl
      omega
  omega
theorem plan_plain {ds : List Dm} {ms : List Str} (h : Good ds ms) : Tq 425 (planT ds ms) := by
  refine ⟨plan_tight h, ?_⟩
  unfold planT planW
  refine join_ok (by decide +kernel) fun p hp => ?_
  rcases List.mem_append.mp hp with hp | hp
  · obtain ⟨d, hd, rfl⟩ := List.mem_map.mp hp
    unfold dimT dimW
    refine join_ok (by decide +kernel) fun q hq => ?_
    rcases List.mem_append.mp hq with hq | hq
    · rcases List.mem_cons.mp hq with rfl | hq
      · decide +kernel
      · rw [List.mem_singleton.mp hq]
        exact low_128 (h.dn d hd).low
    · obtain ⟨a, ha, rfl⟩ := List.mem_map.mp hq
      obtain ⟨h1, h2⟩ := h.an d hd a ha
      intro c hc
      unfold attT at hc
      rw [TL.tl_append, TL.tl_append] at hc
      rcases List.mem_append.mp hc with hc | hc
      · rcases List.mem_append.mp hc with hc | hc
        · exact low_128 h1.low c hc
        · exact (by decide +kernel : ∀ c ∈ TL.tl (":" : Str), c < 128) c hc
      · exact low_128 h2.nm.1 c hc
  · unfold sumT at hp
    split at hp
    · cases hp
    · rw [List.mem_singleton.mp hp]
      refine join_ok (by decide +kernel) fun q hq => ?_
      unfold sumW at hq
      rcases List.mem_append.mp hq with hq | hq
      · rw [List.mem_singleton.mp hq]
        decide +kernel
      · exact low_128 (h.mn q hq).low
def odds1 : List Str := [("" : Str), ("dim" : Str), ("sum" : Str), ("dim a" : Str), ("sum a" : Str), ("a:day" : Str), ("a:first" : Str), ("b:last" : Str), ("c:before" : Str), ("a:" : Str), (":day" : Str), ("a:days" : Str)]
def odds2 : List Str := [("day" : Str), ("a" : Str), ("abcdefghi" : Str), ("A" : Str), ("a1" : Str), ("-" : Str), ("dim a a:day" : Str), ("sum a a" : Str)]
theorem odds_ok : ∀ z ∈ odds1 ++ odds2, Tq 11 z := fun z hz => by
  have h : (odds1 ++ odds2).all (tqB 11) = true := by decide +kernel
  exact tqB_ok (List.all_eq_true.mp h z hz)
theorem sh_five {t : Str} (h : Plain t) : SeqAt.shaped (.list [.str t, .bool true, .bool true, .bool false, .bool false]) = true := by
  simp [SeqAt.shaped, PyData.canLay0, PyData.canLayAll0, PyData.depth, PyData.depthAll, h.strOk]
theorem four {m : Nat} (h : m < 4) : 425 * 2 ^ m + 22 * (2 ^ m - 1) ≤ 4000 := (by decide : ∀ m, m < 4 → 425 * 2 ^ m + 22 * (2 ^ m - 1) ≤ 4000) m h
section
variable {P : Program} {w : World} {K : PySem.W.Frag} {mg : Str → Option Value} {base : Heap} {f : Addr} {fd : FuncData}
structure ErrK (K : PySem.W.Frag) (N D : Addr) (os us : List Addr) : Prop where
  kD : PySem.W.kitOne K (.ref N) (.ref D) = some true
  kV : PySem.W.kitOne K (.ref N) (.type "ValueError") = some true
  kO : PySem.W.kitAny K (.ref N) (os.map Value.ref) = some false
  kU : PySem.W.kitAny K (.ref N) (us.map Value.ref) = some false
def tSuite (K : PySem.W.Frag) (N D c0 c1 c2 c3 c4 c5 c6 c7 d0 d1 : Addr) : Addr → Value → Option Addr → TS := fun a cls d => tAsg (tLst (tCons (tXf a cls d N "what" (tVar 11)) (tCons (tCB (rIsC K N a cls d) (tCons (tVar 11) (tCons (tC (.ref D)) tNil))) (tCons (tCB (rIsC K N a cls d) (tCons (tVar 11) (tCons (tC (.ty "ValueError")) tNil)))
  (tCons (tCB (rIsC K N a cls d) (tCons (tVar 11) (tCons (tTup (tCons (tC (.ref c0)) (tCons (tC (.ref c1)) (tCons (tC (.ref c2)) (tCons (tC (.ref c3)) (tCons (tC (.ref c4)) (tCons (tC (.ref c5)) (tCons (tC (.ref c6)) (tCons (tC (.ref c7)) tNil))))))))) tNil))) (tCons (tCB (rIsC K N a cls d) (tCons (tVar 11) (tCons (tTup (tCons (tC (.ref d0)) (tCons (tC (.ref d1)) tNil))) tNil))) tNil)))))) (gName 10)
def spLaw (K : PySem.W.Frag) : Sp := fun vs H Q _ => ∃ (l : Addr) (ns : List Int), vs = [.ref l] ∧ SqL K H l (ns.map V.int) ∧ ns.length ≤ 63 ∧ ∀ H', Q (.bl true) H'
abbrev N_law : List Str := ["script", "tray", "some", "k", "spoils", "lists", "text", "j", "due", "found", "refused", "e"]
theorem sc_law : FnScope N_law ["script"] (defScope s_law) := ⟨rfl, rfl, rfl, by decide +kernel, rfl, by decide +kernel, by decide +kernel⟩
/-! slots: 0 script 1 tray 2 some 3 k 4 spoils 5 lists 6 text 7 j 8 due 9 found 10 refused 11 e; cells:  -/
set_option maxHeartbeats 0 in
theorem ok_law {C N fN D f1 f2 f3 f4 f5 f6 fP fE c0 c1 c2 c3 c4 c5 c6 c7 d0 d1 : Addr} {fdN e1 e2 e3 e4 e5 e6 fdP fdE : FuncData} (F : FnP K "law" "law" s_law f fd)
    (c_tray : Fun P w K mg base "_law_tray" 1 ["script"] (spTray K) f1 e1) (c_draw : Fun P w K mg base "_law_draw" 1 ["tray", "many"] spDraw f2 e2) (c_lists : Fun P w K mg base "_law_lists" 4 ["tray", "most", "wide"] (spLists K) f3 e3) (c_plan_shown : Fun P w K mg base "_law_plan_shown" 1 ["some", "sums"] (spShown K) f4 e4) (c_spoilt : Fun P w K mg base "_law_spoilt" 4 ["tray", "text", "some"] (spSpo4 K) f5 e5) (c_due : Fun P w K mg base "_law_due" 7 ["text"] (spDue K C) f6 e6)
    (GP : FnOk P w K mg base (L2.CX P w) 7 fP fdP ["text"] (spReadPX K C N)) (gP : mg "read_plan" = some (.ref fP)) (kP : PySem.W.keepIn K (.ref fP) = true) (bP : Binds K fdP ["text"] [])
    (GN : FnOk P w K mg base CX0 2 fE fdE ["self", "other"] (spEq K C false)) (hN : PySem.W.findIn K (.ref C) "__ne__" = some (some (.ref fE))) (kN : PySem.W.isFn K (.ref fE) = true) (bN : Binds K fdE ["self", "other"] [])
    (M : ErrM P w K mg base "NoText" N fN fdN) (EK : ErrK K N D [c0, c1, c2, c3, c4, c5, c6, c7] [d0, d1]) (gD : mg "DayError" = some (.ref D)) (zV : mg "ValueError" = none) (zI : mg "isinstance" = none)
    (g0 : mg "NoDeskRow" = some (.ref c0)) (g1 : mg "NoFact" = some (.ref c1)) (g2 : mg "NoGroup" = some (.ref c2)) (g3 : mg "NoMeasure" = some (.ref c3)) (g4 : mg "NoPlan" = some (.ref c4)) (g5 : mg "NoRow" = some (.ref c5)) (g6 : mg "NoThing" = some (.ref c6)) (g7 : mg "NoTime" = some (.ref c7)) (h0 : mg "NoWatch" = some (.ref d0)) (h1 : mg "Twice" = some (.ref d1))
    (z_len : mg "len" = none) (z_range : mg "range" = none) : FnOk P w K mg base CX0 8 f fd ["script"] (spLaw K) := by
  refine F.ok sc_law (fun vs H Q E h => ?_) (fun cdv A outer s H vs Q E hr h => ?_)
  · obtain ⟨l, ns, rfl, _⟩ := h
    rfl
  · obtain ⟨l, ns, rfl, hS, hn, k⟩ := h
    have nd := sc_law.nd
    refine ⟨_, PSs.nox (pss_cons (ps_set (i := 1) nd rfl (Or.inl rfl) (pe_call c_tray.G (hr.mono (by decide)) rfl c_tray.g c_tray.k c_tray.b .nil pass0 (pa_cons (pv 0) pa_nil)))
      (pss_cons (ps_set (i := 2) nd rfl (Or.inl rfl) (pe_lst (pa_cons pe_str (pa_cons pe_str (pa_cons pe_str (pa_cons pe_str (pa_cons pe_str (pa_cons pe_str (pa_cons pe_str (pa_cons pe_str (pa_cons pe_str (pa_cons pe_str (pa_cons pe_str (pa_cons pe_str pa_nil))))))))))))))
      (pss_cons (ps_set (i := 2) nd rfl (Or.inl rfl) (pe_op op_cat (pv 2) (pe_lst (pa_cons pe_str (pa_cons pe_str (pa_cons pe_str (pa_cons pe_str (pa_cons pe_str (pa_cons pe_str (pa_cons pe_str (pa_cons pe_str pa_nil)))))))))))
      (pss_cons (ps_for PassesOwn.never rfl (pi_range1 rfl z_range (pa_cons (pe_op op_add pe_int (pe_callB call_len_seq (by rfl) z_len boot_len (pa_cons (pe_slice sl_list (pv 0) po_none (po_some pe_int)) pa_nil))) pa_nil)) (pg_name (i := 3) nd rfl (Or.inl rfl))
        (pss_cons (ps_set (i := 4) nd rfl (Or.inl rfl) (pe_call c_draw.G (hr.mono (by decide)) rfl c_draw.g c_draw.k c_draw.b .nil pass0 (pa_cons (pv 1) (pa_cons pe_int pa_nil))))
        (pss_cons (ps_set (i := 5) nd rfl (Or.inl rfl) (pe_call c_lists.G (hr.mono (by decide)) rfl c_lists.g c_lists.k c_lists.b .nil pass0 (pa_cons (pv 1) (pa_cons (pe_ix ix_list (pe_lst (pa_cons pe_int (pa_cons pe_int pa_nil))) (pe_call c_draw.G (hr.mono (by decide)) rfl c_draw.g c_draw.k c_draw.b .nil pass0 (pa_cons (pv 1) (pa_cons pe_int pa_nil))) (fun _ _ => rfl)) (pa_cons (pe_call c_draw.G (hr.mono (by decide)) rfl c_draw.g c_draw.k c_draw.b .nil pass0 (pa_cons (pv 1) (pa_cons pe_int pa_nil))) pa_nil)))))
        (pss_cons (ps_set (i := 6) nd rfl (Or.inl rfl) (pe_call c_plan_shown.G (hr.mono (by decide)) rfl c_plan_shown.g c_plan_shown.k c_plan_shown.b .nil pass0 (pa_cons (pe_ix ix_list (pv 5) pe_int (fun _ _ => rfl)) (pa_cons (pe_ix ix_list (pv 5) pe_int (fun _ _ => rfl)) pa_nil))))
        (pss_cons (ps_for PassesOwn.never rfl (pi_range1 rfl z_range (pa_cons (pv 4) pa_nil)) (pg_name (i := 7) nd rfl (Or.inl rfl))
          (pss_one (ps_set (i := 6) nd rfl (Or.inl rfl) (pe_call c_spoilt.G (hr.mono (by decide)) rfl c_spoilt.g c_spoilt.k c_spoilt.b .nil pass0 (pa_cons (pv 1) (pa_cons (pv 6) (pa_cons (pv 2) pa_nil)))))))
        (pss_cons (ps_set (i := 8) nd rfl (Or.inl rfl) (pe_call c_due.G (hr.mono (by decide)) rfl c_due.g c_due.k c_due.b .nil pass0 (pa_cons (pv 6) pa_nil)))
        (pss_cons (ps_set (i := 9) nd rfl (Or.inl rfl) pe_non)
        (pss_cons (ps_set (i := 10) nd rfl (Or.inl rfl) (pe_lst pa_nil))
        (pss_cons (ps_try_as (i := 11)
          (tb := fun W => tAsg (tCallS (spReadPX K C N) (WE W) (tCons (tVar 6) tNil)) (gName 9))
          (ts := tSuite K N D c0 c1 c2 c3 c4 c5 c6 c7 d0 d1) (Wout := fun _ _ _ _ => False) rfl rfl nd rfl rfl ⟨rfl, by decide, .inl M.g⟩ takes0
          (fun W pn xe tk _ => pss_one (ps_set (i := 9) nd rfl (Or.inl rfl) (by exact (pe_callS GP (hr.mono (by decide)) rfl gP kP bP (fun σ => passAt tk σ) (pa_cons (pv 6) pa_nil)))))
          (fun a oe cls d pn hz hf => pss_one (ps_set (i := 10) nd rfl (Or.inl rfl) (by exact (pe_lst (pa_cons (pe_xf M.T.x M.T.nW hz hf (pv 11)) (pa_cons (pe_callB (call_isX M.T hz hf) (by rfl) zI (by decide +kernel) (pa_cons (pv 11) (pa_cons (pe_glob (v := .ref D) rfl gD rfl) pa_nil))) (pa_cons (pe_callB (call_isX M.T hz hf) (by rfl) zI (by decide +kernel) (pa_cons (pv 11) (pa_cons (pe_bltn (v := .ty "ValueError") (by rfl) zV (by decide +kernel) rfl) pa_nil)))
            (pa_cons (pe_callB (call_isX M.T hz hf) (by rfl) zI (by decide +kernel) (pa_cons (pv 11) (pa_cons (pe_tup (pa_cons (pe_glob (v := .ref c0) rfl g0 rfl) (pa_cons (pe_glob (v := .ref c1) rfl g1 rfl) (pa_cons (pe_glob (v := .ref c2) rfl g2 rfl) (pa_cons (pe_glob (v := .ref c3) rfl g3 rfl) (pa_cons (pe_glob (v := .ref c4) rfl g4 rfl) (pa_cons (pe_glob (v := .ref c5) rfl g5 rfl) (pa_cons (pe_glob (v := .ref c6) rfl g6 rfl) (pa_cons (pe_glob (v := .ref c7) rfl g7 rfl) pa_nil))))))))) pa_nil))) (pa_cons (pe_callB (call_isX M.T hz hf) (by rfl) zI (by decide +kernel) (pa_cons (pv 11) (pa_cons (pe_tup (pa_cons (pe_glob (v := .ref d0) rfl h0 rfl) (pa_cons (pe_glob (v := .ref d1) rfl h1 rfl) pa_nil))) pa_nil))) pa_nil))))))))))
        (pss_cons (ps_if (PW.pt (pw_and (pt_cmp (pc_isN (pv 8))) (pw_and1 (pt_cmpR (op_neD hr.units) (pv 10) (pe_lst (pa_cons (pv 6) (pa_cons pe_bl (pa_cons pe_bl (pa_cons pe_bl (pa_cons pe_bl pa_nil)))))) (nomark _)))))
          (pss_one (ps_ret pe_bl))
          pss_nil)
        (pss_one (ps_if (PW.pt (pw_and (pt_cmp (pc_notN (pv 8))) (pw_and1 (PW.pt (pw_or (pt_cmpR (op_neD hr.units) (pv 10) (pe_lst pa_nil) (nomark _)) (pw_or1 (pt_cmpR (KdEx.op_neOwn GN hN kN bN pass0 (hr.mono (by decide))) (pv 9) (pv 8) (nomark _))))))))
          (pss_one (ps_ret pe_bl))
          pss_nil))))))))))))
      (pss_one (ps_ret pe_bl)))))), ?_⟩
    refine ⟨_, rfl, l, ns, rfl, hS, hn, fun a g H1 na ng T1 s1 => ?_⟩
    have s1c : Same H (ct a g H1) := fun b o h => ct_of (s1 b o h) (ne_of_none h na) (ne_of_none h ng)
    have hS1 : SqL K (ct a g H1) l (ns.map V.int) := s1c.seq hS
    refine set_st (σ' := [some (.ref l), some (.ref a), none, none, none, none, none, none, none, none, none, none]) rfl ?_
    refine ⟨by show 12 ≤ sizeLine; decide, fun o1 no1 => ?_⟩
    generalize qa : upd H1 o1 _ = Ha
    have Na : NewAt H1 Ha o1 (.lst (odds1.map V.str)) a g 0 := newAt T1 no1 qa
    refine set_st (σ' := [some (.ref l), some (.ref a), some (.ref o1), none, none, none, none, none, none, none, none, none]) rfl ?_
    refine ⟨_, rfl, by show 8 ≤ sizeLine; decide, fun o2 no2 => ?_⟩
    generalize qb : upd Ha o2 _ = Hb
    have Nb : NewAt Ha Hb o2 (.lst (odds2.map V.str)) a g 0 := newAt Na.T no2 qb
    refine ⟨o1, o2, _, _, rfl, rfl, Nb.s _ _ Na.f, Nb.f, by show 20 ≤ sizeLine; decide, fun od nod => ?_⟩
    generalize qc : upd Hb od _ = Hc
    have Nc : NewAt Hb Hc od (.lst (odds1.map V.str ++ odds2.map V.str)) a g 0 := newAt Nb.T nod qc
    refine set_st (σ' := [some (.ref l), some (.ref a), some (.ref od), none, none, none, none, none, none, none, none, none]) rfl ?_
    have fod : ct a g Hc od = some (.lst ((odds1 ++ odds2).map V.str)) := by rw [List.map_append]; exact Nc.fc
    have s1e : Same (ct a g H1) (ct a g Hc) := (Na.c.trans Nb.c).trans Nc.c
    have hSe := s1e.seq hS1
    refine ⟨_, rfl, _, rfl, l, _, rfl, ct_sub.seq hSe, fun p np => ?_⟩
    have ec : cutV (ns.map V.int) none (some 16) = (ns.map V.int).take 16 := cutTo _ 16
    rw [ec]
    have cl : ((ns.map V.int).take 16).length ≤ 16 := by rw [List.length_take]; omega
    generalize (ns.map V.int).take 16 = cs at cl ⊢
    generalize q2 : upd Hc p _ = H2
    have N2 := newAt Nc.T np q2
    refine ⟨p, _, rfl, .inl (SqL.of N2.f), _, _, rfl, rfl, _, rfl, by omega, by omega, ?_⟩
    refine for_range (lo := 0) (fun i σ H3 => ∃ (x3 x4 x5 x6 x7 x8 x9 x10 x11 : Option V), σ = [some (.ref l), some (.ref a), some (.ref od), x3, x4, x5, x6, x7, x8, x9, x10, x11] ∧ Tray H3 a g (480 * i) ∧ Same (ct a g Hc) (ct a g H3)) ⟨_, _, _, _, _, _, _, _, _, rfl, N2.T, N2.c⟩ ?_ ?_
    · rintro i σ H3 hi ⟨x3, x4, x5, x6, x7, x8, x9, x10, x11, rfl, T3, s3⟩
      have hi19 : i < 19 := by omega
      refine ⟨_, rfl, a, g, _, 4, rfl, T3, by omega, by decide, by decide, fun spl H4 sp0 sp1 T4 s4 => ?_⟩
      obtain ⟨spn, rfl⟩ : ∃ c : Nat, spl = (c : Int) := ⟨spl.toNat, by omega⟩
      refine set_st (σ' := [some (.ref l), some (.ref a), some (.ref od), some (.int (0 + (i : Int))), some (.int (spn : Int)), x5, x6, x7, x8, x9, x10, x11]) rfl ?_
      refine ⟨_, rfl, by show 2 ≤ sizeLine; decide, fun pl npl => ?_⟩
      generalize qf : upd H4 pl _ = Hf
      have Nf := newAt T4 npl qf
      refine ⟨_, rfl, a, g, _, 2, rfl, Nf.T, by omega, by decide, by decide, fun d2 Hg d20 d21 Tg sg => ?_⟩
      obtain ⟨most, hmost, hat⟩ : ∃ most : Nat, (most = 2 ∨ most = 4) ∧ atI [V.int 2, V.int 4] d2 = some (.int (most : Int)) := by
        have hd : d2 = 0 ∨ d2 = 1 := by omega
        rcases hd with e | e
        · exact ⟨2, .inl rfl, by rw [e]; rfl⟩
        · exact ⟨4, .inr rfl, by rw [e]; rfl⟩
      refine ⟨pl, _, _, _, rfl, rfl, SqL.of (ctkeep sg Nf.f Nf.na Nf.ng), hat, ?_⟩
      refine ⟨_, rfl, a, g, _, 2, rfl, Tg, by omega, by decide, by decide, fun wd Hh wd0 wd1 Th sh => ?_⟩
      obtain ⟨wide, rfl⟩ : ∃ c : Nat, wd = (c : Int) := ⟨wd.toNat, by omega⟩
      have s4h : Same (ct a g H4) (ct a g Hh) := (Nf.c.trans sg).trans sh
      refine ⟨a, g, _, most, wide, rfl, Th, by omega, by omega, by omega, by omega, fun r lo mo ds ms H5 hr5 L5 T5 s5 => ?_⟩
      refine set_st (σ' := [some (.ref l), some (.ref a), some (.ref od), some (.int (0 + (i : Int))), some (.int (spn : Int)), some (.ref r), x6, x7, x8, x9, x10, x11]) rfl ?_
      have r5 := SqL.of (K := K) (ct_sub _ _ hr5)
      obtain ⟨xs5, dl1, dl2⟩ := L5.dl
      refine ⟨_, rfl, r, _, _, _, rfl, rfl, r5, atI_nat (j := 0) rfl, _, rfl, r, _, _, _, rfl, rfl, r5, atI_nat (j := 1) rfl, lo, mo, ds, ms, rfl, ⟨xs5, SqL.of (ct_sub _ _ dl1), PySem.Paired.mono (fun _ _ h => DimAt.same ct_sub h) dl2⟩, ct_sub _ _ L5.ml, L5.ok, fun H6 s6 => ?_⟩
      refine set_st (σ' := [some (.ref l), some (.ref a), some (.ref od), some (.int (0 + (i : Int))), some (.int (spn : Int)), some (.ref r), some (.str (planT ds ms)), x7, x8, x9, x10, x11]) rfl ?_
      have T6 := T5.same s6
      have sc6 : Same (ct a g Hc) (ct a g H6) := (((s3.trans s4).trans s4h).trans s5).trans (ct_same s6)
      refine ⟨_, rfl, _, rfl, by omega, by omega, ?_⟩
      rw [Int.toNat_natCast]
      refine for_range (lo := 0) (fun m σ H7 => ∃ (x7 : Option V) (t : Str), σ = [some (.ref l), some (.ref a), some (.ref od), some (.int (0 + (i : Int))), some (.int (spn : Int)), some (.ref r), some (.str t), x7, x8, x9, x10, x11] ∧ Tq (425 * 2 ^ m + 22 * (2 ^ m - 1)) t ∧ Tray H7 a g (480 * i + 430 + 13 * m) ∧ Same (ct a g Hc) (ct a g H7)) ⟨_, _, rfl, by simpa using plan_plain L5.ok, T6.mono (by omega), sc6⟩ ?_ ?_
      · rintro m σ H7 hm ⟨x7, t, rfl, tq, T7, s7⟩
        have hm4 : m < 3 := by omega
        have h4 := four (m := m) (by omega)
        refine ⟨_, rfl, _, rfl, _, rfl, a, g, od, _, _, t, odds1 ++ odds2, rfl, T7, by omega, tq, by omega, SqL.of (s7 _ _ fod), by decide +kernel, by decide +kernel, odds_ok, fun z H8 hz T8 s8 => ?_⟩
        refine ⟨_, z, rfl, hz.mono ?_, T8.mono (by omega), s7.trans s8⟩
        have hp1 : 0 < 2 ^ m := Nat.pow_pos (by decide)
        rw [Nat.pow_succ]
        omega
      · rintro σ H7 ⟨x7, t, rfl, tq0, T7, s7⟩
        have tq : Tq 4000 t := tq0.mono (four (by omega))
        have hpl := tq.plain
        have fin : ∀ H8, Same H7 H8 → Tray H8 a g (480 * (i + 1)) ∧ Same (ct a g Hc) (ct a g H8) := fun H8 s8 => ⟨(T7.same s8).mono (by omega), s7.trans (ct_same s8)⟩
        by_cases hro : ∃ ds ms, ReadP t ds ms
        · obtain ⟨dr, mr, hrp⟩ := hro
          refine ⟨_, rfl, t, rfl, tq, fun ds' ms' hrp' x H8 hx s8 => ?_, fun hno => absurd hrp (hno _ _)⟩
          obtain ⟨rfl, rfl⟩ := readP_one hrp.1 hrp'.1
          refine set_st (σ' := [some (.ref l), some (.ref a), some (.ref od), some (.int (0 + (i : Int))), some (.int (spn : Int)), some (.ref r), some (.str t), x7, some (.ref x), x9, x10, x11]) rfl ?_
          dsimp only
          refine set_st (σ' := [some (.ref l), some (.ref a), some (.ref od), some (.int (0 + (i : Int))), some (.int (spn : Int)), some (.ref r), some (.str t), x7, some (.ref x), some .non, x10, x11]) rfl ?_
          refine ⟨by show 0 ≤ sizeLine; decide, fun q0 nq0 => ?_⟩
          generalize e9 : upd H8 q0 _ = H9
          have N9 := newO nq0 e9
          refine set_st (σ' := [some (.ref l), some (.ref a), some (.ref od), some (.int (0 + (i : Int))), some (.int (spn : Int)), some (.ref r), some (.str t), x7, some (.ref x), some .non, some (.ref q0), x11]) rfl ?_
          refine ⟨_, rfl, t, rfl, hpl, fun ds2 ms2 hrp2 y H10 hy s10 => ?_, fun hno => absurd hrp (hno _ _)⟩
          obtain ⟨rfl, rfl⟩ := readP_one hrp.1 hrp2.1
          refine set_st (σ' := [some (.ref l), some (.ref a), some (.ref od), some (.int (0 + (i : Int))), some (.int (spn : Int)), some (.ref r), some (.str t), x7, some (.ref x), some (.ref y), some (.ref q0), x11]) rfl ?_
          refine ⟨_, rfl, _, rfl, iteF ?_⟩
          refine iteF ?_
          refine ⟨_, rfl, _, rfl, iteT ?_⟩
          refine ⟨_, rfl, by show 0 ≤ sizeLine; decide, fun q1 nq1 => ?_⟩
          generalize e11 : upd H10 q1 _ = H11
          have N11 := newO nq1 e11
          have s911 := s10.trans N11.s
          refine ⟨.list [], .list [], .lst (SqL.of (s911 _ _ N9.f)) .nil, .lst (SqL.of N11.f) .nil, by decide +kernel, by decide +kernel, _, rfl, ?_⟩
          rw [eqv_empty]
          refine iteF ?_
          have hx11 := hx.same (N9.s.trans s911)
          have hy11 := hy.same N11.s
          obtain ⟨dx, _, _, _, hx1, _, _, _⟩ := id hx11.ex
          obtain ⟨dy, _, _, _, hy1, _, _, _⟩ := id hy11.ex
          refine ⟨_, rfl, _, rfl, y, x, dy, dx, _, _, rfl, rfl, hy1, hx1, y, x, _, _, rfl, hy11, hx11, hrp.2, false, rfl, _, rfl, iteF ?_⟩
          exact ⟨_, _, _, _, _, _, _, _, _, rfl, fin _ ((s8.trans N9.s).trans s911)⟩
        · have hno : ∀ ds ms, ¬ ReadP t ds ms := fun ds ms h => hro ⟨ds, ms, h⟩
          refine ⟨_, rfl, t, rfl, tq, fun ds' ms' hrp' => absurd hrp' (hno _ _), fun _ H8 s8 => ?_⟩
          refine set_st (σ' := [some (.ref l), some (.ref a), some (.ref od), some (.int (0 + (i : Int))), some (.int (spn : Int)), some (.ref r), some (.str t), x7, some .non, x9, x10, x11]) rfl ?_
          dsimp only
          refine set_st (σ' := [some (.ref l), some (.ref a), some (.ref od), some (.int (0 + (i : Int))), some (.int (spn : Int)), some (.ref r), some (.str t), x7, some .non, some .non, x10, x11]) rfl ?_
          refine ⟨by show 0 ≤ sizeLine; decide, fun q0 nq0 => ?_⟩
          generalize e9 : upd H8 q0 _ = H9
          have N9 := newO nq0 e9
          refine set_st (σ' := [some (.ref l), some (.ref a), some (.ref od), some (.int (0 + (i : Int))), some (.int (spn : Int)), some (.ref r), some (.str t), x7, some .non, some .non, some (.ref q0), x11]) rfl ?_
          refine ⟨_, rfl, t, rfl, hpl, fun ds2 ms2 hrp2 => absurd hrp2 (hno _ _), fun _ d H10 s10 _ hd => ?_⟩
          refine ⟨true, M.T.em, fun _ ae hae => ?_, fun q => nomatch q⟩
          refine ⟨_, rfl, rfl, rfl, d, _, _, rfl, hd, what_of "NoText" (.str t), ?_⟩
          refine ⟨_, rfl, rfl, d, _, rfl, hd, _, rfl, .inl ⟨_, true, fun u hu => hu, EK.kD, ?_⟩⟩
          refine ⟨_, rfl, rfl, d, _, rfl, hd, _, rfl, .inl ⟨_, true, fun u hu => hu, EK.kV, ?_⟩⟩
          refine ⟨_, rfl, by show 8 ≤ sizeLine; decide, fun t8 nt => ?_⟩
          generalize e11 : upd H10 t8 _ = H11
          have N11 := newO nt e11
          refine ⟨rfl, d, _, rfl, N11.s _ _ hd, _, rfl, .inr ⟨t8, [c0, c1, c2, c3, c4, c5, c6, c7], false, rfl, SqT.of N11.f, EK.kO, ?_⟩⟩
          refine ⟨_, rfl, by show 2 ≤ sizeLine; decide, fun t2 nt2 => ?_⟩
          generalize e12 : upd H11 t2 _ = H12
          have N12 := newO nt2 e12
          refine ⟨rfl, d, _, rfl, N12.s _ _ (N11.s _ _ hd), _, rfl, .inr ⟨t2, [d0, d1], false, rfl, SqT.of N12.f, EK.kU, ?_⟩⟩
          refine ⟨by show 5 ≤ sizeLine; decide, fun q3 nq3 => ?_⟩
          generalize e13 : upd H12 q3 _ = H13
          have N13 := newO nq3 e13
          refine ⟨_, rfl, _, rfl, iteT ?_⟩
          refine ⟨_, rfl, _, rfl, by show 5 ≤ sizeLine; decide, fun q4 nq4 => ?_⟩
          generalize e14 : upd H13 q4 _ = H14
          have N14 := newO nq4 e14
          have s814 := ((((N9.s.trans s10).trans N11.s).trans N12.s).trans N13.s).trans N14.s
          refine ⟨.list [.str t, .bool true, .bool true, .bool false, .bool false], .list [.str t, .bool true, .bool true, .bool false, .bool false], .lst (SqL.of (N14.s _ _ N13.f)) (.cons (.str _) (.cons (.bl _) (.cons (.bl _) (.cons (.bl _) (.cons (.bl _) .nil))))), .lst (SqL.of N14.f) (.cons (.str _) (.cons (.bl _) (.cons (.bl _) (.cons (.bl _) (.cons (.bl _) .nil))))), sh_five hpl, sh_five hpl, _, rfl, ?_⟩
          rw [eqv_self (sh_five hpl)]
          refine iteF ?_
          refine ⟨_, rfl, _, rfl, iteF ?_⟩
          refine iteF ?_
          exact ⟨_, _, _, _, _, _, _, _, _, rfl, fin _ (s8.trans s814)⟩
    · rintro σ H3 ⟨x3, x4, x5, x6, x7, x8, x9, x10, x11, rfl, T3, s3⟩
      exact k H3
end
end Kd

namespace Kd
open PySem PySem.Spec PyProof.Rows L2
/-! ### what the head says of a tuple of texts and of a class -/
def strB : List Str → List Value → Bool
  | [], [] => true
  | z :: zs, .str y _ :: vs => decide (y = z) && strB zs vs
  | _, _ => false
theorem strB_ok : ∀ {zs : List Str} {vs : List Value}, strB zs vs = true → Vals (zs.map V.str) vs
  | [], [], _ => .nil
  | [], _ :: _, h => by cases h
  | _ :: _, [], h => by cases h
  | z :: zs, v :: vs, h => by
    cases v with
    | str y t =>
      obtain ⟨h1, h2⟩ := He.ba (show (decide (y = z) && strB zs vs) = true from h)
      have e : y = z := of_decide_eq_true h1
      subst e
      exact .cons ⟨t, rfl⟩ (strB_ok h2)
    | _ => cases h
def tupB (K : PySem.W.Frag) (a : Addr) (zs : List Str) : Bool := match K.lookup a with
  | some ⟨.type c, _, .seq its _, _⟩ => decide (c = "tuple") && (decide (its.size ≤ 4000) && strB zs its.toList)
  | _ => false
theorem tupB_ok {K : PySem.W.Frag} {a : Addr} {zs : List Str} (h : tupB K a zs = true) (H : Hp) : SqT K H a (zs.map V.str) := by
  unfold tupB at h
  cases q : K.lookup a with
  | none => rw [q] at h; cases h
  | some o =>
    obtain ⟨oc, od, dt, sl⟩ := o
    rw [q] at h
    cases oc with
    | type c =>
      cases dt with
      | seq its n =>
        obtain ⟨h1, h⟩ := He.ba (show (decide (c = "tuple") && (decide (its.size ≤ 4000) && strB zs its.toList)) = true from h)
        obtain ⟨h2, h3⟩ := He.ba h
        exact .inr ⟨_, its, n, q, congrArg Value.type (of_decide_eq_true h1), rfl, le_line (of_decide_eq_true h2), strB_ok h3⟩
      | _ => cases h
    | _ => cases dt <;> cases h
def clsB (K : PySem.W.Frag) (C : Addr) : Bool := He.eqO (PySem.W.findIn K (.ref C) "__class__") (some (some (.builtin "object.__class__"))) && (He.eqO (PySem.W.specialIn K (.builtin "object.__class__") "__get__") (some (some (.builtin "getset_descriptor.__get__"))) &&
  (decide (PySem.W.takesIn K (.builtin "object.__class__") = some true) && (decide (PySem.W.mroIn K C (.type "object") = some true) && decide (PySem.W.kitOne K (.ref C) (.ref C) = some true))))
theorem clsB_ok {K : PySem.W.Frag} {C : Addr} (h : clsB K C = true) (cl : Cls K C) : (∀ (H : Hp) (x dx : Addr) (fs : List (Str × V)), H x = some (.ins C dx fs) → TyOf K H (.ref x) (.ref C)) ∧ PySem.W.kitOne K (.ref C) (.ref C) = some true := by
  obtain ⟨h1, h⟩ := He.ba h
  obtain ⟨h2, h⟩ := He.ba h
  obtain ⟨h3, h⟩ := He.ba h
  obtain ⟨h4, h5⟩ := He.ba h
  exact ⟨fun H x dx fs e => .ins e cl (He.eqO_ok h1) (He.eqO_ok h2) (of_decide_eq_true h3) (of_decide_eq_true h4), of_decide_eq_true h5⟩
end Kd

namespace Kd
open PySem PySem.Spec PyProof.Rows L2 LamX
def d_DayError_init : He.DefD := ⟨("DayError", some "__init__"), "__init__", "DayError.__init__", defArgs s_DayError_init, defBody s_DayError_init, defScope s_DayError_init, [], []⟩
def d_NoPlan_init : He.DefD := ⟨("NoPlan", some "__init__"), "__init__", "NoPlan.__init__", defArgs s_NoPlan_init, defBody s_NoPlan_init, defScope s_NoPlan_init, [], []⟩
def d_NoRow_init : He.DefD := ⟨("NoRow", some "__init__"), "__init__", "NoRow.__init__", defArgs s_NoRow_init, defBody s_NoRow_init, defScope s_NoRow_init, [], []⟩
def d_NoFact_init : He.DefD := ⟨("NoFact", some "__init__"), "__init__", "NoFact.__init__", defArgs s_NoFact_init, defBody s_NoFact_init, defScope s_NoFact_init, [], []⟩
def d_NoThing_init : He.DefD := ⟨("NoThing", some "__init__"), "__init__", "NoThing.__init__", defArgs s_NoThing_init, defBody s_NoThing_init, defScope s_NoThing_init, [], []⟩
def d_Twice_init : He.DefD := ⟨("Twice", some "__init__"), "__init__", "Twice.__init__", defArgs s_Twice_init, defBody s_Twice_init, defScope s_Twice_init, [], []⟩
def d_NoGroup_init : He.DefD := ⟨("NoGroup", some "__init__"), "__init__", "NoGroup.__init__", defArgs s_NoGroup_init, defBody s_NoGroup_init, defScope s_NoGroup_init, [], []⟩
def d_NoMeasure_init : He.DefD := ⟨("NoMeasure", some "__init__"), "__init__", "NoMeasure.__init__", defArgs s_NoMeasure_init, defBody s_NoMeasure_init, defScope s_NoMeasure_init, [], []⟩
def d_NoWatch_init : He.DefD := ⟨("NoWatch", some "__init__"), "__init__", "NoWatch.__init__", defArgs s_NoWatch_init, defBody s_NoWatch_init, defScope s_NoWatch_init, [], []⟩
def d_NoTime_init : He.DefD := ⟨("NoTime", some "__init__"), "__init__", "NoTime.__init__", defArgs s_NoTime_init, defBody s_NoTime_init, defScope s_NoTime_init, [], []⟩
def d_NoText_init : He.DefD := ⟨("NoText", some "__init__"), "__init__", "NoText.__init__", defArgs s_NoText_init, defBody s_NoText_init, defScope s_NoText_init, [], []⟩
def d_NoDeskRow_init : He.DefD := ⟨("NoDeskRow", some "__init__"), "__init__", "NoDeskRow.__init__", defArgs s_NoDeskRow_init, defBody s_NoDeskRow_init, defScope s_NoDeskRow_init, [], []⟩
def d_is_name : He.DefD := ⟨("is_name", none), "is_name", "is_name", defArgs s_is_name, defBody s_is_name, defScope s_is_name, [], []⟩
def d_is_made_of : He.DefD := ⟨("is_made_of", none), "is_made_of", "is_made_of", defArgs s_is_made_of, defBody s_is_made_of, defScope s_is_made_of, [], []⟩
def d_Plan_init : He.DefD := ⟨("Plan", some "__init__"), "__init__", "Plan.__init__", defArgs s_Plan_init, defBody s_Plan_init, defScope s_Plan_init, [.adr (He.dflAt ("Plan", some "__init__") 0)], []⟩
def d_Plan_dimensions : He.DefD := ⟨("Plan", some "dimensions"), "dimensions", "Plan.dimensions", defArgs s_Plan_dimensions, defBody s_Plan_dimensions, defScope s_Plan_dimensions, [], []⟩
def d_Plan_measures : He.DefD := ⟨("Plan", some "measures"), "measures", "Plan.measures", defArgs s_Plan_measures, defBody s_Plan_measures, defScope s_Plan_measures, [], []⟩
def d_Plan_eq : He.DefD := ⟨("Plan", some "__eq__"), "__eq__", "Plan.__eq__", defArgs s_Plan_eq, defBody s_Plan_eq, defScope s_Plan_eq, [], []⟩
def d_Plan_ne : He.DefD := ⟨("Plan", some "__ne__"), "__ne__", "Plan.__ne__", defArgs s_Plan_ne, defBody s_Plan_ne, defScope s_Plan_ne, [], []⟩
def d_first_fault : He.DefD := ⟨("first_fault", none), "first_fault", "first_fault", defArgs s_first_fault, defBody s_first_fault, defScope s_first_fault, [], []⟩
def d_are_faulty : He.DefD := ⟨("are_faulty", none), "are_faulty", "are_faulty", defArgs s_are_faulty, defBody s_are_faulty, defScope s_are_faulty, [], []⟩
def d_read_plan : He.DefD := ⟨("read_plan", none), "read_plan", "read_plan", defArgs s_read_plan, defBody s_read_plan, defScope s_read_plan, [], []⟩
def d_read_dimension : He.DefD := ⟨("read_dimension", none), "read_dimension", "read_dimension", defArgs s_read_dimension, defBody s_read_dimension, defScope s_read_dimension, [], []⟩
def d_l_tray : He.DefD := ⟨("_law_tray", none), "_law_tray", "_law_tray", defArgs s_l_tray, defBody s_l_tray, defScope s_l_tray, [], []⟩
def d_l_draw : He.DefD := ⟨("_law_draw", none), "_law_draw", "_law_draw", defArgs s_l_draw, defBody s_l_draw, defScope s_l_draw, [], []⟩
def d_l_name : He.DefD := ⟨("_law_name", none), "_law_name", "_law_name", defArgs s_l_name, defBody s_l_name, defScope s_l_name, [], []⟩
def d_l_names : He.DefD := ⟨("_law_names", none), "_law_names", "_law_names", defArgs s_l_names, defBody s_l_names, defScope s_l_names, [], []⟩
def d_l_lists : He.DefD := ⟨("_law_lists", none), "_law_lists", "_law_lists", defArgs s_l_lists, defBody s_l_lists, defScope s_l_lists, [], []⟩
def d_l_plan_shown : He.DefD := ⟨("_law_plan_shown", none), "_law_plan_shown", "_law_plan_shown", defArgs s_l_plan_shown, defBody s_l_plan_shown, defScope s_l_plan_shown, [], []⟩
def d_l_sign : He.DefD := ⟨("_law_sign", none), "_law_sign", "_law_sign", defArgs s_l_sign, defBody s_l_sign, defScope s_l_sign, [], []⟩
def d_l_sign_spoilt : He.DefD := ⟨("_law_sign_spoilt", none), "_law_sign_spoilt", "_law_sign_spoilt", defArgs s_l_sign_spoilt, defBody s_l_sign_spoilt, defScope s_l_sign_spoilt, [], []⟩
def d_l_joint_spoilt : He.DefD := ⟨("_law_joint_spoilt", none), "_law_joint_spoilt", "_law_joint_spoilt", defArgs s_l_joint_spoilt, defBody s_l_joint_spoilt, defScope s_l_joint_spoilt, [], []⟩
def d_l_words_spoilt : He.DefD := ⟨("_law_words_spoilt", none), "_law_words_spoilt", "_law_words_spoilt", defArgs s_l_words_spoilt, defBody s_l_words_spoilt, defScope s_l_words_spoilt, [], []⟩
def d_l_spoilt : He.DefD := ⟨("_law_spoilt", none), "_law_spoilt", "_law_spoilt", defArgs s_l_spoilt, defBody s_l_spoilt, defScope s_l_spoilt, [], []⟩
def d_l_called : He.DefD := ⟨("_law_called", none), "_law_called", "_law_called", defArgs s_l_called, defBody s_l_called, defScope s_l_called, [], []⟩
def d_l_is_name : He.DefD := ⟨("_law_is_name", none), "_law_is_name", "_law_is_name", defArgs s_l_is_name, defBody s_l_is_name, defScope s_l_is_name, [], []⟩
def d_l_plan_of : He.DefD := ⟨("_law_plan_of", none), "_law_plan_of", "_law_plan_of", defArgs s_l_plan_of, defBody s_l_plan_of, defScope s_l_plan_of, [], []⟩
def d_l_due : He.DefD := ⟨("_law_due", none), "_law_due", "_law_due", defArgs s_l_due, defBody s_l_due, defScope s_l_due, [], []⟩
def d_law : He.DefD := ⟨("law", none), "law", "law", defArgs s_law, defBody s_law, defScope s_law, [], []⟩
def fn : List He.DefD := [d_DayError_init, d_NoPlan_init, d_NoRow_init, d_NoFact_init, d_NoThing_init, d_Twice_init, d_NoGroup_init, d_NoMeasure_init, d_NoWatch_init, d_NoTime_init, d_NoText_init, d_NoDeskRow_init, d_is_name, d_is_made_of, d_Plan_init, d_Plan_dimensions, d_Plan_measures, d_Plan_eq, d_Plan_ne, d_first_fault, d_are_faulty, d_read_plan, d_read_dimension, d_l_tray, d_l_draw, d_l_name, d_l_names, d_l_lists, d_l_plan_shown, d_l_sign, d_l_sign_spoilt, d_l_joint_spoilt, d_l_words_spoilt, d_l_spoilt, d_l_called, d_l_is_name, d_l_plan_of, d_l_due, d_law]
def fa : List He.Fa := [(.glo "DayError" : He.Fa), (.glo "NoPlan" : He.Fa), (.glo "NoRow" : He.Fa), (.glo "NoFact" : He.Fa), (.glo "NoThing" : He.Fa), (.glo "Twice" : He.Fa), (.glo "NoGroup" : He.Fa), (.glo "NoMeasure" : He.Fa), (.glo "NoWatch" : He.Fa), (.glo "NoTime" : He.Fa), (.glo "NoText" : He.Fa), (.glo "NoDeskRow" : He.Fa), (.glo "Plan" : He.Fa), (.glo "is_name" : He.Fa), (.glo "is_made_of" : He.Fa), (.glo "first_fault" : He.Fa), (.glo "are_faulty" : He.Fa), (.glo "read_plan" : He.Fa), (.glo "read_dimension" : He.Fa), (.glo "_law_tray" : He.Fa), (.glo "_law_draw" : He.Fa), (.glo "_law_name" : He.Fa), (.glo "_law_names" : He.Fa), (.glo "_law_lists" : He.Fa), (.glo "_law_plan_shown" : He.Fa), (.glo "_law_sign" : He.Fa), (.glo "_law_sign_spoilt" : He.Fa), (.glo "_law_joint_spoilt" : He.Fa), (.glo "_law_words_spoilt" : He.Fa), (.glo "_law_spoilt" : He.Fa), (.glo "_law_called" : He.Fa), (.glo "_law_is_name" : He.Fa), (.glo "_law_plan_of" : He.Fa), (.glo "_law_due" : He.Fa), (.glo "law" : He.Fa), (.str "SMALL_LETTERS" "abcdefghijklmnopqrstuvwxyz" : He.Fa), (.int "LONGEST_NAME" 8 : He.Fa), (.int "MOST_DIMENSIONS" 4 : He.Fa), (.int "MOST_ATTRIBUTES" 5 : He.Fa), (.int "MOST_MEASURES" 4 : He.Fa), (.glo "WAYS" : He.Fa), (.free "ValueError" : He.Fa), (.free "all" : He.Fa), (.free "int" : He.Fa), (.free "isinstance" : He.Fa), (.free "len" : He.Fa), (.free "list" : He.Fa), (.free "max" : He.Fa), (.free "range" : He.Fa), (.free "repr" : He.Fa), (.free "set" : He.Fa), (.free "tuple" : He.Fa), (.cls "Plan" : He.Fa), (.mkr "Plan" : He.Fa), (.noat "Plan" "dimension_list" : He.Fa), (.noat "Plan" "measure_list" : He.Fa), (.meth "Plan" "dimensions" : He.Fa), (.meth "Plan" "measures" : He.Fa), (.meth "Plan" "__eq__" : He.Fa), (.meth "Plan" "__ne__" : He.Fa)]
def loose : List PySem.Str := [("DayError" : PySem.Str), ("NoPlan" : PySem.Str), ("NoRow" : PySem.Str), ("NoFact" : PySem.Str), ("NoThing" : PySem.Str), ("Twice" : PySem.Str), ("NoGroup" : PySem.Str), ("NoMeasure" : PySem.Str), ("NoWatch" : PySem.Str), ("NoTime" : PySem.Str), ("NoText" : PySem.Str), ("NoDeskRow" : PySem.Str), ("SMALL_LETTERS" : PySem.Str), ("LONGEST_NAME" : PySem.Str), ("is_name" : PySem.Str), ("is_made_of" : PySem.Str), ("MOST_DIMENSIONS" : PySem.Str), ("MOST_ATTRIBUTES" : PySem.Str), ("MOST_MEASURES" : PySem.Str), ("Plan" : PySem.Str), ("first_fault" : PySem.Str), ("are_faulty" : PySem.Str), ("WAYS" : PySem.Str), ("read_plan" : PySem.Str), ("read_dimension" : PySem.Str), ("_law_tray" : PySem.Str), ("_law_draw" : PySem.Str), ("_law_name" : PySem.Str), ("_law_names" : PySem.Str), ("_law_lists" : PySem.Str), ("_law_plan_shown" : PySem.Str), ("_law_sign" : PySem.Str), ("_law_sign_spoilt" : PySem.Str), ("_law_joint_spoilt" : PySem.Str), ("_law_words_spoilt" : PySem.Str), ("_law_spoilt" : PySem.Str), ("_law_called" : PySem.Str), ("_law_is_name" : PySem.Str), ("_law_plan_of" : PySem.Str), ("_law_due" : PySem.Str)]
/-! ### the head: the facts, and that a def's default is the empty tuple -/
def exB0 (K : PySem.W.Frag) : Bool := match K.lookup (He.dflAt ("Plan", some "__init__") 0 K) with
  | some ⟨.type c, _, .seq its _, _⟩ => decide (c = "tuple") && decide (its.toList = [])
  | _ => false
theorem exB0_ok {K : PySem.W.Frag} (h : exB0 K = true) (H : Hp) : SqT K H (He.dflAt ("Plan", some "__init__") 0 K) [] := by
  unfold exB0 at h
  cases q : K.lookup (He.dflAt ("Plan", some "__init__") 0 K) with
  | none => rw [q] at h; cases h
  | some o =>
    obtain ⟨oc, od, dt, sl⟩ := o
    rw [q] at h
    cases oc with
    | type c =>
      cases dt with
      | seq its n =>
        obtain ⟨h1, h2⟩ := He.ba (show (decide (c = "tuple") && decide (its.toList = [])) = true from h)
        have h3 : its.toList = [] := of_decide_eq_true h2
        refine .inr ⟨_, its, n, q, congrArg Value.type (of_decide_eq_true h1), rfl, ?_, by rw [h3]; exact .nil⟩
        have h4 : its.size = 0 := by rw [← Array.length_toList, h3]; rfl
        rw [h4]
        exact Nat.zero_le _
      | _ => cases h
    | _ => cases dt <;> cases h
def exO (K : PySem.W.Frag) : List Addr := [He.ga K "NoDeskRow", He.ga K "NoFact", He.ga K "NoGroup", He.ga K "NoMeasure", He.ga K "NoPlan", He.ga K "NoRow", He.ga K "NoThing", He.ga K "NoTime"]
def exU (K : PySem.W.Frag) : List Addr := [He.ga K "NoWatch", He.ga K "Twice"]
def exX (K : PySem.W.Frag) : Bool := tupB K (He.ga K "WAYS") ["first", "last", "day", "before"] && (clsB K (He.ga K "Plan") && (KdXc.errB K (He.ga K "NoPlan") (He.fAd K ("NoPlan", some "__init__")) && (KdXc.errB K (He.ga K "NoText") (He.fAd K ("NoText", some "__init__")) && (KdXc.cfnB K (He.ga K "DayError") (He.fAd K ("DayError", some "__init__")) "__init__" && (KdXc.veB K && (decide (PySem.W.kitOne K (.ref (He.ga K "NoText")) (.ref (He.ga K "DayError")) = some true) && (decide (PySem.W.kitOne K (.ref (He.ga K "NoText")) (.type "ValueError") = some true) && (decide (PySem.W.kitAny K (.ref (He.ga K "NoText")) ((exO K).map Value.ref) = some false) && (decide (PySem.W.kitAny K (.ref (He.ga K "NoText")) ((exU K).map Value.ref) = some false))))))))))
def exB (K : PySem.W.Frag) : Bool := exB0 K && exX K
theorem exB_ok {K : PySem.W.Frag} (h : exB K = true) (H : Hp) : SqT K H (He.dflAt ("Plan", some "__init__") 0 K) [] := exB0_ok (He.ba h).1 H
def asC (g : Addr → Option Obj) : List Addr := He.asD g 6 ++ [cStatics]
def hkE : PySem.W.Hook where
  α := He.AlD × Bool
  obs := fun s => (He.obsD fa fn (He.frG s.heap.get? (asC s.heap.get?)), exB (He.frG s.heap.get? (asC s.heap.get?)))
  val := fun _ => (He.valD fn, true)
  says := fun _ h => ∃ K : PySem.W.Frag, K.In h ∧ He.SaysD fa fn K ∧ exB K = true
  of := fun _ s e => ⟨He.frG s.heap.get? (asC s.heap.get?), He.frG_in, congrArg (fun z : He.AlD × Bool => z.1) e, congrArg (fun z : He.AlD × Bool => z.2) e⟩
  keeps := fun _ _ _ ⟨K, hK, c⟩ k => ⟨K, PySem.W.Frag.In.keeps hK k, c⟩
abbrev R : PySem.W.OpenRow := PySem.W.OpenLaw.row PySem.Challenge.rw_kindsofday_k41_texts_of_no_plan
def ob (s : PySem.W.SharedT) : He.AlD × Bool := (He.obsD fa fn (He.frG (HandSHeadRun.getT s) (asC (HandSHeadRun.getT s))), exB (He.frG (HandSHeadRun.getT s) (asC (HandSHeadRun.getT s))))
theorem ob_eq (s : PySem.W.SharedT) : ob s = hkE.obs s.abs := by
  have e : HandSHeadRun.getT s = s.abs.heap.get? := funext (HandSHeadRun.getT_eq s)
  unfold ob
  rw [e]
  rfl
theorem run (w : World) : HandSHeadRun.RunEq R (PySem.W.view R.prog [45]) hkE ob 9000 loose w := by
  intro os
  kernel_rfl
theorem code_at {K : PySem.W.Frag} {x qual : Str} {ps : Arguments} {bd : List Stmt} {sc : Scope} {dv : List V} {kw : List (Str × V)} {p : Str × Option Str} {fd : FuncData} (F : FunD K x qual ps bd sc dv kw (He.fAd K p) fd) : fd.code = .ref (He.cT K p).1 := by
  obtain ⟨oc, od, dV, kV, doc, pm, an, cdv, ct, osl, rfl, lk, hcd, _, _⟩ := F.ex
  obtain ⟨c, e⟩ := He.codeIn_ref hcd
  subst e
  have q := He.codeOf_eq (c := c) lk rfl
  show Value.ref c = Value.ref (He.codeOf K p)
  rw [q]
theorem facts {P : Program} {w : World} {K : PySem.W.Frag} {h : Heap} {mg : Str → Option Value} {f : Addr} (X : K.In h) (G : h.Ns mainGlobals mg) (hfa : mg ("law" : Str) = some (.ref f)) (c : He.SaysD fa fn K) (ce : exB K = true) :
    ∃ fd : FuncData, (∀ (s : Shared) (v : Value), BindsTo s fd ⟨[v], []⟩ [("script", v)]) ∧ ∀ base : Heap, K.In base → base.Ns mainGlobals mg → FnOk P w K mg base CX0 8 f fd ["script"] (spLaw K) := by
  obtain ⟨fd_DayError_init, F_DayError_init⟩ := c.def_ 0 (d := d_DayError_init) rfl
  obtain ⟨fd_NoPlan_init, F_NoPlan_init⟩ := c.def_ 1 (d := d_NoPlan_init) rfl
  obtain ⟨fd_NoRow_init, F_NoRow_init⟩ := c.def_ 2 (d := d_NoRow_init) rfl
  obtain ⟨fd_NoFact_init, F_NoFact_init⟩ := c.def_ 3 (d := d_NoFact_init) rfl
  obtain ⟨fd_NoThing_init, F_NoThing_init⟩ := c.def_ 4 (d := d_NoThing_init) rfl
  obtain ⟨fd_Twice_init, F_Twice_init⟩ := c.def_ 5 (d := d_Twice_init) rfl
  obtain ⟨fd_NoGroup_init, F_NoGroup_init⟩ := c.def_ 6 (d := d_NoGroup_init) rfl
  obtain ⟨fd_NoMeasure_init, F_NoMeasure_init⟩ := c.def_ 7 (d := d_NoMeasure_init) rfl
  obtain ⟨fd_NoWatch_init, F_NoWatch_init⟩ := c.def_ 8 (d := d_NoWatch_init) rfl
  obtain ⟨fd_NoTime_init, F_NoTime_init⟩ := c.def_ 9 (d := d_NoTime_init) rfl
  obtain ⟨fd_NoText_init, F_NoText_init⟩ := c.def_ 10 (d := d_NoText_init) rfl
  obtain ⟨fd_NoDeskRow_init, F_NoDeskRow_init⟩ := c.def_ 11 (d := d_NoDeskRow_init) rfl
  obtain ⟨fd_is_name, F_is_name⟩ := c.def_ 12 (d := d_is_name) rfl
  obtain ⟨fd_is_made_of, F_is_made_of⟩ := c.def_ 13 (d := d_is_made_of) rfl
  obtain ⟨fd_Plan_init, F_Plan_init⟩ := c.def_ 14 (d := d_Plan_init) rfl
  obtain ⟨fd_Plan_dimensions, F_Plan_dimensions⟩ := c.def_ 15 (d := d_Plan_dimensions) rfl
  obtain ⟨fd_Plan_measures, F_Plan_measures⟩ := c.def_ 16 (d := d_Plan_measures) rfl
  obtain ⟨fd_Plan_eq, F_Plan_eq⟩ := c.def_ 17 (d := d_Plan_eq) rfl
  obtain ⟨fd_Plan_ne, F_Plan_ne⟩ := c.def_ 18 (d := d_Plan_ne) rfl
  obtain ⟨fd_first_fault, F_first_fault⟩ := c.def_ 19 (d := d_first_fault) rfl
  obtain ⟨fd_are_faulty, F_are_faulty⟩ := c.def_ 20 (d := d_are_faulty) rfl
  obtain ⟨fd_read_plan, F_read_plan⟩ := c.def_ 21 (d := d_read_plan) rfl
  obtain ⟨fd_read_dimension, F_read_dimension⟩ := c.def_ 22 (d := d_read_dimension) rfl
  obtain ⟨fd_l_tray, F_l_tray⟩ := c.def_ 23 (d := d_l_tray) rfl
  obtain ⟨fd_l_draw, F_l_draw⟩ := c.def_ 24 (d := d_l_draw) rfl
  obtain ⟨fd_l_name, F_l_name⟩ := c.def_ 25 (d := d_l_name) rfl
  obtain ⟨fd_l_names, F_l_names⟩ := c.def_ 26 (d := d_l_names) rfl
  obtain ⟨fd_l_lists, F_l_lists⟩ := c.def_ 27 (d := d_l_lists) rfl
  obtain ⟨fd_l_plan_shown, F_l_plan_shown⟩ := c.def_ 28 (d := d_l_plan_shown) rfl
  obtain ⟨fd_l_sign, F_l_sign⟩ := c.def_ 29 (d := d_l_sign) rfl
  obtain ⟨fd_l_sign_spoilt, F_l_sign_spoilt⟩ := c.def_ 30 (d := d_l_sign_spoilt) rfl
  obtain ⟨fd_l_joint_spoilt, F_l_joint_spoilt⟩ := c.def_ 31 (d := d_l_joint_spoilt) rfl
  obtain ⟨fd_l_words_spoilt, F_l_words_spoilt⟩ := c.def_ 32 (d := d_l_words_spoilt) rfl
  obtain ⟨fd_l_spoilt, F_l_spoilt⟩ := c.def_ 33 (d := d_l_spoilt) rfl
  obtain ⟨fd_l_called, F_l_called⟩ := c.def_ 34 (d := d_l_called) rfl
  obtain ⟨fd_l_is_name, F_l_is_name⟩ := c.def_ 35 (d := d_l_is_name) rfl
  obtain ⟨fd_l_plan_of, F_l_plan_of⟩ := c.def_ 36 (d := d_l_plan_of) rfl
  obtain ⟨fd_l_due, F_l_due⟩ := c.def_ 37 (d := d_l_due) rfl
  obtain ⟨fd_law, F_law⟩ := c.def_ 38 (d := d_law) rfl
  have e := hfa.symm.trans (He.glo_ok X G (c.fact 34 (f := .glo "law") rfl))
  cases e
  have b := FunD.bindsA (ps := ["script"]) F_law fun _ _ _ _ _ _ us hl => match us, hl with | [_], _ => rfl
  have b_DayError_init : Binds K fd_DayError_init ["self", "what"] [] := FunD.bindsN F_DayError_init fun _ _ _ _ _ _ us hl => match us, hl with | [_, _], _ => rfl
  have b_NoPlan_init : Binds K fd_NoPlan_init ["self", "what"] [] := FunD.bindsN F_NoPlan_init fun _ _ _ _ _ _ us hl => match us, hl with | [_, _], _ => rfl
  have b_NoRow_init : Binds K fd_NoRow_init ["self", "what"] [] := FunD.bindsN F_NoRow_init fun _ _ _ _ _ _ us hl => match us, hl with | [_, _], _ => rfl
  have b_NoFact_init : Binds K fd_NoFact_init ["self", "what"] [] := FunD.bindsN F_NoFact_init fun _ _ _ _ _ _ us hl => match us, hl with | [_, _], _ => rfl
  have b_NoThing_init : Binds K fd_NoThing_init ["self", "what"] [] := FunD.bindsN F_NoThing_init fun _ _ _ _ _ _ us hl => match us, hl with | [_, _], _ => rfl
  have b_Twice_init : Binds K fd_Twice_init ["self", "what"] [] := FunD.bindsN F_Twice_init fun _ _ _ _ _ _ us hl => match us, hl with | [_, _], _ => rfl
  have b_NoGroup_init : Binds K fd_NoGroup_init ["self", "what"] [] := FunD.bindsN F_NoGroup_init fun _ _ _ _ _ _ us hl => match us, hl with | [_, _], _ => rfl
  have b_NoMeasure_init : Binds K fd_NoMeasure_init ["self", "what"] [] := FunD.bindsN F_NoMeasure_init fun _ _ _ _ _ _ us hl => match us, hl with | [_, _], _ => rfl
  have b_NoWatch_init : Binds K fd_NoWatch_init ["self", "what"] [] := FunD.bindsN F_NoWatch_init fun _ _ _ _ _ _ us hl => match us, hl with | [_, _], _ => rfl
  have b_NoTime_init : Binds K fd_NoTime_init ["self", "what"] [] := FunD.bindsN F_NoTime_init fun _ _ _ _ _ _ us hl => match us, hl with | [_, _], _ => rfl
  have b_NoText_init : Binds K fd_NoText_init ["self", "what"] [] := FunD.bindsN F_NoText_init fun _ _ _ _ _ _ us hl => match us, hl with | [_, _], _ => rfl
  have b_NoDeskRow_init : Binds K fd_NoDeskRow_init ["self", "what"] [] := FunD.bindsN F_NoDeskRow_init fun _ _ _ _ _ _ us hl => match us, hl with | [_, _], _ => rfl
  have b_is_name : Binds K fd_is_name ["text"] [] := FunD.bindsN F_is_name fun _ _ _ _ _ _ us hl => match us, hl with | [_], _ => rfl
  have b_is_made_of : Binds K fd_is_made_of ["text", "signs"] [] := FunD.bindsN F_is_made_of fun _ _ _ _ _ _ us hl => match us, hl with | [_, _], _ => rfl
  have b_Plan_dimensions : Binds K fd_Plan_dimensions ["self"] [] := FunD.bindsN F_Plan_dimensions fun _ _ _ _ _ _ us hl => match us, hl with | [_], _ => rfl
  have b_Plan_measures : Binds K fd_Plan_measures ["self"] [] := FunD.bindsN F_Plan_measures fun _ _ _ _ _ _ us hl => match us, hl with | [_], _ => rfl
  have b_Plan_eq : Binds K fd_Plan_eq ["self", "other"] [] := FunD.bindsN F_Plan_eq fun _ _ _ _ _ _ us hl => match us, hl with | [_, _], _ => rfl
  have b_Plan_ne : Binds K fd_Plan_ne ["self", "other"] [] := FunD.bindsN F_Plan_ne fun _ _ _ _ _ _ us hl => match us, hl with | [_, _], _ => rfl
  have b_first_fault : Binds K fd_first_fault ["dimensions", "measures"] [] := FunD.bindsN F_first_fault fun _ _ _ _ _ _ us hl => match us, hl with | [_, _], _ => rfl
  have b_are_faulty : Binds K fd_are_faulty ["names", "most"] [] := FunD.bindsN F_are_faulty fun _ _ _ _ _ _ us hl => match us, hl with | [_, _], _ => rfl
  have b_read_plan : Binds K fd_read_plan ["text"] [] := FunD.bindsN F_read_plan fun _ _ _ _ _ _ us hl => match us, hl with | [_], _ => rfl
  have b_read_dimension : Binds K fd_read_dimension ["part"] [] := FunD.bindsN F_read_dimension fun _ _ _ _ _ _ us hl => match us, hl with | [_], _ => rfl
  have b_l_tray : Binds K fd_l_tray ["script"] [] := FunD.bindsN F_l_tray fun _ _ _ _ _ _ us hl => match us, hl with | [_], _ => rfl
  have b_l_draw : Binds K fd_l_draw ["tray", "many"] [] := FunD.bindsN F_l_draw fun _ _ _ _ _ _ us hl => match us, hl with | [_, _], _ => rfl
  have b_l_name : Binds K fd_l_name ["tray", "used"] [] := FunD.bindsN F_l_name fun _ _ _ _ _ _ us hl => match us, hl with | [_, _], _ => rfl
  have b_l_names : Binds K fd_l_names ["tray", "many"] [] := FunD.bindsN F_l_names fun _ _ _ _ _ _ us hl => match us, hl with | [_, _], _ => rfl
  have b_l_lists : Binds K fd_l_lists ["tray", "most", "wide"] [] := FunD.bindsN F_l_lists fun _ _ _ _ _ _ us hl => match us, hl with | [_, _, _], _ => rfl
  have b_l_plan_shown : Binds K fd_l_plan_shown ["some", "sums"] [] := FunD.bindsN F_l_plan_shown fun _ _ _ _ _ _ us hl => match us, hl with | [_, _], _ => rfl
  have b_l_sign : Binds K fd_l_sign ["tray"] [] := FunD.bindsN F_l_sign fun _ _ _ _ _ _ us hl => match us, hl with | [_], _ => rfl
  have b_l_sign_spoilt : Binds K fd_l_sign_spoilt ["tray", "text"] [] := FunD.bindsN F_l_sign_spoilt fun _ _ _ _ _ _ us hl => match us, hl with | [_, _], _ => rfl
  have b_l_joint_spoilt : Binds K fd_l_joint_spoilt ["tray", "text"] [] := FunD.bindsN F_l_joint_spoilt fun _ _ _ _ _ _ us hl => match us, hl with | [_, _], _ => rfl
  have b_l_words_spoilt : Binds K fd_l_words_spoilt ["tray", "text", "some"] [] := FunD.bindsN F_l_words_spoilt fun _ _ _ _ _ _ us hl => match us, hl with | [_, _, _], _ => rfl
  have b_l_spoilt : Binds K fd_l_spoilt ["tray", "text", "some"] [] := FunD.bindsN F_l_spoilt fun _ _ _ _ _ _ us hl => match us, hl with | [_, _, _], _ => rfl
  have b_l_called : Binds K fd_l_called ["text", "most", "signs"] [] := FunD.bindsN F_l_called fun _ _ _ _ _ _ us hl => match us, hl with | [_, _, _], _ => rfl
  have b_l_is_name : Binds K fd_l_is_name ["text"] [] := FunD.bindsN F_l_is_name fun _ _ _ _ _ _ us hl => match us, hl with | [_], _ => rfl
  have b_l_plan_of : Binds K fd_l_plan_of ["text"] [] := FunD.bindsN F_l_plan_of fun _ _ _ _ _ _ us hl => match us, hl with | [_], _ => rfl
  have b_l_due : Binds K fd_l_due ["text"] [] := FunD.bindsN F_l_due fun _ _ _ _ _ _ us hl => match us, hl with | [_], _ => rfl
  have g_DayError := He.glo_ok X G (c.fact 0 (f := .glo "DayError") rfl)
  have g_NoPlan := He.glo_ok X G (c.fact 1 (f := .glo "NoPlan") rfl)
  have g_NoRow := He.glo_ok X G (c.fact 2 (f := .glo "NoRow") rfl)
  have g_NoFact := He.glo_ok X G (c.fact 3 (f := .glo "NoFact") rfl)
  have g_NoThing := He.glo_ok X G (c.fact 4 (f := .glo "NoThing") rfl)
  have g_Twice := He.glo_ok X G (c.fact 5 (f := .glo "Twice") rfl)
  have g_NoGroup := He.glo_ok X G (c.fact 6 (f := .glo "NoGroup") rfl)
  have g_NoMeasure := He.glo_ok X G (c.fact 7 (f := .glo "NoMeasure") rfl)
  have g_NoWatch := He.glo_ok X G (c.fact 8 (f := .glo "NoWatch") rfl)
  have g_NoTime := He.glo_ok X G (c.fact 9 (f := .glo "NoTime") rfl)
  have g_NoText := He.glo_ok X G (c.fact 10 (f := .glo "NoText") rfl)
  have g_NoDeskRow := He.glo_ok X G (c.fact 11 (f := .glo "NoDeskRow") rfl)
  have g_Plan := He.glo_ok X G (c.fact 12 (f := .glo "Plan") rfl)
  have g_is_name := He.glo_ok X G (c.fact 13 (f := .glo "is_name") rfl)
  have g_is_made_of := He.glo_ok X G (c.fact 14 (f := .glo "is_made_of") rfl)
  have g_first_fault := He.glo_ok X G (c.fact 15 (f := .glo "first_fault") rfl)
  have g_are_faulty := He.glo_ok X G (c.fact 16 (f := .glo "are_faulty") rfl)
  have g_read_plan := He.glo_ok X G (c.fact 17 (f := .glo "read_plan") rfl)
  have g_read_dimension := He.glo_ok X G (c.fact 18 (f := .glo "read_dimension") rfl)
  have g_l_tray := He.glo_ok X G (c.fact 19 (f := .glo "_law_tray") rfl)
  have g_l_draw := He.glo_ok X G (c.fact 20 (f := .glo "_law_draw") rfl)
  have g_l_name := He.glo_ok X G (c.fact 21 (f := .glo "_law_name") rfl)
  have g_l_names := He.glo_ok X G (c.fact 22 (f := .glo "_law_names") rfl)
  have g_l_lists := He.glo_ok X G (c.fact 23 (f := .glo "_law_lists") rfl)
  have g_l_plan_shown := He.glo_ok X G (c.fact 24 (f := .glo "_law_plan_shown") rfl)
  have g_l_sign := He.glo_ok X G (c.fact 25 (f := .glo "_law_sign") rfl)
  have g_l_sign_spoilt := He.glo_ok X G (c.fact 26 (f := .glo "_law_sign_spoilt") rfl)
  have g_l_joint_spoilt := He.glo_ok X G (c.fact 27 (f := .glo "_law_joint_spoilt") rfl)
  have g_l_words_spoilt := He.glo_ok X G (c.fact 28 (f := .glo "_law_words_spoilt") rfl)
  have g_l_spoilt := He.glo_ok X G (c.fact 29 (f := .glo "_law_spoilt") rfl)
  have g_l_called := He.glo_ok X G (c.fact 30 (f := .glo "_law_called") rfl)
  have g_l_is_name := He.glo_ok X G (c.fact 31 (f := .glo "_law_is_name") rfl)
  have g_l_plan_of := He.glo_ok X G (c.fact 32 (f := .glo "_law_plan_of") rfl)
  have g_l_due := He.glo_ok X G (c.fact 33 (f := .glo "_law_due") rfl)
  obtain ⟨t_SMALL_LETTERS, g_SMALL_LETTERS⟩ := He.str_ok X G (c.fact 35 (f := .str "SMALL_LETTERS" "abcdefghijklmnopqrstuvwxyz") rfl)
  obtain ⟨t_LONGEST_NAME, g_LONGEST_NAME⟩ := He.int_ok X G (c.fact 36 (f := .int "LONGEST_NAME" 8) rfl)
  obtain ⟨t_MOST_DIMENSIONS, g_MOST_DIMENSIONS⟩ := He.int_ok X G (c.fact 37 (f := .int "MOST_DIMENSIONS" 4) rfl)
  obtain ⟨t_MOST_ATTRIBUTES, g_MOST_ATTRIBUTES⟩ := He.int_ok X G (c.fact 38 (f := .int "MOST_ATTRIBUTES" 5) rfl)
  obtain ⟨t_MOST_MEASURES, g_MOST_MEASURES⟩ := He.int_ok X G (c.fact 39 (f := .int "MOST_MEASURES" 4) rfl)
  have g_WAYS := He.glo_ok X G (c.fact 40 (f := .glo "WAYS") rfl)
  have z_ValueError := He.free_ok X G (c.fact 41 (f := .free "ValueError") rfl)
  have z_all := He.free_ok X G (c.fact 42 (f := .free "all") rfl)
  have z_int := He.free_ok X G (c.fact 43 (f := .free "int") rfl)
  have z_isinstance := He.free_ok X G (c.fact 44 (f := .free "isinstance") rfl)
  have z_len := He.free_ok X G (c.fact 45 (f := .free "len") rfl)
  have z_list := He.free_ok X G (c.fact 46 (f := .free "list") rfl)
  have z_max := He.free_ok X G (c.fact 47 (f := .free "max") rfl)
  have z_range := He.free_ok X G (c.fact 48 (f := .free "range") rfl)
  have z_repr := He.free_ok X G (c.fact 49 (f := .free "repr") rfl)
  have z_set := He.free_ok X G (c.fact 50 (f := .free "set") rfl)
  have z_tuple := He.free_ok X G (c.fact 51 (f := .free "tuple") rfl)
  have cls_Plan := He.cls_ok (c.fact 52 (f := .cls "Plan") rfl)
  have mk_Plan := He.mkr_ok (c.fact 53 (f := .mkr "Plan") rfl)
  have no_Plan_dimension_list := He.noat_ok (c.fact 54 (f := .noat "Plan" "dimension_list") rfl)
  have no_Plan_measure_list := He.noat_ok (c.fact 55 (f := .noat "Plan" "measure_list") rfl)
  have me_Plan_dimensions := He.meth_ok (c.fact 56 (f := .meth "Plan" "dimensions") rfl)
  have me_Plan_measures := He.meth_ok (c.fact 57 (f := .meth "Plan" "measures") rfl)
  have me_Plan_eq := He.meth_ok (c.fact 58 (f := .meth "Plan" "__eq__") rfl)
  have me_Plan_ne := He.meth_ok (c.fact 59 (f := .meth "Plan" "__ne__") rfl)
  refine ⟨fd_law, fun s v => b s [v] rfl, fun base _ _ => ?_⟩
  have T : PlTxt K (He.ga K "Plan") := ⟨cls_Plan, no_Plan_dimension_list, no_Plan_measure_list⟩
  have G_md := ok_made (P := P) (w := w) (base := base) F_is_made_of z_all
  have G_is := ok_is_name (P := P) (w := w) (base := base) F_is_name G_md F_is_made_of.kp b_is_made_of g_is_made_of z_len g_SMALL_LETTERS g_LONGEST_NAME
  have G_af := ok_are_faulty (P := P) (w := w) (base := base) F_are_faulty G_is F_is_name.kp b_is_name g_is_name z_len z_set z_all
  have G_ff := ok_first (P := P) (w := w) (base := base) F_first_fault G_af F_are_faulty.kp b_are_faulty g_are_faulty g_MOST_DIMENSIONS g_MOST_ATTRIBUTES g_MOST_MEASURES
  have G_in := ok_init (P := P) (w := w) (base := base) F_Plan_init T G_ff F_first_fault.kp b_first_fault g_first_fault z_tuple z_list
  have G8 := ok_tray (P := P) (w := w) (base := base) F_l_tray z_max
  have G9 := ok_draw (P := P) (w := w) (mg := mg) (base := base) F_l_draw
  have G11 := ok_name (P := P) (w := w) (base := base) F_l_name G9 F_l_draw.kp b_l_draw g_l_draw z_range z_len
  have G12 := ok_names (P := P) (w := w) (base := base) F_l_names G11 F_l_name.kp b_l_name g_l_name z_range
  have G13 := ok_lists (P := P) (w := w) (base := base) F_l_lists G9 F_l_draw.kp b_l_draw g_l_draw G12 F_l_names.kp b_l_names g_l_names z_range z_len z_tuple
  have c_draw : Fun P w K mg base "_law_draw" 1 _ _ _ _ := ⟨G9, F_l_draw.kp, b_l_draw, g_l_draw⟩
  have hx := (He.ba ce).2
  obtain ⟨hW, hx⟩ := He.ba hx
  obtain ⟨hP, hx⟩ := He.ba hx
  obtain ⟨hN, hx⟩ := He.ba hx
  obtain ⟨hT, hx⟩ := He.ba hx
  obtain ⟨hD, hx⟩ := He.ba hx
  obtain ⟨hV, hx⟩ := He.ba hx
  obtain ⟨hK1, hx⟩ := He.ba hx
  obtain ⟨hK2, hx⟩ := He.ba hx
  obtain ⟨hK3, hK4⟩ := He.ba hx
  obtain ⟨hI, kC⟩ := clsB_ok hP cls_Plan
  have EK : ErrK K (He.ga K "NoText") (He.ga K "DayError") (exO K) (exU K) := ⟨of_decide_eq_true hK1, of_decide_eq_true hK2, of_decide_eq_true hK3, of_decide_eq_true hK4⟩
  have TN := KdXc.errB_ok hN
  have TT := KdXc.errB_ok hT
  have DN := ok_DayError (P := P) (w := w) (mg := mg) (base := base) F_DayError_init TN z_ValueError (KdXc.valB_ok hV) z_repr
  have DT := ok_DayError (P := P) (w := w) (mg := mg) (base := base) F_DayError_init TT z_ValueError (KdXc.valB_ok hV) z_repr
  have DH := okH_DayError (P := P) (w := w) (mg := mg) (base := base) F_DayError_init TT z_ValueError (KdXc.valB_ok hV) z_repr
  have EN : ErrM P w K mg base "NoPlan" _ _ fd_NoPlan_init := ⟨TN, ok_NoPlan F_NoPlan_init TN DN (KdXc.cfnB_ok hD) b_DayError_init g_DayError, b_NoPlan_init, g_NoPlan⟩
  have ET : ErrM P w K mg base "NoText" _ _ fd_NoText_init := ⟨TT, ok_NoText F_NoText_init TT DT (KdXc.cfnB_ok hD) b_DayError_init g_DayError, b_NoText_init, g_NoText⟩
  have GH := okH_NoText (P := P) (w := w) (mg := mg) (base := base) F_NoText_init TT DH (KdXc.cfnB_ok hD) b_DayError_init g_DayError
  have G_fl := ok_fail (P := P) (w := w) (base := base) F_Plan_init G_ff F_first_fault.kp b_first_fault g_first_fault EN
  have G_fn := ok_failN (P := P) (w := w) (base := base) F_Plan_init G_ff F_first_fault.kp b_first_fault g_first_fault EN
  have PR : PlanR P w K mg base (He.ga K "Plan") _ _ fd_Plan_init _ _ fd_NoPlan_init := ⟨mk_Plan, fn_or (KdXn.fn_calmN G_in) G_fn, g_Plan, F_Plan_init, EN⟩
  have PX : PlanX P w K mg base (He.ga K "Plan") _ _ fd_Plan_init _ _ fd_NoPlan_init := ⟨mk_Plan, ok_initX G_in G_fl, g_Plan, F_Plan_init, EN⟩
  have c_rd : Fun P w K mg base "read_dimension" 1 _ _ _ _ := ⟨ok_readDX (P := P) (w := w) (mg := mg) (base := base) F_read_dimension g_WAYS (fun H => tupB_ok hW H) z_len z_tuple z_all, F_read_dimension.kp, b_read_dimension, g_read_dimension⟩
  have GPX := ok_readPX (P := P) (w := w) (mg := mg) (base := base) F_read_plan PR c_rd ET GH
  have GE := ok_eq (P := P) (w := w) (base := base) F_Plan_eq T g_Plan hI kC z_isinstance
  have GN := ok_ne (P := P) (w := w) (mg := mg) (base := base) F_Plan_ne GE me_Plan_eq.at_ me_Plan_eq.fn b_Plan_eq
  have c_sign : Fun P w K mg base "_law_sign" 2 _ _ _ _ := ⟨ok_sign F_l_sign c_draw z_len, F_l_sign.kp, b_l_sign, g_l_sign⟩
  have c_ss : Fun P w K mg base "_law_sign_spoilt" 3 _ _ _ _ := ⟨ok_signS F_l_sign_spoilt c_draw c_sign z_len z_int, F_l_sign_spoilt.kp, b_l_sign_spoilt, g_l_sign_spoilt⟩
  have c_js : Fun P w K mg base "_law_joint_spoilt" 2 _ _ _ _ := ⟨ok_jointS F_l_joint_spoilt c_draw z_len, F_l_joint_spoilt.kp, b_l_joint_spoilt, g_l_joint_spoilt⟩
  have c_wsp : Fun P w K mg base "_law_words_spoilt" 2 _ _ _ _ := ⟨ok_wordsS F_l_words_spoilt c_draw z_len, F_l_words_spoilt.kp, b_l_words_spoilt, g_l_words_spoilt⟩
  have c_spo : Fun P w K mg base "_law_spoilt" 4 _ _ _ _ := ⟨ok_spoS F_l_spoilt c_draw c_ss c_wsp c_js, F_l_spoilt.kp, b_l_spoilt, g_l_spoilt⟩
  have c_po : Fun P w K mg base "_law_plan_of" 1 _ _ _ _ := ⟨ok_planOf F_l_plan_of z_len z_tuple, F_l_plan_of.kp, b_l_plan_of, g_l_plan_of⟩
  have c_du : Fun P w K mg base "_law_due" 7 _ _ _ _ := ⟨ok_due F_l_due PX c_po, F_l_due.kp, b_l_due, g_l_due⟩
  exact ok_law F_law ⟨G8, F_l_tray.kp, b_l_tray, g_l_tray⟩ c_draw ⟨G13, F_l_lists.kp, b_l_lists, g_l_lists⟩ ⟨ok_shown F_l_plan_shown, F_l_plan_shown.kp, b_l_plan_shown, g_l_plan_shown⟩ c_spo c_du GPX g_read_plan F_read_plan.kp b_read_plan GN me_Plan_ne.at_ me_Plan_ne.fn b_Plan_ne ET EK g_DayError z_ValueError z_isinstance g_NoDeskRow g_NoFact g_NoGroup g_NoMeasure g_NoPlan g_NoRow g_NoThing g_NoTime g_NoWatch g_Twice z_len z_range
end Kd
open PySem PySem.W PySem.Calls PyProof.Rows
theorem PySem.Challenge.cw_kindsofday_k41_texts_of_no_plan_holds : PySem.Challenge.rw_kindsofday_k41_texts_of_no_plan.Holds := by
  w_on; o_law
  refine HandSHeadRun.head_any (r := OpenLaw.row PySem.Challenge.rw_kindsofday_k41_texts_of_no_plan) (q := view (OpenLaw.row PySem.Challenge.rw_kindsofday_k41_texts_of_no_plan).prog [45]) (H := Kd.hkE) (ob := Kd.ob) (M := 9000) (loose := Kd.loose) (d := HandSHeadRun.topDef (OpenLaw.row PySem.Challenge.rw_kindsofday_k41_texts_of_no_plan).prog 45) (kwd := []) Kd.ob_eq
    (by kernel_rfl) (fun s => by kernel_rfl) Kd.run (by kernel_rfl) (by kernel_rfl) (by kernel_rfl) (by rfl) (by first | assumption | decide +kernel) (by decide +kernel) ⟨rfl, rfl, rfl, rfl, rfl, by decide +kernel⟩ ?hw ?hc
  case hw => w_witness2
  case hc =>
    refine L2.walk_ofE (l := PySem.Challenge.rw_kindsofday_k41_texts_of_no_plan) (n := 63) (k := 8) (x := "script") (CX := L2.CX0) rfl (by decide) (by kernel_rfl) ⟨rfl, by decide, by decide⟩ ?F (fun _ _ _ _ z => z)
    intro w mg fa h Y G hmg0
    obtain ⟨K, KX, c, ce⟩ := Y
    have hmg : mg ("law" : PySem.Str) = some (.ref fa) := by
      have e : (HandSHeadRun.topDef (OpenLaw.row PySem.Challenge.rw_kindsofday_k41_texts_of_no_plan).prog 45).name = ("law" : PySem.Str) := by kernel_rfl
      rw [← e]
      exact hmg0
    obtain ⟨fd, hb, hF⟩ := Kd.facts (P := (PySem.Challenge.rw_kindsofday_k41_texts_of_no_plan).prog) (w := w) KX G hmg c ce
    exact ⟨K, fd, Kd.spLaw K, KX, hb, fun H a ns hl _ hS => ⟨a, ns, rfl, hS, hl, fun _ => rfl⟩, hF⟩
