import PyProof.Rows.All
import Wide.All
import OpenK.AllK
import Wide.FinOn
import PyProof.EqAt
import PyProof.EqKinds
import PyProof.TupleCall
import HandS.Base
import HandS.Call
import HandS.List
import HandS.Dict
import HandS.Set
import HandS.SetFor
import HandS.TupLe
import HandS.Words
import HandS.Strs
import KE.KMathG
import PyProof.Rows.SetFrom
import HandS.Comp
import HandS.Iter
import HandS.Zip
import HandS.Wide
import HandS.Conv
import HandS.IsInst
import HandS.Ends
import HandS.Walk
import HandS.Evl
import HandS.WordsList
import HandS.WordsDict
import HandS.Gcd
import HandS.MakeKwOnly
import HandS.TupAny
import HandS.More
import PySem.Challenge.RW_hushkernel_k23_levels_in_turn
import HandS.HotCalls
import HandS.ExcInit
import HandS.ExcIs
import HandS.ExcField
import HandS.Exc
import KE.KExcIs
import HandS.ExcOwn
import HandS.WordsExc
import PyProof.FString5
import HandS.DeepEq
import HandS.OwnEq
import KE.DataEq
import HandS.NoneIn
import KE.GoesMore
import KE.GoesEnum
import HandS.SortOrd
import HandS.ExcValue
import PyProof.TupleOfSeq
import KE.KSortTupAny
import HandS.Deep
import KE.DataFind
import KE.DataMinMax
import KE.KTupSum
import PyProof.Rows.CallKwBuiltin
import HandS.CallLocal
import HandS.Defaults
import HandS.TupMul
import HandS.Small
theorem Hk.disch {P : Prop} (h : P) : P := h
def Hk.Hold (P : Prop) : Prop := P
theorem Hk.hold {P : Prop} (h : Hk.Hold P) : P := h
theorem Hk.hold_s {P : Prop} (h : P) : Hk.Hold P = True := eq_true h
set_option Elab.async false
set_option linter.all false
set_option maxRecDepth 100000
set_option maxHeartbeats 4000000
namespace Hk
open PySem PySem.Spec PyProof.Rows L2
section
variable {X : Cx}
def rLcm : List V → Hp → VK → Prop := fun vs H Q => ∃ a b : Int, vs = [.int a, .int b] ∧ 0 < a ∧ a < 1000 ∧ 0 < b ∧ b < 1000 ∧ Q (.int ((Nat.lcm a.natAbs b.natAbs : Nat) : Int)) H
theorem lcm_small {n : Nat} (h : n < 1000000) : ((n : Nat) : Int).natAbs.log2 < bitsLine := by
  show n.log2 < bitsLine
  by_cases h0 : n = 0
  · subst h0; decide
  · have : n.log2 < 20 := (Nat.log2_lt h0).2 (by omega)
    exact Nat.lt_trans this (by decide)
theorem cr_lcm : CallR X (.builtin "math.lcm") rLcm := by
 refine Hk.hold ?_
 simp (disch := with_unfolding_all (
 exact Hk.disch (by
  rintro pins s σ H vs us Q I r ⟨a, b, rfl, a0, a1, b0, b1, q⟩
  obtain ⟨t, u, rfl⟩ := Vals.int2 r
  have e : (Nat.lcm 1 a.natAbs).lcm b.natAbs = a.natAbs.lcm b.natAbs := by rw [Nat.lcm_one_left]
  have hb : a.natAbs.lcm b.natAbs < 1000000 := by
    have h1 : a.natAbs.lcm b.natAbs ≤ a.natAbs * b.natAbs := by
      unfold Nat.lcm; exact Nat.div_le_self _ _
    have h2 : a.natAbs * b.natAbs ≤ 999 * 999 := Nat.mul_le_mul (by omega) (by omega)
    omega
  refine PySem.W.mg_lcm_v (c := ((Nat.lcm a.natAbs b.natAbs : Nat) : Int)) (by omega) (by omega) (by rw [e]) (lcm_small hb) ⟨.int _, H, I.tok _, ⟨_, rfl⟩, q⟩))) only [↓Hk.hold_s]
def gFld (K : PySem.W.Frag) (ta : TE) (f : Str) : TG := fun v σ H Q => ta σ H fun x H2 => ∃ a C dx fs, x = .ref a ∧ H2 a = some (.ins C dx fs) ∧ Cls K C ∧ NoAttr K C f ∧ fs.length < 1000 ∧ Q σ (upd H2 a (.ins C dx (putF f v fs)))
theorem pg_fld {o : Expr} {f : Str} {pos : Pos} {ta : TE} (ho : PE X o ta) : PG X (.Attribute o f pos) (gFld X.K ta f) := by
  refine ⟨fun pins s σ H v u Q I r h => ?_⟩
  rw [arm_assign_Attribute]
  refine wpAny_bind (wpAny_holding (thn (ho.run pins s σ H _ I h) fun ov s1 hh => ?_))
  obtain ⟨x, H1, I1, rx, a, C, dx, fs, ex, ea, c, n, l, q⟩ := hh
  subst ex
  obtain rfl : ov = Value.ref a := rx
  refine wpAny_bind (wpAny_standAt (wpAny_bind (wpAny_holding ?_)))
  exact setattr_ok I1 ea c n l r fun s3 I3 => wpAny_release ⟨σ, _, I3, q⟩
def ltWI (a b : Str × Int) : Bool := if a.1 = b.1 then decide (a.2 < b.2) else decide (a.1.cps.toList < b.1.cps.toList)
def rLtWI (K : PySem.W.Frag) : R2 := fun x y H Q => ∃ (a b : Addr) (p q : Str × Int), x = .ref a ∧ y = .ref b ∧ SqT K H a [.str p.1, .int p.2] ∧ SqT K H b [.str q.1, .int q.2] ∧ Q (.bl (ltWI p q)) H
theorem op_ltWI (hu : X.A.units < cLine) : OpR X (compareOp .Lt) (rLtWI X.K) := by
 refine Hk.hold ?_
 simp (disch := with_unfolding_all (
 exact Hk.disch (by
  intro pins s σ H x y v u Q I rx ry h
  obtain ⟨a, b, ⟨w1, i1⟩, ⟨w2, i2⟩, rfl, rfl, ha, hb, q⟩ := h
  cases rx
  cases ry
  obtain ⟨its, r1, p1, _⟩ := I.tuple ha
  obtain ⟨its2, r2, p2, _⟩ := I.tuple hb
  cases r1 with
  | cons c1 r1 => cases r1 with
    | cons c2 r1 => cases r1; cases r2 with
      | cons c3 r2 => cases r2 with
        | cons c4 r2 =>
          cases r2
          obtain ⟨t1, rfl⟩ := c1
          obtain ⟨t2, rfl⟩ := c2
          obtain ⟨t3, rfl⟩ := c3
          obtain ⟨t4, rfl⟩ := c4
          have key := Ob.RcOp.tuples_lt (A := X.A) (s := s) (e := fun j => if j = 0 then (w1 == w2) else (i1 == i2))
            (r := fun j => if j = 0 then decide (w1.cps.toList < w2.cps.toList) else decide (i1 < i2)) p1 p2 hu ?_ ?_
          · have e : Ob.lexAt (fun j => if j = 0 then (w1 == w2) else (i1 == i2)) (fun j => if j = 0 then decide (w1.cps.toList < w2.cps.toList) else decide (i1 < i2)) (decide (2 < 2)) 0 2 = ltWI (w1, i1) (w2, i2) := by
              unfold ltWI
              rw [Ob.lexAt_succ, Ob.lexAt_succ, Ob.lexAt_zero]
              by_cases e1 : w1 = w2
              · subst e1
                by_cases e2 : i1 = i2
                · subst e2; simp
                · simp [e2]
              · simp [e1]
            exact key X.prog X.w _ _ ⟨.bl (ltWI (w1, i1) (w2, i2)), H, I, by rw [← e]; rfl, q⟩
          · intro j h1 h2
            match j, h1 with
            | 0, _ => exact SeqAt.EqAt.str_str w1 t1 w2 t3
            | 1, _ => exact SeqAt.EqAt.int_int i1 t2 i2 t4
          · intro j h1 h2 _
            match j, h1 with
            | 0, _ => exact fun _ _ _ _ z => PyProof.Rows.lt_str z
            | 1, _ => exact fun _ _ _ _ z => PyProof.Rows.lt_int z))) only [↓Hk.hold_s]
def rSetOfL (K : PySem.W.Frag) (w : World) : List V → Hp → VK → Prop := fun xs H Q => ∃ (l : Addr) (ns : List Int), xs = [.ref l] ∧ SqL K H l (ns.map V.int) ∧ ns.length < 60 ∧
  ∀ a n, H a = none → n ≤ ns.length → Q (.ref a) (upd H a (SetO w a (fun j => decide (j ∈ ns)) n))
end
end Hk
set_option Elab.async false
set_option linter.all false
set_option maxRecDepth 100000
set_option maxHeartbeats 4000000
namespace PySem
open PyProof.Rows L2
/-- a set that stands empty and new -/
abbrev hkFresh (w : World) : Obj := { cls := .type "set", dict := none, data := .set #[] 0 (.fresh 0 0 (!w.params.followText "set-order")) }
section
variable {P : Program} {w : World} {A : Around} {E : Value → Shared → Prop} {s : Shared}
set_option maxRecDepth 100000 in
set_option maxHeartbeats 3200000 in
/-- set(xs), xs a list of ints, as a set whose order is known -/
theorem hk_set_list {l : Addr} {xs : Array Value} (ns : List Int) {Q : Value → Shared → Prop} (hnd : A.handled = none) (isl : s.heap.IsList l xs) (hin : IntsAre xs.toList ns) (few : ns.length + 1 < scanBound)
    (k : ∀ (h2 : Heap) (tk c : Nat), SetR w h2 s.heap.objs.size (fun j => decide (j ∈ ns)) c → c ≤ ns.length → (∀ b o, s.heap.get? b = some o → h2.get? b = some o) → Q (.ref s.heap.objs.size) { s with heap := h2, toks := tk }) :
    wpAny (model P w) A (call (.type "set") [.ref l]) Q E s := by
 refine Hk.hold ?_
 simp (disch := with_unfolding_all (
 exact Hk.disch (by
  have nsz : xs.size = ns.length := by have z := IntsAre.length hin; rwa [Array.length_toList] at z
  obtain ⟨_, _, hm0⟩ := F.called_set.mro
  have hm1 := F.called_set.made
  have hm2 := F.called_set.sub
  refine wpAny_call (codeAny_of_tree ?_)
  show wpAny _ _ (callAny (.type "set") _) _ _ _
  refine wpAny_pure ⟨Code.quiet_builtin _ (by decide +kernel), codeAny_builtin F.entry_type_call ?_⟩
  rw [Around.under_plain (weight_type_call_type "set" [.ref l] []) rfl]
  have a1 := F.called_set.notType
  have a2 := F.called_set.canCreate
  have a3 := F.typeCall_set_1 (.ref l)
  repeat any_goals (first | assumption | wp_step)
  refine codeAny_mono (code_set_led1 (.ref l) (E := E) (Q₁ := fun v s1 => v = .ref s.heap.objs.size ∧ s1 = { s with heap := s.heap.push (hkFresh w) }) ⟨rfl, rfl⟩) fun r1 s1 h1 => ?_
  match r1, h1 with
  | .error _, h1 => exact h1
  | .ok .next, h1 | .ok .brk, h1 | .ok .cont, h1 => exact h1.elim
  | .ok (.ret v), h1 =>
    obtain ⟨rfl, rfl⟩ := h1
    have fr : (s.heap.push (hkFresh w)).get? s.heap.objs.size = some (hkFresh w) := Heap.get?_push_size _ rfl
    have ty : Shared.TypeIs { s with heap := s.heap.push (hkFresh w) } (.ref s.heap.objs.size) "set" := ⟨_, fr, rfl⟩
    have b1 := F.called_set.init.lookup
    have b2 := F.called_set.init.bind (.ref s.heap.objs.size)
    repeat any_goals (first | assumption | wp_step)
    refine codeAny_mono (codeAny_call_builtin (R := wants (fun r s2 => r = .none ∧ ∃ h2 tk c, s2 = { s with heap := h2, toks := tk } ∧ SetR w h2 s.heap.objs.size (fun j => decide (j ∈ ns)) c ∧ c ≤ ns.length ∧
      (∀ b o, s.heap.get? b = some o → h2.get? b = some o)) E) F.called_set.init.plain F.entry_set_init (check_set_init_1 ty ?_)) fun r2 s2 h2 => ?_
    · obtain ⟨⟨oc, od, oda, osl⟩, hol, hcl, nl, hdl⟩ := isl
      dsimp only at hcl hdl
      subst hcl hdl
      have hol2 : (s.heap.push (hkFresh w)).get? l = some { cls := .type "list", dict := od, data := .seq xs nl, slots := osl } := Heap.get?_push_of_some _ hol
      have c1 := F.sub_list_set
      have c2 := F.sub_list_frozenset
      have c3 : (Value.type "list" == Value.type "dict") = false := by decide
      have il : (s.heap.push (hkFresh w)).IsList l xs := ⟨_, hol2, rfl, nl, rfl⟩
      unfold Builtin.«set.__init__» noKeywords Builtin.Frozenset.updateFrom
      generalize hpi : pyIter = pin
      wp_walk
      subst hpi
      refine wpAny_pyIter_list il (wpAny_bind (wpAny_runValue ?_))
      have lS : l < s.heap.objs.size := Heap.lt_size hol
      have sz1 : (s.heap.push (hkFresh w)).objs.size = s.heap.objs.size + 1 := Heap.size_push ..
      have d1 : l ≠ (s.heap.push (hkFresh w)).objs.size := by rw [sz1]; exact Nat.ne_of_lt (Nat.lt_succ_of_lt lS)
      have d2 : s.heap.objs.size ∉ [(s.heap.push (hkFresh w)).objs.size, l] := by
        rw [sz1]
        intro hm
        rcases List.mem_cons.mp hm with z | z
        · exact Nat.ne_of_lt (Nat.lt_succ_self _) z
        · exact Nat.ne_of_gt lS (List.mem_singleton.mp z)
      have vals : ∀ (i : Nat) (v : Value), xs[i]? = some v → ∃ k t, ns[i]? = some k ∧ v = .int k t := fun i v hv => by
        have lt : i < ns.length := by rw [← nsz]; exact (Array.getElem?_eq_some_iff.mp hv).1
        obtain ⟨t, z⟩ := IntsAre.int_at hin i v (by rw [Array.getElem?_toList]; exact hv)
        refine ⟨ns[i], t, List.getElem?_eq_getElem lt, z.trans ?_⟩
        rw [List.getD_eq_getElem?_getD, List.getElem?_eq_getElem lt]; rfl
      refine set_update_ints ((Walks.list (by simp [hnd]) _ l d1 xs).toS) s.heap.objs.size d2 ns nsz few vals (xs.size - 0) 0 _ (by omega) (Nat.zero_le _) ⟨⟨_, Heap.get?_push_size _ rfl, rfl, rfl⟩, il.push _⟩
        ⟨0, Nat.le_refl 0, setR_new_at (Heap.get?_push_of_some _ fr)⟩ fun s3 c3 mv cle hS => ?_
      obtain ⟨h3, g3, d3, t3, o3⟩ := s3
      cases (show g3 = s.gens from mv.gens)
      cases (show d3 = s.drawn from mv.drawn)
      cases (show o3 = s.os from mv.os)
      show wpAny _ _ _ _ _ _
      refine wpAny_pure ?_
      show wpAny _ _ (ret Value.none) _ _ _
      rw [nsz] at cle
      refine wpAny_pure ⟨rfl, h3, t3, c3, rfl, hS, cle, fun b o e => ?_⟩
      have lt := Heap.lt_size e
      refine mv.heap b o (fun hm => ?_) (Heap.get?_push_of_some _ (Heap.get?_push_of_some _ e))
      rcases List.mem_cons.mp hm with z | z
      · exact Nat.ne_of_lt lt z
      · exact Nat.ne_of_lt (Nat.lt_succ_of_lt lt) ((List.mem_singleton.mp z).trans sz1)
    · match r2, h2 with
      | .error _, h2 => exact h2
      | .ok .next, h2 | .ok .brk, h2 | .ok .cont, h2 => exact h2.elim
      | .ok (.ret _), h2 =>
        obtain ⟨rfl, h3, tk, c, rfl, hS, cle, keep⟩ := h2
        repeat any_goals (first | assumption | wp_step)
        exact k _ _ _ hS cle keep))) only [↓Hk.hold_s]
end
end PySem
namespace Hk
open PySem PySem.Spec PyProof.Rows L2
section
variable {X : Cx}
theorem cr_setL (hc : X.calm = true) : CallR X (.type "set") (rSetOfL X.K X.w) := by
  rintro pins s σ H xs us Q I r ⟨l, ns, rfl, hl, few, q⟩
  rw [Vals.ref1 r]
  obtain ⟨its, rv, pl, hz⟩ := I.list hl
  have hn : H s.heap.objs.size = none := I.hok.fresh (Nat.le_refl _)
  refine hk_set_list ns (I.ok.hd hc) pl.isList (by simpa using rv.ints) (by unfold scanBound; omega) fun h2 tk c hS cle keep => ?_
  exact ⟨.ref s.heap.objs.size, upd H s.heap.objs.size (SetO X.w s.heap.objs.size (fun j => decide (j ∈ ns)) c), I.laid (t' := tk) keep (Nat.le_refl _) (setO_new hS), rfl, q _ c hn cle⟩
end
end Hk
set_option Elab.async false
set_option linter.all false
set_option maxRecDepth 100000
set_option maxHeartbeats 4000000
namespace PySem
section
variable {prog : Program} {w : World} {T : Type} [DecidableEq T] {knd : KeyKind prog w T} {A : Around} {E : Value → Shared → Prop} {s : Shared}
theorem hk_any_no {kvs : List (T × Value)} {k : T} (h : k ∉ kvs.map (·.1)) : ¬ (kvs.any fun p => decide (p.1 = k)) = true := fun z => by
  obtain ⟨p, m, e⟩ := List.any_eq_true.mp z
  exact h (of_decide_eq_true e ▸ List.mem_map_of_mem m)
theorem hk_put {d : Addr} {kvs : List (T × Value)} {k : T} {key v : Value} {Q : Unit → Shared → Prop} (isk : knd.is k key = true) (hm : s.heap.DictOf knd d kvs) (sz : kvs.length ≤ sizeLine)
    (q : ∀ h2, h2.DictOf knd d (stored kvs k v) → Heap.SameBut d s.heap h2 → Q () { s with heap := h2 }) : wpAny (model prog w) A (dictPut d (knd.hash k) key v) Q E s := by
 refine Hk.hold ?_
 simp (disch := with_unfolding_all (
 exact Hk.disch (by
  obtain ⟨o, ⟨l⟩, ep, ho, hc, hd, hk, hp, nd⟩ := hm
  have ll : l.length = kvs.length := hp.length
  have ix : ((⟨l⟩ : Array DictEntry).findIdx? fun e => knd.is k e.key) = kvs.findIdx? fun p => decide (p.1 = k) := by
    rw [← hp.findIdx k]; simp
  unfold dictPut
  refine wpAny_bind (wpAny_dictFind_of isk ho hd hk ?_)
  cases hi : (⟨l⟩ : Array DictEntry).findIdx? fun e => knd.is k e.key with
  | none =>
    have no : k ∉ kvs.map (·.1) := not_mem_of_findIdx_none (ix ▸ hi)
    have st : stored kvs k v = kvs ++ [(k, v)] := by rw [stored, if_neg (hk_any_no no)]
    refine wpAny_updateDictKeys (hz := by show l.length ≤ _; omega) ho hd (q _ ⟨_, _, ep + 1, Heap.get?_update_self _ ho (Obj.isFreed_of_dict (Obj.data_mapDictKeys hd _)), hc.mapDictKeys _, Obj.data_mapDictKeys hd _, hk.push isk _, ?_, ?_⟩ (Heap.SameBut.update ..))
    · rw [st]; simpa using hp.append isk (knd.hash k) v
    · rw [st, List.map_append, List.nodup_append]
      exact ⟨nd, by simp, fun a ha b hb e => no (by rw [List.map_singleton, List.mem_singleton] at hb; have e2 : a = k := e.trans hb; rw [← e2]; exact ha)⟩
  | some i =>
    have st : stored kvs k v = kvs.map fun p => if p.1 = k then (p.1, v) else p := by rw [stored, if_pos (any_of_findIdx_some (ix ▸ hi))]
    refine wpAny_updateDict ho hd (q _ ⟨_, _, ep, Heap.get?_update_self _ ho (Obj.isFreed_of_dict (Obj.data_mapDict hd _)), hc.mapDict _, Obj.data_mapDict hd _, hk.modify _ _, ?_, ?_⟩ (Heap.SameBut.update ..))
    · rw [st]
      simpa using hp.modify nd (i := i) (by rw [← hi]; simp) v
    · rw [st, keys_map_store]; exact nd))) only [↓Hk.hold_s]
/-- what ** of a dict does in a display that holds something already -/
theorem hk_merge {d o : Addr} {kvs more : List (T × Value)} {Q : Unit → Shared → Prop} (ne : d ≠ o) (oS : (o == sysModules) = false) (some0 : kvs ≠ [])
    (hd : s.heap.DictOf knd d kvs) (ho : s.heap.DictOf knd o more) (sz : kvs.length + more.length ≤ sizeLine)
    (q : ∀ h2, h2.DictOf knd d (merged kvs more) → Heap.SameBut d s.heap h2 → Q () { s with heap := h2 }) : wpAny (model prog w) A (mergeMapping d (.ref o) false) Q E s := by
 refine Hk.hold ?_
 simp (disch := with_unfolding_all (
 exact Hk.disch (by
  obtain ⟨ob, ⟨es⟩, ep, e1, e2, e3, e4, e5, e6⟩ := id ho
  obtain ⟨db, ⟨ds⟩, dp, f1, f2, f3, f4, f5, f6⟩ := id hd
  have hl : es.length = more.length := e5.length
  have hne : (⟨ds⟩ : Array DictEntry).isEmpty = false := by
    have z : ds.length = kvs.length := f5.length
    cases ds with
    | nil => cases kvs with
      | nil => exact absurd rfl some0
      | cons a r => simp at z
    | cons a r => rfl
  unfold mergeMapping
  refine wpAny_bind (wpAny_isInstance ho.typeIs (T := "dict") (U := "dict") (b := true) (by rw [isSubtype_type]; kernel_rfl) ?_)
  rw [if_pos rfl]
  refine wpAny_bind (wpAny_specialOf ho.typeIs F.slot_dict_iter.lookup (wpAny_bind (wpAny_pure ?_)))
  show wpAny _ _ (if (o == sysModules) = true then _ else _) _ _ _
  rw [oS, if_neg Bool.false_ne_true]
  refine wpAny_bind (wpAny_dictEntries f1 f3 ?_)
  rw [hne, if_neg Bool.false_ne_true]
  refine wpAny_bind (wpAny_dictEntries e1 e3 (wpAny_bind (wpAny_dictEpoch e1 e3 ?_)))
  refine wpAny_bind ?_
  refine wpAny_forIn_list _ (fun rest _ s2 => ∃ h2 i, s2 = { s with heap := h2 } ∧ rest = List.range' i (es.length - i) ∧ i ≤ es.length ∧ h2.DictOf knd d (merged kvs (more.take i)) ∧ h2.get? o = some ob ∧ Heap.SameBut d s.heap h2)
    _ ?_ ?_ _ _ ⟨s.heap, 0, rfl, by simp [List.range_eq_range'], Nat.zero_le _, by simpa [merged] using hd, e1, Heap.SameBut.refl _ _⟩
  · rintro x rest b s2 ⟨h2, i, rfl, er, le, g1, g2, g3⟩
    have lt : i < es.length := by
      rcases Nat.lt_or_ge i es.length with z | z
      · exact z
      · rw [Nat.sub_eq_zero_of_le z] at er; simp at er
    rw [show es.length - i = (es.length - (i + 1)) + 1 by omega, List.range'_succ] at er
    injection er with ex er
    subst ex
    refine wpAny_bind (wpAny_dictEntries g2 e3 ?_)
    rw [show (⟨es⟩ : Array DictEntry)[x]? = some es[x] by simp [lt]]
    have lm : x < more.length := by omega
    obtain ⟨hkey, hval⟩ := e5.get? (e := es[x]) (i := x) (by simp [lt]) (List.getElem?_eq_getElem lm)
    obtain ⟨k2, hk2, hh⟩ := e4 es[x] (by simp)
    obtain rfl : k2 = more[x].1 := knd.inj _ _ _ hk2 hkey
    have lz : (merged kvs (more.take x)).length ≤ sizeLine := by
      have a1 := merged_length_le kvs (more.take x)
      have a2 : (more.take x).length ≤ more.length := by rw [List.length_take]; omega
      omega
    refine wpAny_bind (wpAny_holding ?_)
    show wpAny _ _ (dictPut d es[x].hash es[x].key es[x].val) _ _ _
    rw [hh, hval]
    refine hk_put hkey g1 lz fun h3 i1 i2 => ?_
    have i3 : h3.get? o = some ob := (i2.2 o (Ne.symm ne)).trans g2
    refine wpAny_bind (wpAny_dictEpoch i3 e3 ?_)
    rw [if_neg (by simp)]
    refine wpAny_pure ⟨h3, x + 1, rfl, er, lt, ?_, i3, g3.trans i2⟩
    rw [merged_take_succ kvs more x more[x] (List.getElem?_eq_getElem lm)]
    exact i1
  · rintro b s2 ⟨h2, i, rfl, er, le, g1, g2, g3⟩
    have en : i = es.length := by
      rcases Nat.lt_or_ge i es.length with z | z
      · rw [show es.length - i = (es.length - (i + 1)) + 1 by omega, List.range'_succ] at er
        cases er
      · omega
    rw [en, hl, List.take_length] at g1
    exact wpAny_pure (q h2 g1 g3)))) only [↓Hk.hold_s]
end
end PySem
set_option Elab.async false
set_option linter.all false
set_option maxRecDepth 100000
set_option maxHeartbeats 4000000
namespace PySem
abbrev HkIt := Option (Sem Value) × Sem Value
abbrev HkSt := Option Addr × List (Sem Value × Sem Value)
theorem hk_gather (f : HkIt → HkSt → Sem (ForInStep HkSt)) (hf : ∀ (p : Sem Value × Sem Value) (run : List (Sem Value × Sem Value)), run.length + 1 < 17 → f (some p.1, p.2) (none, run) = pure (.yield (none, run ++ [p]))) (tail : List HkIt) :
    ∀ (l run : List (Sem Value × Sem Value)), run.length + l.length < 17 → forIn ((l.map fun p => (some p.1, p.2)) ++ tail) ((none, run) : HkSt) f = forIn tail ((none, run ++ l) : HkSt) f
  | [], run, _ => by simp
  | p :: r, run, h => by
    rw [List.length_cons] at h
    rw [List.map_cons, List.cons_append, List.forIn_cons, hf p run (by omega), pure_bind]
    have z := hk_gather f hf tail r (run ++ [p]) (by simp; omega)
    simpa using z
section
variable {prog : Program} {w : World} {T : Type} [DecidableEq T] {knd : KeyKind prog w T} {A : Around} {E : Value → Shared → Prop} {s : Shared}
theorem hk_display {pairs : List (Sem Value × Sem Value)} {v : Sem Value} {Q : Value → Shared → Prop} (h0 : pairs ≠ []) (h16 : pairs.length < 16)
    (h : wpAny (model prog w) A (subDict pairs) (fun d s1 => wpAny (model prog w) A v (fun m s2 => wpAny (model prog w) A (mergeMapping d m false) (fun _ s3 => Q (.ref d) s3) (fun _ _ => False) s2) E s1) E s) :
    wpAny (model prog w) A (dictDisplay ((pairs.map fun p => (some p.1, p.2)) ++ [(none, v)])) Q E s := by
 refine Hk.hold ?_
 simp (disch := with_unfolding_all (
 exact Hk.disch (by
  unfold dictDisplay
  dsimp only
  rw [hk_gather _ (fun p run hr => by
    have z : ((run ++ [(p.1, p.2)]).length == 17) = false := by simp; omega
    simp only [z, Bool.false_eq_true, if_false]) _ pairs [] (by simp; omega)]
  have ne : pairs.isEmpty = false := by cases pairs <;> first | exact absurd rfl h0 | rfl
  simp only [List.nil_append, List.forIn_cons, List.forIn_nil, ne]
  refine wpAny_bind (wpAny_bind (wpAny_bind ?_))
  rw [if_neg Bool.false_ne_true]
  refine wpAny_bind (wpAny_mono h (fun d s1 h1 => wpAny_pure ?_) fun _ _ e => e)
  dsimp only
  refine wpAny_bind (wpAny_pure (wpAny_bind (wpAny_holding (wpAny_mono h1 (fun m s2 h2 => ?_) fun _ _ e => e))))
  refine wpAny_bind (wpAny_onRaise (wpAny_tryCatch (wpAny_onRaise (wpAny_holding (wpAny_mono h2 (fun _ s3 h3 => ?_) fun _ _ e => e.elim)))))
  refine wpAny_pure (wpAny_pure ?_)
  dsimp only
  refine wpAny_bind ?_
  rw [if_pos (show ([] : List (Sem Value × Sem Value)).isEmpty = true from rfl)]
  exact wpAny_pure (wpAny_pure h3)))) only [↓Hk.hold_s]
theorem hk_zip {env : Env} {pos : Pos} {v : Expr} : ∀ (keys : List (Option Expr)) (values : List Expr), keys.all (·.isSome) = true → keys.length = values.length →
    (evalEachOpt (keys ++ [none]) env).zip ((evalEach (values ++ [v]) env).map fun v => do let x ← v; standAt pos; pure x) = ((pairTrees keys values env pos).map fun p => (some p.1, p.2)) ++ [(none, do let x ← eval v env; standAt pos; pure x)]
  | [], [], _, _ => rfl
  | [], _ :: _, _, h => by simp at h
  | _ :: _, [], _, h => by simp at h
  | none :: _, _ :: _, h, _ => by simp at h
  | some k :: ks, u :: us, h, hl => by
    have z := hk_zip (v := v) (pos := pos) (env := env) ks us (by simpa using h) (by simpa using hl)
    show (some (eval k env), (do let x ← eval u env; standAt pos; pure x)) :: (evalEachOpt (ks ++ [none]) env).zip ((evalEach (us ++ [v]) env).map fun v => do let x ← v; standAt pos; pure x) = _
    rw [z]; rfl
end
end PySem
namespace Hk
open PySem PySem.Spec PyProof.Rows L2
/-- {k: v, .., **d}: pairs first, then the dict -/
def tDispS (trs : List (TE × TE)) (tv : TE) : TE := fun σ H Q => ∀ p, H p = none → tPairs trs σ (upd H p (.dK [])) fun ps H2 => H2 p = some (.dK []) ∧ ∃ kvs : List (Key × V), ps = kvs.map (fun kv => (kV kv.1, kv.2)) ∧ kvs.length ≤ 15 ∧
  tv σ (upd H2 p (.dK (mergeK [] kvs))) fun x H3 => ∃ (a : Addr) (more : List (Key × V)), x = .ref a ∧ a ≠ p ∧ Rd H3 a (.dK more) ∧ H3 p = some (.dK (mergeK [] kvs)) ∧ mergeK [] kvs ≠ [] ∧ (mergeK [] kvs).length + more.length ≤ 1000 ∧ Q (.ref p) (upd H3 p (.dK (mergeK (mergeK [] kvs) more)))
section
variable {X : Cx} {pos : Pos}
theorem kv_nonempty {κ : Type} {a : List (κ × V)} {b : List (κ × Value)} (r : KV a b) (h : a ≠ []) : b ≠ [] := by
  cases r with
  | nil => exact absurd rfl h
  | cons _ _ => simp
theorem pe_dispS {keys : List (Option Expr)} {values : List Expr} {d0 : Expr} {trs : List (TE × TE)} {tv : TE} (h : PPs X pos keys.dropLast values.dropLast trs) (hv : PE X (values.getLastD d0) tv)
    (hk : keys = keys.dropLast ++ [none] := by rfl) (hvl : values = values.dropLast ++ [values.getLastD d0] := by rfl) (hall : keys.dropLast.all (·.isSome) = true := by rfl) (hl : keys.dropLast.length = values.dropLast.length := by rfl)
    (h0 : (0 < keys.dropLast.length) = True := by simp) (h15 : keys.dropLast.length ≤ 15 := by decide) : PE X (.Dict keys values pos) (tDispS trs tv) := by
 refine Hk.hold ?_
 simp (disch := with_unfolding_all (
 exact Hk.disch (by
  refine ⟨fun pins s σ H Q I q => ?_⟩
  have hn := I.hok.fresh (Nat.le_refl s.heap.objs.size)
  have I1 := I.laid (a := s.heap.objs.size) (o := .dK []) (h' := s.heap.push { cls := .type "dict", data := .dict #[] }) (t' := s.toks) (fun _ _ z => Heap.get?_push_of_some _ z) (Nat.le_refl _) (dk_empty s.heap I.big)
  have len := pairTrees_length keys.dropLast values.dropLast X.env pos hall hl
  have h00 : 0 < keys.dropLast.length := by rw [h0]; exact True.intro
  rw [hk, hvl, arm_eval_Dict, hk_zip _ _ hall hl]
  refine wpAny_bind (wpAny_standAt (hk_display (fun z => by rw [z] at len; have l2 : 0 = keys.dropLast.length := len; omega) (by omega) ?_))
  refine wpAny_subDict (knd := mixKind X.prog X.w) (by omega) (thn (h.run pins _ σ _ _ I1 (q _ hn)) fun ws s2 hh => ?_)
  obtain ⟨ps, H2, I2, rel, e, kvs, ep, lk, q2⟩ := hh
  subst ep
  obtain ⟨rs, c, rk⟩ := carries_of (P := X.prog) (w := X.w) rel
  obtain ⟨z, hd, vs0, r0, dd⟩ := dk_of I2.hok e
  cases r0
  refine ⟨rs, c, dd, fun h2 d2 sb => ?_⟩
  have rm := rk.merge .nil
  have lm := length_mergeK kvs []
  rw [List.length_nil] at lm
  have I3 := d_write (t' := s2.toks + ws.length) I2 (by rw [e]; exact True.intro) sb (let ⟨o, _, _, ho, _⟩ := d2; ⟨o, ho⟩) (dk_new (by rw [sizeLine_eq]; omega) hd rm d2)
  refine wpAny_bind (thn (hv.run pins _ σ _ _ I3 q2) fun u s3 hh => wpAny_bind (wpAny_standAt (wpAny_pure ?_)))
  obtain ⟨x, H3, I4, rx, a, more, ex, nap, ra, hp, ne, l15, q3⟩ := hh
  subst ex
  obtain rfl : u = Value.ref a := rx
  obtain ⟨_, ha, ms, rmore, da⟩ := dk_rd I4.hok ra
  obtain ⟨_, _, cs, rc, dp⟩ := dk_of I4.hok hp
  have lcs : cs.length = (mergeK [] kvs).length := (Paired.length rc).symm
  have lms : ms.length = more.length := (Paired.length rmore).symm
  refine hk_merge (knd := mixKind X.prog X.w) (Ne.symm nap) ha (kv_nonempty rc ne) dp da (by rw [sizeLine_eq, lcs, lms]; omega) fun h3 d3 sb3 => ?_
  have l4 := length_mergeK more (mergeK [] kvs)
  exact ⟨.ref s.heap.objs.size, _, d_write (t' := s3.toks) I4 (by rw [hp]; exact True.intro) sb3 (let ⟨o, _, _, ho, _⟩ := d3; ⟨o, ho⟩) (dk_new (by rw [sizeLine_eq]; omega) hd (rmore.merge rc) d3), rfl, q3⟩))) only [↓Hk.hold_s]
end
end Hk
set_option Elab.async false
set_option linter.all false
set_option maxRecDepth 100000
set_option maxHeartbeats 4000000
namespace Hk
open PySem PySem.Spec PyProof.Rows L2
/-- how many unlike ints there are -/
def distinct (ns : List Int) : Nat := (firstMet (fun i => ns.getD i 0) ns.length).length
theorem step_nodup {l : List Int} (v : Int) (h : l.Nodup) : (step_dedup l v).Nodup := by
  unfold step_dedup
  by_cases e : l.any (· == v) = true
  · rw [if_pos e]; exact h
  · rw [if_neg e]
    refine List.nodup_append.mpr ⟨h, by simp, fun a ha b hb z => ?_⟩
    rw [List.mem_singleton] at hb
    subst hb
    subst z
    exact e (List.any_eq_true.mpr ⟨a, ha, by simp⟩)
theorem firstMet_nd (val : Nat → Int) : ∀ i, (firstMet val i).Nodup
  | 0 => by rw [firstMet_zero]; exact List.nodup_nil
  | i + 1 => by rw [firstMet_succ]; exact step_nodup _ (firstMet_nd val i)
theorem firstMet_mem {ns : List Int} {k : Int} : k ∈ firstMet (fun i => ns.getD i 0) ns.length ↔ k ∈ ns := by
  have z := firstMet_any (fun i => ns.getD i 0) ns.length k
  have e : (List.range ns.length).map (fun i => ns.getD i 0) = ns := by
    refine List.ext_getElem (by simp) fun i h1 h2 => ?_
    simp [List.getD_eq_getElem?_getD, List.getElem?_eq_getElem h2]
  rw [e] at z
  have a : ∀ l : List Int, l.any (· == k) = true ↔ k ∈ l := fun l => by simp
  rw [← a, ← a, z]
theorem distinct_gt {ns : List Int} : 1 < distinct ns ↔ ∃ a ∈ ns, ∃ b ∈ ns, a ≠ b := by
 refine Hk.hold ?_
 simp (disch := with_unfolding_all (
 exact Hk.disch (by
  unfold distinct
  have nd := firstMet_nd (fun i => ns.getD i 0) ns.length
  have mm : ∀ k, k ∈ firstMet (fun i => ns.getD i 0) ns.length ↔ k ∈ ns := fun _ => firstMet_mem
  generalize firstMet (fun i => ns.getD i 0) ns.length = l at nd mm
  constructor
  · intro h
    match l, h, nd, mm with
    | a :: b :: r, _, nd, mm =>
      refine ⟨a, (mm a).mp (by simp), b, (mm b).mp (by simp), fun e => ?_⟩
      subst e
      simp at nd
  · rintro ⟨a, ha, b, hb, ne⟩
    have h1 := (mm a).mpr ha
    have h2 := (mm b).mpr hb
    match l, h1, h2 with
    | [x], h1, h2 =>
      rw [List.mem_singleton] at h1 h2
      exact absurd (h1.trans h2.symm) ne
    | x :: y :: r, _, _ => simp))) only [↓Hk.hold_s]
section
variable {X : Cx}
def tLenSetD (K : PySem.W.Frag) (ta : TE) : TE := fun σ H Q => ta σ H fun x H1 => ∃ (l : Addr) (ns : List Int), x = V.ref l ∧ SqL K H1 l (ns.map V.int) ∧ ns.length < 60 ∧ Q (.int (distinct ns)) H1
theorem pe_lenSetD {a : Expr} {ta : TE} {p p2 q pos : Pos} (hc : X.calm = true) (hg : Gl X "len") (hm : X.mg "len" = none) (hg2 : Gl X "set") (hm2 : X.mg "set" = none) (ha : PE X a ta)
    (na : starEach [a] X.env = (false, eval a X.env) :: starEach [] X.env := by rfl) : PE X (.Call (.Name "len" p) [.Call (.Name "set" p2) [a] [] q] [] pos) (tLenSetD X.K ta) := by
 refine Hk.hold ?_
 simp (disch := with_unfolding_all (
 exact Hk.disch (by
  refine ⟨fun pins s σ H Q I h => Call_ (ld_blt I hg hm PySem.boot_len (PyProof.Rows.callWith_builtin1 (PyProof.Rows.args_cons (Call_ (ld_blt I hg2 hm2 PyProof.Rows.boot_set ?_)) rfl) rfl rfl))⟩
  refine PyProof.Rows.callWith_type1 (PyProof.Rows.args_cons (thn (ha.run pins s σ H _ I h) fun v s1 hh => PyProof.Rows.args_nil ?_) na) na rfl
  obtain ⟨x, H1, I1, r1, l, ns, ex, hq, few, q1⟩ := hh
  subst ex
  cases r1
  obtain ⟨its, r, pl, hz⟩ := I1.list hq
  have hl : its.toArray.size = ns.length := by rw [List.size_toArray, ← r.length, List.length_map]
  refine call_set_list (I1.ok.hd hc) pl.isList (ns := ns) (by simpa using r.ints) (by unfold scanBound; omega) fun h2 tk hS keep => PyProof.Rows.args_nil ?_
  rw [hl] at hS
  obtain ⟨o, es, ep, t, ho, hex, hd, _, _, _, hf, hn⟩ := hS
  have I2 : Inv X pins σ H1 { s1 with heap := h2, toks := tk } := I1.kept fun b o e => keep b o (Heap.lt_size e) e
  have le : distinct ns ≤ ns.length := firstMet_length_le _ _
  have hn2 : es.size = distinct ns := hn
  refine call_len_set ho hex hd hf (by rw [hn2]; omega) ⟨.int (distinct ns), H1, I2.tok _, ⟨_, by rw [hn2]⟩, q1⟩))) only [↓Hk.hold_s]
end
end Hk
set_option Elab.async false
set_option linter.all false
set_option maxRecDepth 100000
set_option maxHeartbeats 4000000
namespace Hk
open PySem PySem.Spec PyProof.Rows L2
theorem hb_int : bootBuiltins "int" = some (.type "int") := PyProof.Rows.boot_int
theorem hb_str : bootBuiltins "str" = some (.type "str") := PyProof.Rows.boot_str
theorem hb_bool : bootBuiltins "bool" = some (.type "bool") := PyProof.Rows.boot_bool
theorem hb_list : bootBuiltins "list" = some (.type "list") := PyProof.Rows.boot_list
theorem hb_tuple : bootBuiltins "tuple" = some (.type "tuple") := PyProof.Rows.boot_tuple
theorem hb_set : bootBuiltins "set" = some (.type "set") := PyProof.Rows.boot_set
theorem hb_len : bootBuiltins "len" = some (.builtin "len") := PySem.boot_len
theorem hb_isinstance : bootBuiltins "isinstance" = some (.builtin "isinstance") := PyProof.Rows.boot_isinstance
theorem hb_all : bootBuiltins "all" = some (.builtin "all") := PyProof.Rows.boot_all
theorem hb_min : bootBuiltins "min" = some (.builtin "min") := PyProof.Rows.boot_min
theorem hb_max : bootBuiltins "max" = some (.builtin "max") := PyProof.Rows.boot_max
theorem hb_sorted : bootBuiltins "sorted" = some (.builtin "sorted") := PyProof.Rows.boot_sorted
/-- no name of the module hides these -/
structure Bl (mg : Str → Option Value) : Prop where
  int_ : mg "int" = none
  str_ : mg "str" = none
  bool_ : mg "bool" = none
  list_ : mg "list" = none
  tuple_ : mg "tuple" = none
  dict_ : mg "dict" = none
  set_ : mg "set" = none
  len : mg "len" = none
  isinstance : mg "isinstance" = none
  all : mg "all" = none
  any : mg "any" = none
  min : mg "min" = none
  max : mg "max" = none
  sorted : mg "sorted" = none
  range : mg "range" = none
  zip : mg "zip" = none
/-- a def of the module as it stands behind the top -/
structure DefAt (K : PySem.W.Frag) (mg : Str → Option Value) (x : Str) (st : Stmt) (ps : List Str) : Prop where
  ex : ∃ f fd, Fun K x x st f fd ∧ mg x = some (.ref f) ∧ Binds K fd ps []
/-- a def that can be called: its promise -/
structure Cal (P : Program) (w : World) (K : PySem.W.Frag) (mg : Str → Option Value) (base : Heap) (k : Nat) (x : Str) (ps : List Str) (sp : Sp) : Prop where
  ex : ∃ f fd, mg x = some (.ref f) ∧ PySem.W.keepIn K (.ref f) = true ∧ Binds K fd ps [] ∧ FnOk P w K mg base CX0 k f fd ps sp
theorem DefAt.cal {P : Program} {w : World} {K : PySem.W.Frag} {mg : Str → Option Value} {base : Heap} {k : Nat} {x : Str} {st : Stmt} {ps : List Str} {sp : Sp} (d : DefAt K mg x st ps)
    (h : ∀ f fd, Fun K x x st f fd → FnOk P w K mg base CX0 k f fd ps sp) : Cal P w K mg base k x ps sp := by
  obtain ⟨f, fd, F, g, b⟩ := d.ex
  exact ⟨f, fd, g, F.kp, b, h f fd F⟩
section
variable {X : Cx} {k : Nat} {x : Str} {ps : List Str} {sp : Sp} {p pos : Pos} {e : Expr} {es : List Expr} {t : TA}
theorem pe_cal (c : Cal X.prog X.w X.K X.mg X.base k x ps sp) (hr : Room k X.A) (hg : Gl X x) (ha : PA X (e :: es) t) (hdb : (x == ("__debug__" : Str)) = false := by decide)
    (he : starEach (e :: es) X.env = (false, eval e X.env) :: starEach es X.env := by rfl) (hpl : (backTo pos (starEach es X.env)).any (·.1) = false := by rfl) : PE X (.Call (.Name x p) (e :: es) [] pos) (tCall sp [] E0 t) := by
  obtain ⟨f, fd, g, kp, b, F⟩ := c.ex
  exact pe_call F hr hg g kp b .nil pass0 ha hdb he hpl
end
section
variable {σ : L2.St} {H : Hp} {D : Ends} {Q : VK} {ta tb te : TE} {t u : TS} {K : PySem.W.Frag} {v : V}
theorem q_seq (h : t { D with nx := u D } σ H) : tSeq t u D σ H := h
theorem q_next (h : D.nx σ H) : tNext D σ H := h
theorem q_set {i : Nat} (h : te σ H fun x H1 => D.nx (σ.set i (some x)) H1) : tAsg te (gName i) D σ H := h
theorem q_asg {g : TG} (h : te σ H fun x H1 => g x σ H1 D.nx) : tAsg te g D σ H := h
theorem q_ret (h : te σ H D.rt) : tRet te D σ H := h
theorem q_drop (h : te σ H fun _ H1 => D.nx σ H1) : tDrop te D σ H := h
theorem q_ifs {c : TT} (h : c σ H fun b H1 => if b = true then t D σ H1 else u D σ H1) : tIfS c t u D σ H := h
theorem q_ife {c : TT} (h : c σ H fun b H1 => if b = true then ta σ H1 Q else tb σ H1 Q) : tIf c ta tb σ H Q := h
theorem q_var {i : Nat} (h : σ[i]? = some (some v)) (q : Q v H) : tVar i σ H Q := ⟨v, h, q⟩
theorem q_c (q : Q v H) : tC v σ H Q := q
theorem q_op {r : R2} (h : ta σ H fun x H1 => tb σ H1 fun y H2 => r x y H2 Q) : tOp r ta tb σ H Q := h
theorem q_un {r : V → Hp → VK → Prop} (h : ta σ H fun x H1 => r x H1 Q) : tUn r ta σ H Q := h
theorem q_chain {r r' : R2} {tc : TE} (h : ta σ H fun x H1 => tb σ H1 fun y H2 => r x y H2 fun z H3 => ∃ k, z = .bl k ∧ (if k = true then tc σ H3 fun w' H4 => r' y w' H4 Q else Q (.bl false) H3)) : tChain r r' ta tb tc σ H Q := h
theorem q_rI0 {g : Int → Int → V} {i j : Int} (q : Q (g i j) H) : rI0 g (.int i) (.int j) H Q := ⟨i, j, rfl, rfl, q⟩
theorem q_rU {g : Int → V} {i : Int} (q : Q (g i) H) : rU g (.int i) H Q := ⟨i, rfl, q⟩
theorem q_eq {x y : V} (h : scal x y = true) (q : Q (.bl (decide (x = y))) H) : rEq x y H Q := ⟨h, q⟩
theorem q_ne {x y : V} (h : scal x y = true) (q : Q (.bl (!decide (x = y))) H) : rNe x y H Q := ⟨h, q⟩
theorem q_test {q : Bool → Hp → Prop} (h : te σ H fun x H1 => ∃ k, x = .bl k ∧ q k H1) : tTest te σ H q := h
theorem q_tB {q : Bool → Hp → Prop} (h : te σ H fun x H1 => ∃ k, x = .bl k ∧ q k H1) : tB te σ H q := h
theorem q_bl {b : Bool} {q : Bool → Prop} (h : q b) : ∃ k, V.bl b = .bl k ∧ q k := ⟨b, rfl, h⟩
theorem q_and {c d : TT} {q : Bool → Hp → Prop} (h : c σ H fun b H1 => if b = true then d σ H1 q else q false H1) : tAnd c d σ H q := h
theorem q_or {c d : TT} {q : Bool → Hp → Prop} (h : c σ H fun b H1 => if b = true then q true H1 else d σ H1 q) : tOr c d σ H q := h
theorem q_not {c : TT} {q : Bool → Hp → Prop} (h : c σ H fun b H1 => q (!b) H1) : tNot c σ H q := h
theorem q_andV (h : ta σ H fun x H1 => ∃ c, x = .bl c ∧ if c = true then tb σ H1 Q else Q (.bl false) H1) : tAndV ta tb σ H Q := h
theorem q_orV (h : ta σ H fun x H1 => ∃ c, x = .bl c ∧ if c = true then Q (.bl true) H1 else tb σ H1 Q) : tOrV ta tb σ H Q := h
theorem q_notV (h : ta σ H fun x H1 => ∃ c, x = .bl c ∧ Q (.bl (!c)) H1) : tNotV ta σ H Q := h
theorem q_isN (h : ta σ H fun x H1 => Q (.bl (decide (x = .non))) H1) : tIsN ta σ H Q := h
theorem q_notN (h : ta σ H fun x H1 => Q (.bl (!decide (x = .non))) H1) : tNotN ta σ H Q := h
theorem q_nil {q : List V → Hp → Prop} (h : q [] H) : tNil σ H q := h
theorem q_cons {tr : TA} {q : List V → Hp → Prop} (h : ta σ H fun x H1 => tr σ H1 fun xs H2 => q (x :: xs) H2) : tCons ta tr σ H q := h
theorem q_tup {tr : TA} (h : tr σ H fun xs H1 => xs.length ≤ sizeLine ∧ ∀ p, H1 p = none → Q (.ref p) (upd H1 p (.tup xs))) : tTup tr σ H Q := h
theorem q_lst {tr : TA} (h : tr σ H fun xs H1 => xs.length ≤ sizeLine ∧ ∀ p, H1 p = none → Q (.ref p) (upd H1 p (.lst xs))) : tLst tr σ H Q := h
theorem q_cb {r : List V → Hp → VK → Prop} {tr : TA} (h : tr σ H fun vs H1 => r vs H1 Q) : tCB r tr σ H Q := h
theorem q_call {sp : Sp} {E : XK} {tr : TA} (h : tr σ H fun vs H1 => sp (vs ++ []) H1 Q E) : tCall sp [] E tr σ H Q := h
theorem q_fld {f : Str} (h : ta σ H fun x H1 => ∃ a C dx fs v, x = .ref a ∧ H1 a = some (.ins C dx fs) ∧ Cls K C ∧ NoAttr K C f ∧ fs.lookup f = some v ∧ Q v H1) : tFld K ta f σ H Q := h
theorem q_bm {T : String} {r : V → List V → Hp → VK → Prop} {tr : TA} (h : ta σ H fun x H1 => tyV K T x H1 ∧ tr σ H1 fun xs H2 => r x xs H2 Q) : tBM K T r ta tr σ H Q := h
theorem q_dget (h : ta σ H fun x H1 => tb σ H1 fun y H2 => ∃ a v, x = .ref a ∧ DGet H2 a y (some v) ∧ Q v H2) : tDGet ta tb σ H Q := h
theorem q_ixL {a : Addr} {xs : List V} {i : Int} {z : V} (h : SqL K H a xs) (hi : atI xs i = some z) (q : Q z H) : rIxL K (.ref a) (.int i) H Q := ⟨a, xs, i, z, rfl, rfl, h, hi, q⟩
theorem q_ixT {a : Addr} {xs : List V} {i : Int} {z : V} (h : SqT K H a xs) (hi : atI xs i = some z) (q : Q z H) : rIxT K (.ref a) (.int i) H Q := ⟨a, xs, i, z, rfl, rfl, h, hi, q⟩
theorem q_sub {ti : TE} {r : TSet} {q : L2.St → Hp → Prop} (h : ta σ H fun o H1 => ti σ H1 fun i H2 => r o i v H2 fun H3 => q σ H3) : gSub ta ti r v σ H q := h
theorem q_for {wi : TI} {g : TG} (h : wi σ H fun J H1 => ∃ W : Nat → Nat → L2.St → Hp → Prop, (∃ m, W 0 m σ H1) ∧ ∀ i m σ H, W i m σ H →
    (J.stop i H ∧ D.nx σ H) ∨ (J.go i H ∧ ∃ N : L2.St → Hp → Prop, (∀ σ' H', N σ' H' → ∃ m', m' < m ∧ W (i + 1) m' σ' H') ∧ ∀ x H', J.yld i H x H' → g x σ H' fun σ2 H2 => t { D with nx := N, ct := N, bk := D.nx } σ2 H2)) : tFor wi g t D σ H := h
end
mutual
theorem _root_.L2.Dp.mono {K : PySem.W.Frag} {H H' : Hp} (s : Same H H') : ∀ {v : V} {d : PyData}, Dp K H v d → Dp K H' v d
  | _, _, .non => .non
  | _, _, .bl b => .bl b
  | _, _, .int i => .int i
  | _, _, .str x => .str x
  | _, _, .lst h a => .lst (s.seq h) (L2.DpAll.mono s a)
  | _, _, .tup h a => .tup (Evl.ex_t s h) (L2.DpAll.mono s a)
theorem _root_.L2.DpAll.mono {K : PySem.W.Frag} {H H' : Hp} (s : Same H H') : ∀ {vs : List V} {ds : List PyData}, DpAll K H vs ds → DpAll K H' vs ds
  | _, _, .nil => .nil
  | _, _, .cons h t => .cons (L2.Dp.mono s h) (L2.DpAll.mono s t)
end
theorem same_new {H : Hp} {p : Addr} {o : HO} (h : H p = none) : Same H (upd H p o) := fun b u e => by
  rw [upd_ne (ne_of_none e h)]; exact e
end Hk
set_option Elab.async false
set_option linter.all false
set_option maxRecDepth 100000
set_option maxHeartbeats 4000000
namespace Hk
open PySem PySem.Spec PyProof.Rows L2
def dTy : PyData → String
  | .none => "NoneType" | .bool _ => "bool" | .int _ => "int" | .str _ => "str" | .list _ => "list" | .tuple _ => "tuple" | .dict _ => "dict"
theorem _root_.L2.Dp.ty {K : PySem.W.Frag} {H : Hp} {x : V} {d : PyData} (h : Dp K H x d) : TyX K H x (.type (dTy d)) := by
  cases h with
  | non => exact .base .non
  | bl b => exact .base (.bl b)
  | int i => exact .base (.int i)
  | str z => exact .base (.str z)
  | lst h _ => rcases h with (h | ⟨o, h⟩) | ⟨o, its, n, l, c, _⟩
               · exact .base (.lst h)
               · exact .base (.frz h)
               · exact .kList l c
  | tup h _ => rcases h with (h | ⟨o, h⟩) | ⟨o, its, n, l, c, _⟩
               · exact .base (.tup h)
               · exact .fTuple h
               · exact .kTuple l c
def isInt : PyData → Bool | .int _ => true | .bool _ => true | _ => false
def isBool : PyData → Bool | .bool _ => true | _ => false
def isStr : PyData → Bool | .str _ => true | _ => false
def isList : PyData → Bool | .list _ => true | _ => false
def isTuple : PyData → Bool | .tuple _ => true | _ => false
theorem kb_NoneType_int : kitB "NoneType" "int" = some false := by decide +kernel
theorem kb_bool_int : kitB "bool" "int" = some true := by decide +kernel
theorem kb_int_int : kitB "int" "int" = some true := by decide +kernel
theorem kb_str_int : kitB "str" "int" = some false := by decide +kernel
theorem kb_list_int : kitB "list" "int" = some false := by decide +kernel
theorem kb_tuple_int : kitB "tuple" "int" = some false := by decide +kernel
theorem kb_int (d : PyData) (h : ∀ kvs, d ≠ .dict kvs) : kitB (dTy d) "int" = some (isInt d) := by
  cases d with
  | none => exact kb_NoneType_int
  | bool _ => exact kb_bool_int
  | int _ => exact kb_int_int
  | str _ => exact kb_str_int
  | list _ => exact kb_list_int
  | tuple _ => exact kb_tuple_int
  | dict kvs => exact absurd rfl (h kvs)
theorem kb_NoneType_bool : kitB "NoneType" "bool" = some false := by decide +kernel
theorem kb_bool_bool : kitB "bool" "bool" = some true := by decide +kernel
theorem kb_int_bool : kitB "int" "bool" = some false := by decide +kernel
theorem kb_str_bool : kitB "str" "bool" = some false := by decide +kernel
theorem kb_list_bool : kitB "list" "bool" = some false := by decide +kernel
theorem kb_tuple_bool : kitB "tuple" "bool" = some false := by decide +kernel
theorem kb_bool (d : PyData) (h : ∀ kvs, d ≠ .dict kvs) : kitB (dTy d) "bool" = some (isBool d) := by
  cases d with
  | none => exact kb_NoneType_bool
  | bool _ => exact kb_bool_bool
  | int _ => exact kb_int_bool
  | str _ => exact kb_str_bool
  | list _ => exact kb_list_bool
  | tuple _ => exact kb_tuple_bool
  | dict kvs => exact absurd rfl (h kvs)
theorem kb_NoneType_str : kitB "NoneType" "str" = some false := by decide +kernel
theorem kb_bool_str : kitB "bool" "str" = some false := by decide +kernel
theorem kb_int_str : kitB "int" "str" = some false := by decide +kernel
theorem kb_str_str : kitB "str" "str" = some true := by decide +kernel
theorem kb_list_str : kitB "list" "str" = some false := by decide +kernel
theorem kb_tuple_str : kitB "tuple" "str" = some false := by decide +kernel
theorem kb_str (d : PyData) (h : ∀ kvs, d ≠ .dict kvs) : kitB (dTy d) "str" = some (isStr d) := by
  cases d with
  | none => exact kb_NoneType_str
  | bool _ => exact kb_bool_str
  | int _ => exact kb_int_str
  | str _ => exact kb_str_str
  | list _ => exact kb_list_str
  | tuple _ => exact kb_tuple_str
  | dict kvs => exact absurd rfl (h kvs)
theorem kb_NoneType_list : kitB "NoneType" "list" = some false := by decide +kernel
theorem kb_bool_list : kitB "bool" "list" = some false := by decide +kernel
theorem kb_int_list : kitB "int" "list" = some false := by decide +kernel
theorem kb_str_list : kitB "str" "list" = some false := by decide +kernel
theorem kb_list_list : kitB "list" "list" = some true := by decide +kernel
theorem kb_tuple_list : kitB "tuple" "list" = some false := by decide +kernel
theorem kb_list (d : PyData) (h : ∀ kvs, d ≠ .dict kvs) : kitB (dTy d) "list" = some (isList d) := by
  cases d with
  | none => exact kb_NoneType_list
  | bool _ => exact kb_bool_list
  | int _ => exact kb_int_list
  | str _ => exact kb_str_list
  | list _ => exact kb_list_list
  | tuple _ => exact kb_tuple_list
  | dict kvs => exact absurd rfl (h kvs)
theorem kb_NoneType_tuple : kitB "NoneType" "tuple" = some false := by decide +kernel
theorem kb_bool_tuple : kitB "bool" "tuple" = some false := by decide +kernel
theorem kb_int_tuple : kitB "int" "tuple" = some false := by decide +kernel
theorem kb_str_tuple : kitB "str" "tuple" = some false := by decide +kernel
theorem kb_list_tuple : kitB "list" "tuple" = some false := by decide +kernel
theorem kb_tuple_tuple : kitB "tuple" "tuple" = some true := by decide +kernel
theorem kb_tuple (d : PyData) (h : ∀ kvs, d ≠ .dict kvs) : kitB (dTy d) "tuple" = some (isTuple d) := by
  cases d with
  | none => exact kb_NoneType_tuple
  | bool _ => exact kb_bool_tuple
  | int _ => exact kb_int_tuple
  | str _ => exact kb_str_tuple
  | list _ => exact kb_list_tuple
  | tuple _ => exact kb_tuple_tuple
  | dict kvs => exact absurd rfl (h kvs)
theorem _root_.L2.Dp.nodict {K : PySem.W.Frag} {H : Hp} {x : V} {d : PyData} (h : Dp K H x d) : ∀ kvs, d ≠ .dict kvs := by
  intro kvs e; subst e; cases h
section
variable {K : PySem.W.Frag} {H : Hp} {x : V} {d : PyData} {Q : VK}
theorem q_isi {T : String} {b : Bool} (h : Dp K H x d) (k : kitB (dTy d) T = some b) (q : Q (.bl b) H) : rIsi K [x, .ty T] H Q := ⟨x, .ty T, _, _, b, rfl, .ty T, h.ty, kit_ty k, q⟩
theorem q_isi_int (h : Dp K H x d) (q : Q (.bl (isInt d)) H) : rIsi K [x, .ty "int"] H Q := q_isi h (kb_int d h.nodict) q
theorem q_isi_bool (h : Dp K H x d) (q : Q (.bl (isBool d)) H) : rIsi K [x, .ty "bool"] H Q := q_isi h (kb_bool d h.nodict) q
theorem q_isi_str (h : Dp K H x d) (q : Q (.bl (isStr d)) H) : rIsi K [x, .ty "str"] H Q := q_isi h (kb_str d h.nodict) q
theorem q_isi_list (h : Dp K H x d) (q : Q (.bl (isList d)) H) : rIsi K [x, .ty "list"] H Q := q_isi h (kb_list d h.nodict) q
theorem q_isi_tuple (h : Dp K H x d) (q : Q (.bl (isTuple d)) H) : rIsi K [x, .ty "tuple"] H Q := q_isi h (kb_tuple d h.nodict) q
theorem q_if {c : Bool} {A B : Prop} (h1 : c = true → A) (h2 : c = false → B) : if c = true then A else B := by
  cases c with
  | true => exact iteT (h1 rfl)
  | false => exact iteF (h2 rfl)
theorem _root_.L2.DpAll.length {xs : List V} {ds : List PyData} (h : DpAll K H xs ds) : xs.length = ds.length := by
  induction ds generalizing xs with
  | nil => cases h; rfl
  | cons d ds ih => cases h with
    | cons a t => simp [ih t]
theorem _root_.L2.DpAll.get {xs : List V} {ds : List PyData} (h : DpAll K H xs ds) : ∀ {i : Nat} {d : PyData}, ds[i]? = some d → ∃ x, xs[i]? = some x ∧ Dp K H x d := by
  induction ds generalizing xs with
  | nil => intro i d e; simp at e
  | cons d ds ih => cases h with
    | cons a t =>
      intro i d2 e
      cases i with
      | zero => simp at e; subst e; exact ⟨_, rfl, a⟩
      | succ i => simpa using ih t (by simpa using e)
theorem _root_.L2.DpAll.get' {xs : List V} {ds : List PyData} (h : DpAll K H xs ds) {i : Nat} {x : V} (e : xs[i]? = some x) : ∃ d, ds[i]? = some d ∧ Dp K H x d := by
  have hl := h.length
  have lt : i < ds.length := by rw [← hl]; exact (List.getElem?_eq_some_iff.mp e).1
  obtain ⟨y, ey, hy⟩ := h.get (List.getElem?_eq_getElem lt)
  rw [e] at ey; cases ey
  exact ⟨_, List.getElem?_eq_getElem lt, hy⟩
end
end Hk
set_option Elab.async false
set_option linter.all false
set_option maxRecDepth 100000
set_option maxHeartbeats 4000000
namespace Hk
open PySem PySem.Spec PyProof.Rows L2
/-- all but what stands at D is as it was -/
def But (D : Addr) (H H' : Hp) : Prop := ∀ b o, H b = some o → b ≠ D → H' b = some o
section
variable {J : It} {n : Nat} {G : Hp → Prop} {Y : Nat → Hp → V → Hp → Prop} {g : TG} {te : TE} {vs : List Nat} {σ : L2.St} {H1 : Hp} {D : Addr} {Qd : Hp → Prop}
/-- what a comprehension without a test makes, each item told by R -/
theorem lc_rel (w : L2.Walk J n G Y) (R : Nat → V → Hp → Prop) (hD : H1 D = none) (few : n < sizeLine) (hG : ∀ H', Same H1 H' → G H') (hY : ∀ i H x H', Y i H x H' → Same H H')
    (hR : ∀ i y H H' acc, H D = some (.lst acc) → But D H H' → R i y H → R i y H')
    (body : ∀ i x H' H2, i < n → Same H1 H' → Y i H' x H2 → ∀ Q' : VK, (∀ y H3, Same H2 H3 → R i y H3 → Q' y H3) → g x (wipe σ vs) H2 fun σ2 H3 => wipe σ2 vs = wipe σ vs ∧ te σ2 H3 Q')
    (done : ∀ ys H', Same H1 H' → H' D = some (.lst ys) → ys.length = n → (∀ i y, ys[i]? = some y → R i y H') → Qd H') :
    ∃ W : Nat → Nat → Hp → Prop, (∃ m, W 0 m (upd H1 D (.lst []))) ∧ ∀ i m H, W i m H →
      (J.stop i H ∧ Qd H) ∨ (J.go i H ∧ ∃ Nx : Hp → Prop, (∀ H', Nx H' → ∃ m', m' < m ∧ W (i + 1) m' H') ∧ ∀ x H', J.yld i H x H' → g x (wipe σ vs) H' fun σ2 H2 => wipe σ2 vs = wipe σ vs ∧ tYes σ2 H2 fun b H3 =>
        if b = true then te σ2 H3 fun y H4 => ∃ acc, H4 D = some (.lst acc) ∧ acc.length < sizeLine ∧ Nx (upd H4 D (.lst (acc ++ [y]))) else Nx H3) := by
 refine Hk.hold ?_
 simp (disch := with_unfolding_all (
 exact Hk.disch (by
  refine lc_it w (fun i H => Same H1 H ∧ ∃ ys, H D = some (.lst ys) ∧ ys.length = i ∧ ∀ j y, ys[j]? = some y → R j y H) ⟨same_new hD, [], upd_same, rfl, fun j y e => by simp at e⟩ (fun i H _ h => hG H h.1) ?_ ?_
  · rintro i x H H2 lt ⟨s1, ys, e, l, r⟩ y
    have s2 := hY i H x H2 y
    have z := body i x H H2 lt s1 y (fun y H4 => ∃ acc, H4 D = some (.lst acc) ∧ acc.length < sizeLine ∧ (Same H1 (upd H4 D (.lst (acc ++ [y]))) ∧ ∃ ys, upd H4 D (.lst (acc ++ [y])) D = some (.lst ys) ∧ ys.length = i + 1 ∧ ∀ j y', ys[j]? = some y' → R j y' (upd H4 D (.lst (acc ++ [y]))))) ?_
    · exact z
    · intro y H4 s4 ry
      have e4 : H4 D = some (.lst ys) := s4 _ _ (s2 _ _ e)
      have bt : ∀ o, But D H4 (upd H4 D o) := fun o b u h hb => by rw [upd_ne hb]; exact h
      refine ⟨ys, e4, by omega, fun b o h => ?_, ys ++ [y], upd_same, by simp [l], fun j y' hj => ?_⟩
      · have hb : b ≠ D := ne_of_none h hD
        rw [upd_ne hb]
        exact s4 _ _ (s2 _ _ (s1 _ _ h))
      · refine hR j y' H4 _ ys e4 (bt _) ?_
        rw [List.getElem?_append] at hj
        split at hj
        · refine hR j y' H H4 ys e (fun b o h hb => s4 _ _ (s2 _ _ h)) (r j y' hj)
        · rename_i hge
          have : j = i := by
            rcases Nat.lt_trichotomy j i with z | z | z
            · omega
            · exact z
            · rw [List.getElem?_eq_none (by simp; omega)] at hj; cases hj
          subst this
          simp [l] at hj
          subst hj
          exact ry
  · rintro H ⟨s1, ys, e, l, r⟩
    exact done ys H s1 e l r))) only [↓Hk.hold_s]
/-- .. each item a value that the heap plays no part in -/
theorem lc_val (w : L2.Walk J n G Y) (f : Nat → V) (hD : H1 D = none) (few : n < sizeLine) (hG : ∀ H', Same H1 H' → G H') (hY : ∀ i H x H', Y i H x H' → Same H H')
    (body : ∀ i x H' H2, i < n → Same H1 H' → Y i H' x H2 → ∀ Q' : VK, (∀ H3, Same H2 H3 → Q' (f i) H3) → g x (wipe σ vs) H2 fun σ2 H3 => wipe σ2 vs = wipe σ vs ∧ te σ2 H3 Q')
    (done : ∀ H', Same H1 H' → H' D = some (.lst ((List.range n).map f)) → Qd H') :
    ∃ W : Nat → Nat → Hp → Prop, (∃ m, W 0 m (upd H1 D (.lst []))) ∧ ∀ i m H, W i m H →
      (J.stop i H ∧ Qd H) ∨ (J.go i H ∧ ∃ Nx : Hp → Prop, (∀ H', Nx H' → ∃ m', m' < m ∧ W (i + 1) m' H') ∧ ∀ x H', J.yld i H x H' → g x (wipe σ vs) H' fun σ2 H2 => wipe σ2 vs = wipe σ vs ∧ tYes σ2 H2 fun b H3 =>
        if b = true then te σ2 H3 fun y H4 => ∃ acc, H4 D = some (.lst acc) ∧ acc.length < sizeLine ∧ Nx (upd H4 D (.lst (acc ++ [y]))) else Nx H3) := by
  refine lc_rel w (fun i y _ => y = f i) hD few hG hY (fun _ _ _ _ _ _ _ h => h) (fun i x H' H2 lt s y Q' k => body i x H' H2 lt s y Q' fun H3 s3 => k _ H3 s3 rfl) fun ys H' s e l r => done H' s ?_
  have : ys = (List.range n).map f := by
    refine List.ext_getElem (by simp [l]) fun i h1 h2 => ?_
    simpa using r i _ (List.getElem?_eq_getElem h1)
  rw [← this]; exact e
end
theorem yat_same {xs : List V} : ∀ i H x H', YAt xs i H x H' → Same H H' := fun i H x H' y => by
  obtain ⟨rfl, _⟩ := y; exact Same.refl _
theorem yfn_same {f : Nat → V} : ∀ i H x H', YFn f i H x H' → Same H H' := fun i H x H' y => by
  obtain ⟨rfl, _⟩ := y; exact Same.refl _
theorem ypair_same {f g : Nat → Option V} : ∀ i H x H', YPair f g i H x H' → Same H H' := fun i H x H' y => by
  obtain ⟨t, a, b, rfl, n, rfl, _⟩ := y; exact same_new n
theorem Same.sqT {K : PySem.W.Frag} {H H' : Hp} {a : Addr} {xs : List V} (s : Same H H') (h : SqT K H a xs) : SqT K H' a xs := Evl.ex_t s h
theorem sz1000 {n : Nat} (h : n < 100000) : n < sizeLine := Evl.sz_lt h
/-- the last sizes -/
theorem hk_all_range (n : Nat) (p : Nat → Bool) : ((List.range n).map p).all id = true ↔ ∀ i, i < n → p i = true := by simp
end Hk
set_option Elab.async false
set_option linter.all false
set_option maxRecDepth 100000
set_option maxHeartbeats 4000000
namespace Hk
open PySem PySem.Spec PyProof.Rows L2
/-- a dict of the module: texts, and tuples of texts -/
structure FormsAt (K : PySem.W.Frag) (w : World) (d : Addr) (tab : List (Str × List Str)) : Prop where
  at_ : ∃ es n, K.lookup d = some ⟨.type "dict", none, .dict es n, #[]⟩ ∧ PySem.W.KeysLit w.params es.toList
  low : (d == sysModules) = false
  get : ∀ z, (∃ ks t, tab.lookup z = some ks ∧ PySem.W.nsIn K d z = some (some (.ref t)) ∧ ∀ H, SqT K H t (ks.map V.str)) ∨ (tab.lookup z = none ∧ PySem.W.nsIn K d z = some none)
def tKGet (K : PySem.W.Frag) (d : Addr) (tab : List (Str × List Str)) (to te : TE) : TE := fun σ H Q => to σ H fun x H1 => x = .ref d ∧ te σ H1 fun y H2 => ∃ z, y = .str z ∧
  (∀ t ks, tab.lookup z = some ks → (∀ H, SqT K H t (ks.map V.str)) → Q (.ref t) H2) ∧ (tab.lookup z = none → Q .non H2)
section
variable {X : Cx} {o e : Expr} {apos cpos : Pos} {to te : TE} {d : Addr} {tab : List (Str × List Str)}
theorem pe_kget (F : FormsAt X.K X.w d tab) (ho : PE X o to) (he : PE X e te) (m : M1 X o "get" apos e cpos) : PE X (.Call (.Attribute o "get" apos) [e] [] cpos) (tKGet X.K d tab to te) := by
 refine Hk.hold ?_
 simp (disch := with_unfolding_all (
 exact Hk.disch (by
  refine ⟨fun pins s σ H Q I h => ?_⟩
  obtain ⟨es, n, hl, hk⟩ := F.at_
  refine wpAny_Call_method m.base m.few m.line PySem.F.plainAttrs_dict PySem.F.slot_dict_get PySem.F.type_dict_get (thn (ho.run pins s σ H _ I h) fun u s1 hh => ?_)
  obtain ⟨x, H1, I1, rx, ex, q1⟩ := hh
  subst ex
  obtain rfl : u = Value.ref d := rx
  have hm := PySem.W.mapOf_K (prog := X.prog) (w := X.w) I1.kIn hl hk
  refine ⟨hm.typeIs, hm.noDict, ?_⟩
  rw [m.trees]
  refine Calls.callWith_builtin rfl (Calls.evalArgs_plain (Calls.spliced_cons (thn (he.run pins s1 σ H1 _ I1 q1) fun iv s2 hh => Calls.spliced_nil ?_)))
  obtain ⟨y, H2, I2, ry, z, ey, q2, q3⟩ := hh
  subst ey
  obtain ⟨tk, rfl⟩ := ry
  have hm2 := PySem.W.mapOf_K (prog := X.prog) (w := X.w) I2.kIn hl hk
  refine call_meetsIn PySem.F.slot_dict_get hm2.typeIs PySem.F.entry_dict_get (PySem.F.args_dict_get_2 _ _) (meets_dict_get (strKind X.prog X.w) d (PySem.strKind_is X.prog X.w z tk) F.low) ⟨_, hm2, ?_⟩
  rcases F.get z with ⟨ks, t, e1, e2, e3⟩ | ⟨e1, e2⟩
  · rw [PySem.W.find_K hl e2]
    exact ⟨.ref t, H2, I2.tok _, rfl, q2 t ks e1 e3⟩
  · rw [PySem.W.find_K hl e2]
    exact ⟨.non, H2, I2.tok _, rfl, q3 e1⟩))) only [↓Hk.hold_s]
end
end Hk
set_option Elab.async false
set_option linter.all false
set_option maxRecDepth 100000
set_option maxHeartbeats 4000000
namespace Hk
open PySem PySem.Spec PyProof.Rows L2
theorem walk_zipT {K : PySem.W.Frag} {a b : Addr} {xs ys : List V} {n : Nat} (hn : n = min xs.length ys.length) : L2.Walk (RZ.ItzT K a b) n (fun H => SqT K H a xs ∧ SqT K H b ys) (YPair (fun i => xs[i]?) (fun i => ys[i]?)) := by
  subst hn
  refine ⟨fun i H hi q => ⟨xs, ys, xs[i]'(by omega), ys[i]'(by omega), q.1, q.2, by simp, by simp⟩, fun H q => ⟨xs, ys, q.1, q.2, by omega⟩, fun i H v H' _ q y => ?_⟩
  obtain ⟨t, x, z, e1, e2, e3, e4, e5⟩ := y
  exact ⟨t, x, z, e1, e2, e3, e4 xs q.1, e5 ys q.2⟩
/-- so many of each kind -/
abbrev Cnt := List (Str × Int)
def countKV (c : Cnt) : List (Key × V) := c.map fun p => (Sum.inr p.1, V.int p.2)
theorem countKV_get : ∀ {c : Cnt} {z : Str} {n : Int}, c.lookup z = some n → valV (countKV c) (Sum.inr z) = some (.int n)
  | (a, m) :: r, z, n, h => by
    unfold countKV
    rw [List.map_cons]
    by_cases e : a = z
    · subst e
      rw [valV_pos rfl]
      simp at h
      rw [h]
    · rw [valV_neg (fun q => e (by simpa using q))]
      have h2 : r.lookup z = some n := by
        rw [List.lookup_cons] at h
        have e2 : (z == a) = false := by simpa using fun q => e q.symm
        rwa [e2] at h
      exact countKV_get h2
theorem dgetC {H : Hp} {a : Addr} {c : Cnt} {z : Str} {n : Int} (h : H a = some (.dK (countKV c))) (e : c.lookup z = some n) : DGet H a (.str z) (some (.int n)) := by
  rw [← countKV_get e]
  exact DGet.k (k := Sum.inr z) h
theorem lookup_mem {α : Type} : ∀ {T : List (Str × α)} {z : Str} {v : α}, T.lookup z = some v → (z, v) ∈ T
  | (a, u) :: r, z, v, h => by
    rw [List.lookup_cons] at h
    split at h
    · rename_i e
      cases h
      rw [eq_of_beq e]
      exact List.mem_cons_self
    · exact List.mem_cons_of_mem _ (lookup_mem h)
theorem dpAll_of {K : PySem.W.Frag} {H : Hp} {xs : List V} {ds : List PyData} (l : xs.length = ds.length) (h : ∀ (i : Nat) (x : V) (d : PyData), xs[i]? = some x → ds[i]? = some d → Dp K H x d) : DpAll K H xs ds := by
  induction ds generalizing xs with
  | nil => cases xs with
    | nil => exact .nil
    | cons a r => simp at l
  | cons d ds ih => cases xs with
    | nil => simp at l
    | cons a r => exact .cons (h 0 a d rfl rfl) (ih (by simpa using l) fun i x e h1 h2 => h (i + 1) x e (by simpa using h1) (by simpa using h2))
theorem _root_.L2.DpAll.drop {K : PySem.W.Frag} {H : Hp} {xs : List V} {ds : List PyData} (h : DpAll K H xs ds) (n : Nat) : DpAll K H (xs.drop n) (ds.drop n) := by
  induction n generalizing xs ds with
  | zero => exact h
  | succ n ih => cases h with
    | nil => exact .nil
    | cons a t => exact ih t
theorem atI0 {α : Type} {xs : List α} {x : α} (h : xs[0]? = some x) : atI xs 0 = some x := atI_nat (j := 0) h
theorem atI1 {α : Type} {xs : List α} {x : α} (h : xs[1]? = some x) : atI xs 1 = some x := atI_nat (j := 1) h
end Hk
namespace Hk
open PySem PySem.Spec PyProof.Rows L2
/-- [p(x) for x in xs], xs a list of data, p a test -/
theorem lc_test {K : PySem.W.Frag} {a : Addr} {xs : List V} {ds : List PyData} {g : TG} {te : TE} {vs : List Nat} {σ : L2.St} {H1 : Hp} {D : Addr} {Qd : Hp → Prop} (p : PyData → Bool) (hx : SqL K H1 a xs) (hd : DpAll K H1 xs ds) (few : ds.length < 100000) (hD : H1 D = none)
    (body : ∀ x d H2, Dp K H2 x d → d ∈ ds → Same H1 H2 → ∀ Q' : VK, (∀ H3, Same H2 H3 → Q' (.bl (p d)) H3) → g x (wipe σ vs) H2 fun σ2 H3 => wipe σ2 vs = wipe σ vs ∧ te σ2 H3 Q')
    (done : ∀ H', Same H1 H' → SqL K H' D ((ds.map p).map V.bl) → Qd H') :
    ∃ W : Nat → Nat → Hp → Prop, (∃ m, W 0 m (upd H1 D (.lst []))) ∧ ∀ i m H, W i m H →
      ((Itl K a).stop i H ∧ Qd H) ∨ ((Itl K a).go i H ∧ ∃ Nx : Hp → Prop, (∀ H', Nx H' → ∃ m', m' < m ∧ W (i + 1) m' H') ∧ ∀ x H', (Itl K a).yld i H x H' → g x (wipe σ vs) H' fun σ2 H2 => wipe σ2 vs = wipe σ vs ∧ tYes σ2 H2 fun b H3 =>
        if b = true then te σ2 H3 fun y H4 => ∃ acc, H4 D = some (.lst acc) ∧ acc.length < sizeLine ∧ Nx (upd H4 D (.lst (acc ++ [y]))) else Nx H3) := by
 refine Hk.hold ?_
 simp (disch := with_unfolding_all (
 exact Hk.disch (by
  have l := hd.length
  refine lc_val (n := xs.length) walk_list (fun i => .bl (p (ds.getD i .none))) hD (sz1000 (by omega)) (fun H2 s => s.seq hx) yat_same ?_ ?_
  · rintro i x H2 H3 lt s ⟨rfl, e⟩ Q2 k
    obtain ⟨d, e2, hd2⟩ := hd.get' e
    refine body x d H3 (Dp.mono s hd2) (List.mem_of_getElem? e2) s Q2 fun H4 s4 => ?_
    have z := k H4 s4
    rw [List.getD_eq_getElem?_getD, e2] at z
    exact z
  · intro H2 s e
    refine done H2 s (SqL.of ?_)
    rw [e]
    congr 2
    refine List.ext_getElem (by simp [l]) fun i h1 h2 => ?_
    have lt : i < ds.length := by simpa using h2
    simp [List.getD_eq_getElem?_getD, List.getElem?_eq_getElem lt]))) only [↓Hk.hold_s]
theorem all_map_id {α : Type} (l : List α) (p : α → Bool) : (l.map p).all id = l.all p := by rw [List.all_map]; rfl
end Hk
set_option Elab.async false
set_option linter.all false
set_option maxRecDepth 100000
set_option maxHeartbeats 4000000
namespace Hk
open PySem PySem.Spec PyProof.Rows L2
section
variable {K : PySem.W.Frag} {a : Addr} {xs : List V} {g : TG} {tb : TS} {D : Ends} {σ : L2.St} {H : Hp}
theorem q_forV {k : Nat} (xs : List V) (Pv : Nat → L2.St → Hp → Prop) (hv : σ[k]? = some (some (.ref a))) (hx : SqL K H a xs) (h0 : Pv 0 σ H) (hl : ∀ i σ H, i ≤ xs.length → Pv i σ H → SqL K H a xs)
    (hs : ∀ i x σ H, xs[i]? = some x → Pv i σ H → g x σ H fun σ2 H2 => tb { D with nx := Pv (i + 1), ct := Pv (i + 1), bk := D.nx } σ2 H2) (hd : ∀ σ H, Pv xs.length σ H → D.nx σ H) : tFor (iList K (tVar k)) g tb D σ H :=
  q_for ⟨_, hv, a, rfl, ⟨xs, hx⟩, for_list Pv h0 hl hs hd⟩
theorem q_forR {k : Nat} {n : Int} (Pv : Nat → L2.St → Hp → Prop) (hv : σ[k]? = some (some (.int n))) (h1 : n < 1000000) (h2 : -1000000 < n) (h0 : Pv 0 σ H)
    (hs : ∀ i σ H, i < n.toNat → Pv i σ H → g (.int (0 + i)) σ H fun σ2 H2 => tb { D with nx := Pv (i + 1), ct := Pv (i + 1), bk := D.nx } σ2 H2) (hd : ∀ σ H, Pv n.toNat σ H → D.nx σ H) : tFor (iRng1 (tCons (tVar k) tNil)) g tb D σ H :=
  q_for ⟨_, hv, n, rfl, by omega, by omega, for_range Pv h0 hs hd⟩
theorem q_forL (xs : List V) (Pv : Nat → L2.St → Hp → Prop) (h0 : Pv 0 σ H) (hl : ∀ i σ H, i ≤ xs.length → Pv i σ H → SqL K H a xs)
    (hs : ∀ i x σ H, xs[i]? = some x → Pv i σ H → g x σ H fun σ2 H2 => tb { D with nx := Pv (i + 1), ct := Pv (i + 1), bk := D.nx } σ2 H2) (hd : ∀ σ H, Pv xs.length σ H → D.nx σ H) (hx : SqL K H a xs) (te : TE) (he : ∀ Q : VK, Q (.ref a) H → te σ H Q) : tFor (iList K te) g tb D σ H :=
  q_for (he _ ⟨a, rfl, ⟨xs, hx⟩, for_list Pv h0 hl hs hd⟩)
end
/-- [f(x) for x in xs], each a value that the heap plays no part in, xs a list of data -/
theorem lc_map {K : PySem.W.Frag} {a : Addr} {xs : List V} {ds : List PyData} {g : TG} {te : TE} {vs : List Nat} {σ : L2.St} {H1 : Hp} {D : Addr} {Qd : Hp → Prop} (f : PyData → V) (hx : SqL K H1 a xs) (hd : DpAll K H1 xs ds) (few : ds.length < 100000) (hD : H1 D = none)
    (body : ∀ x d H2, Dp K H2 x d → d ∈ ds → Same H1 H2 → ∀ Q' : VK, (∀ H3, Same H2 H3 → Q' (f d) H3) → g x (wipe σ vs) H2 fun σ2 H3 => wipe σ2 vs = wipe σ vs ∧ te σ2 H3 Q')
    (done : ∀ H', Same H1 H' → H' D = some (.lst (ds.map f)) → Qd H') :
    ∃ W : Nat → Nat → Hp → Prop, (∃ m, W 0 m (upd H1 D (.lst []))) ∧ ∀ i m H, W i m H →
      ((Itl K a).stop i H ∧ Qd H) ∨ ((Itl K a).go i H ∧ ∃ Nx : Hp → Prop, (∀ H', Nx H' → ∃ m', m' < m ∧ W (i + 1) m' H') ∧ ∀ x H', (Itl K a).yld i H x H' → g x (wipe σ vs) H' fun σ2 H2 => wipe σ2 vs = wipe σ vs ∧ tYes σ2 H2 fun b H3 =>
        if b = true then te σ2 H3 fun y H4 => ∃ acc, H4 D = some (.lst acc) ∧ acc.length < sizeLine ∧ Nx (upd H4 D (.lst (acc ++ [y]))) else Nx H3) := by
 refine Hk.hold ?_
 simp (disch := with_unfolding_all (
 exact Hk.disch (by
  have l := hd.length
  refine lc_val (n := xs.length) walk_list (fun i => f (ds.getD i .none)) hD (sz1000 (by omega)) (fun H2 s => s.seq hx) yat_same ?_ ?_
  · rintro i x H2 H3 lt s ⟨rfl, e⟩ Q2 k
    obtain ⟨d, e2, hd2⟩ := hd.get' e
    refine body x d H3 (L2.Dp.mono s hd2) (List.mem_of_getElem? e2) s Q2 fun H4 s4 => ?_
    have z := k H4 s4
    rw [List.getD_eq_getElem?_getD, e2] at z
    exact z
  · intro H2 s e
    refine done H2 s ?_
    rw [e]
    congr 2
    refine List.ext_getElem (by simp [l]) fun i h1 h2 => ?_
    have lt : i < ds.length := by simpa using h2
    simp [List.getD_eq_getElem?_getD, List.getElem?_eq_getElem lt]))) only [↓Hk.hold_s]
theorem ty_but {K : PySem.W.Frag} {H H2 : Hp} {a : Addr} {kvs : List (Key × V)} {x : V} {d : PyData} (hd : Dp K H x d) (ha : H a = some (.dK kvs)) (k : ∀ b o, H b = some o → b ≠ a → H2 b = some o) : TyX K H2 x (.type (dTy d)) := by
 refine Hk.hold ?_
 simp (disch := with_unfolding_all (
 exact Hk.disch (by
  cases hd with
  | non => exact .base .non
  | bl b => exact .base (.bl b)
  | int b => exact .base (.int b)
  | str b => exact .base (.str b)
  | @lst c xs ds hs _ => rcases hs with (hs | ⟨o, hs⟩) | ⟨o, its, n, l0, c0, _⟩
                         · exact .base (.lst (k _ _ hs (ne_of hs ha (by simp))))
                         · exact .base (.frz (k _ _ hs (ne_of hs ha (by simp))))
                         · exact .kList l0 c0
  | @tup c xs ds hs _ => rcases hs with (hs | ⟨o, hs⟩) | ⟨o, its, n, l0, c0, _⟩
                         · exact .base (.tup (k _ _ hs (ne_of hs ha (by simp))))
                         · exact .fTuple (k _ _ hs (ne_of hs ha (by simp)))
                         · exact .kTuple l0 c0))) only [↓Hk.hold_s]
end Hk
set_option Elab.async false
set_option linter.all false
set_option maxRecDepth 100000
set_option maxHeartbeats 4000000
namespace Hk
open PySem PySem.Spec PyProof.Rows L2
/-- a method as it stands behind the top -/
structure MethAt (K : PySem.W.Frag) (C : Addr) (m qual : Str) (st : Stmt) (ps : List Str) : Prop where
  cls : Cls K C
  ex : ∃ f fd, Fun K m qual st f fd ∧ Meth K C m f ∧ Binds K fd ps []
structure MCal (P : Program) (w : World) (K : PySem.W.Frag) (mg : Str → Option Value) (base : Heap) (k : Nat) (C : Addr) (m : Str) (ps : List Str) (sp : Sp) : Prop where
  cls : Cls K C
  ex : ∃ f fd, Meth K C m f ∧ Binds K fd ps [] ∧ FnOk P w K mg base CX0 k f fd ps sp
theorem MethAt.cal {P : Program} {w : World} {K : PySem.W.Frag} {mg : Str → Option Value} {base : Heap} {k : Nat} {C : Addr} {m qual : Str} {st : Stmt} {ps : List Str} {sp : Sp} (d : MethAt K C m qual st ps)
    (h : ∀ f fd, Fun K m qual st f fd → FnOk P w K mg base CX0 k f fd ps sp) : MCal P w K mg base k C m ps sp := by
  obtain ⟨f, fd, F, g, b⟩ := d.ex
  exact ⟨d.cls, f, fd, g, b, h f fd F⟩
/-- a class that can be called: its __init__'s promise -/
structure MkCal (P : Program) (w : World) (K : PySem.W.Frag) (mg : Str → Option Value) (base : Heap) (k : Nat) (C : Addr) (x : Str) (ps : List Str) (sp : Sp) : Prop where
  g : mg x = some (.ref C)
  ex : ∃ f fd, Mk K C f ∧ Binds K fd ps [] ∧ FnOk P w K mg base CX0 k f fd ps sp
section
variable {X : Cx} {k n : Nat} {x m : Str} {ps ks : List Str} {sp : Sp} {p pos apos : Pos} {o e : Expr} {es : List Expr} {kws : List Keyword} {ta : TE} {t tk : TA} {C : Addr}
theorem pe_mcal {pl : Sem Bool} (c : MCal X.prog X.w X.K X.mg X.base k C m ps sp) (hr : Room k X.A) (ho : PE X o ta) (ha : PA X (e :: es) t)
    (hst : starEach (e :: es) X.env = (false, eval e X.env) :: starEach es X.env := by rfl) (hpl : (backTo pos (starEach es X.env)).any (·.1) = false := by rfl)
    (ht : eval (.Call (.Attribute o m apos) (e :: es) [] pos) X.env = (do
      let ov ← eval o X.env; standAt apos.atName
      let (f, first) ← holding [ov] (getMethod ov m pl); callWith pos f first (backTo pos (starEach (e :: es) X.env)) (backToKw pos (keywordEach [] X.env))) := by rfl) : PE X (.Call (.Attribute o m apos) (e :: es) [] pos) (tMeth C m sp [] E0 ta t) := by
  obtain ⟨cl, f, fd, mt, b, F⟩ := c
  exact pe_meth ho cl mt F hr b .nil pass0 ha hst hpl ht
theorem pe_mcal0 {pl : Sem Bool} (c : MCal X.prog X.w X.K X.mg X.base k C m ps sp) (hr : Room k X.A) (ho : PE X o ta)
    (ht : eval (.Call (.Attribute o m apos) [] [] pos) X.env = (do
      let ov ← eval o X.env; standAt apos.atName
      let (f, first) ← holding [ov] (getMethod ov m pl); callWith pos f first (backTo pos (starEach [] X.env)) (backToKw pos (keywordEach [] X.env))) := by rfl) : PE X (.Call (.Attribute o m apos) [] [] pos) (tMeth C m sp [] E0 ta tNil) := by
  obtain ⟨cl, f, fd, mt, b, F⟩ := c
  exact pe_meth0 ho cl mt F hr b .nil pass0 ht
theorem pe_mk (c : MkCal X.prog X.w X.K X.mg X.base k C x ps sp) (hr : Room (k + 1) X.A) (hg : Gl X x) (ha : PA X (e :: es) t) (hdb : (x == ("__debug__" : Str)) = false := by decide)
    (he : starEach (e :: es) X.env = (false, eval e X.env) :: starEach es X.env := by rfl) (hpl : (backTo pos (starEach es X.env)).any (·.1) = false := by rfl) : PE X (.Call (.Name x p) (e :: es) [] pos) (tMake C sp [] E0 t) := by
  obtain ⟨g, f, fd, M, b, F⟩ := c
  exact pe_make M F hr hg g b .nil pass0 ha hdb he hpl
end
section
variable {K : PySem.W.Frag} {σ : L2.St} {H : Hp} {Q : VK} {D : Ends} {ta tv te : TE} {t : TA} {C : Addr} {m f : Str} {sp : Sp}
theorem q_meth (h : ta σ H fun x H1 => ∃ a dx fs, x = .ref a ∧ H1 a = some (.ins C dx fs) ∧ fs.lookup m = none ∧ t σ H1 fun vs H2 => sp (x :: (vs ++ [])) H2 Q E0) : tMeth C m sp [] E0 ta t σ H Q := h
theorem q_make (h : t σ H fun vs H1 => ∀ x dx, H1 x = none → H1 dx = none → dx ≠ x → sp (.ref x :: (vs ++ [])) (upd (upd H1 dx (.own x)) x (.ins C dx [])) (fun v H2 => v = .non ∧ Q (.ref x) H2) E0) : tMake C sp [] E0 t σ H Q := h
theorem q_sfld (h : tv σ H fun y H1 => ta σ H1 fun x H2 => ∃ a C dx fs, x = .ref a ∧ H2 a = some (.ins C dx fs) ∧ Cls K C ∧ NoAttr K C f ∧ fs.length < 1000 ∧ D.nx σ (upd H2 a (.ins C dx (putF f y fs)))) : sFld K ta tv f D σ H := h
end
/-- fields that are there -/
theorem put_same (f : Str) (v : V) (fs : List (Str × V)) : (putF f v fs).lookup f = some v := by rw [lookup_putF, if_pos rfl]
theorem put_ne {f g : Str} (v : V) (fs : List (Str × V)) (h : g ≠ f) : (putF f v fs).lookup g = fs.lookup g := by rw [lookup_putF, if_neg h]
/-- the parts of a build -/
structure BD where
  tasks : PyData
  pages : PyData
  ports : PyData
  locks : PyData
  frames : PyData
  disk : PyData
  rights : PyData
  lines : PyData
  costs : PyData
  plan : PyData
  outside : PyData
  wipe : PyData
  pad : PyData
  lend : PyData
  share : PyData
def tupOf : PyData → PyData | .list l => .tuple l | d => d
def rowsT : PyData → PyData | .list l => .tuple (l.map tupOf) | d => d
def planT : PyData → PyData | .tuple [.str z, e] => .tuple [.str z, if z = "slots" then tupOf e else e] | d => d
def BD.parts (b : BD) : List (Str × PyData) := [("tasks", tupOf b.tasks), ("pages", tupOf b.pages), ("ports", tupOf b.ports), ("locks", b.locks), ("frames", b.frames), ("disk", b.disk), ("rights", rowsT b.rights), ("lines", tupOf b.lines), ("costs", b.costs),
  ("plan", planT b.plan), ("outside", b.outside), ("wipe", b.wipe), ("pad", b.pad), ("lend", b.lend), ("share", b.share)]
theorem pairedKV_get {K : PySem.W.Frag} {H : Hp} : ∀ {kvs : List (Key × V)} {l : List (Str × PyData)} {z : Str} {d : PyData}, Paired (fun p q => p.1 = Sum.inr q.1 ∧ Dp K H p.2 q.2) kvs l → l.lookup z = some d → ∃ v, valV kvs (Sum.inr z) = some v ∧ Dp K H v d
  | [], [], z, d, .nil, e => by simp at e
  | p :: kvs, q :: l, z, d, .cons h t, e => by
    rw [List.lookup_cons] at e
    by_cases hz : z = q.1
    · subst hz
      rw [beq_self_eq_true] at e
      cases e
      exact ⟨p.2, valV_pos h.1, h.2⟩
    · have hb : (z == q.1) = false := by simpa using hz
      rw [hb] at e
      obtain ⟨v, e1, e2⟩ := pairedKV_get t e
      refine ⟨v, ?_, e2⟩
      rw [valV_neg (fun y => hz (by rw [h.1] at y; exact (Sum.inr.inj y).symm))]
      exact e1
end Hk
namespace Hk
open PySem PySem.Spec PyProof.Rows L2
/-- [f(x) for x in xs], xs a tuple of data -/
theorem lc_mapT {K : PySem.W.Frag} {a : Addr} {xs : List V} {ds : List PyData} {g : TG} {te : TE} {vs : List Nat} {σ : L2.St} {H1 : Hp} {D : Addr} {Qd : Hp → Prop} (f : PyData → V) (hx : SqT K H1 a xs) (hd : DpAll K H1 xs ds) (few : ds.length < 100000) (hD : H1 D = none)
    (body : ∀ x d H2, Dp K H2 x d → d ∈ ds → Same H1 H2 → ∀ Q' : VK, (∀ H3, Same H2 H3 → Q' (f d) H3) → g x (wipe σ vs) H2 fun σ2 H3 => wipe σ2 vs = wipe σ vs ∧ te σ2 H3 Q')
    (done : ∀ H', Same H1 H' → H' D = some (.lst (ds.map f)) → Qd H') :
    ∃ W : Nat → Nat → Hp → Prop, (∃ m, W 0 m (upd H1 D (.lst []))) ∧ ∀ i m H, W i m H →
      ((Itt K a).stop i H ∧ Qd H) ∨ ((Itt K a).go i H ∧ ∃ Nx : Hp → Prop, (∀ H', Nx H' → ∃ m', m' < m ∧ W (i + 1) m' H') ∧ ∀ x H', (Itt K a).yld i H x H' → g x (wipe σ vs) H' fun σ2 H2 => wipe σ2 vs = wipe σ vs ∧ tYes σ2 H2 fun b H3 =>
        if b = true then te σ2 H3 fun y H4 => ∃ acc, H4 D = some (.lst acc) ∧ acc.length < sizeLine ∧ Nx (upd H4 D (.lst (acc ++ [y]))) else Nx H3) := by
 refine Hk.hold ?_
 simp (disch := with_unfolding_all (
 exact Hk.disch (by
  have l := hd.length
  refine lc_val (n := xs.length) walk_tup (fun i => f (ds.getD i .none)) hD (sz1000 (by omega)) (fun H2 s => Same.sqT s hx) yat_same ?_ ?_
  · rintro i x H2 H3 lt s ⟨rfl, e⟩ Q2 k
    obtain ⟨d, e2, hd2⟩ := hd.get' e
    refine body x d H3 (L2.Dp.mono s hd2) (List.mem_of_getElem? e2) s Q2 fun H4 s4 => ?_
    have z := k H4 s4
    rw [List.getD_eq_getElem?_getD, e2] at z
    exact z
  · intro H2 s e
    refine done H2 s ?_
    rw [e]
    congr 2
    refine List.ext_getElem (by simp [l]) fun i h1 h2 => ?_
    have lt : i < ds.length := by simpa using h2
    simp [List.getD_eq_getElem?_getD, List.getElem?_eq_getElem lt]))) only [↓Hk.hold_s]
/-- all but instances is as it was -/
def Keep (H H' : Hp) : Prop := ∀ b o, H b = some o → (∀ C dx fs, o ≠ .ins C dx fs) → H' b = some o
theorem But.keep {r C dx : Addr} {fs : List (Str × V)} {H H' : Hp} (e : H r = some (.ins C dx fs)) (s : But r H H') : Keep H H' := fun b o h n => s b o h fun z => by
  subst z; rw [e] at h; cases h; exact n C dx fs rfl
theorem Keep.sqL {K : PySem.W.Frag} {H H' : Hp} {a : Addr} {xs : List V} (s : Keep H H') (h : SqL K H a xs) : SqL K H' a xs := by
  rcases h with (h | ⟨o, h⟩) | h
  · exact .inl (.inl (s _ _ h (by simp)))
  · exact .inl (.inr ⟨o, s _ _ h (by simp)⟩)
  · exact .inr h
theorem Keep.sqT {K : PySem.W.Frag} {H H' : Hp} {a : Addr} {xs : List V} (s : Keep H H') (h : SqT K H a xs) : SqT K H' a xs := by
  rcases h with (h | ⟨o, h⟩) | h
  · exact .inl (.inl (s _ _ h (by simp)))
  · exact .inl (.inr ⟨o, s _ _ h (by simp)⟩)
  · exact .inr h
mutual
theorem dpKeep {K : PySem.W.Frag} {H H' : Hp} (s : Keep H H') : ∀ {v : V} {d : PyData}, Dp K H v d → Dp K H' v d
  | _, _, .non => .non
  | _, _, .bl b => .bl b
  | _, _, .int i => .int i
  | _, _, .str x => .str x
  | _, _, .lst h a => .lst (Keep.sqL s h) (dpAllKeep s a)
  | _, _, .tup h a => .tup (Keep.sqT s h) (dpAllKeep s a)
theorem dpAllKeep {K : PySem.W.Frag} {H H' : Hp} (s : Keep H H') : ∀ {vs : List V} {ds : List PyData}, DpAll K H vs ds → DpAll K H' vs ds
  | _, _, .nil => .nil
  | _, _, .cons h t => .cons (dpKeep s h) (dpAllKeep s t)
end
theorem But.refl {r : Addr} {H : Hp} : But r H H := fun _ _ h _ => h
theorem But.trans {r : Addr} {H H1 H2 : Hp} (a : But r H H1) (b : But r H1 H2) : But r H H2 := fun x o h n => b x o (a x o h n) n
theorem But.same {r : Addr} {H H1 : Hp} (a : Same H H1) : But r H H1 := fun x o h _ => a x o h
theorem But.put {r : Addr} {H : Hp} {o : HO} : But r H (upd H r o) := fun x u h n => by rw [upd_ne n]; exact h
/-- no other fields -/
def Only (fs : List (Str × V)) (L : List Str) : Prop := ∀ m, m ∉ L → fs.lookup m = none
theorem Only.put {fs : List (Str × V)} {L : List Str} (h : Only fs L) {f : Str} {v : V} (hf : f ∈ L) : Only (putF f v fs) L := fun m hm => by
  rw [put_ne v fs (fun e => hm (by rw [e]; exact hf))]; exact h m hm
end Hk
set_option Elab.async false
set_option linter.all false
set_option maxRecDepth 100000
set_option maxHeartbeats 4000000
namespace Hk
open PySem PySem.Spec PyProof.Rows L2
section
variable {F : Type} {K : PySem.W.Frag} {nm : F → Str} {H H' : Hp} {fs : List (Str × V)} {D : F → PyData} {ns : List F} {f : F} {v : V} {d : PyData}
/-- fields of an instance that hold data; F names them -/
def Told (K : PySem.W.Frag) (nm : F → Str) (H : Hp) (fs : List (Str × V)) (D : F → PyData) (ns : List F) : Prop := ∀ f, f ∈ ns → ∃ v, fs.lookup (nm f) = some v ∧ Dp K H v (D f)
theorem Told.keep (h : Told K nm H fs D ns) (s : Keep H H') : Told K nm H' fs D ns := fun f hf => by
  obtain ⟨v, e, r⟩ := h f hf
  exact ⟨v, e, dpKeep s r⟩
theorem Told.mono (h : Told K nm H fs D ns) (s : Same H H') : Told K nm H' fs D ns := h.keep fun b o e _ => s b o e
theorem Told.add (h : Told K nm H fs D ns) (inj : ∀ f g, nm f = nm g → f = g) (hf : f ∉ ns) (hd : Dp K H v (D f)) : Told K nm H (putF (nm f) v fs) D (f :: ns) := fun g hg => by
  rcases List.mem_cons.mp hg with rfl | hg
  · exact ⟨v, put_same _ _ _, hd⟩
  · obtain ⟨w, e, r⟩ := h g hg
    exact ⟨w, by rw [put_ne _ _ fun z => hf (by rw [← inj _ _ z]; exact hg)]; exact e, r⟩
theorem Told.off {g : Str} (h : Told K nm H fs D ns) (hg : ∀ f, f ∈ ns → nm f ≠ g) : Told K nm H (putF g v fs) D ns := fun f hf => by
  obtain ⟨w, e, r⟩ := h f hf
  exact ⟨w, by rw [put_ne _ _ (hg f hf)]; exact e, r⟩
/-- another value at a field -/
def fset [DecidableEq F] (D : F → PyData) (f : F) (d : PyData) : F → PyData := fun g => if g = f then d else D g
theorem Told.set [DecidableEq F] (h : Told K nm H fs D ns) (inj : ∀ f g, nm f = nm g → f = g) (hd : Dp K H v d) : Told K nm H (putF (nm f) v fs) (fset D f d) ns := fun g hg => by
  unfold fset
  by_cases e : g = f
  · subst e
    rw [if_pos rfl]
    exact ⟨v, put_same _ _ _, hd⟩
  · rw [if_neg e]
    obtain ⟨w, e2, r⟩ := h g hg
    exact ⟨w, by rw [put_ne _ _ fun z => e (inj _ _ z)]; exact e2, r⟩
end
theorem map_putF {g : Str} {v : V} : ∀ {fs : List (Str × V)}, g ∈ fs.map (·.1) → (putF g v fs).map (·.1) = fs.map (·.1)
  | (k, x) :: r, h => by
    rw [show putF g v ((k, x) :: r) = (if k = g then (k, v) :: r else (k, x) :: putF g v r) from rfl]
    by_cases e : k = g
    · rw [if_pos e]; rfl
    · rw [if_neg e]
      rcases List.mem_cons.mp h with z | z
      · exact absurd z.symm e
      · rw [List.map_cons, List.map_cons, map_putF z]
theorem map_putF_new {g : Str} {v : V} : ∀ {fs : List (Str × V)}, g ∉ fs.map (·.1) → (putF g v fs).map (·.1) = fs.map (·.1) ++ [g]
  | [], _ => rfl
  | (k, x) :: r, h => by
    rw [show putF g v ((k, x) :: r) = (if k = g then (k, v) :: r else (k, x) :: putF g v r) from rfl]
    simp only [List.map_cons, List.mem_cons, not_or] at h
    rw [if_neg fun z => h.1 z.symm, List.map_cons, List.map_cons, map_putF_new h.2, List.cons_append]
theorem lookup_out {g : Str} : ∀ {fs : List (Str × V)}, g ∉ fs.map (·.1) → fs.lookup g = none
  | [], _ => rfl
  | (k, x) :: r, h => by
    simp only [List.map_cons, List.mem_cons, not_or] at h
    rw [List.lookup_cons, show (g == k) = false by simpa using h.1]
    exact lookup_out h.2
theorem only_map {fs : List (Str × V)} {L : List Str} (h : fs.map (·.1) = L) : Only fs L := fun m hm => lookup_out (by rw [h]; exact hm)
section
variable {K : PySem.W.Frag} {H : Hp} {Q : VK}
theorem dpAll_take {H : Hp} : ∀ {xs : List V} {ds : List PyData} (n : Nat), DpAll K H xs ds → DpAll K H (xs.take n) (ds.take n)
  | _, _, 0, _ => by simp only [List.take_zero]; exact .nil
  | _, _, _ + 1, .nil => .nil
  | _, _, n + 1, .cons h t => .cons h (dpAll_take n t)
theorem dpAll_drop {H : Hp} : ∀ {xs : List V} {ds : List PyData} (n : Nat), DpAll K H xs ds → DpAll K H (xs.drop n) (ds.drop n)
  | _, _, 0, h => h
  | _, _, _ + 1, .nil => .nil
  | _, _, n + 1, .cons h t => dpAll_drop n t
theorem dpAll_app {H : Hp} : ∀ {xs ys : List V} {ds es : List PyData}, DpAll K H xs ds → DpAll K H ys es → DpAll K H (xs ++ ys) (ds ++ es)
  | _, _, _, _, .nil, h => h
  | _, _, _, _, .cons h t, g => .cons h (dpAll_app t g)
theorem slA_take {v : V} {ds : List PyData} {n : Nat} (h : Dp K H v (.tuple ds)) (hn : n ≤ ds.length) (k : ∀ v' H', Same H H' → Dp K H' v' (.tuple (ds.take n)) → Q v' H') : rSlA K v none (some (n : Int)) H Q := by
  cases h with
  | @tup a xs _ hs ha =>
  have l := ha.length
  refine ⟨a, xs, rfl, hs, fun z => ?_, fun _ p np => ?_⟩
  · rw [HT.sIx_nat] at z
    exact k _ _ (Same.refl _) (by rw [List.take_of_length_le (by omega)]; exact .tup hs ha)
  · refine k _ _ (same_new np) (.tup (SqT.of upd_same) ?_)
    have e : cutV xs none (some (n : Int)) = xs.take n := by
      unfold cutV
      rw [HT.sIx_nat, HT.sIx_none, List.drop_zero]
      congr 1
      omega
    rw [e]
    exact dpAll_take n (L2.DpAll.mono (same_new np) ha)
theorem slA_drop {v : V} {ds : List PyData} {n : Nat} (h : Dp K H v (.tuple ds)) (hn : n ≤ ds.length) (k : ∀ v' H', Same H H' → Dp K H' v' (.tuple (ds.drop n)) → Q v' H') : rSlA K v (some (n : Int)) none H Q := by
 refine Hk.hold ?_
 simp (disch := with_unfolding_all (
 exact Hk.disch (by
  cases h with
  | @tup a xs _ hs ha =>
  have l := ha.length
  refine ⟨a, xs, rfl, hs, fun z => ?_, fun _ p np => ?_⟩
  · rw [HT.sIx_nat] at z
    have e : n = 0 ∨ ds = [] := by
      rcases Nat.eq_zero_or_pos n with e | e
      · exact .inl e
      · exact .inr (List.eq_nil_of_length_eq_zero (by omega))
    refine k _ _ (Same.refl _) ?_
    rcases e with rfl | rfl
    · exact .tup hs ha
    · rw [List.drop_nil]; exact .tup hs ha
  · refine k _ _ (same_new np) (.tup (SqT.of upd_same) ?_)
    have e : cutV xs (some (n : Int)) none = xs.drop n := by
      unfold cutV
      rw [HT.sIx_nat, HT.sIx_none, show min n xs.length = n by omega]
      exact List.take_of_length_le (by rw [List.length_drop]; omega)
    rw [e]
    exact dpAll_drop n (L2.DpAll.mono (same_new np) ha)))) only [↓Hk.hold_s]
theorem catA_dp {v w : V} {ds es : List PyData} (h : Dp K H v (.tuple ds)) (g : Dp K H w (.tuple es)) (hn : ds.length + es.length ≤ 1000) (k : ∀ v' H', Same H H' → Dp K H' v' (.tuple (ds ++ es)) → Q v' H') : rCatA K v w H Q := by
  cases h with
  | @tup a xs _ hs ha =>
  cases g with
  | @tup b ys _ ht hb =>
  have l := ha.length
  have m := hb.length
  refine ⟨a, b, xs, ys, rfl, rfl, hs, ht, Nat.le_of_lt (sz1000 (by omega)), fun z => ?_, fun _ z => ?_, fun _ _ p np => ?_⟩
  · subst z
    cases ha
    exact k _ _ (Same.refl _) (.tup ht hb)
  · subst z
    cases hb
    rw [List.append_nil] at k
    exact k _ _ (Same.refl _) (.tup hs ha)
  · exact k _ _ (same_new np) (.tup (SqT.of upd_same) (dpAll_app (L2.DpAll.mono (same_new np) ha) (L2.DpAll.mono (same_new np) hb)))
end
section
variable {r : V → Option Int → Option Int → Hp → VK → Prop} {te t : TE} {tl th : TO} {σ : L2.St} {H : Hp} {Q : VK} {QO : Option Int → Hp → Prop} {i : Int}
theorem q_sl (h : te σ H fun x H1 => tl σ H1 fun l H2 => th σ H2 fun u H3 => r x l u H3 Q) : tSl r te tl th σ H Q := h
theorem q_np (h : QO none H) : tNoPart σ H QO := h
theorem q_pt (h : t σ H fun x H1 => ∃ i, x = .int i ∧ QO (some i) H1) : tPart t σ H QO := h
end
end Hk
set_option Elab.async false
set_option linter.all false
set_option maxRecDepth 100000
set_option maxHeartbeats 4000000
open PySem PySem.Spec PyProof.Rows L2 Hk
local macro_rules | `(tactic| walk_at "s1") => `(tactic| first
  | with_reducible refine q_seq ?_ | with_reducible refine q_next ?_ | with_reducible refine q_set ?_ | with_reducible refine q_ret ?_ | with_reducible refine q_drop ?_ | with_reducible refine q_ifs ?_ | with_reducible refine q_ife ?_
  | ((with_reducible show tVar _ _ _ _); refine q_var (by exact rfl) ?_)
  | with_reducible refine q_c ?_ | with_reducible refine q_op ?_ | with_reducible refine q_un ?_ | with_reducible refine q_chain ?_
  | with_reducible refine q_rI0 ?_ | with_reducible refine q_rU ?_ | with_reducible refine q_test ?_ | with_reducible refine q_tB ?_ | with_reducible refine q_bl ?_
  | with_reducible refine q_and ?_ | with_reducible refine q_or ?_ | with_reducible refine q_not ?_ | with_reducible refine q_andV ?_ | with_reducible refine q_orV ?_ | with_reducible refine q_notV ?_
  | with_reducible refine q_isN ?_ | with_reducible refine q_notN ?_ | with_reducible refine q_nil ?_ | with_reducible refine q_cons ?_ | with_reducible refine q_tup ?_ | with_reducible refine q_lst ?_
  | with_reducible refine q_cb ?_ | with_reducible refine q_call ?_ | with_reducible refine q_fld ?_ | with_reducible refine q_bm ?_ | with_reducible refine q_dget ?_
  | (with_reducible refine q_isi_int (by assumption) ?_) | (with_reducible refine q_isi_bool (by assumption) ?_) | (with_reducible refine q_isi_str (by assumption) ?_) | (with_reducible refine q_isi_list (by assumption) ?_) | (with_reducible refine q_isi_tuple (by assumption) ?_)
  | with_reducible refine q_sub ?_ | with_reducible refine q_asg ?_)
local macro_rules | `(tactic| walk_at "st") => `(tactic| (repeat (walk_at "s1"; try dsimp only [List.set_cons_zero, List.set_cons_succ, List.append_nil, List.cons_append, List.nil_append, cxOf])))
local macro_rules | `(tactic| walk_at "st0") => `(tactic| (simp only [L2.start, List.map_cons, List.map_nil, List.length_cons, List.length_nil, Nat.reduceAdd, Nat.reduceSub, List.reduceReplicate, List.replicate_zero, List.cons_append, List.nil_append, List.append_nil]; walk_at "st"))
local macro_rules | `(tactic| walk_at "s1") => `(tactic| first | with_reducible refine q_meth ?_ | with_reducible refine q_sfld ?_ | with_reducible refine q_make ?_)
local macro_rules | `(tactic| walk_at "lk") => `(tactic| (repeat (first | exact put_same _ _ _ | assumption | rw [put_ne _ _ (by decide +kernel)])))
namespace T
def topS (i : Nat) : Stmt := PySem.Challenge.pw_hushkernel_k23_levels_in_turn.main.body.getD i (.Pass ⟨0, 0, 0, 0⟩)
abbrev s_is_integer : Stmt := topS 3
theorem sc_is_integer : FnScope ["thing"] ["thing"] (defScope s_is_integer) := ⟨rfl, rfl, rfl, by decide +kernel, rfl, by decide +kernel, by decide +kernel⟩
abbrev s_is_between : Stmt := topS 4
theorem sc_is_between : FnScope ["thing", "low", "high"] ["thing", "low", "high"] (defScope s_is_between) := ⟨rfl, rfl, rfl, by decide +kernel, rfl, by decide +kernel, by decide +kernel⟩
abbrev s_is_index : Stmt := topS 5
theorem sc_is_index : FnScope ["thing", "many"] ["thing", "many"] (defScope s_is_index) := ⟨rfl, rfl, rfl, by decide +kernel, rfl, by decide +kernel, by decide +kernel⟩
abbrev s_is_tuple : Stmt := topS 6
theorem sc_is_tuple : FnScope ["thing", "many"] ["thing", "many"] (defScope s_is_tuple) := ⟨rfl, rfl, rfl, by decide +kernel, rfl, by decide +kernel, by decide +kernel⟩
abbrev s_is_list : Stmt := topS 7
theorem sc_is_list : FnScope ["thing", "low", "high"] ["thing", "low", "high"] (defScope s_is_list) := ⟨rfl, rfl, rfl, by decide +kernel, rfl, by decide +kernel, by decide +kernel⟩
abbrev s_is_ascending : Stmt := topS 8
theorem sc_is_ascending : FnScope ["items", "low", "high"] ["items"] (defScope s_is_ascending) := ⟨rfl, rfl, rfl, by decide +kernel, rfl, by decide +kernel, by decide +kernel⟩
abbrev s_counted : Stmt := topS 18
theorem sc_counted : FnScope ["tasks", "pages", "ports", "locks", "disk"] ["tasks", "pages", "ports", "locks", "disk"] (defScope s_counted) := ⟨rfl, rfl, rfl, by decide +kernel, rfl, by decide +kernel, by decide +kernel⟩
abbrev s_word_of : Stmt := topS 19
theorem sc_word_of : FnScope ["thing"] ["thing"] (defScope s_word_of) := ⟨rfl, rfl, rfl, by decide +kernel, rfl, by decide +kernel, by decide +kernel⟩
abbrev s_is_formed : Stmt := topS 20
theorem sc_is_formed : FnScope ["counts", "kinds", "thing", "kind", "item"] ["counts", "kinds", "thing"] (defScope s_is_formed) := ⟨rfl, rfl, rfl, by decide +kernel, rfl, by decide +kernel, by decide +kernel⟩
abbrev s_is_of_kind : Stmt := topS 21
theorem sc_is_of_kind : FnScope ["counts", "kind", "item"] ["counts", "kind", "item"] (defScope s_is_of_kind) := ⟨rfl, rfl, rfl, by decide +kernel, rfl, by decide +kernel, by decide +kernel⟩
abbrev s_is_right : Stmt := topS 22
theorem sc_is_right : FnScope ["counts", "thing"] ["counts", "thing"] (defScope s_is_right) := ⟨rfl, rfl, rfl, by decide +kernel, rfl, by decide +kernel, by decide +kernel⟩
abbrev s_is_call : Stmt := topS 23
theorem sc_is_call : FnScope ["counts", "thing"] ["counts", "thing"] (defScope s_is_call) := ⟨rfl, rfl, rfl, by decide +kernel, rfl, by decide +kernel, by decide +kernel⟩
abbrev s_put : Stmt := topS 26
theorem sc_put : FnScope ["row", "at", "item"] ["row", "at", "item"] (defScope s_put) := ⟨rfl, rfl, rfl, by decide +kernel, rfl, by decide +kernel, by decide +kernel⟩
abbrev s_Kernel___init__ : Stmt := inClass (topS 27) 0
theorem sc_Kernel___init__ : FnScope ["self", "rules", "shape", "running"] ["self", "rules", "shape"] (defScope s_Kernel___init__) := ⟨rfl, rfl, rfl, by decide +kernel, rfl, by decide +kernel, by decide +kernel⟩
abbrev s_Kernel_shape : Stmt := inClass (topS 27) 1
theorem sc_Kernel_shape : FnScope ["self", "running"] ["self"] (defScope s_Kernel_shape) := ⟨rfl, rfl, rfl, by decide +kernel, rfl, by decide +kernel, by decide +kernel⟩
abbrev s_Kernel_seen : Stmt := inClass (topS 27) 2
theorem sc_Kernel_seen : FnScope ["self"] ["self"] (defScope s_Kernel_seen) := ⟨rfl, rfl, rfl, by decide +kernel, rfl, by decide +kernel, by decide +kernel⟩
abbrev s_Kernel_is_ready : Stmt := inClass (topS 27) 3
theorem sc_Kernel_is_ready : FnScope ["self", "task"] ["self", "task"] (defScope s_Kernel_is_ready) := ⟨rfl, rfl, rfl, by decide +kernel, rfl, by decide +kernel, by decide +kernel⟩
abbrev s_Kernel_settle : Stmt := inClass (topS 27) 4
theorem sc_Kernel_settle : FnScope ["self", "task", "status", "answer"] ["self", "task", "status", "answer"] (defScope s_Kernel_settle) := ⟨rfl, rfl, rfl, by decide +kernel, rfl, by decide +kernel, by decide +kernel⟩
abbrev s_Kernel_sleep_on : Stmt := inClass (topS 27) 5
theorem sc_Kernel_sleep_on : FnScope ["self", "asleep", "task", "ticks", "status"] ["self"] (defScope s_Kernel_sleep_on) := ⟨rfl, rfl, rfl, by decide +kernel, rfl, by decide +kernel, by decide +kernel⟩
abbrev s_make_call : Stmt := topS 29
theorem sc_make_call : FnScope ["kernel", "call", "task", "effect", "answer", "rules"] ["kernel", "call"] (defScope s_make_call) := ⟨rfl, rfl, rfl, by decide +kernel, rfl, by decide +kernel, by decide +kernel⟩
abbrev s_fall_asleep : Stmt := topS 41
theorem sc_fall_asleep : FnScope ["kernel", "task", "call"] ["kernel", "task", "call"] (defScope s_fall_asleep) := ⟨rfl, rfl, rfl, by decide +kernel, rfl, by decide +kernel, by decide +kernel⟩
abbrev s_get_frame : Stmt := topS 43
theorem sc_get_frame : FnScope ["kernel", "task", "call", "rules", "side", "held_by_side", "held", "other"] ["kernel", "task", "call"] (defScope s_get_frame) := ⟨rfl, rfl, rfl, by decide +kernel, rfl, by decide +kernel, by decide +kernel⟩
abbrev s_do_nothing : Stmt := topS 45
theorem sc_do_nothing : FnScope ["kernel", "task", "call"] ["kernel", "task", "call"] (defScope s_do_nothing) := ⟨rfl, rfl, rfl, by decide +kernel, rfl, by decide +kernel, by decide +kernel⟩
abbrev s_turn_now : Stmt := topS 48
theorem sc_turn_now : FnScope ["kernel"] ["kernel"] (defScope s_turn_now) := ⟨rfl, rfl, rfl, by decide +kernel, rfl, by decide +kernel, by decide +kernel⟩
abbrev s_turn_by_levels : Stmt := topS 50
theorem sc_turn_by_levels : FnScope ["kernel", "tasks", "task"] ["kernel"] (defScope s_turn_by_levels) := ⟨rfl, rfl, rfl, by decide +kernel, rfl, by decide +kernel, by decide +kernel⟩
abbrev s_change : Stmt := topS 51
theorem sc_change : FnScope ["kernel", "task", "side_of"] ["kernel", "task"] (defScope s_change) := ⟨rfl, rfl, rfl, by decide +kernel, rfl, by decide +kernel, by decide +kernel⟩
abbrev s_following : Stmt := topS 52
theorem sc_following : FnScope ["tasks", "runs", "behind", "task"] ["tasks", "runs"] (defScope s_following) := ⟨rfl, rfl, rfl, by decide +kernel, rfl, by decide +kernel, by decide +kernel⟩
abbrev s_candidates : Stmt := topS 53
theorem sc_candidates : FnScope ["kernel", "ready", "levels", "top", "task"] ["kernel"] (defScope s_candidates) := ⟨rfl, rfl, rfl, by decide +kernel, rfl, by decide +kernel, by decide +kernel⟩
abbrev s_levels_now : Stmt := topS 54
theorem sc_levels_now : FnScope ["kernel", "own", "levels", "task", "holder"] ["kernel"] (defScope s_levels_now) := ⟨rfl, rfl, rfl, by decide +kernel, rfl, by decide +kernel, by decide +kernel⟩
abbrev s_opened : Stmt := topS 57
theorem sc_opened : FnScope ["rules", "shape", "letter", "kernel"] ["rules", "shape", "letter"] (defScope s_opened) := ⟨rfl, rfl, rfl, by decide +kernel, rfl, by decide +kernel, by decide +kernel⟩
abbrev s_finished : Stmt := topS 58
theorem sc_finished : FnScope ["kernel", "call", "after"] ["kernel", "call"] (defScope s_finished) := ⟨rfl, rfl, rfl, by decide +kernel, rfl, by decide +kernel, by decide +kernel⟩
abbrev s_letters_now : Stmt := topS 59
theorem sc_letters_now : FnScope ["rules", "shape", "phase"] ["rules", "shape"] (defScope s_letters_now) := ⟨rfl, rfl, rfl, by decide +kernel, rfl, by decide +kernel, by decide +kernel⟩
abbrev s_Moment___init__ : Stmt := inClass (topS 70) 0
theorem sc_Moment___init__ : FnScope ["self", "build", "shape"] ["self", "build", "shape"] (defScope s_Moment___init__) := ⟨rfl, rfl, rfl, by decide +kernel, rfl, by decide +kernel, by decide +kernel⟩
abbrev s_Moment_build : Stmt := inClass (topS 70) 1
theorem sc_Moment_build : FnScope ["self"] ["self"] (defScope s_Moment_build) := ⟨rfl, rfl, rfl, by decide +kernel, rfl, by decide +kernel, by decide +kernel⟩
abbrev s_Moment_status : Stmt := inClass (topS 70) 2
theorem sc_Moment_status : FnScope ["self", "task"] ["self", "task"] (defScope s_Moment_status) := ⟨rfl, rfl, rfl, by decide +kernel, rfl, by decide +kernel, by decide +kernel⟩
abbrev s_Moment_answer : Stmt := inClass (topS 70) 3
theorem sc_Moment_answer : FnScope ["self", "task"] ["self", "task"] (defScope s_Moment_answer) := ⟨rfl, rfl, rfl, by decide +kernel, rfl, by decide +kernel, by decide +kernel⟩
abbrev s_Moment_running : Stmt := inClass (topS 70) 11
theorem sc_Moment_running : FnScope ["self"] ["self"] (defScope s_Moment_running) := ⟨rfl, rfl, rfl, by decide +kernel, rfl, by decide +kernel, by decide +kernel⟩
abbrev s_Moment_due : Stmt := inClass (topS 70) 12
theorem sc_Moment_due : FnScope ["self", "outside"] ["self", "outside"] (defScope s_Moment_due) := ⟨rfl, rfl, rfl, by decide +kernel, rfl, by decide +kernel, by decide +kernel⟩
abbrev s_Moment_tick : Stmt := inClass (topS 70) 13
theorem sc_Moment_tick : FnScope ["self", "outside", "call", "kernel", "fits"] ["self", "outside", "call"] (defScope s_Moment_tick) := ⟨rfl, rfl, rfl, by decide +kernel, rfl, by decide +kernel, by decide +kernel⟩
abbrev s_Moment_shape : Stmt := inClass (topS 70) 16
theorem sc_Moment_shape : FnScope ["self"] ["self"] (defScope s_Moment_shape) := ⟨rfl, rfl, rfl, by decide +kernel, rfl, by decide +kernel, by decide +kernel⟩
abbrev s_check_task : Stmt := topS 71
theorem sc_check_task : FnScope ["build", "task"] ["build", "task"] (defScope s_check_task) := ⟨rfl, rfl, rfl, by decide +kernel, rfl, by decide +kernel, by decide +kernel⟩
abbrev s_opened_with : Stmt := topS 72
theorem sc_opened_with : FnScope ["moment", "outside", "rules", "shape"] ["moment", "outside"] (defScope s_opened_with) := ⟨rfl, rfl, rfl, by decide +kernel, rfl, by decide +kernel, by decide +kernel⟩
abbrev s_is_letter_now : Stmt := topS 73
theorem sc_is_letter_now : FnScope ["letters", "outside"] ["letters", "outside"] (defScope s_is_letter_now) := ⟨rfl, rfl, rfl, by decide +kernel, rfl, by decide +kernel, by decide +kernel⟩
abbrev s_first : Stmt := topS 74
theorem sc_first : FnScope ["build", "many", "rights", "ports", "locks", "running", "row", "size", "lock"] ["build"] (defScope s_first) := ⟨rfl, rfl, rfl, by decide +kernel, rfl, by decide +kernel, by decide +kernel⟩
abbrev s_Rules___init__ : Stmt := inClass (topS 76) 0
theorem sc_Rules___init__ : FnScope ["self", "build", "tasks", "side", "level"] ["self", "build"] (defScope s_Rules___init__) := ⟨rfl, rfl, rfl, by decide +kernel, rfl, by decide +kernel, by decide +kernel⟩
abbrev s_Rules_set_costs : Stmt := inClass (topS 76) 1
theorem sc_Rules_set_costs : FnScope ["self", "costs"] ["self", "costs"] (defScope s_Rules_set_costs) := ⟨rfl, rfl, rfl, by decide +kernel, rfl, by decide +kernel, by decide +kernel⟩
abbrev s_Rules_set_frames : Stmt := inClass (topS 76) 2
theorem sc_Rules_set_frames : FnScope ["self", "build"] ["self", "build"] (defScope s_Rules_set_frames) := ⟨rfl, rfl, rfl, by decide +kernel, rfl, by decide +kernel, by decide +kernel⟩
abbrev s_Rules_set_plan : Stmt := inClass (topS 76) 3
theorem sc_Rules_set_plan : FnScope ["self", "plan", "word", "how"] ["self", "plan"] (defScope s_Rules_set_plan) := ⟨rfl, rfl, rfl, by decide +kernel, rfl, by decide +kernel, by decide +kernel⟩
abbrev s_Rules_slot_ticks : Stmt := inClass (topS 76) 4
theorem sc_Rules_slot_ticks : FnScope ["self", "rows", "found", "task", "ticks", "gone", "fits"] ["self", "rows"] (defScope s_Rules_slot_ticks) := ⟨rfl, rfl, rfl, by decide +kernel, rfl, by decide +kernel, by decide +kernel⟩
abbrev s_Rules_set_letters : Stmt := inClass (topS 76) 5
theorem sc_Rules_set_letters : FnScope ["self", "outside"] ["self", "outside"] (defScope s_Rules_set_letters) := ⟨rfl, rfl, rfl, by decide +kernel, rfl, by decide +kernel, by decide +kernel⟩
abbrev s_Rules_may_come : Stmt := inClass (topS 76) 6
theorem sc_Rules_may_come : FnScope ["self", "phase"] ["self", "phase"] (defScope s_Rules_may_come) := ⟨rfl, rfl, rfl, by decide +kernel, rfl, by decide +kernel, by decide +kernel⟩
abbrev s_Build___init__ : Stmt := inClass (topS 78) 0
theorem sc_Build___init__ : FnScope ["self", "tasks", "pages", "ports", "locks", "frames", "disk", "rights", "lines", "costs", "plan", "outside", "wipe", "pad", "lend", "share", "part", "counts", "flags", "row"] ["self", "tasks", "pages", "ports", "locks", "frames", "disk", "rights", "lines", "costs", "plan", "outside", "wipe", "pad", "lend", "share"] (defScope s_Build___init__) := ⟨rfl, rfl, rfl, by decide +kernel, rfl, by decide +kernel, by decide +kernel⟩
abbrev s_Build_tasks : Stmt := inClass (topS 78) 1
theorem sc_Build_tasks : FnScope ["self"] ["self"] (defScope s_Build_tasks) := ⟨rfl, rfl, rfl, by decide +kernel, rfl, by decide +kernel, by decide +kernel⟩
abbrev s_Build_pages : Stmt := inClass (topS 78) 2
theorem sc_Build_pages : FnScope ["self"] ["self"] (defScope s_Build_pages) := ⟨rfl, rfl, rfl, by decide +kernel, rfl, by decide +kernel, by decide +kernel⟩
abbrev s_Build_ports : Stmt := inClass (topS 78) 3
theorem sc_Build_ports : FnScope ["self"] ["self"] (defScope s_Build_ports) := ⟨rfl, rfl, rfl, by decide +kernel, rfl, by decide +kernel, by decide +kernel⟩
abbrev s_Build_locks : Stmt := inClass (topS 78) 4
theorem sc_Build_locks : FnScope ["self"] ["self"] (defScope s_Build_locks) := ⟨rfl, rfl, rfl, by decide +kernel, rfl, by decide +kernel, by decide +kernel⟩
abbrev s_Build_frames : Stmt := inClass (topS 78) 5
theorem sc_Build_frames : FnScope ["self"] ["self"] (defScope s_Build_frames) := ⟨rfl, rfl, rfl, by decide +kernel, rfl, by decide +kernel, by decide +kernel⟩
abbrev s_Build_disk : Stmt := inClass (topS 78) 6
theorem sc_Build_disk : FnScope ["self"] ["self"] (defScope s_Build_disk) := ⟨rfl, rfl, rfl, by decide +kernel, rfl, by decide +kernel, by decide +kernel⟩
abbrev s_Build_rights : Stmt := inClass (topS 78) 7
theorem sc_Build_rights : FnScope ["self", "row"] ["self"] (defScope s_Build_rights) := ⟨rfl, rfl, rfl, by decide +kernel, rfl, by decide +kernel, by decide +kernel⟩
abbrev s_Build_lines : Stmt := inClass (topS 78) 8
theorem sc_Build_lines : FnScope ["self"] ["self"] (defScope s_Build_lines) := ⟨rfl, rfl, rfl, by decide +kernel, rfl, by decide +kernel, by decide +kernel⟩
abbrev s_Build_costs : Stmt := inClass (topS 78) 9
theorem sc_Build_costs : FnScope ["self"] ["self"] (defScope s_Build_costs) := ⟨rfl, rfl, rfl, by decide +kernel, rfl, by decide +kernel, by decide +kernel⟩
abbrev s_Build_plan : Stmt := inClass (topS 78) 10
theorem sc_Build_plan : FnScope ["self", "word", "how"] ["self"] (defScope s_Build_plan) := ⟨rfl, rfl, rfl, by decide +kernel, rfl, by decide +kernel, by decide +kernel⟩
abbrev s_Build_outside : Stmt := inClass (topS 78) 11
theorem sc_Build_outside : FnScope ["self"] ["self"] (defScope s_Build_outside) := ⟨rfl, rfl, rfl, by decide +kernel, rfl, by decide +kernel, by decide +kernel⟩
abbrev s_Build_wipe : Stmt := inClass (topS 78) 12
theorem sc_Build_wipe : FnScope ["self"] ["self"] (defScope s_Build_wipe) := ⟨rfl, rfl, rfl, by decide +kernel, rfl, by decide +kernel, by decide +kernel⟩
abbrev s_Build_pad : Stmt := inClass (topS 78) 13
theorem sc_Build_pad : FnScope ["self"] ["self"] (defScope s_Build_pad) := ⟨rfl, rfl, rfl, by decide +kernel, rfl, by decide +kernel, by decide +kernel⟩
abbrev s_Build_lend : Stmt := inClass (topS 78) 14
theorem sc_Build_lend : FnScope ["self"] ["self"] (defScope s_Build_lend) := ⟨rfl, rfl, rfl, by decide +kernel, rfl, by decide +kernel, by decide +kernel⟩
abbrev s_Build_share : Stmt := inClass (topS 78) 15
theorem sc_Build_share : FnScope ["self"] ["self"] (defScope s_Build_share) := ⟨rfl, rfl, rfl, by decide +kernel, rfl, by decide +kernel, by decide +kernel⟩
abbrev s_Build_sides : Stmt := inClass (topS 78) 16
theorem sc_Build_sides : FnScope ["self", "side", "level"] ["self"] (defScope s_Build_sides) := ⟨rfl, rfl, rfl, by decide +kernel, rfl, by decide +kernel, by decide +kernel⟩
abbrev s_things_fault : Stmt := topS 79
theorem sc_things_fault : FnScope ["tasks", "pages", "ports", "locks", "frames", "disk"] ["tasks", "pages", "ports", "locks", "frames", "disk"] (defScope s_things_fault) := ⟨rfl, rfl, rfl, by decide +kernel, rfl, by decide +kernel, by decide +kernel⟩
abbrev s_ways_fault : Stmt := topS 80
theorem sc_ways_fault : FnScope ["counts", "rights", "lines", "costs", "plan", "outside"] ["counts", "rights", "lines", "costs", "plan", "outside"] (defScope s_ways_fault) := ⟨rfl, rfl, rfl, by decide +kernel, rfl, by decide +kernel, by decide +kernel⟩
abbrev s_flags_fault : Stmt := topS 81
theorem sc_flags_fault : FnScope ["flags", "name", "flag"] ["flags"] (defScope s_flags_fault) := ⟨rfl, rfl, rfl, by decide +kernel, rfl, by decide +kernel, by decide +kernel⟩
abbrev s_fit_as_tasks : Stmt := topS 82
theorem sc_fit_as_tasks : FnScope ["tasks", "task", "side", "level"] ["tasks"] (defScope s_fit_as_tasks) := ⟨rfl, rfl, rfl, by decide +kernel, rfl, by decide +kernel, by decide +kernel⟩
abbrev s_fit_as_numbers : Stmt := topS 83
theorem sc_fit_as_numbers : FnScope ["numbers", "most", "low", "high", "number"] ["numbers", "most", "low", "high"] (defScope s_fit_as_numbers) := ⟨rfl, rfl, rfl, by decide +kernel, rfl, by decide +kernel, by decide +kernel⟩
abbrev s_fit_as_rights : Stmt := topS 84
theorem sc_fit_as_rights : FnScope ["counts", "rights", "many", "row"] ["counts", "rights"] (defScope s_fit_as_rights) := ⟨rfl, rfl, rfl, by decide +kernel, rfl, by decide +kernel, by decide +kernel⟩
abbrev s_fit_as_row : Stmt := topS 85
theorem sc_fit_as_row : FnScope ["counts", "row", "right"] ["counts", "row"] (defScope s_fit_as_row) := ⟨rfl, rfl, rfl, by decide +kernel, rfl, by decide +kernel, by decide +kernel⟩
abbrev s_fit_as_lines : Stmt := topS 86
theorem sc_fit_as_lines : FnScope ["counts", "lines", "many", "line"] ["counts", "lines"] (defScope s_fit_as_lines) := ⟨rfl, rfl, rfl, by decide +kernel, rfl, by decide +kernel, by decide +kernel⟩
abbrev s_fit_as_costs : Stmt := topS 87
theorem sc_fit_as_costs : FnScope ["costs"] ["costs"] (defScope s_fit_as_costs) := ⟨rfl, rfl, rfl, by decide +kernel, rfl, by decide +kernel, by decide +kernel⟩
abbrev s_fit_as_plan : Stmt := topS 88
theorem sc_fit_as_plan : FnScope ["counts", "plan", "row"] ["counts", "plan"] (defScope s_fit_as_plan) := ⟨rfl, rfl, rfl, by decide +kernel, rfl, by decide +kernel, by decide +kernel⟩
abbrev s_fits_as_slot : Stmt := topS 89
theorem sc_fits_as_slot : FnScope ["counts", "row"] ["counts", "row"] (defScope s_fits_as_slot) := ⟨rfl, rfl, rfl, by decide +kernel, rfl, by decide +kernel, by decide +kernel⟩
abbrev s_fits_as_outside : Stmt := topS 90
theorem sc_fits_as_outside : FnScope ["counts", "outside"] ["counts", "outside"] (defScope s_fits_as_outside) := ⟨rfl, rfl, rfl, by decide +kernel, rfl, by decide +kernel, by decide +kernel⟩
abbrev s__law_cell : Stmt := topS 92
theorem sc__law_cell : FnScope ["_law_script", "_law_k"] ["_law_script", "_law_k"] (defScope s__law_cell) := ⟨rfl, rfl, rfl, by decide +kernel, rfl, by decide +kernel, by decide +kernel⟩
abbrev s__law_digits : Stmt := topS 93
theorem sc__law_digits : FnScope ["_law_cell_here", "_law_sizes", "_law_found", "_law_number", "_law_k", "_law_mixed"] ["_law_cell_here", "_law_sizes"] (defScope s__law_digits) := ⟨rfl, rfl, rfl, by decide +kernel, rfl, by decide +kernel, by decide +kernel⟩
abbrev s__law_same : Stmt := topS 94
theorem sc__law_same : FnScope ["_law_told", "_law_due", "_law_k"] ["_law_told", "_law_due"] (defScope s__law_same) := ⟨rfl, rfl, rfl, by decide +kernel, rfl, by decide +kernel, by decide +kernel⟩
abbrev s__law_started : Stmt := topS 95
theorem sc__law_started : FnScope ["_law_script", "_law_d", "_law_many", "_law_world", "_law_rows", "_law_tasks", "_law_k", "_law_row"] ["_law_script"] (defScope s__law_started) := ⟨rfl, rfl, rfl, by decide +kernel, rfl, by decide +kernel, by decide +kernel⟩
abbrev s__law_queue : Stmt := topS 96
theorem sc__law_queue : FnScope ["_law_world", "_law_time", "_law_ready", "_law_top", "_law_task", "_law_best", "_law_run"] ["_law_world", "_law_time"] (defScope s__law_queue) := ⟨rfl, rfl, rfl, by decide +kernel, rfl, by decide +kernel, by decide +kernel⟩
abbrev s__law_turn : Stmt := topS 97
theorem sc__law_turn : FnScope ["_law_world", "_law_time", "_law_queue_here"] ["_law_world", "_law_time"] (defScope s__law_turn) := ⟨rfl, rfl, rfl, by decide +kernel, rfl, by decide +kernel, by decide +kernel⟩
abbrev s__law_stands : Stmt := topS 98
theorem sc__law_stands : FnScope ["_law_world", "_law_moment", "_law_time", "_law_answers", "_law_statuses", "_law_wake", "_law_status", "_law_one"] ["_law_world", "_law_moment", "_law_time", "_law_answers"] (defScope s__law_stands) := ⟨rfl, rfl, rfl, by decide +kernel, rfl, by decide +kernel, by decide +kernel⟩
abbrev s_law : Stmt := topS 99
theorem sc_law : FnScope ["_law_script", "_law_world", "_law_many", "_law_moment", "_law_answers", "_law_time", "_law_e", "_law_call", "_law_task", "_law_seen", "_law_wakes"] ["_law_script"] (defScope s_law) := ⟨rfl, rfl, rfl, by decide +kernel, rfl, by decide +kernel, by decide +kernel⟩
section
variable {P : Program} {w : World} {K : PySem.W.Frag} {mg : Str → Option Value} {base : Heap}
def dBetween (d : PyData) (lo hi : Int) : Bool := match d with | .int i => decide (lo ≤ i) && decide (i ≤ hi) | _ => false
def dTupleOf (d : PyData) (n : Nat) : Bool := match d with | .tuple ds => decide (ds.length = n) | _ => false
def dListOf (d : PyData) (lo hi : Int) : Bool := match d with | .list ds => decide (lo ≤ ds.length) && decide ((ds.length : Int) ≤ hi) | _ => false
def spInteger (K : PySem.W.Frag) : Sp := fun vs H Q _ => ∃ (x : V) (d : PyData), vs = [x] ∧ Dp K H x d ∧ Q (.bl (isInt d && !isBool d)) H
theorem ok_is_integer (B : Bl mg) (d : DefAt K mg "is_integer" s_is_integer ["thing"]) : Cal P w K mg base 1 "is_integer" ["thing"] (spInteger K) := by
 refine Hk.hold ?_
 simp (disch := with_unfolding_all (
 exact Hk.disch (d.cal fun f fd F => by
  refine F.ok sc_is_integer (fun vs H Q E h => ?_) (fun cdv A outer s H vs Q E hr h => ?_)
  · obtain ⟨x, d, rfl, _⟩ := h; rfl
  · obtain ⟨x, d, rfl, hd, q⟩ := h
    refine ⟨_, (pss_one (ps_ret (pe_and (pe_callB call_isi rfl B.isinstance hb_isinstance (pa_cons (pv 0) (pa_cons (pe_bltn (v := .ty "int") rfl B.int_ hb_int rfl) pa_nil))) (pe_one (pe_not (pe_callB call_isi rfl B.isinstance hb_isinstance (pa_cons (pv 0) (pa_cons (pe_bltn (v := .ty "bool") rfl B.bool_ hb_bool rfl) pa_nil)))))))), ?_⟩
    walk_at "st0"
    refine q_if (fun hc => ?_) (fun hc => ?_)
    · walk_at "st"
      rw [hc] at q; exact q
    · rw [hc] at q; exact q))) only [↓Hk.hold_s]
def spBetween (K : PySem.W.Frag) : Sp := fun vs H Q _ => ∃ (x : V) (d : PyData) (lo hi : Int), vs = [x, .int lo, .int hi] ∧ Dp K H x d ∧ Q (.bl (dBetween d lo hi)) H
theorem ok_is_between (B : Bl mg) (d : DefAt K mg "is_between" s_is_between ["thing", "low", "high"]) (c_is_integer : Cal P w K mg base 1 "is_integer" ["thing"] (spInteger K)) : Cal P w K mg base 2 "is_between" ["thing", "low", "high"] (spBetween K) := by
 refine Hk.hold ?_
 simp (disch := with_unfolding_all (
 exact Hk.disch (d.cal fun f fd F => by
  refine F.ok sc_is_between (fun vs H Q E h => ?_) (fun cdv A outer s H vs Q E hr h => ?_)
  · obtain ⟨x, d, lo, hi, rfl, _⟩ := h; rfl
  · obtain ⟨x, d, lo, hi, rfl, hd, q⟩ := h
    refine ⟨_, (pss_one (ps_ret (pe_and (pe_cal c_is_integer (hr.mono (by omega)) rfl (pa_cons (pv 0) pa_nil)) (pe_one (pe_chain op_le op_le (pv 1) (pv 0) (pv 2)))))), ?_⟩
    walk_at "st0"
    refine ⟨_, _, rfl, hd, ?_⟩
    walk_at "st"
    cases d with
    | int i =>
      refine iteT ?_
      cases hd
      walk_at "st"
      refine q_if (fun hc => ?_) (fun hc => ?_)
      · walk_at "st"
        simpa [dBetween, hc] using q
      · simpa [dBetween, hc] using q
    | _ => exact iteF q))) only [↓Hk.hold_s]
def spIndex (K : PySem.W.Frag) : Sp := fun vs H Q _ => ∃ (x : V) (d : PyData) (n : Int), vs = [x, .int n] ∧ Dp K H x d ∧ Q (.bl (dBetween d 0 (n - 1))) H
theorem ok_is_index (B : Bl mg) (d : DefAt K mg "is_index" s_is_index ["thing", "many"]) (c_is_between : Cal P w K mg base 2 "is_between" ["thing", "low", "high"] (spBetween K)) : Cal P w K mg base 3 "is_index" ["thing", "many"] (spIndex K) := d.cal fun f fd F => by
  refine F.ok sc_is_index (fun vs H Q E h => ?_) (fun cdv A outer s H vs Q E hr h => ?_)
  · obtain ⟨x, d, n, rfl, _⟩ := h; rfl
  · obtain ⟨x, d, n, rfl, hd, q⟩ := h
    refine ⟨_, (pss_one (ps_ret (pe_cal c_is_between (hr.mono (by omega)) rfl (pa_cons (pv 0) (pa_cons pe_int (pa_cons (pe_op op_sub (pv 1) pe_int) pa_nil)))))), ?_⟩
    walk_at "st0"
    exact ⟨_, _, _, _, rfl, hd, q⟩
def spTupleOf (K : PySem.W.Frag) : Sp := fun vs H Q _ => ∃ (x : V) (d : PyData) (n : Nat), vs = [x, .int n] ∧ Dp K H x d ∧ Q (.bl (dTupleOf d n)) H
theorem ok_is_tuple (B : Bl mg) (d : DefAt K mg "is_tuple" s_is_tuple ["thing", "many"]) : Cal P w K mg base 1 "is_tuple" ["thing", "many"] (spTupleOf K) := by
 refine Hk.hold ?_
 simp (disch := with_unfolding_all (
 exact Hk.disch (d.cal fun f fd F => by
  refine F.ok sc_is_tuple (fun vs H Q E h => ?_) (fun cdv A outer s H vs Q E hr h => ?_)
  · obtain ⟨x, d, n, rfl, _⟩ := h; rfl
  · obtain ⟨x, d, n, rfl, hd, q⟩ := h
    refine ⟨_, (pss_one (ps_ret (pe_and (pe_callB call_isi rfl B.isinstance hb_isinstance (pa_cons (pv 0) (pa_cons (pe_bltn (v := .ty "tuple") rfl B.tuple_ hb_tuple rfl) pa_nil))) (pe_one (pe_cmpR op_eq (pe_callB call_len_seq rfl B.len hb_len (pa_cons (pv 0) pa_nil)) (pv 1) (nomark _)))))), ?_⟩
    walk_at "st0"
    cases d with
    | tuple ds =>
      refine iteT ?_
      cases hd with
      | tup hs ha =>
        walk_at "st"
        refine ⟨_, _, rfl, .inr hs, ?_⟩
        walk_at "st"
        refine q_eq rfl ?_
        simp only [dTupleOf] at q
        have e : decide ((ds.length : Int) = (n : Int)) = decide (ds.length = n) := decide_eq_decide.mpr (by omega)
        simpa [ha.length, e] using q
    | _ => exact iteF q))) only [↓Hk.hold_s]
def spListOf (K : PySem.W.Frag) : Sp := fun vs H Q _ => ∃ (x : V) (d : PyData) (lo hi : Int), vs = [x, .int lo, .int hi] ∧ Dp K H x d ∧ Q (.bl (dListOf d lo hi)) H
theorem ok_is_list (B : Bl mg) (d : DefAt K mg "is_list" s_is_list ["thing", "low", "high"]) : Cal P w K mg base 1 "is_list" ["thing", "low", "high"] (spListOf K) := by
 refine Hk.hold ?_
 simp (disch := with_unfolding_all (
 exact Hk.disch (d.cal fun f fd F => by
  refine F.ok sc_is_list (fun vs H Q E h => ?_) (fun cdv A outer s H vs Q E hr h => ?_)
  · obtain ⟨x, d, lo, hi, rfl, _⟩ := h; rfl
  · obtain ⟨x, d, lo, hi, rfl, hd, q⟩ := h
    refine ⟨_, (pss_one (ps_ret (pe_and (pe_callB call_isi rfl B.isinstance hb_isinstance (pa_cons (pv 0) (pa_cons (pe_bltn (v := .ty "list") rfl B.list_ hb_list rfl) pa_nil))) (pe_one (pe_chain op_le op_le (pv 1) (pe_callB call_len_seq rfl B.len hb_len (pa_cons (pv 0) pa_nil)) (pv 2)))))), ?_⟩
    walk_at "st0"
    cases d with
    | list ds =>
      refine iteT ?_
      cases hd with
      | lst hs ha =>
        walk_at "st"
        refine ⟨_, _, rfl, .inl hs, ?_⟩
        walk_at "st"
        rw [ha.length]
        refine q_if (fun hc => ?_) (fun hc => ?_)
        · walk_at "st"
          simpa [dListOf, hc] using q
        · simpa [dListOf, hc] using q
    | _ => exact iteF q))) only [↓Hk.hold_s]
end
end T
namespace T
section
variable {P : Program} {w : World} {K : PySem.W.Frag} {mg : Str → Option Value} {base : Heap}
/-- rights as they are handed in: a list of tuples -/
def RtAt (K : PySem.W.Frag) (H : Hp) (x : V) (r : Str × Int) : Prop := ∃ t, x = .ref t ∧ SqT K H t [.str r.1, .int r.2]
def ascWI : List (Str × Int) → Bool
  | a :: b :: r => ltWI a b && ascWI (b :: r)
  | _ => true
theorem ascWI_iff : ∀ {l : List (Str × Int)}, ascWI l = true ↔ ∀ i a b, l[i]? = some a → l[i + 1]? = some b → ltWI a b = true
  | [] => by simp [ascWI]
  | [_] => by simp [ascWI]
  | a :: b :: r => by
    unfold ascWI
    rw [Bool.and_eq_true, ascWI_iff (l := b :: r)]
    constructor
    · rintro ⟨h, k⟩ i x y e1 e2
      cases i with
      | zero => simp at e1 e2; subst e1 e2; exact h
      | succ i => exact k i x y (by simpa using e1) (by simpa using e2)
    · intro h
      exact ⟨h 0 a b rfl rfl, fun i x y e1 e2 => h (i + 1) x y (by simpa using e1) (by simpa using e2)⟩
def spAsc (K : PySem.W.Frag) : Sp := fun vs H Q _ => ∃ (a : Addr) (xs : List V) (rs : List (Str × Int)), vs = [.ref a] ∧ SqL K H a xs ∧ Paired (RtAt K H) xs rs ∧ rs.length ≤ 1000 ∧ ∀ H', Same H H' → Q (.bl (ascWI rs)) H'
theorem hu0_of {A : Around} {k : Nat} (hr : Room k A) : A.units < cLine := Nat.lt_of_succ_lt (hu_of hr)
theorem paired_get {α β : Type} {R : α → β → Prop} : ∀ {xs : List α} {ys : List β}, Paired R xs ys → ∀ {i : Nat} {x : α}, xs[i]? = some x → ∃ y, ys[i]? = some y ∧ R x y
  | _, _, .nil, _, _, e => by simp at e
  | _, _, .cons r t, 0, _, e => by simp at e; subst e; exact ⟨_, rfl, r⟩
  | _, _, .cons r t, i + 1, _, e => by simpa using paired_get t (by simpa using e)
theorem cut1 (xs : List V) : cutV xs (some 1) none = xs.drop 1 := by
  unfold cutV
  rw [show HT.sIx xs.length 0 (some 1) = min 1 xs.length from HT.sIx_nat xs.length 0 1, HT.sIx_none]
  cases xs with
  | nil => rfl
  | cons x r =>
    have e : min 1 (x :: r).length = 1 := by simp
    rw [e]
    simp
theorem ok_is_ascending (B : Bl mg) (d : DefAt K mg "is_ascending" s_is_ascending ["items"]) : Cal P w K mg base 1 "is_ascending" ["items"] (spAsc K) := by
 refine Hk.hold ?_
 simp (disch := with_unfolding_all (
 exact Hk.disch (d.cal fun f fd F => by
  refine F.ok sc_is_ascending (fun vs H Q E h => ?_) (fun cdv A outer s H vs Q E hr h => ?_)
  · obtain ⟨a, xs, rs, rfl, _⟩ := h; rfl
  · obtain ⟨a, xs, rs, rfl, hl, hp, few, q⟩ := h
    have lx : xs.length = rs.length := Paired.length hp
    refine ⟨_, (pss_one (ps_ret (pe_callB (cr_all rfl) rfl B.all hb_all (pa_cons (pe_lc (own := [("low", 1), ("high", 2)]) (tt := tYes) rfl sc_is_ascending.nd (pi_zip rfl B.zip (pa_cons (pv 0) (pa_cons (pe_slice sl_list (pv 0) (po_some pe_int) po_none) pa_nil))) (blkOk_by (N := ["items", "low", "high"]) (sc := defScope s_is_ascending) (by decide +kernel)) (fun _ _ _ _ _ => (show PG _ _ (gTup K 2 _) from pg_tup rfl (pgs_cons (pg_name (i := 1) sc_is_ascending.nd rfl (Or.inl rfl)) (pgs_cons (pg_name (i := 2) sc_is_ascending.nd rfl (Or.inl rfl)) pgs_nil)))) (fun _ _ _ _ _ => pts_nil) (fun _ _ _ _ _ => (pe_cmpR (show OpR _ _ (rLtWI K) from op_ltWI (hu0_of hr)) (pv 1) (pv 2) (nomark _)))) pa_nil)))), ?_⟩
    walk_at "st0"
    refine ⟨.ref a, rfl, .ref a, rfl, 1, rfl, a, xs, rfl, hl, fun c nc => ?_⟩
    have s1 := same_new (o := .lst (cutV xs (some 1) none)) nc
    have h1 := s1.seq hl
    have h2 : SqL K (upd H c (.lst (cutV xs (some 1) none))) c (xs.drop 1) := by rw [cut1]; exact SqL.of upd_same
    refine ⟨a, c, _, _, rfl, h1, h2, fun D nD => ?_⟩
    have key : ∀ i, i < rs.length - 1 → ∃ x y a b, xs[i]? = some x ∧ (xs.drop 1)[i]? = some y ∧ rs[i]? = some a ∧ rs[i + 1]? = some b ∧ RtAt K H x a ∧ RtAt K H y b := fun i lt => by
      have e1 : xs[i]? = some (xs[i]'(by omega)) := List.getElem?_eq_getElem _
      have e2 : xs[i + 1]? = some (xs[i + 1]'(by omega)) := List.getElem?_eq_getElem _
      obtain ⟨b1, f1, g1⟩ := paired_get hp e1
      obtain ⟨b2, f2, g2⟩ := paired_get hp e2
      exact ⟨_, _, b1, b2, e1, by rw [List.getElem?_drop, Nat.add_comm 1 i]; exact e2, f1, f2, g1, g2⟩
    refine lc_val (n := rs.length - 1) (walk_zip (by rw [List.length_drop]; omega)) (fun i => .bl (ltWI (rs.getD i default) (rs.getD (i + 1) default))) nD (by exact sz1000 (by omega)) (fun H2 s => ⟨s.seq h1, s.seq h2⟩) ypair_same ?_ ?_
    · rintro i x H2 H3 lt s2 ⟨t, u, v, rfl, nt, rfl, e1, e2⟩ Q2 k
      obtain ⟨x', y', a', b', f1, f2, f3, f4, ⟨t1, rfl, g1⟩, ⟨t2, rfl, g2⟩⟩ := key i lt
      replace e1 := e1.symm.trans f1; cases e1
      replace e2 := e2.symm.trans f2; cases e2
      have s3 := same_new (o := .tup [V.ref t1, V.ref t2]) nt
      refine ⟨t, [.ref t1, .ref t2], rfl, SqT.of upd_same, rfl, .ref t1, [.ref t2], rfl, .ref t2, [], rfl, rfl, rfl, ?_⟩
      walk_at "st"
      refine ⟨t1, t2, a', b', rfl, rfl, Same.sqT s3 (Same.sqT s2 (Same.sqT s1 g1)), Same.sqT s3 (Same.sqT s2 (Same.sqT s1 g2)), ?_⟩
      have z := k _ (Same.refl _)
      simpa [List.getD_eq_getElem?_getD, f3, f4] using z
    · intro H2 s2 e
      refine ⟨_, (List.range (rs.length - 1)).map fun i => ltWI (rs.getD i default) (rs.getD (i + 1) default), rfl, SqL.of (by rw [e, List.map_map]; rfl), ?_⟩
      have z : (((List.range (rs.length - 1)).map fun i => ltWI (rs.getD i default) (rs.getD (i + 1) default)).all id) = ascWI rs := by
        rw [Bool.eq_iff_iff, hk_all_range, ascWI_iff]
        constructor
        · intro h i a b e1 e2
          have lt : i + 1 < rs.length := (List.getElem?_eq_some_iff.mp e2).1
          simpa [List.getD_eq_getElem?_getD, e1, e2] using h i (by omega)
        · intro h i lt
          exact h i _ _ (by simp [List.getD_eq_getElem?_getD, List.getElem?_eq_getElem (show i < rs.length by omega)]) (by simp [List.getD_eq_getElem?_getD, List.getElem?_eq_getElem (show i + 1 < rs.length by omega)])
      rw [z]
      exact q H2 (s1.trans s2)))) only [↓Hk.hold_s]
end
end T
namespace T
section
variable {P : Program} {w : World} {K : PySem.W.Frag} {mg : Str → Option Value} {base : Heap}
def cntOf (t p q l d : Int) : Cnt := [("task", t), ("page", p), ("port", q), ("lock", l), ("value", 2), ("place", d), ("disk", if 1 < d then 1 else d)]
def spCounted : Sp := fun vs H Q _ => ∃ t p q l d : Int, vs = [.int t, .int p, .int q, .int l, .int d] ∧ ∀ c H', Same H H' → H c = none → H' c = some (.dK (countKV (cntOf t p q l d))) → Q (.ref c) H'
theorem ok_counted (B : Bl mg) (d : DefAt K mg "counted" s_counted ["tasks", "pages", "ports", "locks", "disk"]) : Cal P w K mg base 1 "counted" ["tasks", "pages", "ports", "locks", "disk"] spCounted := by
 refine Hk.hold ?_
 simp (disch := with_unfolding_all (
 exact Hk.disch (d.cal fun f fd F => by
  refine F.ok sc_counted (fun vs H Q E h => ?_) (fun cdv A outer s H vs Q E hr h => ?_)
  · obtain ⟨t, p, q, l, d, rfl, _⟩ := h; rfl
  · obtain ⟨t, p, q, l, d, rfl, k⟩ := h
    refine ⟨_, (pss_one (ps_ret (pe_disp (pps_cons pe_str (pv 0) (pps_cons pe_str (pv 1) (pps_cons pe_str (pv 2) (pps_cons pe_str (pv 3) (pps_cons pe_str pe_int (pps_cons pe_str (pv 4) (pps_cons pe_str (pe_callB (call_min2 rfl) rfl B.min hb_min (pa_cons (pv 4) (pa_cons pe_int pa_nil))) pps_nil))))))) rfl rfl (by simp) (by decide)))), ?_⟩
    walk_at "st0"
    intro c nc
    unfold tPairs; walk_at "st"; unfold tPairs; walk_at "st"; unfold tPairs; walk_at "st"; unfold tPairs; walk_at "st"; unfold tPairs; walk_at "st"; unfold tPairs; walk_at "st"; unfold tPairs; walk_at "st"
    refine ⟨_, _, rfl, ?_⟩
    unfold tPairs
    refine ⟨upd_same, [(Sum.inr "task", .int t), (Sum.inr "page", .int p), (Sum.inr "port", .int q), (Sum.inr "lock", .int l), (Sum.inr "value", .int 2), (Sum.inr "place", .int d), (Sum.inr "disk", .int (if 1 < d then 1 else d))], rfl, by simp, ?_⟩
    refine k c _ (fun b o e => ?_) nc ?_
    · have hb := ne_of_none e nc
      rw [upd_ne hb, upd_ne hb]; exact e
    · rw [upd_same]; rfl))) only [↓Hk.hold_s]
def dWord (d : PyData) : Str := match d with | .tuple (.str z :: _) => z | _ => ""
def spWord (K : PySem.W.Frag) : Sp := fun vs H Q _ => ∃ (x : V) (d : PyData), vs = [x] ∧ Dp K H x d ∧ Q (.str (dWord d)) H
theorem ok_word_of (B : Bl mg) (d : DefAt K mg "word_of" s_word_of ["thing"]) : Cal P w K mg base 1 "word_of" ["thing"] (spWord K) := by
 refine Hk.hold ?_
 simp (disch := with_unfolding_all (
 exact Hk.disch (d.cal fun f fd F => by
  refine F.ok sc_word_of (fun vs H Q E h => ?_) (fun cdv A outer s H vs Q E hr h => ?_)
  · obtain ⟨x, d, rfl, _⟩ := h; rfl
  · obtain ⟨x, d, rfl, hd, q⟩ := h
    refine ⟨_, (pss_cons (ps_if (PW.pt (pw_and (pt_val (pe_callB call_isi rfl B.isinstance hb_isinstance (pa_cons (pv 0) (pa_cons (pe_bltn (v := .ty "tuple") rfl B.tuple_ hb_tuple rfl) pa_nil)))) (pw_and (pt_cmpR op_gt (pe_callB call_len_seq rfl B.len hb_len (pa_cons (pv 0) pa_nil)) pe_int (nomark _)) (pw_and1 (pt_val (pe_callB call_isi rfl B.isinstance hb_isinstance (pa_cons (pe_ix ix_tup (pv 0) pe_int (fun _ _ => rfl)) (pa_cons (pe_bltn (v := .ty "str") rfl B.str_ hb_str rfl) pa_nil)))))))) (pss_one (ps_ret (pe_ix ix_tup (pv 0) pe_int (fun _ _ => rfl)))) pss_nil)
      (pss_one (ps_ret pe_str))), ?_⟩
    walk_at "st0"
    cases d with
    | tuple ds =>
      refine iteT ?_
      cases hd with
      | @tup a xs _ hs ha =>
      walk_at "st"
      refine ⟨_, _, rfl, .inr hs, ?_⟩
      walk_at "st"
      cases ha with
      | nil => exact iteF (iteF q)
      | @cons y ys e es h1 h2 =>
        refine q_if (fun hc => ?_) (fun hc => by simp at hc)
        walk_at "st"
        refine q_ixT hs (atI0 rfl) ?_
        walk_at "st"
        cases e with
        | str z =>
          cases h1
          refine iteT ?_
          walk_at "st"
          exact q_ixT hs (atI0 rfl) q
        | _ => exact iteF q
    | _ => exact iteF (iteF q)))) only [↓Hk.hold_s]
/-- each item of its kind -/
def dKinds (kf : Str → PyData → Bool) (ks : List Str) (ds : List PyData) : Bool := (List.range (min ks.length ds.length)).all fun i => kf (ks.getD i default) (ds.getD i .none)
def dFormed (kf : Str → PyData → Bool) (o : Option (List Str)) (d : PyData) : Bool := match o, d with
  | some ks, .tuple ds => decide (ds.length = ks.length + 1) && dKinds kf ks (ds.drop 1)
  | _, _ => false
def spKind (K : PySem.W.Frag) (good : Cnt → Str → Prop) (kf : Cnt → Str → PyData → Bool) : Sp := fun vs H Q _ => ∃ (a : Addr) (c : Cnt) (z : Str) (x : V) (d : PyData), vs = [.ref a, .str z, x] ∧ H a = some (.dK (countKV c)) ∧ good c z ∧ Dp K H x d ∧ ∀ H', Same H H' → Q (.bl (kf c z d)) H'
def spFormed (K : PySem.W.Frag) (good : Cnt → Str → Prop) (kf : Cnt → Str → PyData → Bool) : Sp := fun vs H Q _ => ∃ (a : Addr) (c : Cnt) (k : V) (o : Option (List Str)) (x : V) (d : PyData), vs = [.ref a, k, x] ∧ H a = some (.dK (countKV c)) ∧ Dp K H x d ∧
  (match o with | none => k = .non | some ks => (∃ t, k = .ref t ∧ SqT K H t (ks.map V.str)) ∧ (∃ ds, d = .tuple ds) ∧ ks.length ≤ 100 ∧ ∀ z ∈ ks, good c z) ∧ ∀ H', Same H H' → Q (.bl (dFormed (kf c) o d)) H'
theorem ok_is_formed {j : Nat} {good : Cnt → Str → Prop} {kf : Cnt → Str → PyData → Bool} (B : Bl mg) (d : DefAt K mg "is_formed" s_is_formed ["counts", "kinds", "thing"]) (c_is_of_kind : Cal P w K mg base j "is_of_kind" ["counts", "kind", "item"] (spKind K good kf)) :
    Cal P w K mg base (j + 1) "is_formed" ["counts", "kinds", "thing"] (spFormed K good kf) := by
 refine Hk.hold ?_
 simp (disch := with_unfolding_all (
 exact Hk.disch (d.cal fun f fd F => by
  refine F.ok sc_is_formed (fun vs H Q E h => ?_) (fun cdv A outer s H vs Q E hr h => ?_)
  · obtain ⟨a, c, k, o, x, d, rfl, _⟩ := h; rfl
  · obtain ⟨a, c, k, o, x, d, rfl, hc, hd, ho, q⟩ := h
    refine ⟨_, (pss_cons (ps_if (PW.pt (pw_or (pt_cmp (pc_isN (pv 1))) (pw_or1 (pt_cmpR op_ne (pe_callB call_len_seq rfl B.len hb_len (pa_cons (pv 2) pa_nil)) (pe_op op_add (pe_callB call_len_seq rfl B.len hb_len (pa_cons (pv 1) pa_nil)) pe_int) (nomark _))))) (pss_one (ps_ret pe_bl)) pss_nil)
      (pss_one (ps_ret (pe_callB (cr_all rfl) rfl B.all hb_all (pa_cons (pe_lc (own := [("kind", 3), ("item", 4)]) (tt := tYes) rfl sc_is_formed.nd (RZ.pi_zipA rfl B.zip (pa_cons (pv 1) (pa_cons (pe_slice sl_tup (pv 2) (po_some pe_int) po_none) pa_nil))) (blkOk_by (N := ["counts", "kinds", "thing", "kind", "item"]) (sc := defScope s_is_formed) (by decide +kernel)) (fun _ _ _ _ _ => (show PG _ _ (gTup K 2 _) from pg_tup rfl (pgs_cons (pg_name (i := 3) sc_is_formed.nd rfl (Or.inl rfl)) (pgs_cons (pg_name (i := 4) sc_is_formed.nd rfl (Or.inl rfl)) pgs_nil)))) (fun _ _ _ _ _ => pts_nil) (fun _ _ _ _ _ => (pe_cal c_is_of_kind (hr.mono (by omega)) rfl (pa_cons (pv 0) (pa_cons (pv 3) (pa_cons (pv 4) pa_nil)))))) pa_nil))))), ?_⟩
    walk_at "st0"
    match o, ho with
    | none, ho =>
      subst ho
      refine iteT (iteT ?_)
      walk_at "st"
      exact q H (Same.refl H)
    | some ks, ⟨⟨t, ek, ht⟩, ⟨ds, ed⟩, few, hg⟩ =>
      subst ek ed
      refine iteF ?_
      walk_at "st"
      cases hd with
      | @tup b xs _ hs ha =>
      refine ⟨_, _, rfl, .inr hs, ?_⟩
      walk_at "st"
      refine ⟨_, _, rfl, .inr ht, ?_⟩
      walk_at "st"
      refine q_ne rfl ?_
      walk_at "st"
      have lx := ha.length
      have e1 : (!decide (V.int (xs.length : Int) = V.int (((ks.map V.str).length : Int) + 1))) = !decide (ds.length = ks.length + 1) := by
        congr 1
        rw [decide_eq_decide, V.int.injEq, List.length_map]
        omega
      rw [e1]
      by_cases hl : ds.length = ks.length + 1
      · rw [decide_eq_true hl]
        refine iteF ?_
        walk_at "st"
        refine ⟨_, rfl, .ref b, rfl, 1, rfl, b, xs, rfl, hs, ?_, fun p np => ?_⟩
        · rw [show HT.sIx xs.length 0 (some 1) = min 1 xs.length from HT.sIx_nat xs.length 0 1]
          omega
        rw [cut1]
        have s1 := same_new (o := .tup (xs.drop 1)) np
        have h1 : SqT K (upd H p (.tup (xs.drop 1))) t (ks.map V.str) := Same.sqT s1 ht
        have h2 : SqT K (upd H p (.tup (xs.drop 1))) p (xs.drop 1) := SqT.of upd_same
        refine ⟨t, p, ks.map V.str, xs.drop 1, rfl, .inr ⟨h1, h2, fun D nD => ?_⟩⟩
        have ha2 := ha.drop 1
        refine lc_val (n := ks.length) (walk_zipT (by rw [List.length_drop, List.length_map]; omega)) (fun i => .bl (kf c (ks.getD i default) ((ds.drop 1).getD i .none))) nD (by exact sz1000 (by omega)) (fun H2 s => ⟨Same.sqT s h1, Same.sqT s h2⟩) ypair_same ?_ ?_
        · rintro i x2 H2 H3 lt s2 ⟨T2, u, v, rfl, nT, rfl, e1, e2⟩ Q2 k2
          replace e1 : (ks.map V.str)[i]? = some u := e1
          replace e2 : (xs.drop 1)[i]? = some v := e2
          rw [List.getElem?_map, List.getElem?_eq_getElem lt] at e1
          cases e1
          obtain ⟨d2, f2, g2⟩ := ha2.get' e2
          have s3 := same_new (o := .tup [V.str ks[i], v]) nT
          refine ⟨T2, [.str ks[i], v], rfl, SqT.of upd_same, rfl, .str ks[i], [v], rfl, v, [], rfl, rfl, rfl, ?_⟩
          walk_at "st"
          refine ⟨a, c, ks[i], v, d2, rfl, s3 _ _ (s2 _ _ (s1 _ _ hc)), hg _ (List.getElem_mem lt), Dp.mono (s1.trans (s2.trans s3)) g2, fun H4 s4 => ?_⟩
          have z := k2 H4 s4
          simp only [List.getD_eq_getElem?_getD, f2, List.getElem?_eq_getElem lt, Option.getD_some] at z
          exact z
        · intro H2 s2 e
          refine ⟨_, (List.range ks.length).map fun i => kf c (ks.getD i default) ((ds.drop 1).getD i .none), rfl, SqL.of (by rw [e, List.map_map]; rfl), ?_⟩
          have z : (((List.range ks.length).map fun i => kf c (ks.getD i default) ((ds.drop 1).getD i .none)).all id) = dFormed (kf c) (some ks) (.tuple ds) := by
            simp only [dFormed, dKinds]
            rw [decide_eq_true hl, Bool.true_and, List.length_drop, show min ks.length (ds.length - 1) = ks.length by omega, List.all_map]
            rfl
          rw [z]
          exact q H2 (s1.trans s2)
      · rw [decide_eq_false hl]
        refine iteT ?_
        walk_at "st"
        have z := q H (Same.refl H)
        simp only [dFormed] at z
        rw [decide_eq_false hl] at z
        exact z))) only [↓Hk.hold_s]
def good1 (c : Cnt) (z : Str) : Prop := z ≠ "right" ∧ (z = "ticks" ∨ ∃ n, c.lookup z = some n)
def kf1 (c : Cnt) (z : Str) (d : PyData) : Bool := if z = "ticks" then dBetween d 1 2 else dBetween d 0 ((c.lookup z).getD 0 - 1)
theorem ok_is_of_kind1 (B : Bl mg) (d : DefAt K mg "is_of_kind" s_is_of_kind ["counts", "kind", "item"]) (c_is_between : Cal P w K mg base 2 "is_between" ["thing", "low", "high"] (spBetween K)) (c_is_index : Cal P w K mg base 3 "is_index" ["thing", "many"] (spIndex K)) :
    Cal P w K mg base 4 "is_of_kind" ["counts", "kind", "item"] (spKind K good1 kf1) := by
 refine Hk.hold ?_
 simp (disch := with_unfolding_all (
 exact Hk.disch (d.cal fun f fd F => by
  refine F.ok sc_is_of_kind (fun vs H Q E h => ?_) (fun cdv A outer s H vs Q E hr h => ?_)
  · obtain ⟨a, c, z, x, d, rfl, _⟩ := h; rfl
  · obtain ⟨a, c, z, x, d, rfl, hc, ⟨g1, g2⟩, hd, q⟩ := h
    have hu := hu_of hr
    refine ⟨_, (pss_cons (ps_if (pt_cmpR op_eq (pv 1) pe_str (nomark _)) (pss_one (ps_never)) pss_nil)
      (pss_cons (ps_if (pt_cmpR op_eq (pv 1) pe_str (nomark _)) (pss_one (ps_ret (pe_cal c_is_between (hr.mono (by omega)) rfl (pa_cons (pv 2) (pa_cons pe_int (pa_cons pe_int pa_nil)))))) pss_nil)
      (pss_one (ps_ret (pe_cal c_is_index (hr.mono (by omega)) rfl (pa_cons (pv 2) (pa_cons (pe_dget hu (pv 0) (pv 1) (fun _ _ => rfl)) pa_nil))))))), ?_⟩
    walk_at "st0"
    refine q_eq rfl ?_
    walk_at "st"
    have e1 : decide (V.str z = V.str "right") = false := decide_eq_false fun q => g1 (V.str.inj q)
    rw [e1]
    refine iteF ?_
    walk_at "st"
    refine q_eq rfl ?_
    walk_at "st"
    have z0 := q H (Same.refl H)
    by_cases e2 : z = "ticks"
    · rw [decide_eq_true (by rw [e2])]
      refine iteT ?_
      walk_at "st"
      refine ⟨x, d, 1, 2, rfl, hd, ?_⟩
      simpa [kf1, e2] using z0
    · rw [decide_eq_false (fun q => e2 (V.str.inj q))]
      refine iteF ?_
      obtain ⟨n, hn⟩ := g2.resolve_left e2
      walk_at "st"
      refine ⟨a, .int n, rfl, dgetC hc hn, ?_⟩
      walk_at "st"
      refine ⟨x, d, n, rfl, hd, ?_⟩
      simpa [kf1, e2, hn] using z0))) only [↓Hk.hold_s]
/-- the words of rights -/
def rTab : List (Str × List Str) := [("read", ["page"]), ("write", ["page"]), ("send", ["port"]), ("take", ["port"]), ("lock", ["lock"]), ("hand", ["task"]), ("strip", ["task"]), ("seek", ["disk"])]
structure RForms (K : PySem.W.Frag) (w : World) (mg : Str → Option Value) (d : Addr) : Prop where
  g_forms : mg "RIGHT_FORMS" = some (.ref d)
  forms : FormsAt K w d rTab
def dRight (c : Cnt) (d : PyData) : Bool := dFormed (kf1 c) (rTab.lookup (dWord d)) d
def cntGood (c : Cnt) : Prop := ∃ t p q l d, c = cntOf t p q l d
theorem rTab_good {c : Cnt} (h : cntGood c) {z : Str} {ks : List Str} (e : rTab.lookup z = some ks) : ks.length ≤ 100 ∧ ∀ k ∈ ks, good1 c k := by
  obtain ⟨t, p, q, l, d, rfl⟩ := h
  have m : ks ∈ rTab.map (·.2) := List.mem_map_of_mem (f := (·.2)) (lookup_mem e)
  simp only [rTab, List.map_cons, List.map_nil, List.mem_cons, List.not_mem_nil, or_false] at m
  rcases m with m | m | m | m | m | m | m | m <;> subst m <;> exact ⟨by simp, fun k hk => by
    rw [List.mem_singleton] at hk; subst hk; exact ⟨by decide +kernel, .inr ⟨_, rfl⟩⟩⟩
def spRight (K : PySem.W.Frag) : Sp := fun vs H Q _ => ∃ (a : Addr) (c : Cnt) (x : V) (d : PyData), vs = [.ref a, x] ∧ H a = some (.dK (countKV c)) ∧ cntGood c ∧ Dp K H x d ∧ ∀ H', Same H H' → Q (.bl (dRight c d)) H'
theorem dWord_tup {d : PyData} {ks : List Str} (e : rTab.lookup (dWord d) = some ks) : ∃ ds, d = .tuple ds := by
  cases d with
  | tuple ds => exact ⟨ds, rfl⟩
  | _ =>
    have z : rTab.lookup ("" : Str) = none := by decide +kernel
    have e2 : rTab.lookup ("" : Str) = some ks := e
    rw [z] at e2; cases e2
theorem ok_is_right {dF : Addr} (B : Bl mg) (T : RForms K w mg dF) (d : DefAt K mg "is_right" s_is_right ["counts", "thing"]) (c_word_of : Cal P w K mg base 1 "word_of" ["thing"] (spWord K)) (c_is_formed : Cal P w K mg base 5 "is_formed" ["counts", "kinds", "thing"] (spFormed K good1 kf1)) :
    Cal P w K mg base 6 "is_right" ["counts", "thing"] (spRight K) := by
 refine Hk.hold ?_
 simp (disch := with_unfolding_all (
 exact Hk.disch (d.cal fun f fd F => by
  refine F.ok sc_is_right (fun vs H Q E h => ?_) (fun cdv A outer s H vs Q E hr h => ?_)
  · obtain ⟨a, c, x, d, rfl, _⟩ := h; rfl
  · obtain ⟨a, c, x, d, rfl, hc, cg, hd, q⟩ := h
    refine ⟨_, (pss_one (ps_ret (pe_cal c_is_formed (hr.mono (by omega)) rfl (pa_cons (pv 0) (pa_cons (pe_kget T.forms (pe_glob (v := .ref dF) rfl T.g_forms rfl) (pe_cal c_word_of (hr.mono (by omega)) rfl (pa_cons (pv 1) pa_nil)) ⟨rfl, rfl, rfl, rfl⟩) (pa_cons (pv 1) pa_nil)))))), ?_⟩
    walk_at "st0"
    refine ⟨rfl, ?_⟩
    walk_at "st"
    refine ⟨x, d, rfl, hd, dWord d, rfl, fun t ks e ht => ?_, fun e => ?_⟩
    · walk_at "st"
      obtain ⟨ds, ed⟩ := dWord_tup e
      refine ⟨a, c, _, some ks, x, d, rfl, hc, hd, ⟨⟨t, rfl, ht H⟩, ⟨ds, ed⟩, rTab_good cg e⟩, fun H2 s2 => ?_⟩
      have z := q H2 s2
      simp only [dRight, e] at z
      exact z
    · walk_at "st"
      refine ⟨a, c, _, none, x, d, rfl, hc, hd, rfl, fun H2 s2 => ?_⟩
      have z := q H2 s2
      simp only [dRight, e] at z
      exact z))) only [↓Hk.hold_s]
end
end T
namespace T
section
variable {P : Program} {w : World} {K : PySem.W.Frag} {mg : Str → Option Value} {base : Heap}
def okNumbers (d : PyData) (most lo hi : Int) : Bool := dListOf d 0 most && (match d with | .list ds => ds.all fun e => dBetween e lo hi | _ => false)
def spNumbers (K : PySem.W.Frag) : Sp := fun vs H Q _ => ∃ (x : V) (d : PyData) (m lo hi : Int), vs = [x, .int m, .int lo, .int hi] ∧ Dp K H x d ∧ m ≤ 100 ∧ ∀ H', Same H H' → Q (.bl (okNumbers d m lo hi)) H'
theorem dListOf_list {d : PyData} {lo hi : Int} (h : dListOf d lo hi = true) : ∃ ds, d = .list ds ∧ lo ≤ ds.length ∧ (ds.length : Int) ≤ hi := by
  cases d with
  | list ds => simp [dListOf] at h; exact ⟨ds, rfl, h⟩
  | _ => simp [dListOf] at h
theorem ok_fit_as_numbers (B : Bl mg) (d : DefAt K mg "fit_as_numbers" s_fit_as_numbers ["numbers", "most", "low", "high"]) (c_is_list : Cal P w K mg base 1 "is_list" ["thing", "low", "high"] (spListOf K)) (c_is_between : Cal P w K mg base 2 "is_between" ["thing", "low", "high"] (spBetween K)) :
    Cal P w K mg base 3 "fit_as_numbers" ["numbers", "most", "low", "high"] (spNumbers K) := by
 refine Hk.hold ?_
 simp (disch := with_unfolding_all (
 exact Hk.disch (d.cal fun f fd F => by
  refine F.ok sc_fit_as_numbers (fun vs H Q E h => ?_) (fun cdv A outer s H vs Q E hr h => ?_)
  · obtain ⟨x, d, m, lo, hi, rfl, _⟩ := h; rfl
  · obtain ⟨x, d, m, lo, hi, rfl, hd, hm, q⟩ := h
    refine ⟨_, (pss_one (ps_ret (pe_and (pe_cal c_is_list (hr.mono (by omega)) rfl (pa_cons (pv 0) (pa_cons pe_int (pa_cons (pv 1) pa_nil)))) (pe_one (pe_callB (cr_all rfl) rfl B.all hb_all (pa_cons (pe_lc (own := [("number", 4)]) (tt := tYes) rfl sc_fit_as_numbers.nd (pi_list (pv 0)) (blkOk_by (N := ["numbers", "most", "low", "high", "number"]) (sc := defScope s_fit_as_numbers) (by decide +kernel)) (fun _ _ _ _ _ => (pg_name (i := 4) sc_fit_as_numbers.nd rfl (Or.inl rfl))) (fun _ _ _ _ _ => pts_nil) (fun _ _ _ _ _ => (pe_cal c_is_between (hr.mono (by omega)) rfl (pa_cons (pv 4) (pa_cons (pv 2) (pa_cons (pv 3) pa_nil)))))) pa_nil)))))), ?_⟩
    walk_at "st0"
    refine ⟨x, d, 0, m, rfl, hd, ?_⟩
    walk_at "st"
    refine q_if (fun hc => ?_) (fun hc => ?_)
    · obtain ⟨ds, rfl, h0, h1⟩ := dListOf_list hc
      cases hd with
      | @lst a xs _ hs ha =>
      walk_at "st"
      refine ⟨.ref a, rfl, a, rfl, ⟨xs, hs⟩, fun D nD => lc_test (fun e => dBetween e lo hi) hs ha (by omega) nD ?_ ?_⟩
      · intro x2 d2 H2 h2 _ s2 Q2 k2
        refine ⟨rfl, ?_⟩
        walk_at "st"
        exact ⟨x2, d2, lo, hi, rfl, h2, k2 _ (Same.refl _)⟩
      · intro H2 s2 e
        refine ⟨D, _, rfl, e, ?_⟩
        have z := q H2 s2
        simp only [okNumbers, hc, Bool.true_and] at z
        rw [all_map_id]; exact z
    · have z := q H (Same.refl H)
      simp only [okNumbers, hc, Bool.false_and] at z
      exact z))) only [↓Hk.hold_s]
def okRow (c : Cnt) (d : PyData) : Bool := dListOf d 0 8 && (match d with | .list ds => ds.all (dRight c) && ascWI (ds.map fun e => match e with | .tuple [.str z, .int i] => (z, i) | _ => default) | _ => false)
theorem dRight_shape {c : Cnt} {d : PyData} (h : dRight c d = true) : ∃ z i, d = .tuple [.str z, .int i] := by
 refine Hk.hold ?_
 simp (disch := with_unfolding_all (
 exact Hk.disch (by
  unfold dRight dFormed at h
  cases e : rTab.lookup (dWord d) with
  | none => rw [e] at h; cases h
  | some ks =>
    obtain ⟨ds, rfl⟩ := dWord_tup e
    rw [e] at h
    have m := lookup_mem e
    have z0 : rTab.lookup ("" : Str) = none := by decide +kernel
    have hz : ∃ z es, ds = .str z :: es := by
      cases ds with
      | nil => exact nomatch z0.symm.trans e
      | cons a r => cases a with
        | str z => exact ⟨z, r, rfl⟩
        | _ => exact nomatch z0.symm.trans e
    obtain ⟨z, es, rfl⟩ := hz
    have k1 : ∃ kd, ks = [kd] ∧ kd ≠ "ticks" := by
      simp only [rTab, List.mem_cons, Prod.mk.injEq, List.not_mem_nil, or_false] at m
      rcases m with ⟨_, m⟩ | ⟨_, m⟩ | ⟨_, m⟩ | ⟨_, m⟩ | ⟨_, m⟩ | ⟨_, m⟩ | ⟨_, m⟩ | ⟨_, m⟩ <;> subst m <;> exact ⟨_, rfl, by decide +kernel⟩
    obtain ⟨kd, rfl, nt⟩ := k1
    simp only [Bool.and_eq_true, decide_eq_true_eq] at h
    obtain ⟨hl, hk⟩ := h
    match es, hl with
    | [x], _ =>
      simp [dKinds, kf1, nt] at hk
      cases x with
      | int i => exact ⟨z, i, rfl⟩
      | _ => simp [dBetween] at hk))) only [↓Hk.hold_s]
theorem rows_rt {H : Hp} {c : Cnt} {xs : List V} {ds : List PyData} (ha : DpAll K H xs ds) (h : ds.all (dRight c) = true) :
    Paired (RtAt K H) xs (ds.map fun e => match e with | .tuple [.str z, .int i] => (z, i) | _ => default) := by
  induction ds generalizing xs with
  | nil => cases ha; exact .nil
  | cons d ds ih =>
    cases ha with
    | cons h1 h2 =>
      rw [List.all_cons, Bool.and_eq_true] at h
      obtain ⟨z, i, rfl⟩ := dRight_shape h.1
      refine .cons ?_ (ih h2 h.2)
      cases h1 with
      | @tup a ys _ hs hy => cases hy with
        | cons g1 g2 => cases g1; cases g2 with
          | cons g3 g4 => cases g3; cases g4; exact ⟨a, rfl, hs⟩
def spRow (K : PySem.W.Frag) (p : Cnt → PyData → Bool) : Sp := fun vs H Q _ => ∃ (a : Addr) (c : Cnt) (x : V) (d : PyData), vs = [.ref a, x] ∧ H a = some (.dK (countKV c)) ∧ cntGood c ∧ Dp K H x d ∧ ∀ H', Same H H' → Q (.bl (p c d)) H'
theorem ok_fit_as_row (B : Bl mg) (d : DefAt K mg "fit_as_row" s_fit_as_row ["counts", "row"]) (c_is_list : Cal P w K mg base 1 "is_list" ["thing", "low", "high"] (spListOf K)) (c_is_right : Cal P w K mg base 6 "is_right" ["counts", "thing"] (spRight K)) (c_is_ascending : Cal P w K mg base 1 "is_ascending" ["items"] (spAsc K)) :
    Cal P w K mg base 7 "fit_as_row" ["counts", "row"] (spRow K okRow) := by
 refine Hk.hold ?_
 simp (disch := with_unfolding_all (
 exact Hk.disch (d.cal fun f fd F => by
  refine F.ok sc_fit_as_row (fun vs H Q E h => ?_) (fun cdv A outer s H vs Q E hr h => ?_)
  · obtain ⟨a, c, x, d, rfl, _⟩ := h; rfl
  · obtain ⟨b, c, x, d, rfl, hc0, cg, hd, q⟩ := h
    refine ⟨_, (pss_one (ps_ret (pe_and (pe_cal c_is_list (hr.mono (by omega)) rfl (pa_cons (pv 1) (pa_cons pe_int (pa_cons pe_int pa_nil)))) (pe_and (pe_callB (cr_all rfl) rfl B.all hb_all (pa_cons (pe_lc (own := [("right", 2)]) (tt := tYes) rfl sc_fit_as_row.nd (pi_list (pv 1)) (blkOk_by (N := ["counts", "row", "right"]) (sc := defScope s_fit_as_row) (by decide +kernel)) (fun _ _ _ _ _ => (pg_name (i := 2) sc_fit_as_row.nd rfl (Or.inl rfl))) (fun _ _ _ _ _ => pts_nil) (fun _ _ _ _ _ => (pe_cal c_is_right (hr.mono (by omega)) rfl (pa_cons (pv 0) (pa_cons (pv 2) pa_nil))))) pa_nil)) (pe_one (pe_cal c_is_ascending (hr.mono (by omega)) rfl (pa_cons (pv 1) pa_nil))))))), ?_⟩
    walk_at "st0"
    refine ⟨x, d, 0, 8, rfl, hd, ?_⟩
    walk_at "st"
    refine q_if (fun hc => ?_) (fun hc => ?_)
    · obtain ⟨ds, rfl, h0, h1⟩ := dListOf_list hc
      cases hd with
      | @lst a xs _ hs ha =>
      walk_at "st"
      refine ⟨.ref a, rfl, a, rfl, ⟨xs, hs⟩, fun D nD => lc_test (dRight c) hs ha (by omega) nD ?_ ?_⟩
      · intro x2 d2 H2 h2 _ s2 Q2 k2
        refine ⟨rfl, ?_⟩
        walk_at "st"
        exact ⟨b, c, x2, d2, rfl, s2 _ _ hc0, cg, h2, fun H3 s3 => k2 _ s3⟩
      · intro H2 s2 e
        refine ⟨D, _, rfl, e, ?_⟩
        walk_at "st"
        rw [all_map_id]
        have z := q
        simp only [okRow, hc, Bool.true_and] at z
        refine q_if (fun hr2 => ?_) (fun hr2 => ?_)
        · walk_at "st"
          refine ⟨a, xs, _, rfl, s2.seq hs, rows_rt (L2.DpAll.mono s2 ha) hr2, by rw [List.length_map]; omega, fun H3 s3 => ?_⟩
          have z2 := z H3 (s2.trans s3)
          rw [hr2, Bool.true_and] at z2
          exact z2
        · have z2 := z H2 s2
          rw [hr2, Bool.false_and] at z2
          exact z2
    · have z := q H (Same.refl H)
      simp only [okRow, hc, Bool.false_and] at z
      exact z))) only [↓Hk.hold_s]
def cnt (c : Cnt) (z : Str) : Int := (c.lookup z).getD 0
def okRights (c : Cnt) (d : PyData) : Bool := dListOf d (cnt c "task") (cnt c "task") && (match d with | .list ds => ds.all (okRow c) | _ => false)
theorem cnt_get {c : Cnt} (h : cntGood c) {z : Str} (hz : z ∈ (["task", "page", "port"] : List Str)) : c.lookup z = some (cnt c z) := by
  obtain ⟨t, p, q, l, d, rfl⟩ := h
  simp only [List.mem_cons, List.not_mem_nil, or_false] at hz
  rcases hz with rfl | rfl | rfl <;> rfl
def cntSmall (c : Cnt) : Prop := cntGood c ∧ cnt c "task" ≤ 100 ∧ cnt c "page" ≤ 100
def spPart (K : PySem.W.Frag) (p : Cnt → PyData → Bool) : Sp := fun vs H Q _ => ∃ (a : Addr) (c : Cnt) (x : V) (d : PyData), vs = [.ref a, x] ∧ H a = some (.dK (countKV c)) ∧ cntSmall c ∧ Dp K H x d ∧ ∀ H', Same H H' → Q (.bl (p c d)) H'
theorem ok_fit_as_rights (B : Bl mg) (d : DefAt K mg "fit_as_rights" s_fit_as_rights ["counts", "rights"]) (c_is_list : Cal P w K mg base 1 "is_list" ["thing", "low", "high"] (spListOf K)) (c_fit_as_row : Cal P w K mg base 7 "fit_as_row" ["counts", "row"] (spRow K okRow)) :
    Cal P w K mg base 8 "fit_as_rights" ["counts", "rights"] (spPart K okRights) := by
 refine Hk.hold ?_
 simp (disch := with_unfolding_all (
 exact Hk.disch (d.cal fun f fd F => by
  refine F.ok sc_fit_as_rights (fun vs H Q E h => ?_) (fun cdv A outer s H vs Q E hr h => ?_)
  · obtain ⟨a, c, x, d, rfl, _⟩ := h; rfl
  · obtain ⟨b, c, x, d, rfl, hc0, ⟨cg, c1, c2⟩, hd, q⟩ := h
    have hu := hu_of hr
    refine ⟨_, (pss_cons (ps_set (i := 2) sc_fit_as_rights.nd rfl (Or.inl rfl) (pe_dget hu (pv 0) pe_str (fun _ _ => rfl)))
      (pss_one (ps_ret (pe_and (pe_cal c_is_list (hr.mono (by omega)) rfl (pa_cons (pv 1) (pa_cons (pv 2) (pa_cons (pv 2) pa_nil)))) (pe_one (pe_callB (cr_all rfl) rfl B.all hb_all (pa_cons (pe_lc (own := [("row", 3)]) (tt := tYes) rfl sc_fit_as_rights.nd (pi_list (pv 1)) (blkOk_by (N := ["counts", "rights", "many", "row"]) (sc := defScope s_fit_as_rights) (by decide +kernel)) (fun _ _ _ _ _ => (pg_name (i := 3) sc_fit_as_rights.nd rfl (Or.inl rfl))) (fun _ _ _ _ _ => pts_nil) (fun _ _ _ _ _ => (pe_cal c_fit_as_row (hr.mono (by omega)) rfl (pa_cons (pv 0) (pa_cons (pv 3) pa_nil))))) pa_nil))))))), ?_⟩
    walk_at "st0"
    refine ⟨b, _, rfl, dgetC hc0 (cnt_get cg (by simp)), ?_⟩
    walk_at "st"
    refine ⟨x, d, _, _, rfl, hd, ?_⟩
    walk_at "st"
    refine q_if (fun hc => ?_) (fun hc => ?_)
    · obtain ⟨ds, rfl, h0, h1⟩ := dListOf_list hc
      cases hd with
      | @lst a xs _ hs ha =>
      walk_at "st"
      refine ⟨.ref a, rfl, a, rfl, ⟨xs, hs⟩, fun D nD => lc_test (okRow c) hs ha (by omega) nD ?_ ?_⟩
      · intro x2 d2 H2 h2 _ s2 Q2 k2
        refine ⟨rfl, ?_⟩
        walk_at "st"
        exact ⟨b, c, x2, d2, rfl, s2 _ _ hc0, cg, h2, fun H3 s3 => k2 _ s3⟩
      · intro H2 s2 e
        refine ⟨D, _, rfl, e, ?_⟩
        have z := q H2 s2
        simp only [okRights, hc, Bool.true_and] at z
        rw [all_map_id]; exact z
    · have z := q H (Same.refl H)
      simp only [okRights, hc, Bool.false_and] at z
      exact z))) only [↓Hk.hold_s]
def okLine (d : PyData) : Bool := match d with | .none => true | _ => dBetween d 0 1
def okLines (c : Cnt) (d : PyData) : Bool := dListOf d (cnt c "page") (cnt c "page") && (match d with | .list ds => ds.all okLine | _ => false)
theorem ok_fit_as_lines (B : Bl mg) (d : DefAt K mg "fit_as_lines" s_fit_as_lines ["counts", "lines"]) (c_is_list : Cal P w K mg base 1 "is_list" ["thing", "low", "high"] (spListOf K)) (c_is_between : Cal P w K mg base 2 "is_between" ["thing", "low", "high"] (spBetween K)) :
    Cal P w K mg base 3 "fit_as_lines" ["counts", "lines"] (spPart K okLines) := by
 refine Hk.hold ?_
 simp (disch := with_unfolding_all (
 exact Hk.disch (d.cal fun f fd F => by
  refine F.ok sc_fit_as_lines (fun vs H Q E h => ?_) (fun cdv A outer s H vs Q E hr h => ?_)
  · obtain ⟨a, c, x, d, rfl, _⟩ := h; rfl
  · obtain ⟨b, c, x, d, rfl, hc0, ⟨cg, c1, c2⟩, hd, q⟩ := h
    have hu := hu_of hr
    refine ⟨_, (pss_cons (ps_set (i := 2) sc_fit_as_lines.nd rfl (Or.inl rfl) (pe_dget hu (pv 0) pe_str (fun _ _ => rfl)))
      (pss_one (ps_ret (pe_and (pe_cal c_is_list (hr.mono (by omega)) rfl (pa_cons (pv 1) (pa_cons (pv 2) (pa_cons (pv 2) pa_nil)))) (pe_one (pe_callB (cr_all rfl) rfl B.all hb_all (pa_cons (pe_lc (own := [("line", 3)]) (tt := tYes) rfl sc_fit_as_lines.nd (pi_list (pv 1)) (blkOk_by (N := ["counts", "lines", "many", "line"]) (sc := defScope s_fit_as_lines) (by decide +kernel)) (fun _ _ _ _ _ => (pg_name (i := 3) sc_fit_as_lines.nd rfl (Or.inl rfl))) (fun _ _ _ _ _ => pts_nil) (fun _ _ _ _ _ => (pe_or (pe_cmp (pc_isN (pv 3))) (pe_one (pe_cal c_is_between (hr.mono (by omega)) rfl (pa_cons (pv 3) (pa_cons pe_int (pa_cons pe_int pa_nil)))))))) pa_nil))))))), ?_⟩
    walk_at "st0"
    refine ⟨b, _, rfl, dgetC hc0 (cnt_get cg (by simp)), ?_⟩
    walk_at "st"
    refine ⟨x, d, _, _, rfl, hd, ?_⟩
    walk_at "st"
    refine q_if (fun hc => ?_) (fun hc => ?_)
    · obtain ⟨ds, rfl, h0, h1⟩ := dListOf_list hc
      cases hd with
      | @lst a xs _ hs ha =>
      walk_at "st"
      refine ⟨.ref a, rfl, a, rfl, ⟨xs, hs⟩, fun D nD => lc_test okLine hs ha (by omega) nD ?_ ?_⟩
      · intro x2 d2 H2 h2 _ s2 Q2 k2
        refine ⟨rfl, ?_⟩
        walk_at "st"
        have h3 := h2
        cases h2 with
        | non => exact iteT (k2 _ (Same.refl _))
        | _ =>
          refine iteF ?_
          walk_at "st"
          exact ⟨_, _, 0, 1, rfl, h3, k2 _ (Same.refl _)⟩
      · intro H2 s2 e
        refine ⟨D, _, rfl, e, ?_⟩
        have z := q H2 s2
        simp only [okLines, hc, Bool.true_and] at z
        rw [all_map_id]; exact z
    · have z := q H (Same.refl H)
      simp only [okLines, hc, Bool.false_and] at z
      exact z))) only [↓Hk.hold_s]
end
end T
namespace T
section
variable {P : Program} {w : World} {K : PySem.W.Frag} {mg : Str → Option Value} {base : Heap}
theorem dTupleOf_tup {d : PyData} {n : Nat} (h : dTupleOf d n = true) : ∃ ds, d = .tuple ds ∧ ds.length = n := by
  cases d with
  | tuple ds => simp [dTupleOf] at h; exact ⟨ds, rfl, h⟩
  | _ => simp [dTupleOf] at h
def okCosts (d : PyData) : Bool := dTupleOf d 3 && (match d with | .tuple [a, b, c] => dBetween a 1 3 && (dBetween b 0 3 && dBetween c 0 2) | _ => false)
def spOk (K : PySem.W.Frag) (p : PyData → Bool) : Sp := fun vs H Q _ => ∃ (x : V) (d : PyData), vs = [x] ∧ Dp K H x d ∧ ∀ H', Same H H' → Q (.bl (p d)) H'
theorem ok_fit_as_costs (B : Bl mg) (d : DefAt K mg "fit_as_costs" s_fit_as_costs ["costs"]) (c_is_tuple : Cal P w K mg base 1 "is_tuple" ["thing", "many"] (spTupleOf K)) (c_is_between : Cal P w K mg base 2 "is_between" ["thing", "low", "high"] (spBetween K)) :
    Cal P w K mg base 3 "fit_as_costs" ["costs"] (spOk K okCosts) := by
 refine Hk.hold ?_
 simp (disch := with_unfolding_all (
 exact Hk.disch (d.cal fun f fd F => by
  refine F.ok sc_fit_as_costs (fun vs H Q E h => ?_) (fun cdv A outer s H vs Q E hr h => ?_)
  · obtain ⟨x, d, rfl, _⟩ := h; rfl
  · obtain ⟨x, d, rfl, hd, q⟩ := h
    have z := q H (Same.refl H)
    refine ⟨_, (pss_cons (ps_if (pt_not (pt_val (pe_cal c_is_tuple (hr.mono (by omega)) rfl (pa_cons (pv 0) (pa_cons pe_int pa_nil))))) (pss_one (ps_ret pe_bl)) pss_nil)
      (pss_one (ps_ret (pe_and (pe_cal c_is_between (hr.mono (by omega)) rfl (pa_cons (pe_ix ix_tup (pv 0) pe_int (fun _ _ => rfl)) (pa_cons pe_int (pa_cons pe_int pa_nil)))) (pe_and (pe_cal c_is_between (hr.mono (by omega)) rfl (pa_cons (pe_ix ix_tup (pv 0) pe_int (fun _ _ => rfl)) (pa_cons pe_int (pa_cons pe_int pa_nil)))) (pe_one (pe_cal c_is_between (hr.mono (by omega)) rfl (pa_cons (pe_ix ix_tup (pv 0) pe_int (fun _ _ => rfl)) (pa_cons pe_int (pa_cons pe_int pa_nil)))))))))), ?_⟩
    walk_at "st0"
    refine ⟨x, d, 3, rfl, hd, ?_⟩
    walk_at "st"
    cases hc : dTupleOf d 3 with
    | false =>
      refine iteT ?_
      walk_at "st"
      simp only [okCosts, hc, Bool.false_and] at z
      exact z
    | true =>
      refine iteF ?_
      obtain ⟨ds, rfl, l3⟩ := dTupleOf_tup hc
      simp only [okCosts, hc, Bool.true_and] at z
      match ds, l3, hd, z with
      | [a, b, c], _, hd, z =>
        cases hd with
        | @tup t xs _ hs ha =>
        cases ha with
        | @cons x0 r0 _ _ a0 ha => cases ha with
          | @cons x1 r1 _ _ a1 ha => cases ha with
            | @cons x2 r2 _ _ a2 ha =>
              cases ha
              walk_at "st"
              refine q_ixT hs (atI0 rfl) ?_
              walk_at "st"
              refine ⟨x0, a, 1, 3, rfl, a0, ?_⟩
              walk_at "st"
              refine q_if (fun h1 => ?_) (fun h1 => ?_)
              · walk_at "st"
                refine q_ixT hs (atI1 rfl) ?_
                walk_at "st"
                refine ⟨x1, b, 0, 3, rfl, a1, ?_⟩
                walk_at "st"
                refine q_if (fun h2 => ?_) (fun h2 => ?_)
                · walk_at "st"
                  refine q_ixT hs (atI_nat (j := 2) rfl) ?_
                  walk_at "st"
                  refine ⟨x2, c, 0, 2, rfl, a2, ?_⟩
                  simpa [h1, h2] using z
                · simpa [h1, h2] using z
              · simpa [h1] using z))) only [↓Hk.hold_s]
def okSlot (c : Cnt) (d : PyData) : Bool := dTupleOf d 2 && (match d with | .tuple [a, b] => dBetween a 0 (cnt c "task" - 1) && dBetween b 1 12 | _ => false)
theorem ok_fits_as_slot (B : Bl mg) (d : DefAt K mg "fits_as_slot" s_fits_as_slot ["counts", "row"]) (c_is_tuple : Cal P w K mg base 1 "is_tuple" ["thing", "many"] (spTupleOf K)) (c_is_between : Cal P w K mg base 2 "is_between" ["thing", "low", "high"] (spBetween K)) (c_is_index : Cal P w K mg base 3 "is_index" ["thing", "many"] (spIndex K)) :
    Cal P w K mg base 4 "fits_as_slot" ["counts", "row"] (spPart K okSlot) := by
 refine Hk.hold ?_
 simp (disch := with_unfolding_all (
 exact Hk.disch (d.cal fun f fd F => by
  refine F.ok sc_fits_as_slot (fun vs H Q E h => ?_) (fun cdv A outer s H vs Q E hr h => ?_)
  · obtain ⟨a, c, x, d, rfl, _⟩ := h; rfl
  · obtain ⟨b, c, x, d, rfl, hc0, ⟨cg, c1, c2⟩, hd, q⟩ := h
    have hu := hu_of hr
    have z := q H (Same.refl H)
    refine ⟨_, (pss_one (ps_ret (pe_and (pe_cal c_is_tuple (hr.mono (by omega)) rfl (pa_cons (pv 1) (pa_cons pe_int pa_nil))) (pe_and (pe_cal c_is_index (hr.mono (by omega)) rfl (pa_cons (pe_ix ix_tup (pv 1) pe_int (fun _ _ => rfl)) (pa_cons (pe_dget hu (pv 0) pe_str (fun _ _ => rfl)) pa_nil))) (pe_one (pe_cal c_is_between (hr.mono (by omega)) rfl (pa_cons (pe_ix ix_tup (pv 1) pe_int (fun _ _ => rfl)) (pa_cons pe_int (pa_cons pe_int pa_nil))))))))), ?_⟩
    walk_at "st0"
    refine ⟨x, d, 2, rfl, hd, ?_⟩
    walk_at "st"
    cases hc : dTupleOf d 2 with
    | false =>
      refine iteF ?_
      simp only [okSlot, hc, Bool.false_and] at z
      exact z
    | true =>
      refine iteT ?_
      obtain ⟨ds, rfl, l3⟩ := dTupleOf_tup hc
      simp only [okSlot, hc, Bool.true_and] at z
      match ds, l3, hd, z with
      | [e0, e1], _, hd, z =>
        cases hd with
        | @tup t xs _ hs ha =>
        cases ha with
        | @cons x0 r0 _ _ a0 ha => cases ha with
          | @cons x1 r1 _ _ a1 ha =>
            cases ha
            walk_at "st"
            refine q_ixT hs (atI0 rfl) ?_
            walk_at "st"
            refine ⟨b, _, rfl, dgetC hc0 (cnt_get cg (by simp)), ?_⟩
            walk_at "st"
            refine ⟨x0, e0, _, rfl, a0, ?_⟩
            walk_at "st"
            refine q_if (fun h1 => ?_) (fun h1 => ?_)
            · walk_at "st"
              refine q_ixT hs (atI1 rfl) ?_
              walk_at "st"
              refine ⟨x1, e1, 1, 12, rfl, a1, ?_⟩
              simpa [h1] using z
            · simpa [h1] using z))) only [↓Hk.hold_s]
def okOut2 (c : Cnt) (d : PyData) : Bool := dTupleOf d 2 && (match d with | .tuple [a, b] => dBetween a 0 (cnt c "port" - 1) && dBetween b 1 4 | _ => false)
def okOutside (c : Cnt) (d : PyData) : Bool := match d with | .none => true | _ => okOut2 c d
theorem ok_fits_as_outside (B : Bl mg) (d : DefAt K mg "fits_as_outside" s_fits_as_outside ["counts", "outside"]) (c_is_tuple : Cal P w K mg base 1 "is_tuple" ["thing", "many"] (spTupleOf K)) (c_is_between : Cal P w K mg base 2 "is_between" ["thing", "low", "high"] (spBetween K)) (c_is_index : Cal P w K mg base 3 "is_index" ["thing", "many"] (spIndex K)) :
    Cal P w K mg base 4 "fits_as_outside" ["counts", "outside"] (spPart K okOutside) := by
 refine Hk.hold ?_
 simp (disch := with_unfolding_all (
 exact Hk.disch (d.cal fun f fd F => by
  refine F.ok sc_fits_as_outside (fun vs H Q E h => ?_) (fun cdv A outer s H vs Q E hr h => ?_)
  · obtain ⟨a, c, x, d, rfl, _⟩ := h; rfl
  · obtain ⟨b, c, x, d, rfl, hc0, ⟨cg, c1, c2⟩, hd, q⟩ := h
    have hu := hu_of hr
    have z := q H (Same.refl H)
    refine ⟨_, (pss_cons (ps_if (pt_cmp (pc_isN (pv 1))) (pss_one (ps_ret pe_bl)) pss_nil)
      (pss_one (ps_ret (pe_and (pe_cal c_is_tuple (hr.mono (by omega)) rfl (pa_cons (pv 1) (pa_cons pe_int pa_nil))) (pe_and (pe_cal c_is_index (hr.mono (by omega)) rfl (pa_cons (pe_ix ix_tup (pv 1) pe_int (fun _ _ => rfl)) (pa_cons (pe_dget hu (pv 0) pe_str (fun _ _ => rfl)) pa_nil))) (pe_one (pe_cal c_is_between (hr.mono (by omega)) rfl (pa_cons (pe_ix ix_tup (pv 1) pe_int (fun _ _ => rfl)) (pa_cons pe_int (pa_cons pe_int pa_nil)))))))))), ?_⟩
    walk_at "st0"
    by_cases hn : x = .non
    · subst hn
      cases hd
      refine iteT ?_
      walk_at "st"
      exact z
    · have zz : okOutside c d = okOut2 c d := by
        cases hd with
        | non => exact absurd rfl hn
        | _ => rfl
      rw [zz] at z
      clear zz q
      rw [decide_eq_false hn]
      refine iteF ?_
      walk_at "st"
      refine ⟨x, d, 2, rfl, hd, ?_⟩
      walk_at "st"
      cases hc : dTupleOf d 2 with
      | false =>
        refine iteF ?_
        simp only [okOut2, hc, Bool.false_and] at z
        exact z
      | true =>
        refine iteT ?_
        obtain ⟨ds, rfl, l3⟩ := dTupleOf_tup hc
        simp only [okOut2, hc, Bool.true_and] at z
        match ds, l3, hd, z with
        | [e0, e1], _, hd, z =>
          cases hd with
          | @tup t xs _ hs ha =>
          cases ha with
          | @cons x0 r0 _ _ a0 ha => cases ha with
            | @cons x1 r1 _ _ a1 ha =>
              cases ha
              walk_at "st"
              refine q_ixT hs (atI0 rfl) ?_
              walk_at "st"
              refine ⟨b, _, rfl, dgetC hc0 (cnt_get cg (by simp)), ?_⟩
              walk_at "st"
              refine ⟨x0, e0, _, rfl, a0, ?_⟩
              walk_at "st"
              refine q_if (fun h1 => ?_) (fun h1 => ?_)
              · walk_at "st"
                refine q_ixT hs (atI1 rfl) ?_
                walk_at "st"
                refine ⟨x1, e1, 1, 4, rfl, a1, ?_⟩
                simpa [h1] using z
              · simpa [h1] using z))) only [↓Hk.hold_s]
end
end T
namespace T
section
variable {P : Program} {w : World} {K : PySem.W.Frag} {mg : Str → Option Value} {base : Heap}
def okSlots (c : Cnt) (d : PyData) : Bool := dListOf d 1 4 && (match d with | .list rs => rs.all (okSlot c) | _ => false)
def okPlan (c : Cnt) (d : PyData) : Bool := dTupleOf d 2 && (match d with | .tuple [.str z, e] => if z = "levels" then dBetween e 1 8 else decide (z = "slots") && okSlots c e | _ => false)
def strHead (d : PyData) : Prop := ∀ e0 e1, d = .tuple [e0, e1] → ∃ z, e0 = .str z
def spPlan (K : PySem.W.Frag) : Sp := fun vs H Q _ => ∃ (a : Addr) (c : Cnt) (x : V) (d : PyData), vs = [.ref a, x] ∧ H a = some (.dK (countKV c)) ∧ cntSmall c ∧ Dp K H x d ∧ strHead d ∧ ∀ H', Same H H' → Q (.bl (okPlan c d)) H'
theorem ok_fit_as_plan (B : Bl mg) (d : DefAt K mg "fit_as_plan" s_fit_as_plan ["counts", "plan"]) (c_is_tuple : Cal P w K mg base 1 "is_tuple" ["thing", "many"] (spTupleOf K)) (c_is_between : Cal P w K mg base 2 "is_between" ["thing", "low", "high"] (spBetween K))
    (c_is_list : Cal P w K mg base 1 "is_list" ["thing", "low", "high"] (spListOf K)) (c_fits_as_slot : Cal P w K mg base 4 "fits_as_slot" ["counts", "row"] (spPart K okSlot)) : Cal P w K mg base 5 "fit_as_plan" ["counts", "plan"] (spPlan K) := by
 refine Hk.hold ?_
 simp (disch := with_unfolding_all (
 exact Hk.disch (d.cal fun f fd F => by
  refine F.ok sc_fit_as_plan (fun vs H Q E h => ?_) (fun cdv A outer s H vs Q E hr h => ?_)
  · obtain ⟨a, c, x, d, rfl, _⟩ := h; rfl
  · obtain ⟨b, c, x, d, rfl, hc0, cs, hd, hz, q⟩ := h
    refine ⟨_, (pss_cons (ps_if (pt_not (pt_val (pe_cal c_is_tuple (hr.mono (by omega)) rfl (pa_cons (pv 1) (pa_cons pe_int pa_nil))))) (pss_one (ps_ret pe_bl)) pss_nil)
      (pss_cons (ps_if (pt_cmpR op_eq (pe_ix ix_tup (pv 1) pe_int (fun _ _ => rfl)) pe_str (nomark _)) (pss_one (ps_ret (pe_cal c_is_between (hr.mono (by omega)) rfl (pa_cons (pe_ix ix_tup (pv 1) pe_int (fun _ _ => rfl)) (pa_cons pe_int (pa_cons pe_int pa_nil)))))) pss_nil)
      (pss_one (ps_ret (pe_and (pe_cmpR op_eq (pe_ix ix_tup (pv 1) pe_int (fun _ _ => rfl)) pe_str (nomark _)) (pe_and (pe_cal c_is_list (hr.mono (by omega)) rfl (pa_cons (pe_ix ix_tup (pv 1) pe_int (fun _ _ => rfl)) (pa_cons pe_int (pa_cons pe_int pa_nil)))) (pe_one (pe_callB (cr_all rfl) rfl B.all hb_all (pa_cons (pe_lc (own := [("row", 2)]) (tt := tYes) rfl sc_fit_as_plan.nd (pi_list (pe_ix ix_tup (pv 1) pe_int (fun _ _ => rfl))) (blkOk_by (N := ["counts", "plan", "row"]) (sc := defScope s_fit_as_plan) (by decide +kernel)) (fun _ _ _ _ _ => (pg_name (i := 2) sc_fit_as_plan.nd rfl (Or.inl rfl))) (fun _ _ _ _ _ => pts_nil) (fun _ _ _ _ _ => (pe_cal c_fits_as_slot (hr.mono (by omega)) rfl (pa_cons (pv 0) (pa_cons (pv 2) pa_nil))))) pa_nil))))))))), ?_⟩
    walk_at "st0"
    refine ⟨x, d, 2, rfl, hd, ?_⟩
    walk_at "st"
    cases hc : dTupleOf d 2 with
    | false =>
      refine iteT ?_
      walk_at "st"
      have z := q H (Same.refl H)
      simp only [okPlan, hc, Bool.false_and] at z
      exact z
    | true =>
      refine iteF ?_
      obtain ⟨ds, rfl, l2⟩ := dTupleOf_tup hc
      simp only [okPlan, hc, Bool.true_and] at q
      match ds, l2, hd, hz, q with
      | [e0, e1], _, hd, hz, q =>
        obtain ⟨z, rfl⟩ := hz e0 e1 rfl
        cases hd with
        | @tup t xs _ hs ha =>
        cases ha with
        | @cons x0 r0 _ _ a0 ha => cases ha with
          | @cons x1 r1 _ _ a1 ha =>
            cases ha
            cases a0
            walk_at "st"
            refine q_ixT hs (atI0 rfl) ?_
            walk_at "st"
            refine q_eq rfl ?_
            walk_at "st"
            by_cases h1 : z = "levels"
            · subst h1
              rw [decide_eq_true rfl]
              refine iteT ?_
              walk_at "st"
              refine q_ixT hs (atI1 rfl) ?_
              walk_at "st"
              refine ⟨x1, e1, 1, 8, rfl, a1, ?_⟩
              have z0 := q H (Same.refl H)
              simpa using z0
            · rw [decide_eq_false (fun q => h1 (V.str.inj q))]
              refine iteF ?_
              walk_at "st"
              refine q_ixT hs (atI0 rfl) ?_
              walk_at "st"
              refine q_eq rfl ?_
              walk_at "st"
              simp only [if_neg h1] at q
              by_cases h2 : z = "slots"
              · subst h2
                rw [decide_eq_true rfl]
                refine iteT ?_
                walk_at "st"
                refine q_ixT hs (atI1 rfl) ?_
                walk_at "st"
                refine ⟨x1, e1, 1, 4, rfl, a1, ?_⟩
                walk_at "st"
                simp only [decide_true, Bool.true_and] at q
                refine q_if (fun hl => ?_) (fun hl => ?_)
                · obtain ⟨rs, rfl, g0, g1⟩ := dListOf_list hl
                  have a2 := a1
                  cases a1 with
                  | @lst a ys _ hy hb =>
                  walk_at "st"
                  refine ⟨.ref t, rfl, ?_⟩
                  walk_at "st"
                  refine q_ixT hs (atI1 rfl) ?_
                  refine ⟨a, rfl, ⟨ys, hy⟩, fun D nD => lc_test (okSlot c) hy hb (by omega) nD ?_ ?_⟩
                  · intro x2 d2 H2 h2 _ s2 Q2 k2
                    refine ⟨rfl, ?_⟩
                    walk_at "st"
                    exact ⟨b, c, x2, d2, rfl, s2 _ _ hc0, cs, h2, fun H3 s3 => k2 _ s3⟩
                  · intro H2 s2 e
                    refine ⟨D, _, rfl, e, ?_⟩
                    have z0 := q H2 s2
                    simp only [okSlots, hl, Bool.true_and] at z0
                    rw [all_map_id]; exact z0
                · have z0 := q H (Same.refl H)
                  simp only [okSlots, hl, Bool.false_and] at z0
                  exact z0
              · rw [decide_eq_false (fun q => h2 (V.str.inj q))]
                refine iteF ?_
                have z0 := q H (Same.refl H)
                rw [decide_eq_false h2, Bool.false_and] at z0
                exact z0))) only [↓Hk.hold_s]
def okTask (d : PyData) : Bool := dTupleOf d 2 && (match d with | .tuple [a, b] => dBetween a 0 3 && dBetween b 0 2 | _ => false)
def sideD (d : PyData) : Int := match d with | .tuple [.int s, _] => s | _ => 0
def okTasks (d : PyData) : Bool := dListOf d 2 4 && (match d with | .list ds => ds.all okTask && decide (1 < distinct (ds.map sideD)) | _ => false)
theorem okTask_shape {d : PyData} (h : okTask d = true) : ∃ s l, d = .tuple [.int s, .int l] ∧ 0 ≤ s ∧ s ≤ 3 ∧ 0 ≤ l ∧ l ≤ 2 := by
  unfold okTask at h
  rw [Bool.and_eq_true] at h
  obtain ⟨h1, h2⟩ := h
  obtain ⟨ds, rfl, l2⟩ := dTupleOf_tup h1
  match ds, l2, h2 with
  | [a, b], _, h2 =>
    rw [Bool.and_eq_true] at h2
    obtain ⟨h2, h3⟩ := h2
    cases a with
    | int s => cases b with
      | int l => simp [dBetween] at h2 h3; exact ⟨s, l, rfl, h2.1, h2.2, h3.1, h3.2⟩
      | _ => simp [dBetween] at h3
    | _ => simp [dBetween] at h2
theorem ok_fit_as_tasks (B : Bl mg) (d : DefAt K mg "fit_as_tasks" s_fit_as_tasks ["tasks"]) (c_is_list : Cal P w K mg base 1 "is_list" ["thing", "low", "high"] (spListOf K)) (c_is_tuple : Cal P w K mg base 1 "is_tuple" ["thing", "many"] (spTupleOf K)) (c_is_between : Cal P w K mg base 2 "is_between" ["thing", "low", "high"] (spBetween K)) :
    Cal P w K mg base 3 "fit_as_tasks" ["tasks"] (spOk K okTasks) := by
 refine Hk.hold ?_
 simp (disch := with_unfolding_all (
 exact Hk.disch (d.cal fun f fd F => by
  refine F.ok sc_fit_as_tasks (fun vs H Q E h => ?_) (fun cdv A outer s H vs Q E hr h => ?_)
  · obtain ⟨x, d, rfl, _⟩ := h; rfl
  · obtain ⟨x, d, rfl, hd, q⟩ := h
    refine ⟨_, (pss_cons (ps_if (pt_not (pt_val (pe_cal c_is_list (hr.mono (by omega)) rfl (pa_cons (pv 0) (pa_cons pe_int (pa_cons pe_int pa_nil)))))) (pss_one (ps_ret pe_bl)) pss_nil)
      (pss_cons (ps_for PassesOwn.never rfl (pi_list (pv 0)) (pg_name (i := 1) sc_fit_as_tasks.nd rfl (Or.inl rfl)) (pss_one (ps_if (pt_not (PW.pt (pw_and (pt_val (pe_cal c_is_tuple (hr.mono (by omega)) rfl (pa_cons (pv 1) (pa_cons pe_int pa_nil)))) (pw_and (pt_val (pe_cal c_is_between (hr.mono (by omega)) rfl (pa_cons (pe_ix ix_tup (pv 1) pe_int (fun _ _ => rfl)) (pa_cons pe_int (pa_cons pe_int pa_nil))))) (pw_and1 (pt_val (pe_cal c_is_between (hr.mono (by omega)) rfl (pa_cons (pe_ix ix_tup (pv 1) pe_int (fun _ _ => rfl)) (pa_cons pe_int (pa_cons pe_int pa_nil)))))))))) (pss_one (ps_ret pe_bl)) pss_nil)))
      (pss_one (ps_ret (pe_cmpR op_gt (pe_lenSetD rfl rfl B.len rfl B.set_ (pe_lc (own := [("side", 2), ("level", 3)]) (tt := tYes) rfl sc_fit_as_tasks.nd (pi_list (pv 0)) (blkOk_by (N := ["tasks", "task", "side", "level"]) (sc := defScope s_fit_as_tasks) (by decide +kernel)) (fun _ _ _ _ _ => (show PG _ _ (gTup K 2 _) from pg_tup rfl (pgs_cons (pg_name (i := 2) sc_fit_as_tasks.nd rfl (Or.inl rfl)) (pgs_cons (pg_name (i := 3) sc_fit_as_tasks.nd rfl (Or.inl rfl)) pgs_nil)))) (fun _ _ _ _ _ => pts_nil) (fun _ _ _ _ _ => (pv 2)))) pe_int (nomark _)))))), ?_⟩
    walk_at "st0"
    refine ⟨x, d, 2, 4, rfl, hd, ?_⟩
    walk_at "st"
    cases hc : dListOf d 2 4 with
    | false =>
      refine iteT ?_
      walk_at "st"
      have z := q H (Same.refl H)
      simp only [okTasks, hc, Bool.false_and] at z
      exact z
    | true =>
      refine iteF ?_
      obtain ⟨ds, rfl, h0, h1⟩ := dListOf_list hc
      simp only [okTasks, hc, Bool.true_and] at q
      cases hd with
      | @lst a xs _ hs ha =>
      have lx := ha.length
      walk_at "st"
      refine q_forV xs (fun i σ H2 => (∃ v, σ = [some (.ref a), v, none, none]) ∧ H2 = H ∧ ∀ j, j < i → okTask (ds.getD j .none) = true) rfl hs ⟨⟨none, rfl⟩, rfl, fun j h => by omega⟩ (fun i σ H2 _ h => by rw [h.2.1]; exact hs) ?_ ?_
      · rintro i x2 σ H2 hx ⟨⟨v, rfl⟩, rfl, hall⟩
        obtain ⟨d2, e2, h2⟩ := ha.get' hx
        have lt : i < ds.length := (List.getElem?_eq_some_iff.mp e2).1
        have fin : okTask d2 = true → (fun (σ : L2.St) (H2 : Hp) => (∃ v, σ = [some (.ref a), v, none, none]) ∧ H2 = H2 ∧ ∀ j, j < i + 1 → okTask (ds.getD j .none) = true) [some (.ref a), some x2, none, none] H2 := fun hh => ⟨⟨_, rfl⟩, rfl, fun j hj => by
          rcases Nat.lt_succ_iff_lt_or_eq.mp hj with z | z
          · exact hall j z
          · subst z; rw [List.getD_eq_getElem?_getD, e2]; exact hh⟩
        have bad : okTask d2 = false → Q (.bl false) H2 := fun hh => by
          have z := q H2 (Same.refl H2)
          have e : ds.all okTask = false := by
            rw [Bool.eq_false_iff]
            intro hh2
            rw [List.all_eq_true] at hh2
            exact absurd (hh2 d2 (List.mem_of_getElem? e2)) (by rw [hh]; simp)
          rw [e, Bool.false_and] at z
          exact z
        show tIfS _ _ _ _ _ _
        walk_at "st"
        refine ⟨x2, d2, 2, rfl, h2, ?_⟩
        walk_at "st"
        cases hc2 : dTupleOf d2 2 with
        | false =>
          refine iteF (iteT ?_)
          walk_at "st"
          exact bad (by unfold okTask; rw [hc2]; rfl)
        | true =>
          obtain ⟨es, rfl, l2⟩ := dTupleOf_tup hc2
          match es, l2, h2, fin, bad with
          | [p, r], _, h2, fin, bad =>
            cases h2 with
            | @tup t ys _ ht hb =>
            cases hb with
            | @cons x0 r0 _ _ a0 hb => cases hb with
              | @cons x1 r1 _ _ a1 hb =>
                cases hb
                refine iteT ?_
                walk_at "st"
                refine q_ixT ht (atI0 rfl) ?_
                walk_at "st"
                refine ⟨x0, p, 0, 3, rfl, a0, ?_⟩
                walk_at "st"
                refine q_if (fun h1 => ?_) (fun h1 => ?_)
                · walk_at "st"
                  refine q_ixT ht (atI1 rfl) ?_
                  walk_at "st"
                  refine ⟨x1, r, 0, 2, rfl, a1, ?_⟩
                  walk_at "st"
                  cases h2 : dBetween r 0 2 with
                  | false =>
                    refine iteT ?_
                    walk_at "st"
                    exact bad (by simp [okTask, dTupleOf, h1, h2])
                  | true =>
                    refine iteF ?_
                    walk_at "st"
                    exact fin (by simp [okTask, dTupleOf, h1, h2])
                · refine iteT ?_
                  walk_at "st"
                  exact bad (by simp [okTask, dTupleOf, h1])
      · rintro σ H2 ⟨⟨v, rfl⟩, rfl, hall⟩
        have e0 : ds.all okTask = true := by
          rw [List.all_eq_true]
          intro d2 hm
          obtain ⟨j, hj⟩ := List.getElem?_of_mem hm
          have z := hall j (by rw [lx]; exact (List.getElem?_eq_some_iff.mp hj).1)
          rwa [List.getD_eq_getElem?_getD, hj] at z
        rw [e0, Bool.true_and] at q
        walk_at "st"
        refine ⟨.ref a, rfl, a, rfl, ⟨xs, hs⟩, fun D nD => lc_map (fun d => V.int (sideD d)) hs ha (by omega) nD ?_ ?_⟩
        · intro x2 d2 H3 h2 hm s2 Q2 k2
          obtain ⟨sd, l, rfl, _⟩ := okTask_shape (List.all_eq_true.mp e0 d2 hm)
          cases h2 with
          | @tup t ys _ ht hb =>
          cases hb with
          | @cons x0 r0 _ _ a0 hb => cases hb with
            | @cons x1 r1 _ _ a1 hb =>
              cases hb
              cases a0
              refine ⟨t, _, rfl, ht, rfl, _, _, rfl, _, _, rfl, rfl, rfl, ?_⟩
              walk_at "st"
              exact k2 _ (Same.refl _)
        · intro H3 s3 e3
          refine ⟨D, ds.map sideD, rfl, SqL.of (by rw [e3, List.map_map]; rfl), by rw [List.length_map]; omega, ?_⟩
          walk_at "st"
          have z := q H3 s3
          have e4 : decide ((1 : Int) < (distinct (ds.map sideD) : Int)) = decide (1 < distinct (ds.map sideD)) := decide_eq_decide.mpr (by omega)
          rw [e4]; exact z))) only [↓Hk.hold_s]
end
end T
namespace T
section
variable {P : Program} {w : World} {K : PySem.W.Frag} {mg : Str → Option Value} {base : Heap}
def okDisk (d : PyData) : Bool := dBetween d 0 4 && (match d with | .int i => !decide (i = 1) | _ => false)
def thingsV (d1 d2 d3 d4 d5 d6 : PyData) : V :=
  if okTasks d1 = false then .str "tasks" else if okNumbers d2 3 0 1 = false then .str "pages" else if okNumbers d3 2 1 2 = false then .str "ports" else
  if dBetween d4 0 2 = false then .str "locks" else if dBetween d5 0 3 = false then .str "frames" else if okDisk d6 = false then .str "disk" else .non
def spThings (K : PySem.W.Frag) : Sp := fun vs H Q _ => ∃ (x1 x2 x3 x4 x5 x6 : V) (d1 d2 d3 d4 d5 d6 : PyData), vs = [x1, x2, x3, x4, x5, x6] ∧ Dp K H x1 d1 ∧ Dp K H x2 d2 ∧ Dp K H x3 d3 ∧ Dp K H x4 d4 ∧ Dp K H x5 d5 ∧ Dp K H x6 d6 ∧ ∀ H', Same H H' → Q (thingsV d1 d2 d3 d4 d5 d6) H'
theorem ok_things_fault (B : Bl mg) (d : DefAt K mg "things_fault" s_things_fault ["tasks", "pages", "ports", "locks", "frames", "disk"]) (c_fit_as_tasks : Cal P w K mg base 3 "fit_as_tasks" ["tasks"] (spOk K okTasks)) (c_fit_as_numbers : Cal P w K mg base 3 "fit_as_numbers" ["numbers", "most", "low", "high"] (spNumbers K))
    (c_is_between : Cal P w K mg base 2 "is_between" ["thing", "low", "high"] (spBetween K)) : Cal P w K mg base 4 "things_fault" ["tasks", "pages", "ports", "locks", "frames", "disk"] (spThings K) := by
 refine Hk.hold ?_
 simp (disch := with_unfolding_all (
 exact Hk.disch (d.cal fun f fd F => by
  refine F.ok sc_things_fault (fun vs H Q E h => ?_) (fun cdv A outer s H vs Q E hr h => ?_)
  · obtain ⟨x1, x2, x3, x4, x5, x6, d1, d2, d3, d4, d5, d6, rfl, _⟩ := h; rfl
  · obtain ⟨x1, x2, x3, x4, x5, x6, d1, d2, d3, d4, d5, d6, rfl, h1, h2, h3, h4, h5, h6, q⟩ := h
    refine ⟨_, (pss_cons (ps_if (pt_not (pt_val (pe_cal c_fit_as_tasks (hr.mono (by omega)) rfl (pa_cons (pv 0) pa_nil)))) (pss_one (ps_ret pe_str)) pss_nil)
      (pss_cons (ps_if (pt_not (pt_val (pe_cal c_fit_as_numbers (hr.mono (by omega)) rfl (pa_cons (pv 1) (pa_cons pe_int (pa_cons pe_int (pa_cons pe_int pa_nil))))))) (pss_one (ps_ret pe_str)) pss_nil)
      (pss_cons (ps_if (pt_not (pt_val (pe_cal c_fit_as_numbers (hr.mono (by omega)) rfl (pa_cons (pv 2) (pa_cons pe_int (pa_cons pe_int (pa_cons pe_int pa_nil))))))) (pss_one (ps_ret pe_str)) pss_nil)
      (pss_cons (ps_if (pt_not (pt_val (pe_cal c_is_between (hr.mono (by omega)) rfl (pa_cons (pv 3) (pa_cons pe_int (pa_cons pe_int pa_nil)))))) (pss_one (ps_ret pe_str)) pss_nil)
      (pss_cons (ps_if (pt_not (pt_val (pe_cal c_is_between (hr.mono (by omega)) rfl (pa_cons (pv 4) (pa_cons pe_int (pa_cons pe_int pa_nil)))))) (pss_one (ps_ret pe_str)) pss_nil)
      (pss_cons (ps_if (pt_not (PW.pt (pw_and (pt_val (pe_cal c_is_between (hr.mono (by omega)) rfl (pa_cons (pv 5) (pa_cons pe_int (pa_cons pe_int pa_nil))))) (pw_and1 (pt_cmpR op_ne (pv 5) pe_int (nomark _)))))) (pss_one (ps_ret pe_str)) pss_nil)
      (pss_one (ps_ret pe_non)))))))), ?_⟩
    walk_at "st0"
    refine ⟨x1, d1, rfl, h1, fun H1 s1 => ?_⟩
    walk_at "st"
    unfold thingsV at q
    cases e1 : okTasks d1 with
    | false =>
      refine iteT ?_
      walk_at "st"
      rw [e1] at q; exact q H1 s1
    | true =>
    refine iteF ?_
    rw [e1, if_neg (by simp)] at q
    walk_at "st"
    refine ⟨x2, d2, 3, 0, 1, rfl, L2.Dp.mono s1 h2, by omega, fun H2 s2 => ?_⟩
    have t2 := s1.trans s2
    walk_at "st"
    cases e2 : okNumbers d2 3 0 1 with
    | false =>
      refine iteT ?_
      walk_at "st"
      rw [e2] at q; exact q H2 t2
    | true =>
    refine iteF ?_
    rw [e2, if_neg (by simp)] at q
    walk_at "st"
    refine ⟨x3, d3, 2, 1, 2, rfl, L2.Dp.mono t2 h3, by omega, fun H3 s3 => ?_⟩
    have t3 := t2.trans s3
    walk_at "st"
    cases e3 : okNumbers d3 2 1 2 with
    | false =>
      refine iteT ?_
      walk_at "st"
      rw [e3] at q; exact q H3 t3
    | true =>
    refine iteF ?_
    rw [e3, if_neg (by simp)] at q
    walk_at "st"
    refine ⟨x4, d4, 0, 2, rfl, L2.Dp.mono t3 h4, ?_⟩
    walk_at "st"
    cases e4 : dBetween d4 0 2 with
    | false =>
      refine iteT ?_
      walk_at "st"
      rw [e4] at q; exact q H3 t3
    | true =>
    refine iteF ?_
    rw [e4, if_neg (by simp)] at q
    walk_at "st"
    refine ⟨x5, d5, 0, 3, rfl, L2.Dp.mono t3 h5, ?_⟩
    walk_at "st"
    cases e5 : dBetween d5 0 3 with
    | false =>
      refine iteT ?_
      walk_at "st"
      rw [e5] at q; exact q H3 t3
    | true =>
    refine iteF ?_
    rw [e5, if_neg (by simp)] at q
    walk_at "st"
    refine ⟨x6, d6, 0, 4, rfl, L2.Dp.mono t3 h6, ?_⟩
    walk_at "st"
    unfold okDisk at q
    cases e6 : dBetween d6 0 4 with
    | false =>
      refine iteF (iteT ?_)
      walk_at "st"
      rw [e6] at q; exact q H3 t3
    | true =>
    refine iteT ?_
    rw [e6, Bool.true_and] at q
    cases d6 with
    | int i =>
      cases h6
      walk_at "st"
      refine q_ne rfl ?_
      walk_at "st"
      have z := q H3 t3
      by_cases e7 : i = 1
      · subst e7
        rw [decide_eq_true rfl]
        refine iteT ?_
        walk_at "st"
        exact z
      · rw [decide_eq_false (fun q => e7 (V.int.inj q))]
        refine iteF ?_
        walk_at "st"
        simpa [e7] using z
    | _ => simp [dBetween] at e6))) only [↓Hk.hold_s]
def waysV (c : Cnt) (d1 d2 d3 d4 d5 : PyData) : V :=
  if okRights c d1 = false then .str "rights" else if okLines c d2 = false then .str "lines" else if okCosts d3 = false then .str "costs" else
  if okPlan c d4 = false then .str "plan" else if okOutside c d5 = false then .str "outside" else .non
def spWays (K : PySem.W.Frag) : Sp := fun vs H Q _ => ∃ (a : Addr) (c : Cnt) (x1 x2 x3 x4 x5 : V) (d1 d2 d3 d4 d5 : PyData), vs = [.ref a, x1, x2, x3, x4, x5] ∧ H a = some (.dK (countKV c)) ∧ cntSmall c ∧ Dp K H x1 d1 ∧ Dp K H x2 d2 ∧ Dp K H x3 d3 ∧ Dp K H x4 d4 ∧ Dp K H x5 d5 ∧
  strHead d4 ∧ ∀ H', Same H H' → Q (waysV c d1 d2 d3 d4 d5) H'
theorem ok_ways_fault (B : Bl mg) (d : DefAt K mg "ways_fault" s_ways_fault ["counts", "rights", "lines", "costs", "plan", "outside"]) (c_fit_as_rights : Cal P w K mg base 8 "fit_as_rights" ["counts", "rights"] (spPart K okRights)) (c_fit_as_lines : Cal P w K mg base 3 "fit_as_lines" ["counts", "lines"] (spPart K okLines))
    (c_fit_as_costs : Cal P w K mg base 3 "fit_as_costs" ["costs"] (spOk K okCosts)) (c_fit_as_plan : Cal P w K mg base 5 "fit_as_plan" ["counts", "plan"] (spPlan K)) (c_fits_as_outside : Cal P w K mg base 4 "fits_as_outside" ["counts", "outside"] (spPart K okOutside)) :
    Cal P w K mg base 9 "ways_fault" ["counts", "rights", "lines", "costs", "plan", "outside"] (spWays K) := by
 refine Hk.hold ?_
 simp (disch := with_unfolding_all (
 exact Hk.disch (d.cal fun f fd F => by
  refine F.ok sc_ways_fault (fun vs H Q E h => ?_) (fun cdv A outer s H vs Q E hr h => ?_)
  · obtain ⟨a, c, x1, x2, x3, x4, x5, d1, d2, d3, d4, d5, rfl, _⟩ := h; rfl
  · obtain ⟨b, c, x1, x2, x3, x4, x5, d1, d2, d3, d4, d5, rfl, hc0, cs, h1, h2, h3, h4, h5, hz, q⟩ := h
    refine ⟨_, (pss_cons (ps_if (pt_not (pt_val (pe_cal c_fit_as_rights (hr.mono (by omega)) rfl (pa_cons (pv 0) (pa_cons (pv 1) pa_nil))))) (pss_one (ps_ret pe_str)) pss_nil)
      (pss_cons (ps_if (pt_not (pt_val (pe_cal c_fit_as_lines (hr.mono (by omega)) rfl (pa_cons (pv 0) (pa_cons (pv 2) pa_nil))))) (pss_one (ps_ret pe_str)) pss_nil)
      (pss_cons (ps_if (pt_not (pt_val (pe_cal c_fit_as_costs (hr.mono (by omega)) rfl (pa_cons (pv 3) pa_nil)))) (pss_one (ps_ret pe_str)) pss_nil)
      (pss_cons (ps_if (pt_not (pt_val (pe_cal c_fit_as_plan (hr.mono (by omega)) rfl (pa_cons (pv 0) (pa_cons (pv 4) pa_nil))))) (pss_one (ps_ret pe_str)) pss_nil)
      (pss_cons (ps_if (pt_not (pt_val (pe_cal c_fits_as_outside (hr.mono (by omega)) rfl (pa_cons (pv 0) (pa_cons (pv 5) pa_nil))))) (pss_one (ps_ret pe_str)) pss_nil)
      (pss_one (ps_ret pe_non))))))), ?_⟩
    walk_at "st0"
    refine ⟨b, c, x1, d1, rfl, hc0, cs, h1, fun H1 s1 => ?_⟩
    walk_at "st"
    unfold waysV at q
    cases e1 : okRights c d1 with
    | false =>
      refine iteT ?_
      walk_at "st"
      rw [e1] at q; exact q H1 s1
    | true =>
    refine iteF ?_
    rw [e1, if_neg (by simp)] at q
    walk_at "st"
    refine ⟨b, c, x2, d2, rfl, s1 _ _ hc0, cs, L2.Dp.mono s1 h2, fun H2 s2 => ?_⟩
    have t2 := s1.trans s2
    walk_at "st"
    cases e2 : okLines c d2 with
    | false =>
      refine iteT ?_
      walk_at "st"
      rw [e2] at q; exact q H2 t2
    | true =>
    refine iteF ?_
    rw [e2, if_neg (by simp)] at q
    walk_at "st"
    refine ⟨x3, d3, rfl, L2.Dp.mono t2 h3, fun H3 s3 => ?_⟩
    have t3 := t2.trans s3
    walk_at "st"
    cases e3 : okCosts d3 with
    | false =>
      refine iteT ?_
      walk_at "st"
      rw [e3] at q; exact q H3 t3
    | true =>
    refine iteF ?_
    rw [e3, if_neg (by simp)] at q
    walk_at "st"
    refine ⟨b, c, x4, d4, rfl, t3 _ _ hc0, cs, L2.Dp.mono t3 h4, hz, fun H4 s4 => ?_⟩
    have t4 := t3.trans s4
    walk_at "st"
    cases e4 : okPlan c d4 with
    | false =>
      refine iteT ?_
      walk_at "st"
      rw [e4] at q; exact q H4 t4
    | true =>
    refine iteF ?_
    rw [e4, if_neg (by simp)] at q
    walk_at "st"
    refine ⟨b, c, x5, d5, rfl, t4 _ _ hc0, cs, L2.Dp.mono t4 h5, fun H5 s5 => ?_⟩
    have t5 := t4.trans s5
    walk_at "st"
    cases e5 : okOutside c d5 with
    | false =>
      refine iteT ?_
      walk_at "st"
      rw [e5] at q; exact q H5 t5
    | true =>
    refine iteF ?_
    walk_at "st"
    rw [e5] at q
    simpa using q H5 t5))) only [↓Hk.hold_s]
/-- named data, as a dict -/
def DatKV (K : PySem.W.Frag) (H : Hp) : List (Key × V) → List (Str × PyData) → Prop := Paired fun p q => p.1 = Sum.inr q.1 ∧ Dp K H p.2 q.2
def flagsV (l : List (Str × PyData)) : V := match l.find? fun p => !isBool p.2 with | some p => .str p.1 | none => .non
def spFlags (K : PySem.W.Frag) : Sp := fun vs H Q _ => ∃ (a : Addr) (kvs : List (Key × V)) (l : List (Str × PyData)), vs = [.ref a] ∧ H a = some (.dK kvs) ∧ DatKV K H kvs l ∧ ∀ H', Same H H' → Q (flagsV l) H'
theorem ok_flags_fault (B : Bl mg) (d : DefAt K mg "flags_fault" s_flags_fault ["flags"]) : Cal P w K mg base 1 "flags_fault" ["flags"] (spFlags K) := by
 refine Hk.hold ?_
 simp (disch := with_unfolding_all (
 exact Hk.disch (d.cal fun f fd F => by
  refine F.ok sc_flags_fault (fun vs H Q E h => ?_) (fun cdv A outer s H vs Q E hr h => ?_)
  · obtain ⟨a, kvs, l, rfl, _⟩ := h; rfl
  · obtain ⟨a, kvs, l, rfl, ha, hk, q⟩ := h
    refine ⟨_, (pss_cons (ps_lock (ps_for PassesOwn.never rfl (pi_items (pv 0)) (pg_tup rfl (pgs_cons (pg_name (i := 1) sc_flags_fault.nd rfl (Or.inl rfl)) (pgs_cons (pg_name (i := 2) sc_flags_fault.nd rfl (Or.inl rfl)) pgs_nil))) (pss_one (ps_if (pt_not (pt_val (pe_callB call_isi rfl B.isinstance hb_isinstance (pa_cons (pv 2) (pa_cons (pe_bltn (v := .ty "bool") rfl B.bool_ hb_bool rfl) pa_nil))))) (pss_one (ps_ret (pv 1))) pss_nil))))
      (pss_one (ps_ret pe_non))), ?_⟩
    walk_at "st0"
    have inv : ∀ {H2 : Hp} {od : Obj}, H2 a = some (.frz od (.dK kvs)) → (∀ b o, H b = some o → b ≠ a → H2 b = some o) → Same H (upd H2 a (.dK kvs)) := fun {H2 od} e k b o hb => by
      by_cases hba : b = a
      · subst hba; rw [upd_same, ← ha, hb]
      · rw [upd_ne hba]; exact k b o hb hba
    refine ⟨a, .dK kvs, ha, trivial, fun od => ?_⟩
    refine q_for ⟨.ref a, rfl, a, od, kvs, rfl, upd_same, for_it walk_items (fun i σ H2 => (∃ v1 v2, σ = [some (.ref a), v1, v2]) ∧ H2 a = some (.frz od (.dK kvs)) ∧ (∀ b o, H b = some o → b ≠ a → H2 b = some o) ∧ ∀ j, j < i → ∀ p, l[j]? = some p → isBool p.2 = true) ?_ (fun i σ H2 _ h => h.2.1) ?_ ?_⟩
    · exact ⟨⟨none, none, rfl⟩, upd_same, fun b o hb hba => by rw [upd_ne hba]; exact hb, fun j h => by omega⟩
    · rintro i x σ H2 H3 lt ⟨⟨v1, v2, rfl⟩, hf, hk2, hb⟩ ⟨t, y, z, rfl, nt, rfl, e1, e2⟩
      have lt2 : kvs[i]? = some kvs[i] := List.getElem?_eq_getElem lt
      replace e1 : kvs[i]?.map (fun kv => kV kv.1) = some y := e1
      replace e2 : kvs[i]?.map Prod.snd = some z := e2
      rw [lt2] at e1 e2
      cases e1
      cases e2
      obtain ⟨p, ep, en, hd⟩ := paired_get hk lt2
      have s3 := same_new (o := .tup [kV kvs[i].1, kvs[i].2]) nt
      have na : a ≠ t := ne_of_none hf nt
      have hd3 : Dp K (upd (upd H2 t (.tup [kV kvs[i].1, kvs[i].2])) a (.dK kvs)) kvs[i].2 p.2 := L2.Dp.mono (fun b o h => by
        by_cases hba : b = a
        · subst hba; rw [upd_same, ← ha, h]
        · rw [upd_ne hba]; exact s3 _ _ (hk2 b o h hba)) hd
      refine ⟨t, _, rfl, SqT.of upd_same, rfl, _, _, rfl, _, _, rfl, rfl, ?_⟩
      have tyb : TyX K (upd H2 t (.tup [kV kvs[i].1, kvs[i].2])) kvs[i].2 (.type (dTy p.2)) := by
        exact ty_but hd ha fun b o h hba => s3 _ _ (hk2 b o h hba)
      show tIfS _ _ _ _ _ _
      walk_at "st"
      refine ⟨_, _, _, _, _, rfl, .ty "bool", tyb, kit_ty (kb_bool p.2 hd.nodict), ?_⟩
      walk_at "st"
      cases hbb : isBool p.2 with
      | true =>
        refine iteF ?_
        walk_at "st"
        refine ⟨⟨_, _, rfl⟩, by rw [upd_ne na]; exact hf, fun b o h hba => s3 _ _ (hk2 b o h hba), fun j hj p2 e => ?_⟩
        rcases Nat.lt_succ_iff_lt_or_eq.mp hj with z | z
        · exact hb j z p2 e
        · subst z; rw [ep] at e; cases e; exact hbb
      | false =>
        refine iteT ?_
        walk_at "st"
        have s4 : Same H (upd (upd H2 t (.tup [kV kvs[i].1, kvs[i].2])) a (.dK kvs)) := inv (H2 := upd H2 t (.tup [kV kvs[i].1, kvs[i].2])) (od := od) (by rw [upd_ne na]; exact hf) (fun b o h hba => s3 _ _ (hk2 b o h hba))
        refine ⟨by rw [upd_ne na]; exact hf, ?_⟩
        have z := q _ s4
        have ef : l.find? (fun p => !isBool p.2) = some p := by
          rw [List.find?_eq_some_iff_getElem]
          obtain ⟨hi, ei⟩ := List.getElem?_eq_some_iff.mp ep
          refine ⟨by simp [hbb], i, hi, ei, fun j hj => ?_⟩
          simp [hb j hj _ (List.getElem?_eq_getElem (by omega))]
        rw [flagsV, ef] at z
        have en2 : kV kvs[i].1 = .str p.1 := by rw [en]; rfl
        rw [en2] at z ⊢; exact z
    · rintro σ H2 ⟨⟨v1, v2, rfl⟩, hf, hk2, hb⟩
      refine ⟨hf, ?_⟩
      walk_at "st"
      have z := q _ (inv hf hk2)
      have ef : l.find? (fun p => !isBool p.2) = none := by
        rw [List.find?_eq_none]
        intro p hm
        obtain ⟨j, hj⟩ := List.getElem?_of_mem hm
        have lj : j < kvs.length := by rw [Paired.length hk]; exact (List.getElem?_eq_some_iff.mp hj).1
        simp [hb j lj p hj]
      rw [flagsV, ef] at z
      exact z))) only [↓Hk.hold_s]
end
end T
namespace T
section
variable {P : Program} {w : World} {K : PySem.W.Frag} {mg : Str → Option Value} {base : Heap} {C : Addr}
/-- what the text says of Build -/
structure BCls (K : PySem.W.Frag) (C : Addr) : Prop where
  cls : Cls K C
  n_parts : NoAttr K C "_parts"
  n_rules : NoAttr K C "rules"
def cOf (b : BD) : Cnt := match b.tasks, b.pages, b.ports, b.locks, b.disk with
  | .list t, .list p, .list q, .int l, .int d => cntOf t.length p.length q.length l d
  | _, _, _, _, _ => cntOf 0 0 0 0 0
structure BOk (b : BD) : Prop where
  tasks : okTasks b.tasks = true
  pages : okNumbers b.pages 3 0 1 = true
  ports : okNumbers b.ports 2 1 2 = true
  locks : dBetween b.locks 0 2 = true
  frames : dBetween b.frames 0 3 = true
  disk : okDisk b.disk = true
  rights : okRights (cOf b) b.rights = true
  lines : okLines (cOf b) b.lines = true
  costs : okCosts b.costs = true
  plan : okPlan (cOf b) b.plan = true
  outside : okOutside (cOf b) b.outside = true
  wipe : isBool b.wipe = true
  pad : isBool b.pad = true
  lend : isBool b.lend = true
  share : isBool b.share = true
structure PartsAt (K : PySem.W.Frag) (C : Addr) (H : Hp) (p : Addr) (b : BD) : Prop where
  ok : BOk b
  ex : ∃ (dx : Addr) (fs : List (Str × V)) (q : Addr) (kvs : List (Key × V)), H p = some (.ins C dx fs) ∧ fs.lookup ("_parts" : Str) = some (.ref q) ∧ H q = some (.dK kvs) ∧ Paired (fun p q => p.1 = Sum.inr q.1 ∧ Dp K H p.2 q.2) kvs b.parts ∧ ∀ m : Str, m ≠ ("_parts" : Str) → m ≠ ("rules" : Str) → fs.lookup m = none
theorem pairedKV_mono {H H' : Hp} (s : Same H H') {kvs : List (Key × V)} {l : List (Str × PyData)} (h : Paired (fun p q => p.1 = Sum.inr q.1 ∧ Dp K H p.2 q.2) kvs l) : Paired (fun p q => p.1 = Sum.inr q.1 ∧ Dp K H' p.2 q.2) kvs l := Paired.mapP h fun a b r => ⟨r.1, L2.Dp.mono s r.2⟩
theorem PartsAt.mono {H H' : Hp} {p : Addr} {b : BD} (s : Same H H') (h : PartsAt K C H p b) : PartsAt K C H' p b := by
  obtain ⟨ok, dx, fs, q, kvs, e1, e2, e3, e4, e5⟩ := h
  exact ⟨ok, dx, fs, q, kvs, s _ _ e1, e2, s _ _ e3, pairedKV_mono s e4, e5⟩
theorem okList {d : PyData} {m lo hi : Int} (h : okNumbers d m lo hi = true) : ∃ ds, d = .list ds ∧ (ds.length : Int) ≤ m ∧ ∀ e ∈ ds, ∃ i, e = .int i ∧ lo ≤ i ∧ i ≤ hi := by
  unfold okNumbers at h
  rw [Bool.and_eq_true] at h
  obtain ⟨ds, rfl, h0, h1⟩ := dListOf_list h.1
  refine ⟨ds, rfl, h1, fun e he => ?_⟩
  have z := List.all_eq_true.mp h.2 e he
  cases e with
  | int i => simp [dBetween] at z; exact ⟨i, rfl, z.1, z.2⟩
  | _ => simp [dBetween] at z
theorem okTasksL {d : PyData} (h : okTasks d = true) : ∃ ds, d = .list ds ∧ 2 ≤ ds.length ∧ ds.length ≤ 4 ∧ ∀ e ∈ ds, okTask e = true := by
  unfold okTasks at h
  rw [Bool.and_eq_true] at h
  obtain ⟨ds, rfl, h0, h1⟩ := dListOf_list h.1
  rw [Bool.and_eq_true] at h
  exact ⟨ds, rfl, by omega, by omega, List.all_eq_true.mp h.2.1⟩
theorem okLinesL {c : Cnt} {d : PyData} (h : okLines c d = true) : ∃ ds, d = .list ds ∧ (ds.length : Int) = cnt c "page" ∧ ∀ e ∈ ds, okLine e = true := by
  unfold okLines at h
  rw [Bool.and_eq_true] at h
  obtain ⟨ds, rfl, h0, h1⟩ := dListOf_list h.1
  exact ⟨ds, rfl, by omega, List.all_eq_true.mp h.2⟩
/-- a list that is new, of these data -/
def NewL (K : PySem.W.Frag) (H H' : Hp) (v : V) (d : PyData) : Prop := ∃ l xs ds, v = .ref l ∧ H l = none ∧ H' l = some (.lst xs) ∧ d = .list ds ∧ DpAll K H' xs ds
def spGet (K : PySem.W.Frag) (C : Addr) (R : BD → Hp → V → Hp → Prop) : Sp := fun vs H Q _ => ∃ (p : Addr) (b : BD), vs = [.ref p] ∧ PartsAt K C H p b ∧ ∀ v H', Same H H' → R b H v H' → Q v H'
theorem call_listOf {H : Hp} {Q : VK} {v : V} {ds : List PyData} (hd : Dp K H v (.tuple ds)) (k : ∀ l xs, H l = none → Same H (upd H l (.lst xs)) → DpAll K (upd H l (.lst xs)) xs ds → Q (.ref l) (upd H l (.lst xs))) :
    ∃ p ys, [v] = [.ref p] ∧ (SqL K H p ys ∨ SqT K H p ys) ∧ ∀ l, H l = none → Q (.ref l) (upd H l (.lst ys)) := by
  cases hd with
  | @tup a xs _ hs ha => exact ⟨a, xs, rfl, .inr hs, fun l nl => k l xs nl (same_new nl) (L2.DpAll.mono (same_new nl) ha)⟩
theorem ok_Build_tasks (B : Bl mg) (T : BCls K C) (d : MethAt K C "tasks" "Build.tasks" s_Build_tasks ["self"]) : MCal P w K mg base 1 C "tasks" ["self"] (spGet K C fun b H v H' => NewL K H H' v b.tasks) := by
 refine Hk.hold ?_
 simp (disch := with_unfolding_all (
 exact Hk.disch (d.cal fun f fd F => by
  refine F.ok sc_Build_tasks (fun vs H Q E h => ?_) (fun cdv A outer s H vs Q E hr h => ?_)
  · obtain ⟨p, b, rfl, _⟩ := h; rfl
  · obtain ⟨p, b, rfl, ⟨ok, dx, fs, q0, kvs, e1, e2, e3, e4, e5⟩, q⟩ := h
    have hu := hu_of hr
    refine ⟨_, (pss_one (ps_ret (pe_callTy call_list_of rfl B.list_ hb_list (pa_cons (pe_dget hu (pe_fld (pv 0) rfl) pe_str (fun _ _ => rfl)) pa_nil)))), ?_⟩
    walk_at "st0"
    refine ⟨p, C, dx, fs, _, rfl, e1, T.cls, T.n_parts, e2, ?_⟩
    walk_at "st"
    obtain ⟨v, g1, g2⟩ := pairedKV_get (z := "tasks") e4 rfl
    refine ⟨q0, v, rfl, by rw [← g1]; exact DGet.k (k := Sum.inr "tasks") e3, ?_⟩
    walk_at "st"
    obtain ⟨ds, ed, _⟩ := okTasksL ok.tasks
    rw [ed] at g2
    exact call_listOf (ds := ds) g2 fun l xs nl sm ha => q _ _ sm ⟨l, xs, ds, rfl, nl, upd_same, ed, ha⟩))) only [↓Hk.hold_s]
theorem ok_Build_pages (B : Bl mg) (T : BCls K C) (d : MethAt K C "pages" "Build.pages" s_Build_pages ["self"]) : MCal P w K mg base 1 C "pages" ["self"] (spGet K C fun b H v H' => NewL K H H' v b.pages) := by
 refine Hk.hold ?_
 simp (disch := with_unfolding_all (
 exact Hk.disch (d.cal fun f fd F => by
  refine F.ok sc_Build_pages (fun vs H Q E h => ?_) (fun cdv A outer s H vs Q E hr h => ?_)
  · obtain ⟨p, b, rfl, _⟩ := h; rfl
  · obtain ⟨p, b, rfl, ⟨ok, dx, fs, q0, kvs, e1, e2, e3, e4, e5⟩, q⟩ := h
    have hu := hu_of hr
    refine ⟨_, (pss_one (ps_ret (pe_callTy call_list_of rfl B.list_ hb_list (pa_cons (pe_dget hu (pe_fld (pv 0) rfl) pe_str (fun _ _ => rfl)) pa_nil)))), ?_⟩
    walk_at "st0"
    refine ⟨p, C, dx, fs, _, rfl, e1, T.cls, T.n_parts, e2, ?_⟩
    walk_at "st"
    obtain ⟨v, g1, g2⟩ := pairedKV_get (z := "pages") e4 rfl
    refine ⟨q0, v, rfl, by rw [← g1]; exact DGet.k (k := Sum.inr "pages") e3, ?_⟩
    walk_at "st"
    obtain ⟨ds, ed, _⟩ := okList ok.pages
    rw [ed] at g2
    exact call_listOf (ds := ds) g2 fun l xs nl sm ha => q _ _ sm ⟨l, xs, ds, rfl, nl, upd_same, ed, ha⟩))) only [↓Hk.hold_s]
theorem ok_Build_ports (B : Bl mg) (T : BCls K C) (d : MethAt K C "ports" "Build.ports" s_Build_ports ["self"]) : MCal P w K mg base 1 C "ports" ["self"] (spGet K C fun b H v H' => NewL K H H' v b.ports) := by
 refine Hk.hold ?_
 simp (disch := with_unfolding_all (
 exact Hk.disch (d.cal fun f fd F => by
  refine F.ok sc_Build_ports (fun vs H Q E h => ?_) (fun cdv A outer s H vs Q E hr h => ?_)
  · obtain ⟨p, b, rfl, _⟩ := h; rfl
  · obtain ⟨p, b, rfl, ⟨ok, dx, fs, q0, kvs, e1, e2, e3, e4, e5⟩, q⟩ := h
    have hu := hu_of hr
    refine ⟨_, (pss_one (ps_ret (pe_callTy call_list_of rfl B.list_ hb_list (pa_cons (pe_dget hu (pe_fld (pv 0) rfl) pe_str (fun _ _ => rfl)) pa_nil)))), ?_⟩
    walk_at "st0"
    refine ⟨p, C, dx, fs, _, rfl, e1, T.cls, T.n_parts, e2, ?_⟩
    walk_at "st"
    obtain ⟨v, g1, g2⟩ := pairedKV_get (z := "ports") e4 rfl
    refine ⟨q0, v, rfl, by rw [← g1]; exact DGet.k (k := Sum.inr "ports") e3, ?_⟩
    walk_at "st"
    obtain ⟨ds, ed, _⟩ := okList ok.ports
    rw [ed] at g2
    exact call_listOf (ds := ds) g2 fun l xs nl sm ha => q _ _ sm ⟨l, xs, ds, rfl, nl, upd_same, ed, ha⟩))) only [↓Hk.hold_s]
theorem ok_Build_lines (B : Bl mg) (T : BCls K C) (d : MethAt K C "lines" "Build.lines" s_Build_lines ["self"]) : MCal P w K mg base 1 C "lines" ["self"] (spGet K C fun b H v H' => NewL K H H' v b.lines) := by
 refine Hk.hold ?_
 simp (disch := with_unfolding_all (
 exact Hk.disch (d.cal fun f fd F => by
  refine F.ok sc_Build_lines (fun vs H Q E h => ?_) (fun cdv A outer s H vs Q E hr h => ?_)
  · obtain ⟨p, b, rfl, _⟩ := h; rfl
  · obtain ⟨p, b, rfl, ⟨ok, dx, fs, q0, kvs, e1, e2, e3, e4, e5⟩, q⟩ := h
    have hu := hu_of hr
    refine ⟨_, (pss_one (ps_ret (pe_callTy call_list_of rfl B.list_ hb_list (pa_cons (pe_dget hu (pe_fld (pv 0) rfl) pe_str (fun _ _ => rfl)) pa_nil)))), ?_⟩
    walk_at "st0"
    refine ⟨p, C, dx, fs, _, rfl, e1, T.cls, T.n_parts, e2, ?_⟩
    walk_at "st"
    obtain ⟨v, g1, g2⟩ := pairedKV_get (z := "lines") e4 rfl
    refine ⟨q0, v, rfl, by rw [← g1]; exact DGet.k (k := Sum.inr "lines") e3, ?_⟩
    walk_at "st"
    obtain ⟨ds, ed, _⟩ := okLinesL ok.lines
    rw [ed] at g2
    exact call_listOf (ds := ds) g2 fun l xs nl sm ha => q _ _ sm ⟨l, xs, ds, rfl, nl, upd_same, ed, ha⟩))) only [↓Hk.hold_s]
theorem ok_Build_locks (B : Bl mg) (T : BCls K C) (d : MethAt K C "locks" "Build.locks" s_Build_locks ["self"]) : MCal P w K mg base 1 C "locks" ["self"] (spGet K C fun b H v H' => Dp K H' v b.locks) := by
 refine Hk.hold ?_
 simp (disch := with_unfolding_all (
 exact Hk.disch (d.cal fun f fd F => by
  refine F.ok sc_Build_locks (fun vs H Q E h => ?_) (fun cdv A outer s H vs Q E hr h => ?_)
  · obtain ⟨p, b, rfl, _⟩ := h; rfl
  · obtain ⟨p, b, rfl, ⟨ok, dx, fs, q0, kvs, e1, e2, e3, e4, e5⟩, q⟩ := h
    have hu := hu_of hr
    refine ⟨_, (pss_one (ps_ret (pe_dget hu (pe_fld (pv 0) rfl) pe_str (fun _ _ => rfl)))), ?_⟩
    walk_at "st0"
    refine ⟨p, C, dx, fs, _, rfl, e1, T.cls, T.n_parts, e2, ?_⟩
    walk_at "st"
    obtain ⟨v, g1, g2⟩ := pairedKV_get (z := "locks") e4 rfl
    exact ⟨q0, v, rfl, by rw [← g1]; exact DGet.k (k := Sum.inr "locks") e3, q _ _ (Same.refl _) g2⟩))) only [↓Hk.hold_s]
theorem ok_Build_frames (B : Bl mg) (T : BCls K C) (d : MethAt K C "frames" "Build.frames" s_Build_frames ["self"]) : MCal P w K mg base 1 C "frames" ["self"] (spGet K C fun b H v H' => Dp K H' v b.frames) := by
 refine Hk.hold ?_
 simp (disch := with_unfolding_all (
 exact Hk.disch (d.cal fun f fd F => by
  refine F.ok sc_Build_frames (fun vs H Q E h => ?_) (fun cdv A outer s H vs Q E hr h => ?_)
  · obtain ⟨p, b, rfl, _⟩ := h; rfl
  · obtain ⟨p, b, rfl, ⟨ok, dx, fs, q0, kvs, e1, e2, e3, e4, e5⟩, q⟩ := h
    have hu := hu_of hr
    refine ⟨_, (pss_one (ps_ret (pe_dget hu (pe_fld (pv 0) rfl) pe_str (fun _ _ => rfl)))), ?_⟩
    walk_at "st0"
    refine ⟨p, C, dx, fs, _, rfl, e1, T.cls, T.n_parts, e2, ?_⟩
    walk_at "st"
    obtain ⟨v, g1, g2⟩ := pairedKV_get (z := "frames") e4 rfl
    exact ⟨q0, v, rfl, by rw [← g1]; exact DGet.k (k := Sum.inr "frames") e3, q _ _ (Same.refl _) g2⟩))) only [↓Hk.hold_s]
theorem ok_Build_disk (B : Bl mg) (T : BCls K C) (d : MethAt K C "disk" "Build.disk" s_Build_disk ["self"]) : MCal P w K mg base 1 C "disk" ["self"] (spGet K C fun b H v H' => Dp K H' v b.disk) := by
 refine Hk.hold ?_
 simp (disch := with_unfolding_all (
 exact Hk.disch (d.cal fun f fd F => by
  refine F.ok sc_Build_disk (fun vs H Q E h => ?_) (fun cdv A outer s H vs Q E hr h => ?_)
  · obtain ⟨p, b, rfl, _⟩ := h; rfl
  · obtain ⟨p, b, rfl, ⟨ok, dx, fs, q0, kvs, e1, e2, e3, e4, e5⟩, q⟩ := h
    have hu := hu_of hr
    refine ⟨_, (pss_one (ps_ret (pe_dget hu (pe_fld (pv 0) rfl) pe_str (fun _ _ => rfl)))), ?_⟩
    walk_at "st0"
    refine ⟨p, C, dx, fs, _, rfl, e1, T.cls, T.n_parts, e2, ?_⟩
    walk_at "st"
    obtain ⟨v, g1, g2⟩ := pairedKV_get (z := "disk") e4 rfl
    exact ⟨q0, v, rfl, by rw [← g1]; exact DGet.k (k := Sum.inr "disk") e3, q _ _ (Same.refl _) g2⟩))) only [↓Hk.hold_s]
theorem ok_Build_costs (B : Bl mg) (T : BCls K C) (d : MethAt K C "costs" "Build.costs" s_Build_costs ["self"]) : MCal P w K mg base 1 C "costs" ["self"] (spGet K C fun b H v H' => Dp K H' v b.costs) := by
 refine Hk.hold ?_
 simp (disch := with_unfolding_all (
 exact Hk.disch (d.cal fun f fd F => by
  refine F.ok sc_Build_costs (fun vs H Q E h => ?_) (fun cdv A outer s H vs Q E hr h => ?_)
  · obtain ⟨p, b, rfl, _⟩ := h; rfl
  · obtain ⟨p, b, rfl, ⟨ok, dx, fs, q0, kvs, e1, e2, e3, e4, e5⟩, q⟩ := h
    have hu := hu_of hr
    refine ⟨_, (pss_one (ps_ret (pe_dget hu (pe_fld (pv 0) rfl) pe_str (fun _ _ => rfl)))), ?_⟩
    walk_at "st0"
    refine ⟨p, C, dx, fs, _, rfl, e1, T.cls, T.n_parts, e2, ?_⟩
    walk_at "st"
    obtain ⟨v, g1, g2⟩ := pairedKV_get (z := "costs") e4 rfl
    exact ⟨q0, v, rfl, by rw [← g1]; exact DGet.k (k := Sum.inr "costs") e3, q _ _ (Same.refl _) g2⟩))) only [↓Hk.hold_s]
theorem ok_Build_outside (B : Bl mg) (T : BCls K C) (d : MethAt K C "outside" "Build.outside" s_Build_outside ["self"]) : MCal P w K mg base 1 C "outside" ["self"] (spGet K C fun b H v H' => Dp K H' v b.outside) := by
 refine Hk.hold ?_
 simp (disch := with_unfolding_all (
 exact Hk.disch (d.cal fun f fd F => by
  refine F.ok sc_Build_outside (fun vs H Q E h => ?_) (fun cdv A outer s H vs Q E hr h => ?_)
  · obtain ⟨p, b, rfl, _⟩ := h; rfl
  · obtain ⟨p, b, rfl, ⟨ok, dx, fs, q0, kvs, e1, e2, e3, e4, e5⟩, q⟩ := h
    have hu := hu_of hr
    refine ⟨_, (pss_one (ps_ret (pe_dget hu (pe_fld (pv 0) rfl) pe_str (fun _ _ => rfl)))), ?_⟩
    walk_at "st0"
    refine ⟨p, C, dx, fs, _, rfl, e1, T.cls, T.n_parts, e2, ?_⟩
    walk_at "st"
    obtain ⟨v, g1, g2⟩ := pairedKV_get (z := "outside") e4 rfl
    exact ⟨q0, v, rfl, by rw [← g1]; exact DGet.k (k := Sum.inr "outside") e3, q _ _ (Same.refl _) g2⟩))) only [↓Hk.hold_s]
theorem ok_Build_wipe (B : Bl mg) (T : BCls K C) (d : MethAt K C "wipe" "Build.wipe" s_Build_wipe ["self"]) : MCal P w K mg base 1 C "wipe" ["self"] (spGet K C fun b H v H' => Dp K H' v b.wipe) := by
 refine Hk.hold ?_
 simp (disch := with_unfolding_all (
 exact Hk.disch (d.cal fun f fd F => by
  refine F.ok sc_Build_wipe (fun vs H Q E h => ?_) (fun cdv A outer s H vs Q E hr h => ?_)
  · obtain ⟨p, b, rfl, _⟩ := h; rfl
  · obtain ⟨p, b, rfl, ⟨ok, dx, fs, q0, kvs, e1, e2, e3, e4, e5⟩, q⟩ := h
    have hu := hu_of hr
    refine ⟨_, (pss_one (ps_ret (pe_dget hu (pe_fld (pv 0) rfl) pe_str (fun _ _ => rfl)))), ?_⟩
    walk_at "st0"
    refine ⟨p, C, dx, fs, _, rfl, e1, T.cls, T.n_parts, e2, ?_⟩
    walk_at "st"
    obtain ⟨v, g1, g2⟩ := pairedKV_get (z := "wipe") e4 rfl
    exact ⟨q0, v, rfl, by rw [← g1]; exact DGet.k (k := Sum.inr "wipe") e3, q _ _ (Same.refl _) g2⟩))) only [↓Hk.hold_s]
theorem ok_Build_pad (B : Bl mg) (T : BCls K C) (d : MethAt K C "pad" "Build.pad" s_Build_pad ["self"]) : MCal P w K mg base 1 C "pad" ["self"] (spGet K C fun b H v H' => Dp K H' v b.pad) := by
 refine Hk.hold ?_
 simp (disch := with_unfolding_all (
 exact Hk.disch (d.cal fun f fd F => by
  refine F.ok sc_Build_pad (fun vs H Q E h => ?_) (fun cdv A outer s H vs Q E hr h => ?_)
  · obtain ⟨p, b, rfl, _⟩ := h; rfl
  · obtain ⟨p, b, rfl, ⟨ok, dx, fs, q0, kvs, e1, e2, e3, e4, e5⟩, q⟩ := h
    have hu := hu_of hr
    refine ⟨_, (pss_one (ps_ret (pe_dget hu (pe_fld (pv 0) rfl) pe_str (fun _ _ => rfl)))), ?_⟩
    walk_at "st0"
    refine ⟨p, C, dx, fs, _, rfl, e1, T.cls, T.n_parts, e2, ?_⟩
    walk_at "st"
    obtain ⟨v, g1, g2⟩ := pairedKV_get (z := "pad") e4 rfl
    exact ⟨q0, v, rfl, by rw [← g1]; exact DGet.k (k := Sum.inr "pad") e3, q _ _ (Same.refl _) g2⟩))) only [↓Hk.hold_s]
theorem ok_Build_lend (B : Bl mg) (T : BCls K C) (d : MethAt K C "lend" "Build.lend" s_Build_lend ["self"]) : MCal P w K mg base 1 C "lend" ["self"] (spGet K C fun b H v H' => Dp K H' v b.lend) := by
 refine Hk.hold ?_
 simp (disch := with_unfolding_all (
 exact Hk.disch (d.cal fun f fd F => by
  refine F.ok sc_Build_lend (fun vs H Q E h => ?_) (fun cdv A outer s H vs Q E hr h => ?_)
  · obtain ⟨p, b, rfl, _⟩ := h; rfl
  · obtain ⟨p, b, rfl, ⟨ok, dx, fs, q0, kvs, e1, e2, e3, e4, e5⟩, q⟩ := h
    have hu := hu_of hr
    refine ⟨_, (pss_one (ps_ret (pe_dget hu (pe_fld (pv 0) rfl) pe_str (fun _ _ => rfl)))), ?_⟩
    walk_at "st0"
    refine ⟨p, C, dx, fs, _, rfl, e1, T.cls, T.n_parts, e2, ?_⟩
    walk_at "st"
    obtain ⟨v, g1, g2⟩ := pairedKV_get (z := "lend") e4 rfl
    exact ⟨q0, v, rfl, by rw [← g1]; exact DGet.k (k := Sum.inr "lend") e3, q _ _ (Same.refl _) g2⟩))) only [↓Hk.hold_s]
theorem ok_Build_share (B : Bl mg) (T : BCls K C) (d : MethAt K C "share" "Build.share" s_Build_share ["self"]) : MCal P w K mg base 1 C "share" ["self"] (spGet K C fun b H v H' => Dp K H' v b.share) := by
 refine Hk.hold ?_
 simp (disch := with_unfolding_all (
 exact Hk.disch (d.cal fun f fd F => by
  refine F.ok sc_Build_share (fun vs H Q E h => ?_) (fun cdv A outer s H vs Q E hr h => ?_)
  · obtain ⟨p, b, rfl, _⟩ := h; rfl
  · obtain ⟨p, b, rfl, ⟨ok, dx, fs, q0, kvs, e1, e2, e3, e4, e5⟩, q⟩ := h
    have hu := hu_of hr
    refine ⟨_, (pss_one (ps_ret (pe_dget hu (pe_fld (pv 0) rfl) pe_str (fun _ _ => rfl)))), ?_⟩
    walk_at "st0"
    refine ⟨p, C, dx, fs, _, rfl, e1, T.cls, T.n_parts, e2, ?_⟩
    walk_at "st"
    obtain ⟨v, g1, g2⟩ := pairedKV_get (z := "share") e4 rfl
    exact ⟨q0, v, rfl, by rw [← g1]; exact DGet.k (k := Sum.inr "share") e3, q _ _ (Same.refl _) g2⟩))) only [↓Hk.hold_s]
end
end T
namespace T
section
variable {P : Program} {w : World} {K : PySem.W.Frag} {mg : Str → Option Value} {base : Heap} {C : Addr}
theorem okPlanL {c : Cnt} {d : PyData} (h : okPlan c d = true) : ∃ z e, d = .tuple [.str z, e] ∧ ((z = "levels" ∧ ∃ i, e = .int i ∧ 1 ≤ i ∧ i ≤ 8) ∨ (z = "slots" ∧ okSlots c e = true)) := by
  unfold okPlan at h
  rw [Bool.and_eq_true] at h
  obtain ⟨h1, h2⟩ := h
  obtain ⟨ds, rfl, l2⟩ := dTupleOf_tup h1
  match ds, l2, h2 with
  | [a, e], _, h2 =>
    cases a with
    | str z =>
      refine ⟨z, e, rfl, ?_⟩
      by_cases hz : z = "levels"
      · simp only [hz, if_pos] at h2
        left
        cases e with
        | int i => simp [dBetween] at h2; exact ⟨hz, i, rfl, h2.1, h2.2⟩
        | _ => simp [dBetween] at h2
      · simp only [if_neg hz] at h2
        rw [Bool.and_eq_true] at h2
        exact .inr ⟨of_decide_eq_true h2.1, h2.2⟩
    | _ => simp at h2
theorem okSlotsL {c : Cnt} {e : PyData} (h : okSlots c e = true) : ∃ rs, e = .list rs ∧ 1 ≤ rs.length ∧ rs.length ≤ 4 ∧ ∀ r ∈ rs, ∃ t k, r = .tuple [.int t, .int k] ∧ 0 ≤ t ∧ t ≤ cnt c "task" - 1 ∧ 1 ≤ k ∧ k ≤ 12 := by
  unfold okSlots at h
  rw [Bool.and_eq_true] at h
  obtain ⟨rs, rfl, h0, h1⟩ := dListOf_list h.1
  refine ⟨rs, rfl, by omega, by omega, fun r hr => ?_⟩
  have z := List.all_eq_true.mp h.2 r hr
  unfold okSlot at z
  rw [Bool.and_eq_true] at z
  obtain ⟨ds, rfl, l2⟩ := dTupleOf_tup z.1
  match ds, l2, z with
  | [a, b], _, z =>
    have z2 := z.2
    rw [Bool.and_eq_true] at z2
    cases a with
    | int t => cases b with
      | int k => simp [dBetween] at z2; exact ⟨t, k, rfl, z2.1.1, by omega, z2.2.1, z2.2.2⟩
      | _ => simp [dBetween] at z2
    | _ => simp [dBetween] at z2
theorem slots_ne : ¬ ("levels" : Str) = "slots" := by decide +kernel
theorem ok_Build_plan (B : Bl mg) (T : BCls K C) (d : MethAt K C "plan" "Build.plan" s_Build_plan ["self"]) : MCal P w K mg base 1 C "plan" ["self"] (spGet K C fun b H v H' => Dp K H' v b.plan) := by
 refine Hk.hold ?_
 simp (disch := with_unfolding_all (
 exact Hk.disch (d.cal fun f fd F => by
  refine F.ok sc_Build_plan (fun vs H Q E h => ?_) (fun cdv A outer s H vs Q E hr h => ?_)
  · obtain ⟨p, b, rfl, _⟩ := h; rfl
  · obtain ⟨p, b, rfl, ⟨ok, dx, fs, q0, kvs, e1, e2, e3, e4, e5⟩, q⟩ := h
    have hu := hu_of hr
    refine ⟨_, (pss_cons (ps_asg (pe_dget hu (pe_fld (pv 0) rfl) pe_str (fun _ _ => rfl)) (pg_tup rfl (pgs_cons (pg_name (i := 1) sc_Build_plan.nd rfl (Or.inl rfl)) (pgs_cons (pg_name (i := 2) sc_Build_plan.nd rfl (Or.inl rfl)) pgs_nil))))
      (pss_one (ps_ret (pe_ifExp (pt_cmpR op_eq (pv 1) pe_str (nomark _)) (pe_tup (pa_cons (pv 1) (pa_cons (pe_callTy call_list_of rfl B.list_ hb_list (pa_cons (pv 2) pa_nil)) pa_nil))) (pe_tup (pa_cons (pv 1) (pa_cons (pv 2) pa_nil))))))), ?_⟩
    walk_at "st0"
    refine ⟨p, C, dx, fs, _, rfl, e1, T.cls, T.n_parts, e2, ?_⟩
    walk_at "st"
    obtain ⟨v, g1, g2⟩ := pairedKV_get (z := "plan") e4 rfl
    refine ⟨q0, v, rfl, by rw [← g1]; exact DGet.k (k := Sum.inr "plan") e3, ?_⟩
    obtain ⟨z, e, ep, hz⟩ := okPlanL ok.plan
    simp only [ep] at q g2
    simp only [planT] at g2
    cases g2 with
    | @tup a xs _ hs ha =>
    cases ha with
    | @cons x0 r0 _ _ a0 ha => cases ha with
      | @cons x1 r1 _ _ a1 ha =>
        cases ha
        cases a0
        refine ⟨a, _, rfl, hs, rfl, _, _, rfl, _, _, rfl, rfl, ?_⟩
        walk_at "st"
        refine q_eq rfl ?_
        walk_at "st"
        rcases hz with ⟨rfl, i, rfl, _⟩ | ⟨rfl, hz⟩
        · rw [decide_eq_false (fun q => slots_ne (V.str.inj q))]
          refine iteF ?_
          walk_at "st"
          refine ⟨by show 2 ≤ sizeLine; decide, fun t nt => ?_⟩
          rw [if_neg slots_ne] at a1
          exact q _ _ (same_new nt) (.tup (SqT.of upd_same) (.cons (.str _) (.cons (L2.Dp.mono (same_new nt) a1) .nil)))
        · rw [decide_eq_true rfl]
          refine iteT ?_
          walk_at "st"
          obtain ⟨rs, rfl, _⟩ := okSlotsL hz
          rw [if_pos rfl] at a1
          cases a1 with
          | @tup a2 ys _ hs2 hb2 =>
          refine ⟨a2, ys, rfl, .inr hs2, fun l nl => ?_⟩
          have sm := same_new (o := .lst ys) nl
          walk_at "st"
          refine ⟨by show 2 ≤ sizeLine; decide, fun t nt => ?_⟩
          have st := same_new (o := .tup [V.str "slots", .ref l]) nt
          exact q _ _ (sm.trans st) (.tup (SqT.of upd_same) (.cons (.str _) (.cons (.lst (st.seq (SqL.of upd_same)) (L2.DpAll.mono (sm.trans st) hb2)) .nil)))))) only [↓Hk.hold_s]
def sidesOf (b : BD) : List Int := match b.tasks with | .list ds => ds.map sideD | _ => []
/-- the sides, each once, ascending, as a new list -/
def IsSides (b : BD) (H : Hp) (v : V) (H' : Hp) : Prop := ∃ (l : Addr) (ns : List Int), v = .ref l ∧ H l = none ∧ H' l = some (.lst (ns.map V.int)) ∧ ns.Pairwise (· < ·) ∧ ∀ k, k ∈ ns ↔ k ∈ sidesOf b
theorem ok_Build_sides (B : Bl mg) (T : BCls K C) (d : MethAt K C "sides" "Build.sides" s_Build_sides ["self"]) : MCal P w K mg base 1 C "sides" ["self"] (spGet K C IsSides) := by
 refine Hk.hold ?_
 simp (disch := with_unfolding_all (
 exact Hk.disch (d.cal fun f fd F => by
  refine F.ok sc_Build_sides (fun vs H Q E h => ?_) (fun cdv A outer s H vs Q E hr h => ?_)
  · obtain ⟨p, b, rfl, _⟩ := h; rfl
  · obtain ⟨p, b, rfl, ⟨ok, dx, fs, q0, kvs, e1, e2, e3, e4, e5⟩, q⟩ := h
    have hu := hu_of hr
    refine ⟨_, (pss_one (ps_ret (pe_callB (cr_sortedSet rfl) rfl B.sorted hb_sorted (pa_cons (pe_callTy (cr_setL rfl) rfl B.set_ hb_set (pa_cons (pe_lc (own := [("side", 1), ("level", 2)]) (tt := tYes) rfl sc_Build_sides.nd (pi_tup (pe_dget hu (pe_fld (pv 0) rfl) pe_str (fun _ _ => rfl))) (blkOk_by (N := ["self", "side", "level"]) (sc := defScope s_Build_sides) (by decide +kernel)) (fun _ _ _ _ _ => (show PG _ _ (gTup K 2 _) from pg_tup rfl (pgs_cons (pg_name (i := 1) sc_Build_sides.nd rfl (Or.inl rfl)) (pgs_cons (pg_name (i := 2) sc_Build_sides.nd rfl (Or.inl rfl)) pgs_nil)))) (fun _ _ _ _ _ => pts_nil) (fun _ _ _ _ _ => (pv 1))) pa_nil)) pa_nil)))), ?_⟩
    walk_at "st0"
    obtain ⟨v, g1, g2⟩ := pairedKV_get (z := "tasks") e4 rfl
    obtain ⟨ds, ed, l2, l4, hall⟩ := okTasksL ok.tasks
    rw [ed] at g2
    cases g2 with
    | @tup a xs _ hs ha =>
    refine ⟨.ref p, rfl, ⟨p, C, dx, fs, _, rfl, e1, T.cls, T.n_parts, e2, ?_⟩⟩
    walk_at "st"
    refine ⟨q0, _, rfl, by rw [← g1]; exact DGet.k (k := Sum.inr "tasks") e3, a, rfl, ⟨xs, hs⟩, fun D nD => lc_mapT (fun d => V.int (sideD d)) hs ha (by omega) nD ?_ ?_⟩
    · intro x2 d2 H3 h2 hm s2 Q2 k2
      obtain ⟨sd, l, rfl, _⟩ := okTask_shape (hall d2 hm)
      cases h2 with
      | @tup t ys _ ht hb =>
      cases hb with
      | @cons x0 r0 _ _ a0 hb => cases hb with
        | @cons x1 r1 _ _ a1 hb =>
          cases hb
          cases a0
          refine ⟨t, _, rfl, ht, rfl, _, _, rfl, _, _, rfl, rfl, rfl, ?_⟩
          walk_at "st"
          exact k2 _ (Same.refl _)
    · intro H3 s3 e3
      refine ⟨D, ds.map sideD, rfl, SqL.of (by rw [e3, List.map_map]; rfl), by rw [List.length_map]; omega, fun c n nc ln => ?_⟩
      walk_at "st"
      rw [List.length_map] at ln
      refine ⟨c, _, n, rfl, upd_same, by omega, fun ns l asc mem len nl => ?_⟩
      have sc := same_new (o := SetO w c (fun j => decide (j ∈ ds.map sideD)) n) nc
      have nl3 : H3 l = none := sc.free nl
      refine q _ _ (s3.trans (sc.trans (same_new nl))) ⟨l, ns, rfl, s3.free nl3, upd_same, asc, fun k => ?_⟩
      rw [mem k, decide_eq_true_eq, sidesOf, ed]))) only [↓Hk.hold_s]
end
end T
namespace T
section
variable {P : Program} {w : World} {K : PySem.W.Frag} {mg : Str → Option Value} {base : Heap} {C CR : Addr}
def RN : List Str := ["task_count", "levels", "side_of", "sizes", "line_of", "places", "counts", "wipes", "pads", "lends", "plain", "miss", "switch", "greatest", "all_frames", "side_frames", "has_slots", "span", "slots", "letter_port", "every", "period"]
structure RCls (K : PySem.W.Frag) (CR : Addr) : Prop where
  cls : Cls K CR
  no : ∀ f, f ∈ RN → NoAttr K CR f
theorem PartsAt.but {H H' : Hp} {p r dx : Addr} {fs : List (Str × V)} {b : BD} (h : PartsAt K C H p b) (e : H r = some (.ins CR dx fs)) (s : But r H H') (ne : p ≠ r) : PartsAt K C H' p b := by
  obtain ⟨ok, dx2, fs2, q, kvs, e1, e2, e3, e4, e5⟩ := h
  have k := But.keep e s
  exact ⟨ok, dx2, fs2, q, kvs, s _ _ e1 ne, e2, k _ _ e3 (by simp), Paired.mapP e4 fun a b r => ⟨r.1, dpKeep k r.2⟩, e5⟩
theorem okCostsL {d : PyData} (h : okCosts d = true) : ∃ a b c, d = .tuple [.int a, .int b, .int c] ∧ 1 ≤ a ∧ a ≤ 3 ∧ 0 ≤ b ∧ b ≤ 3 ∧ 0 ≤ c ∧ c ≤ 2 := by
  unfold okCosts at h
  rw [Bool.and_eq_true] at h
  obtain ⟨ds, rfl, l3⟩ := dTupleOf_tup h.1
  match ds, l3, h with
  | [x, y, z], _, h =>
    have h2 := h.2
    cases x with
    | int a => cases y with
      | int b => cases z with
        | int c => simp [dBetween] at h2; exact ⟨a, b, c, rfl, h2.1.1, h2.1.2, h2.2.1.1, h2.2.1.2, h2.2.2.1, h2.2.2.2⟩
        | _ => simp [dBetween] at h2
      | _ => simp [dBetween] at h2
    | _ => simp [dBetween] at h2
/-- what a method that fills fields of self leaves -/
def Filled (CR : Addr) (names : List Str) (r dx : Addr) (fs fs' : List (Str × V)) (H H' : Hp) : Prop := But r H H' ∧ H' r = some (.ins CR dx fs') ∧ Only fs' RN ∧ fs'.length ≤ fs.length + names.length ∧ ∀ g, g ∉ names → fs'.lookup g = fs.lookup g
def spSetCosts (K : PySem.W.Frag) (CR : Addr) : Sp := fun vs H Q _ => ∃ (r dx : Addr) (fs : List (Str × V)) (v : V) (pl a b c : Int), vs = [.ref r, v] ∧ H r = some (.ins CR dx fs) ∧ Only fs RN ∧ fs.length ≤ 500 ∧ fs.lookup ("places" : Str) = some (.int pl) ∧ Dp K H v (.tuple [.int a, .int b, .int c]) ∧
  ∀ fs' H', Filled CR ["plain", "miss", "switch", "greatest"] r dx fs fs' H H' → fs'.lookup ("plain" : Str) = some (.int a) → fs'.lookup ("miss" : Str) = some (.int b) → fs'.lookup ("switch" : Str) = some (.int c) →
    fs'.lookup ("greatest" : Str) = some (.int (a + if pl - 1 > b then pl - 1 else b)) → Q .non H'
theorem ok_set_costs (B : Bl mg) (R : RCls K CR) (d : MethAt K CR "set_costs" "Rules.set_costs" s_Rules_set_costs ["self", "costs"]) : MCal P w K mg base 1 CR "set_costs" ["self", "costs"] (spSetCosts K CR) := by
 refine Hk.hold ?_
 simp (disch := with_unfolding_all (
 exact Hk.disch (d.cal fun f fd F => by
  refine F.ok sc_Rules_set_costs (fun vs H Q E h => ?_) (fun cdv A outer s H vs Q E hr h => ?_)
  · obtain ⟨r, dx, fs, v, pl, a, b, c, rfl, _⟩ := h; rfl
  · obtain ⟨r, dx, fs, v, pl, a, b, c, rfl, hR, hO, hl, hp, hd, q⟩ := h
    refine ⟨_, (pss_cons (ps_asg (pv 1) (pg_tup rfl (pgs_cons (pg_fld (pv 0)) (pgs_cons (pg_fld (pv 0)) (pgs_cons (pg_fld (pv 0)) pgs_nil)))))
      (pss_one (ps_fld (pv 0) (pe_op op_add (pe_fld (pv 0) rfl) (pe_callB (call_max2 rfl) rfl B.max hb_max (pa_cons (pe_fld (pv 0) rfl) (pa_cons (pe_op op_sub (pe_fld (pv 0) rfl) pe_int) pa_nil)))) rfl))), ?_⟩
    walk_at "st0"
    cases hd with
    | @tup t xs _ hs ha =>
    cases ha with
    | @cons x0 r0 _ _ a0 ha => cases ha with
      | @cons x1 r1 _ _ a1 ha => cases ha with
        | @cons x2 r2 _ _ a2 ha =>
          cases ha; cases a0; cases a1; cases a2
          have l1 := length_putF "plain" (V.int a) fs
          have l2 := length_putF "miss" (V.int b) (putF "plain" (V.int a) fs)
          have l3 := length_putF "switch" (V.int c) (putF "miss" (V.int b) (putF "plain" (V.int a) fs))
          refine ⟨t, _, rfl, hs, rfl, _, _, rfl, ⟨_, rfl, r, CR, dx, fs, rfl, hR, R.cls, R.no _ (by decide +kernel), by omega, ?_⟩⟩
          refine ⟨_, _, rfl, ⟨_, rfl, r, CR, dx, _, rfl, upd_same, R.cls, R.no _ (by decide +kernel), by omega, ?_⟩⟩
          refine ⟨_, _, rfl, ⟨_, rfl, r, CR, dx, _, rfl, upd_same, R.cls, R.no _ (by decide +kernel), by omega, ?_⟩⟩
          refine ⟨rfl, ?_⟩
          walk_at "st"
          refine ⟨r, CR, dx, _, .int a, rfl, upd_same, R.cls, R.no _ (by decide +kernel), by walk_at "lk", ?_⟩
          walk_at "st"
          refine ⟨r, CR, dx, _, .int b, rfl, upd_same, R.cls, R.no _ (by decide +kernel), by walk_at "lk", ?_⟩
          walk_at "st"
          refine ⟨r, CR, dx, _, .int pl, rfl, upd_same, R.cls, R.no _ (by decide +kernel), by walk_at "lk", ?_⟩
          walk_at "st"
          refine ⟨b, pl - 1, rfl, ?_⟩
          walk_at "st"
          refine ⟨r, CR, dx, _, rfl, upd_same, R.cls, R.no _ (by decide +kernel), by omega, ?_⟩
          have l4 := length_putF "greatest" (V.int (a + if pl - 1 > b then pl - 1 else b)) (putF "switch" (V.int c) (putF "miss" (V.int b) (putF "plain" (V.int a) fs)))
          refine q _ _ ⟨fun z o h n => by simp only [upd_ne n]; exact h, upd_same, (((hO.put (by decide +kernel)).put (by decide +kernel)).put (by decide +kernel)).put (by decide +kernel), by simp only [List.length_cons, List.length_nil]; omega, fun g hg => ?_⟩
            (by walk_at "lk") (by walk_at "lk") (by walk_at "lk") (put_same _ _ _)
          simp only [List.mem_cons, List.not_mem_nil, or_false, not_or] at hg
          rw [put_ne _ _ hg.2.2.2, put_ne _ _ hg.2.2.1, put_ne _ _ hg.2.1, put_ne _ _ hg.1]))) only [↓Hk.hold_s]
end
end T
namespace T
section
variable {P : Program} {w : World} {K : PySem.W.Frag} {mg : Str → Option Value} {base : Heap} {C CR : Addr}
theorem Keep.trans {H H1 H2 : Hp} (a : Keep H H1) (b : Keep H1 H2) : Keep H H2 := fun x o h n => b x o (a x o h n) n
theorem okBetween {d : PyData} {lo hi : Int} (h : dBetween d lo hi = true) : ∃ i, d = .int i ∧ lo ≤ i ∧ i ≤ hi := by
  cases d with
  | int i => simp [dBetween] at h; exact ⟨i, rfl, h.1, h.2⟩
  | _ => simp [dBetween] at h
theorem okBool {d : PyData} (h : isBool d = true) : ∃ b, d = .bool b := by
  cases d with
  | bool b => exact ⟨b, rfl⟩
  | _ => simp [isBool] at h
theorem sides_pos {b : BD} (ok : BOk b) {ns : List Int} (h : ∀ k, k ∈ ns ↔ k ∈ sidesOf b) : 0 < ns.length := by
  obtain ⟨ds, ed, l2, _⟩ := okTasksL ok.tasks
  match ds, ed, l2 with
  | x :: r, ed, _ =>
    have z := (h (sideD x)).mpr (by rw [sidesOf, ed]; simp)
    exact List.length_pos_of_mem z
theorem sides_few {b : BD} (ok : BOk b) {ns : List Int} (p : ns.Pairwise (· < ·)) (h : ∀ k, k ∈ ns ↔ k ∈ sidesOf b) : ns.length ≤ 4 := by
  obtain ⟨ds, ed, _, l4, _⟩ := okTasksL ok.tasks
  have nd : ns.Nodup := p.imp fun h => Int.ne_of_lt h
  have sb : ns ⊆ ds.map sideD := fun k hk => by have z := (h k).mp hk; rwa [sidesOf, ed] at z
  have z := List.Nodup.length_le_of_subset nd sb
  rw [List.length_map] at z
  omega
def spSetFrames (K : PySem.W.Frag) (C CR : Addr) : Sp := fun vs H Q _ => ∃ (r dx : Addr) (fs : List (Str × V)) (p : Addr) (b : BD), vs = [.ref r, .ref p] ∧ H r = some (.ins CR dx fs) ∧ Only fs RN ∧ fs.length ≤ 500 ∧ p ≠ r ∧ PartsAt K C H p b ∧
  ∀ fs' H' (i : Int), Filled CR ["all_frames", "side_frames", "side_frames"] r dx fs fs' H H' → b.frames = .int i → fs'.lookup ("all_frames" : Str) = some (.int i) → Q .non H'
theorem ok_set_frames (B : Bl mg) (R : RCls K CR) (m_frames : MCal P w K mg base 1 C "frames" ["self"] (spGet K C fun b H v H' => Dp K H' v b.frames)) (m_share : MCal P w K mg base 1 C "share" ["self"] (spGet K C fun b H v H' => Dp K H' v b.share)) (m_sides : MCal P w K mg base 1 C "sides" ["self"] (spGet K C IsSides))
    (d : MethAt K CR "set_frames" "Rules.set_frames" s_Rules_set_frames ["self", "build"]) : MCal P w K mg base 2 CR "set_frames" ["self", "build"] (spSetFrames K C CR) := by
 refine Hk.hold ?_
 simp (disch := with_unfolding_all (
 exact Hk.disch (d.cal fun f fd F => by
  refine F.ok sc_Rules_set_frames (fun vs H Q E h => ?_) (fun cdv A outer s H vs Q E hr h => ?_)
  · obtain ⟨r, dx, fs, p, b, rfl, _⟩ := h; rfl
  · obtain ⟨r, dx, fs, p, b, rfl, hR, hO, hl, hne, hp, q⟩ := h
    have hu := hu_of hr
    refine ⟨_, (pss_cons (ps_fld (pv 0) (pe_mcal0 m_frames (hr.mono (by omega)) (pv 1)) rfl)
      (pss_cons (ps_fld (pv 0) (pe_fld (pv 0) rfl) rfl)
      (pss_one (ps_if (pt_val (pe_mcal0 m_share (hr.mono (by omega)) (pv 1))) (pss_one (ps_fld (pv 0) (pe_op op_fdivW (pe_fld (pv 0) rfl) (pe_callB call_len_seq rfl B.len hb_len (pa_cons (pe_mcal0 m_sides (hr.mono (by omega)) (pv 1)) pa_nil))) rfl)) pss_nil)))), ?_⟩
    have nof : ∀ m : Str, m ≠ ("_parts" : Str) → m ≠ ("rules" : Str) → ∃ dx2 fs2, H p = some (.ins C dx2 fs2) ∧ fs2.lookup m = none := by
      obtain ⟨ok, dx2, fs2, q0, kvs, e1, e2, e3, e4, e5⟩ := hp
      exact fun m h1 h2 => ⟨dx2, fs2, e1, e5 m h1 h2⟩
    walk_at "st0"
    obtain ⟨dx2, fs2, ep, en⟩ := nof "frames" (by decide +kernel) (by decide +kernel)
    refine ⟨p, dx2, fs2, rfl, ep, en, ?_⟩
    walk_at "st"
    refine ⟨p, b, rfl, hp, fun v1 H1 s1 d1 => ?_⟩
    walk_at "st"
    obtain ⟨i, ei, _⟩ := okBetween hp.ok.frames
    simp only [ei] at d1
    cases d1
    have hR1 := s1 _ _ hR
    have l1 := length_putF "all_frames" (V.int i) fs
    refine ⟨r, CR, dx, fs, rfl, hR1, R.cls, R.no _ (by decide +kernel), by omega, ?_⟩
    walk_at "st"
    refine ⟨r, CR, dx, _, .int i, rfl, upd_same, R.cls, R.no _ (by decide +kernel), by walk_at "lk", ?_⟩
    walk_at "st"
    refine ⟨r, CR, dx, _, rfl, upd_same, R.cls, R.no _ (by decide +kernel), by omega, ?_⟩
    have l2 := length_putF "side_frames" (V.int i) (putF "all_frames" (V.int i) fs)
    have b1 : But r H (upd H1 r (.ins CR dx (putF "all_frames" (V.int i) fs))) := (But.same s1).trans But.put
    have b2 : But r H (upd (upd H1 r (.ins CR dx (putF "all_frames" (V.int i) fs))) r (.ins CR dx (putF "side_frames" (V.int i) (putF "all_frames" (V.int i) fs)))) := b1.trans But.put
    walk_at "st"
    obtain ⟨dx3, fs3, ep3, en3⟩ := nof "share" (by decide +kernel) (by decide +kernel)
    refine ⟨p, dx3, fs3, rfl, b2 _ _ ep3 hne, en3, ?_⟩
    walk_at "st"
    have hp2 := hp.but hR b2 hne
    refine ⟨p, b, rfl, hp2, fun v3 H3 s3 d3 => ?_⟩
    obtain ⟨sh, es⟩ := okBool hp.ok.share
    simp only [es] at d3
    cases d3
    walk_at "st"
    refine q_if (fun hc => ?_) (fun hc => ?_)
    · walk_at "st"
      have hR3 := s3 _ _ (upd_same : upd _ r _ r = _)
      refine ⟨r, CR, dx, _, .int i, rfl, hR3, R.cls, R.no _ (by decide +kernel), by walk_at "lk", ?_⟩
      walk_at "st"
      obtain ⟨dx4, fs4, ep4, en4⟩ := nof "sides" (by decide +kernel) (by decide +kernel)
      refine ⟨p, dx4, fs4, rfl, s3 _ _ (b2 _ _ ep4 hne), en4, ?_⟩
      walk_at "st"
      refine ⟨p, b, rfl, hp2.mono s3, fun v4 H4 s4 d4 => ?_⟩
      obtain ⟨l, ns, rfl, _, hns, pw, mem⟩ := d4
      refine ⟨l, _, rfl, .inl (SqL.of hns), ?_⟩
      rw [List.length_map]
      have pos := sides_pos hp.ok mem
      have few := sides_few hp.ok pw mem
      refine ⟨i, (ns.length : Int), rfl, rfl, wide_div (b := 3) (by omega) (by show ((ns.length : Int)).natAbs < 8; omega) (by omega) (by omega), ?_⟩
      walk_at "st"
      refine ⟨r, CR, dx, _, rfl, s4 _ _ hR3, R.cls, R.no _ (by decide +kernel), by omega, ?_⟩
      have b4 : But r H H4 := b2.trans ((But.same s3).trans (But.same s4))
      have l3 := length_putF "side_frames" (V.int (i / (ns.length : Int))) (putF "side_frames" (V.int i) (putF "all_frames" (V.int i) fs))
      have hq := q (putF "side_frames" (V.int (i / (ns.length : Int))) (putF "side_frames" (V.int i) (putF "all_frames" (V.int i) fs))) _ i ⟨b4.trans But.put, upd_same, (((hO.put (by decide +kernel)).put (by decide +kernel)).put (by decide +kernel)), by simp only [List.length_cons, List.length_nil]; omega, fun g hg => ?_⟩ ei (by show _ = some (V.int i); walk_at "lk")
      · exact hq
      · simp only [List.mem_cons, List.not_mem_nil, or_false, not_or] at hg
        rw [put_ne _ _ hg.2.1, put_ne _ _ hg.2.1, put_ne _ _ hg.1]
    · refine q (putF "side_frames" (V.int i) (putF "all_frames" (V.int i) fs)) _ i ⟨b2.trans (But.same s3), s3 _ _ upd_same, ((hO.put (by decide +kernel)).put (by decide +kernel)), by simp only [List.length_cons, List.length_nil]; omega, fun g hg => ?_⟩ ei (by show _ = some (V.int i); walk_at "lk")
      simp only [List.mem_cons, List.not_mem_nil, or_false, not_or] at hg
      rw [put_ne _ _ hg.2.1, put_ne _ _ hg.1]))) only [↓Hk.hold_s]
end
end T
namespace T
section
variable {P : Program} {w : World} {K : PySem.W.Frag} {mg : Str → Option Value} {base : Heap} {C CR : Addr}
theorem q_gname {σ : L2.St} {H : Hp} {i : Nat} {v : V} {q : L2.St → Hp → Prop} (h : q (σ.set i (some v)) H) : gName i v σ H q := h
theorem q_app {σ : L2.St} {H : Hp} {D : Ends} {i : Nat} {te : TE} {a : Addr} {acc : List V} (hv : σ[i]? = some (some (.ref a))) (ha : H a = some (.lst acc)) (h : te σ H fun y H2 => ∃ l xs z, V.ref a = .ref l ∧ [y] = [z] ∧ H2 l = some (.lst xs) ∧ xs.length < sizeLine ∧ D.nx σ (upd H2 l (.lst (xs ++ [z])))) : tDrop (tBM K "list" rAppend (tVar i) (tCons te tNil)) D σ H :=
  ⟨_, hv, .inl ⟨rfl, acc, SqL.of ha⟩, h⟩
/-- what stands at a tick of the slots -/
abbrev STick := Int × Bool × Bool
def RowV (H : Hp) (y : V) (s : STick) : Prop := ∃ t, y = .ref t ∧ H t = some (.tup [.int s.1, .bl s.2.1, .bl s.2.2])
def slotOf : PyData → Int × Int | .tuple [.int t, .int k] => (t, k) | _ => (0, 0)
def tickAt (sw g t k : Int) (j : Nat) : STick := (t, decide ((0 : Int) + j = 0), decide ((0 : Int) + j ≥ sw) && decide (k - (0 + j) ≥ g))
def ticksOf (sw g : Int) (p : Int × Int) : List STick := (List.range p.2.toNat).map (tickAt sw g p.1 p.2)
def slotTicks (sw g : Int) (rs : List PyData) : List STick := rs.flatMap fun r => ticksOf sw g (slotOf r)
def okSlotRow (d : PyData) : Prop := ∃ t k, d = .tuple [.int t, .int k] ∧ 1 ≤ k ∧ k ≤ 12
theorem slotTicks_len {sw g : Int} : ∀ {rs : List PyData}, (∀ r ∈ rs, okSlotRow r) → (slotTicks sw g rs).length ≤ 12 * rs.length
  | [], _ => by simp [slotTicks]
  | r :: rs, h => by
    have z := slotTicks_len (sw := sw) (g := g) (rs := rs) fun x hx => h x (List.mem_cons_of_mem _ hx)
    obtain ⟨t, k, rfl, h1, h2⟩ := h r List.mem_cons_self
    unfold slotTicks at z ⊢
    rw [List.flatMap_cons, List.length_append, List.length_cons]
    have e : (ticksOf sw g (slotOf (.tuple [.int t, .int k]))).length = k.toNat := by simp [ticksOf, slotOf]
    omega
theorem slotTicks_snoc {sw g : Int} {rs : List PyData} {r : PyData} : slotTicks sw g (rs ++ [r]) = slotTicks sw g rs ++ ticksOf sw g (slotOf r) := by simp [slotTicks]
theorem RowV.keep {H H' : Hp} {D : Addr} {acc : List V} (e : H D = some (.lst acc)) (k : But D H H') : ∀ {y : V} {s : STick}, RowV H y s → RowV H' y s := by
  rintro y s ⟨t, rfl, h⟩
  exact ⟨t, rfl, k _ _ h fun z => by subst z; rw [e] at h; cases h⟩
theorem paired_snoc {α β : Type} {R : α → β → Prop} : ∀ {xs : List α} {ys : List β} {x : α} {y : β}, Paired R xs ys → R x y → Paired R (xs ++ [x]) (ys ++ [y])
  | [], [], _, _, .nil, r => .cons r .nil
  | _ :: _, _ :: _, _, _, .cons a t, r => .cons a (paired_snoc t r)
theorem paired_len {α β : Type} {R : α → β → Prop} : ∀ {xs : List α} {ys : List β}, Paired R xs ys → xs.length = ys.length
  | [], [], .nil => rfl
  | _ :: _, _ :: _, .cons _ t => by simp [paired_len t]
def spSlotTicks (K : PySem.W.Frag) (CR : Addr) : Sp := fun vs H Q _ => ∃ (r dx : Addr) (fs : List (Str × V)) (v : V) (sw g : Int) (rs : List PyData), vs = [.ref r, v] ∧ H r = some (.ins CR dx fs) ∧ fs.lookup ("switch" : Str) = some (.int sw) ∧ fs.lookup ("greatest" : Str) = some (.int g) ∧ Dp K H v (.list rs) ∧ rs.length ≤ 4 ∧ (∀ x ∈ rs, okSlotRow x) ∧
  ∀ t ys H', Same H H' → H t = none → H' t = some (.tup ys) → Paired (RowV H') ys (slotTicks sw g rs) → Q (.ref t) H'
theorem ok_slot_ticks (B : Bl mg) (R : RCls K CR) (d : MethAt K CR "slot_ticks" "Rules.slot_ticks" s_Rules_slot_ticks ["self", "rows"]) : MCal P w K mg base 1 CR "slot_ticks" ["self", "rows"] (spSlotTicks K CR) := by
 refine Hk.hold ?_
 simp (disch := with_unfolding_all (
 exact Hk.disch (d.cal fun f fd F => by
  refine F.ok sc_Rules_slot_ticks (fun vs H Q E h => ?_) (fun cdv A outer s H vs Q E hr h => ?_)
  · obtain ⟨r, dx, fs, v, sw, g, rs, rfl, _⟩ := h; rfl
  · obtain ⟨r, dx, fs, v, sw, g, rs, rfl, hR, hsw, hg, hd, l4, hall, q⟩ := h
    refine ⟨_, (pss_cons (ps_set (i := 2) sc_Rules_slot_ticks.nd rfl (Or.inl rfl) (pe_lst pa_nil))
      (pss_cons (ps_for PassesOwn.never rfl (pi_list (pv 1)) (pg_tup rfl (pgs_cons (pg_name (i := 3) sc_Rules_slot_ticks.nd rfl (Or.inl rfl)) (pgs_cons (pg_name (i := 4) sc_Rules_slot_ticks.nd rfl (Or.inl rfl)) pgs_nil))) (pss_one (ps_for PassesOwn.never rfl (pi_range1 rfl B.range (pa_cons (pv 4) pa_nil)) (pg_name (i := 5) sc_Rules_slot_ticks.nd rfl (Or.inl rfl)) (pss_cons (ps_set (i := 6) sc_Rules_slot_ticks.nd rfl (Or.inl rfl) (pe_and (pe_cmpR op_ge (pv 5) (pe_fld (pv 0) rfl) (nomark _)) (pe_one (pe_cmpR op_ge (pe_op op_sub (pv 4) (pv 5)) (pe_fld (pv 0) rfl) (nomark _)))))
      (pss_one (ps_expr (pe_bm PySem.F.plainAttrs_list PySem.F.slot_list_append PySem.F.type_list_append mt_append (pv 2) (pa_cons (pe_tup (pa_cons (pv 3) (pa_cons (pe_cmpR op_eq (pv 5) pe_int (nomark _)) (pa_cons (pv 6) pa_nil)))) pa_nil))))))))
      (pss_one (ps_ret (pe_callTy call_tuple_of rfl B.tuple_ hb_tuple (pa_cons (pv 2) pa_nil)))))), ?_⟩
    cases hd with
    | @lst a xs _ hs ha =>
    have lx : xs.length = rs.length := ha.length
    walk_at "st0"
    refine ⟨by show 0 ≤ sizeLine; decide, fun D nD => ?_⟩
    have sD := same_new (o := .lst []) nD
    walk_at "st"
    let I : Nat → L2.St → Hp → Prop := fun i σ H2 => ∃ o1 o2 o3 o4, σ = [some (.ref r), some (.ref a), some (.ref D), o1, o2, o3, o4] ∧ Same H H2 ∧ ∃ acc, H2 D = some (.lst acc) ∧ Paired (RowV H2) acc (slotTicks sw g (rs.take i))
    refine q_forV xs I rfl (sD.seq hs) ⟨_, _, _, _, rfl, sD, [], upd_same, by simpa [slotTicks] using Paired.nil⟩ (fun i σ H2 _ hI => ?_) (fun i x σ H2 ex hI => ?_) (fun σ H2 hI => ?_)
    · obtain ⟨o1, o2, o3, o4, rfl, s2, _⟩ := hI
      exact s2.seq hs
    · obtain ⟨o1, o2, o3, o4, rfl, s2, acc, eD, pr⟩ := hI
      obtain ⟨dr, er, hdr⟩ := ha.get' ex
      obtain ⟨t, k, rfl, k1, k2⟩ := hall dr (List.mem_of_getElem? er)
      have hdr2 := L2.Dp.mono s2 hdr
      cases hdr2 with
      | @tup b ys _ hb hc =>
      cases hc with
      | @cons x0 r0 _ _ a0 hc => cases hc with
        | @cons x1 r1 _ _ a1 hc =>
          cases hc; cases a0; cases a1
          refine ⟨b, _, rfl, hb, rfl, _, _, rfl, _, _, rfl, rfl, ?_⟩
          dsimp only [List.set_cons_zero, List.set_cons_succ]
          have lt : i < rs.length := by rw [← lx]; exact (List.getElem?_eq_some_iff.mp ex).1
          have tk : rs.take (i + 1) = rs.take i ++ [.tuple [.int t, .int k]] := by
            rw [List.take_add_one, er]; rfl
          have lacc := paired_len pr
          have lst := slotTicks_len (sw := sw) (g := g) (rs := rs.take i) fun z hz => hall z (List.mem_of_mem_take hz)
          rw [List.length_take] at lst
          let J : Nat → L2.St → Hp → Prop := fun j σ H3 => ∃ o3 o4, σ = [some (.ref r), some (.ref a), some (.ref D), some (.int t), some (.int k), o3, o4] ∧ Same H H3 ∧ ∃ acc, H3 D = some (.lst acc) ∧ Paired (RowV H3) acc (slotTicks sw g (rs.take i) ++ (List.range j).map (tickAt sw g t k))
          refine q_forR J rfl (by omega) (by omega) ⟨_, _, rfl, s2, acc, eD, by simpa using pr⟩ (fun j σ H3 lj hJ => ?_) (fun σ H3 hJ => ?_)
          · obtain ⟨o3, o4, rfl, s3, acc3, eD3, pr3⟩ := hJ
            have l3 := paired_len pr3
            rw [List.length_append, List.length_map, List.length_range] at l3
            refine q_gname ?_
            dsimp only [List.set_cons_zero, List.set_cons_succ]
            walk_at "st"
            refine ⟨r, CR, dx, fs, _, rfl, s3 _ _ hR, R.cls, R.no _ (by decide +kernel), hsw, ?_⟩
            walk_at "st"
            have fin : ∀ v : Bool, v = (decide ((0 : Int) + j ≥ sw) && decide (k - (0 + j) ≥ g)) → ∀ p, H3 p = none → J (j + 1) [some (.ref r), some (.ref a), some (.ref D), some (.int t), some (.int k), some (.int (0 + j)), some (.bl v)] (upd (upd H3 p (.tup [.int t, .bl (decide (V.int (0 + (j : Int)) = V.int 0)), .bl v])) D (.lst (acc3 ++ [.ref p]))) := fun v ev p np => by
              have sp := same_new (o := .tup [.int t, .bl (decide (V.int (0 + (j : Int)) = V.int 0)), .bl v]) np
              have bt : But D (upd H3 p (.tup [.int t, .bl (decide (V.int (0 + (j : Int)) = V.int 0)), .bl v])) (upd (upd H3 p (.tup [.int t, .bl (decide (V.int (0 + (j : Int)) = V.int 0)), .bl v])) D (.lst (acc3 ++ [.ref p]))) := But.put
              refine ⟨_, _, rfl, fun b o hb => bt _ _ (sp _ _ (s3 _ _ hb)) (ne_of_none hb nD), _, upd_same, ?_⟩
              rw [List.range_succ, List.map_append, ← List.append_assoc]
              refine paired_snoc (Paired.mapP pr3 fun y s h => RowV.keep (sp _ _ eD3) bt (by obtain ⟨t, rfl, h⟩ := h; exact ⟨t, rfl, sp _ _ h⟩)) ⟨p, rfl, ?_⟩
              refine bt _ _ ?_ (fun z => ?_)
              · rw [upd_same, ev]
                simp only [tickAt, V.int.injEq]
              · subst z; rw [np] at eD3; cases eD3
            refine q_if (fun hc => ?_) (fun hc => ?_)
            · walk_at "st"
              refine ⟨r, CR, dx, fs, _, rfl, s3 _ _ hR, R.cls, R.no _ (by decide +kernel), hg, ?_⟩
              refine q_rI0 ?_
              refine q_app rfl eD3 ?_
              walk_at "st"
              refine q_eq rfl ?_
              walk_at "st"
              refine ⟨by show 3 ≤ sizeLine; decide, fun p np => ⟨D, acc3, _, rfl, rfl, same_new np _ _ eD3, sz1000 (by omega), ?_⟩⟩
              refine fin _ ?_ p np
              rw [hc, Bool.true_and]
            · refine q_app rfl eD3 ?_
              walk_at "st"
              refine q_eq rfl ?_
              walk_at "st"
              refine ⟨by show 3 ≤ sizeLine; decide, fun p np => ⟨D, acc3, _, rfl, rfl, same_new np _ _ eD3, sz1000 (by omega), ?_⟩⟩
              refine fin _ ?_ p np
              rw [hc, Bool.false_and]
          · obtain ⟨o3, o4, rfl, s3, acc3, eD3, pr3⟩ := hJ
            refine ⟨_, _, _, _, rfl, s3, acc3, eD3, ?_⟩
            rw [tk, slotTicks_snoc]
            exact pr3
    · obtain ⟨o1, o2, o3, o4, rfl, s2, acc, eD, pr⟩ := hI
      rw [lx, List.take_length] at pr
      walk_at "st"
      refine ⟨D, acc, rfl, .inl ⟨SqL.of eD, fun p np => ?_⟩⟩
      have sp := same_new (o := .tup acc) np
      exact q p acc _ (s2.trans sp) (s2.free np) upd_same (Paired.mapP pr fun y s h => by obtain ⟨t, rfl, h⟩ := h; exact ⟨t, rfl, sp _ _ h⟩)))) only [↓Hk.hold_s]
end
end T
namespace T
section
variable {P : Program} {w : World} {K : PySem.W.Frag} {mg : Str → Option Value} {base : Heap} {C CR : Addr}
def planHas : PyData → Bool | .tuple [.str z, _] => decide (z = "slots") | _ => false
def planSpan : PyData → Int | .tuple [.str _, .int n] => n | _ => 0
def planTicks (sw g : Int) : PyData → List STick | .tuple [.str _, .list rs] => slotTicks sw g rs | _ => []
def spSetPlan (K : PySem.W.Frag) (CR : Addr) : Sp := fun vs H Q _ => ∃ (r dx : Addr) (fs : List (Str × V)) (v : V) (sw g : Int) (c : Cnt) (pl : PyData), vs = [.ref r, v] ∧ H r = some (.ins CR dx fs) ∧ Only fs RN ∧ fs.length ≤ 500 ∧ fs.lookup ("switch" : Str) = some (.int sw) ∧ fs.lookup ("greatest" : Str) = some (.int g) ∧ Dp K H v pl ∧ okPlan c pl = true ∧
  ∀ fs' H' t ys, Filled CR ["has_slots", "span", "slots"] r dx fs fs' H H' → fs'.lookup ("has_slots" : Str) = some (.bl (planHas pl)) → fs'.lookup ("span" : Str) = some (.int (planSpan pl)) → fs'.lookup ("slots" : Str) = some (.ref t) → H' t = some (.tup ys) → Paired (RowV H') ys (planTicks sw g pl) → ys.length ≤ 48 → Q .non H'
theorem ok_set_plan (B : Bl mg) (R : RCls K CR) (m_slot_ticks : MCal P w K mg base 1 CR "slot_ticks" ["self", "rows"] (spSlotTicks K CR)) (d : MethAt K CR "set_plan" "Rules.set_plan" s_Rules_set_plan ["self", "plan"]) : MCal P w K mg base 2 CR "set_plan" ["self", "plan"] (spSetPlan K CR) := by
 refine Hk.hold ?_
 simp (disch := with_unfolding_all (
 exact Hk.disch (d.cal fun f fd F => by
  refine F.ok sc_Rules_set_plan (fun vs H Q E h => ?_) (fun cdv A outer s H vs Q E hr h => ?_)
  · obtain ⟨r, dx, fs, v, sw, g, c, pl, rfl, _⟩ := h; rfl
  · obtain ⟨r, dx, fs, v, sw, g, c, pl, rfl, hR, hO, hl, hsw, hg, hd, ok, q⟩ := h
    refine ⟨_, (pss_cons (ps_asg (pv 1) (pg_tup rfl (pgs_cons (pg_name (i := 2) sc_Rules_set_plan.nd rfl (Or.inl rfl)) (pgs_cons (pg_name (i := 3) sc_Rules_set_plan.nd rfl (Or.inl rfl)) pgs_nil))))
      (pss_cons (ps_fld (pv 0) (pe_cmpR op_eq (pv 2) pe_str (nomark _)) rfl)
      (pss_cons (ps_fld (pv 0) (pe_ifExp (pt_val (pe_fld (pv 0) rfl)) pe_int (pv 3)) rfl)
      (pss_one (ps_fld (pv 0) (pe_ifExp (pt_val (pe_fld (pv 0) rfl)) (pe_mcal m_slot_ticks (hr.mono (by omega)) (pv 0) (pa_cons (pv 3) pa_nil)) (pe_tup pa_nil)) rfl))))), ?_⟩
    obtain ⟨z, e, rfl, hz⟩ := okPlanL ok
    walk_at "st0"
    cases hd with
    | @tup a xs _ hs ha =>
    cases ha with
    | @cons x0 r0 _ _ a0 ha => cases ha with
      | @cons x1 r1 _ _ a1 ha =>
        cases ha
        cases a0
        refine ⟨a, _, rfl, hs, rfl, _, _, rfl, _, _, rfl, rfl, ?_⟩
        walk_at "st"
        refine q_eq rfl ?_
        walk_at "st"
        have l1 := length_putF "has_slots" (V.bl (decide (V.str z = V.str "slots"))) fs
        refine ⟨r, CR, dx, fs, rfl, hR, R.cls, R.no _ (by decide +kernel), by omega, ?_⟩
        walk_at "st"
        refine ⟨r, CR, dx, _, _, rfl, upd_same, R.cls, R.no _ (by decide +kernel), by walk_at "lk", ?_⟩
        walk_at "st"
        rcases hz with ⟨rfl, i, rfl, _⟩ | ⟨rfl, hz⟩
        · have e1 : decide (V.str "levels" = V.str "slots") = false := decide_eq_false (fun q => slots_ne (V.str.inj q))
          rw [e1] at l1 ⊢
          refine iteF ?_
          cases a1
          walk_at "st"
          have l2 := length_putF "span" (V.int i) (putF "has_slots" (V.bl false) fs)
          refine ⟨r, CR, dx, _, rfl, upd_same, R.cls, R.no _ (by decide +kernel), by omega, ?_⟩
          walk_at "st"
          refine ⟨r, CR, dx, _, _, rfl, upd_same, R.cls, R.no _ (by decide +kernel), by walk_at "lk", ?_⟩
          walk_at "st"
          refine iteF ?_
          walk_at "st"
          refine ⟨by show 0 ≤ sizeLine; decide, fun p np => ?_⟩
          have sp := same_new (o := .tup []) np
          walk_at "st"
          have l3 := length_putF "slots" (V.ref p) (putF "span" (V.int i) (putF "has_slots" (V.bl false) fs))
          refine ⟨r, CR, dx, _, rfl, sp _ _ upd_same, R.cls, R.no _ (by decide +kernel), by omega, ?_⟩
          have bt := ((((But.refl (r := r) (H := H)).trans But.put).trans But.put).trans (But.same sp)).trans (But.put (o := .ins CR dx (putF "slots" (V.ref p) (putF "span" (V.int i) (putF "has_slots" (V.bl false) fs)))))
          have npr : p ≠ r := fun z => by subst z; rw [upd_same] at np; cases np
          refine q _ _ p [] ⟨bt, upd_same, ((hO.put (by decide +kernel)).put (by decide +kernel)).put (by decide +kernel), by simp only [List.length_cons, List.length_nil]; omega, fun g hg => ?_⟩ (by rw [planHas]; walk_at "lk") (by rw [planSpan]; walk_at "lk") (put_same _ _ _) (But.put _ _ upd_same npr) .nil (by simp)
          simp only [List.mem_cons, List.not_mem_nil, or_false, not_or] at hg
          rw [put_ne _ _ hg.2.2, put_ne _ _ hg.2.1, put_ne _ _ hg.1]
        · have e1 : decide (V.str "slots" = V.str "slots") = true := decide_eq_true rfl
          rw [e1] at l1 ⊢
          refine iteT ?_
          obtain ⟨rs, rfl, r1, r4, hall⟩ := okSlotsL hz
          walk_at "st"
          have l2 := length_putF "span" (V.int 0) (putF "has_slots" (V.bl true) fs)
          refine ⟨r, CR, dx, _, rfl, upd_same, R.cls, R.no _ (by decide +kernel), by omega, ?_⟩
          walk_at "st"
          refine ⟨r, CR, dx, _, _, rfl, upd_same, R.cls, R.no _ (by decide +kernel), by walk_at "lk", ?_⟩
          walk_at "st"
          refine iteT ?_
          walk_at "st"
          refine ⟨r, dx, _, rfl, upd_same, by rw [put_ne _ _ (by decide +kernel), put_ne _ _ (by decide +kernel)]; exact hO _ (by decide +kernel), ?_⟩
          have hk := But.keep hR ((But.put (r := r) (H := H) (o := .ins CR dx (putF "has_slots" (V.bl true) fs))).trans (But.put (o := .ins CR dx (putF "span" (V.int 0) (putF "has_slots" (V.bl true) fs)))))
          walk_at "st"
          have ha : ∀ x ∈ rs, okSlotRow x := fun x hx => by
            obtain ⟨t, k, e, _, _, k1, k2⟩ := hall x hx
            exact ⟨t, k, e, k1, k2⟩
          refine ⟨r, dx, _, _, sw, g, rs, rfl, upd_same, by walk_at "lk", by walk_at "lk", dpKeep hk a1, r4, ha, fun t ys H2 s2 nt ht pr => ?_⟩
          walk_at "st"
          have l3 := length_putF "slots" (V.ref t) (putF "span" (V.int 0) (putF "has_slots" (V.bl true) fs))
          refine ⟨r, CR, dx, _, rfl, s2 _ _ upd_same, R.cls, R.no _ (by decide +kernel), by omega, ?_⟩
          have bt := ((((But.refl (r := r) (H := H)).trans But.put).trans But.put).trans (But.same s2)).trans (But.put (o := .ins CR dx (putF "slots" (V.ref t) (putF "span" (V.int 0) (putF "has_slots" (V.bl true) fs)))))
          have ntr : t ≠ r := fun z => by subst z; rw [upd_same] at nt; cases nt
          have ly := paired_len pr
          have lt := slotTicks_len (sw := sw) (g := g) ha
          refine q _ _ t ys ⟨bt, upd_same, ((hO.put (by decide +kernel)).put (by decide +kernel)).put (by decide +kernel), by simp only [List.length_cons, List.length_nil]; omega, fun g hg => ?_⟩ (by rw [planHas]; walk_at "lk") (by show _ = some (V.int (0 : Int)); walk_at "lk") (put_same _ _ _) (But.put _ _ ht ntr) (Paired.mapP pr fun y s h => ?_) (by omega)
          · simp only [List.mem_cons, List.not_mem_nil, or_false, not_or] at hg
            rw [put_ne _ _ hg.2.2, put_ne _ _ hg.2.1, put_ne _ _ hg.1]
          · obtain ⟨t2, rfl, h⟩ := h
            refine ⟨t2, rfl, But.put _ _ h fun z => ?_⟩
            subst z
            rw [s2 _ _ upd_same] at h; cases h))) only [↓Hk.hold_s]
end
end T
namespace T
section
variable {P : Program} {w : World} {K : PySem.W.Frag} {mg : Str → Option Value} {base : Heap} {C CR : Addr}
structure LG (mg : Str → Option Value) : Prop where
  g_lcm : mg "lcm" = some (.builtin "math.lcm")
def outPort : PyData → V | .tuple [.int p, _] => .int p | _ => .non
def outEvery : PyData → Int | .tuple [_, .int e] => e | _ => 1
theorem okOutsideL {c : Cnt} {d : PyData} (h : okOutside c d = true) : d = .none ∨ ∃ p e, d = .tuple [.int p, .int e] ∧ 0 ≤ p ∧ p ≤ cnt c "port" - 1 ∧ 1 ≤ e ∧ e ≤ 4 := by
  have two : okOut2 c d = true → ∃ p e, d = .tuple [.int p, .int e] ∧ 0 ≤ p ∧ p ≤ cnt c "port" - 1 ∧ 1 ≤ e ∧ e ≤ 4 := fun h => by
    unfold okOut2 at h
    rw [Bool.and_eq_true] at h
    obtain ⟨ds, rfl, l2⟩ := dTupleOf_tup h.1
    match ds, l2, h with
    | [a, b], _, h =>
      have h2 := h.2
      rw [Bool.and_eq_true] at h2
      obtain ⟨i, rfl, i1, i2⟩ := okBetween h2.1
      obtain ⟨j, rfl, j1, j2⟩ := okBetween h2.2
      exact ⟨i, j, rfl, i1, i2, j1, j2⟩
  cases d with
  | none => exact .inl rfl
  | _ => exact .inr (two h)
def spSetLetters (K : PySem.W.Frag) (CR : Addr) : Sp := fun vs H Q _ => ∃ (r dx : Addr) (fs : List (Str × V)) (v : V) (t : Addr) (ys : List V) (c : Cnt) (d : PyData), vs = [.ref r, v] ∧ H r = some (.ins CR dx fs) ∧ Only fs RN ∧ fs.length ≤ 500 ∧ fs.lookup ("slots" : Str) = some (.ref t) ∧ H t = some (.tup ys) ∧ ys.length ≤ 48 ∧ Dp K H v d ∧ okOutside c d = true ∧
  ∀ fs' H', Filled CR ["letter_port", "every", "period"] r dx fs fs' H H' → fs'.lookup ("letter_port" : Str) = some (outPort d) → fs'.lookup ("every" : Str) = some (.int (outEvery d)) → fs'.lookup ("period" : Str) = some (.int ((Nat.lcm (outEvery d).natAbs (max ys.length 1) : Nat) : Int)) → Q .non H'
theorem ok_set_letters (B : Bl mg) (T : LG mg) (R : RCls K CR) (d : MethAt K CR "set_letters" "Rules.set_letters" s_Rules_set_letters ["self", "outside"]) : MCal P w K mg base 1 CR "set_letters" ["self", "outside"] (spSetLetters K CR) := by
 refine Hk.hold ?_
 simp (disch := with_unfolding_all (
 exact Hk.disch (d.cal fun f fd F => by
  refine F.ok sc_Rules_set_letters (fun vs H Q E h => ?_) (fun cdv A outer s H vs Q E hr h => ?_)
  · obtain ⟨r, dx, fs, v, t, ys, c, d, rfl, _⟩ := h; rfl
  · obtain ⟨r, dx, fs, v, t, ys, c, d, rfl, hR, hO, hl, ht, hys, l48, hd, ok, q⟩ := h
    refine ⟨_, (pss_cons (ps_asg (pe_ifExp (pt_cmp (pc_isN (pv 1))) (pe_tup (pa_cons pe_non (pa_cons pe_int pa_nil))) (pv 1)) (pg_tup rfl (pgs_cons (pg_fld (pv 0)) (pgs_cons (pg_fld (pv 0)) pgs_nil))))
      (pss_one (ps_fld (pv 0) (pe_callBfun cr_lcm rfl T.g_lcm (pa_cons (pe_fld (pv 0) rfl) (pa_cons (pe_callB (call_max2 rfl) rfl B.max hb_max (pa_cons (pe_callB call_len_seq rfl B.len hb_len (pa_cons (pe_fld (pv 0) rfl) pa_nil)) (pa_cons pe_int pa_nil))) pa_nil))) rfl))), ?_⟩
    walk_at "st0"
    have ntr : t ≠ r := fun z => by subst z; rw [hys] at hR; cases hR
    rcases okOutsideL ok with rfl | ⟨p, e, rfl, p0, p1, e1, e4⟩
    · cases hd
      refine iteT ?_
      walk_at "st"
      refine ⟨by show 2 ≤ sizeLine; decide, fun a na => ?_⟩
      have sa := same_new (o := .tup [V.non, V.int 1]) na
      refine ⟨a, _, rfl, SqT.of upd_same, rfl, _, _, rfl, ⟨_, rfl, r, CR, dx, fs, rfl, sa _ _ hR, R.cls, R.no _ (by decide +kernel), by omega, ?_⟩⟩
      have l1 := length_putF "letter_port" (V.non) fs
      refine ⟨_, _, rfl, ⟨_, rfl, r, CR, dx, _, rfl, upd_same, R.cls, R.no _ (by decide +kernel), by omega, rfl, ?_⟩⟩
      have l2 := length_putF "every" (V.int 1) (putF "letter_port" (V.non) fs)
      walk_at "st"
      refine ⟨r, CR, dx, _, _, rfl, upd_same, R.cls, R.no _ (by decide +kernel), by walk_at "lk", ?_⟩
      walk_at "st"
      refine ⟨r, CR, dx, _, _, rfl, upd_same, R.cls, R.no _ (by decide +kernel), by walk_at "lk", ?_⟩
      walk_at "st"
      have bt := (((But.same (r := r) sa).trans (But.put (o := .ins CR dx (putF "letter_port" (V.non) fs)))).trans (But.put (o := .ins CR dx (putF "every" (V.int 1) (putF "letter_port" (V.non) fs)))))
      refine ⟨t, ys, rfl, .inr (SqT.of (bt _ _ hys ntr)), ?_⟩
      walk_at "st"
      refine ⟨_, _, rfl, ?_⟩
      have em : (if (1 : Int) > (ys.length : Int) then (1 : Int) else (ys.length : Int)) = ((max ys.length 1 : Nat) : Int) := by split <;> omega
      rw [em]
      refine ⟨_, _, rfl, by omega, by omega, by omega, by omega, ?_⟩
      rw [Int.natAbs_natCast]
      walk_at "st"
      have l3 := length_putF "period" (V.int ((Nat.lcm (1 : Int).natAbs (max ys.length 1) : Nat) : Int)) (putF "every" (V.int 1) (putF "letter_port" (V.non) fs))
      refine ⟨r, CR, dx, _, rfl, upd_same, R.cls, R.no _ (by decide +kernel), by omega, ?_⟩
      refine q _ _ ⟨bt.trans But.put, upd_same, ((hO.put (by decide +kernel)).put (by decide +kernel)).put (by decide +kernel), by simp only [List.length_cons, List.length_nil]; omega, fun g hg => ?_⟩ (by show _ = some (V.non); walk_at "lk") (by show _ = some (V.int 1); walk_at "lk") (put_same _ _ _)
      simp only [List.mem_cons, List.not_mem_nil, or_false, not_or] at hg
      rw [put_ne _ _ hg.2.2, put_ne _ _ hg.2.1, put_ne _ _ hg.1]
    · rw [decide_eq_false (fun z => by subst z; cases hd)]
      refine iteF ?_
      walk_at "st"
      have sa := Same.refl H
      cases hd with
      | @tup a xs _ hs ha =>
      cases ha with
      | @cons x0 r0 _ _ a0 ha => cases ha with
        | @cons x1 r1 _ _ a1 ha =>
        cases ha; cases a0; cases a1
        refine ⟨a, _, rfl, hs, rfl, _, _, rfl, ⟨_, rfl, r, CR, dx, fs, rfl, sa _ _ hR, R.cls, R.no _ (by decide +kernel), by omega, ?_⟩⟩
        have l1 := length_putF "letter_port" (V.int p) fs
        refine ⟨_, _, rfl, ⟨_, rfl, r, CR, dx, _, rfl, upd_same, R.cls, R.no _ (by decide +kernel), by omega, rfl, ?_⟩⟩
        have l2 := length_putF "every" (V.int e) (putF "letter_port" (V.int p) fs)
        walk_at "st"
        refine ⟨r, CR, dx, _, _, rfl, upd_same, R.cls, R.no _ (by decide +kernel), by walk_at "lk", ?_⟩
        walk_at "st"
        refine ⟨r, CR, dx, _, _, rfl, upd_same, R.cls, R.no _ (by decide +kernel), by walk_at "lk", ?_⟩
        walk_at "st"
        have bt := (((But.same (r := r) sa).trans (But.put (o := .ins CR dx (putF "letter_port" (V.int p) fs)))).trans (But.put (o := .ins CR dx (putF "every" (V.int e) (putF "letter_port" (V.int p) fs)))))
        refine ⟨t, ys, rfl, .inr (SqT.of (bt _ _ hys ntr)), ?_⟩
        walk_at "st"
        refine ⟨_, _, rfl, ?_⟩
        have em : (if (1 : Int) > (ys.length : Int) then (1 : Int) else (ys.length : Int)) = ((max ys.length 1 : Nat) : Int) := by split <;> omega
        rw [em]
        refine ⟨_, _, rfl, by omega, by omega, by omega, by omega, ?_⟩
        rw [Int.natAbs_natCast]
        walk_at "st"
        have l3 := length_putF "period" (V.int ((Nat.lcm (e : Int).natAbs (max ys.length 1) : Nat) : Int)) (putF "every" (V.int e) (putF "letter_port" (V.int p) fs))
        refine ⟨r, CR, dx, _, rfl, upd_same, R.cls, R.no _ (by decide +kernel), by omega, ?_⟩
        refine q _ _ ⟨bt.trans But.put, upd_same, ((hO.put (by decide +kernel)).put (by decide +kernel)).put (by decide +kernel), by simp only [List.length_cons, List.length_nil]; omega, fun g hg => ?_⟩ (by show _ = some (V.int p); walk_at "lk") (by show _ = some (V.int e); walk_at "lk") (put_same _ _ _)
        simp only [List.mem_cons, List.not_mem_nil, or_false, not_or] at hg
        rw [put_ne _ _ hg.2.2, put_ne _ _ hg.2.1, put_ne _ _ hg.1]))) only [↓Hk.hold_s]
end
end T
namespace T
section
variable {P : Program} {w : World} {K : PySem.W.Frag} {mg : Str → Option Value} {base : Heap} {C CR : Addr}
/-- where the making of rules stands -/
structure RS (CR r dx : Addr) (H0 H : Hp) (fs : List (Str × V)) (n : Nat) : Prop where
  ins : H r = some (.ins CR dx fs)
  only : Only fs RN
  len : fs.length ≤ n
  but : But r H0 H
theorem RS.mono {r dx : Addr} {H0 H H' : Hp} {fs : List (Str × V)} {n : Nat} (S : RS CR r dx H0 H fs n) (s : Same H H') : RS CR r dx H0 H' fs n := ⟨s _ _ S.ins, S.only, S.len, S.but.trans (But.same s)⟩
theorem RS.put {r dx : Addr} {H0 H : Hp} {fs : List (Str × V)} {n : Nat} (S : RS CR r dx H0 H fs n) (f : Str) (v : V) (hf : f ∈ RN) : RS CR r dx H0 (upd H r (.ins CR dx (putF f v fs))) (putF f v fs) (n + 1) :=
  ⟨upd_same, S.only.put hf, by have := length_putF f v fs; have := S.len; omega, S.but.trans But.put⟩
theorem RS.fill {r dx : Addr} {H0 H H' : Hp} {fs fs' : List (Str × V)} {n : Nat} {names : List Str} (S : RS CR r dx H0 H fs n) (F : Filled CR names r dx fs fs' H H') : RS CR r dx H0 H' fs' (n + names.length) :=
  ⟨F.2.1, F.2.2.1, by have := F.2.2.2.1; have := S.len; omega, S.but.trans F.1⟩
theorem RS.parts {r dx p dx0 : Addr} {H0 H : Hp} {fs fs0 : List (Str × V)} {n : Nat} {b : BD} (S : RS CR r dx H0 H fs n) (e : H0 r = some (.ins CR dx0 fs0)) (hp : PartsAt K C H0 p b) (ne : p ≠ r) : PartsAt K C H p b := hp.but e S.but ne
theorem q_get {p : Addr} {b : BD} {H : Hp} {m : Str} {R : BD → Hp → V → Hp → Prop} {Q : VK} {σ : L2.St} (hp : PartsAt K C H p b) (h1 : m ≠ ("_parts" : Str)) (h2 : m ≠ ("rules" : Str)) (k : ∀ v H', Same H H' → R b H v H' → Q v H') :
    ∃ a dx fs, V.ref p = .ref a ∧ H a = some (.ins C dx fs) ∧ fs.lookup m = none ∧ tNil σ H fun vs H2 => spGet K C R (V.ref p :: (vs ++ [])) H2 Q E0 := by
  obtain ⟨ok, dx2, fs2, q0, kvs, e1, e2, e3, e4, e5⟩ := id hp
  exact ⟨p, dx2, fs2, rfl, e1, e5 m h1 h2, p, b, rfl, hp, k⟩
theorem RS.kp {r dx : Addr} {H0 H : Hp} {fs : List (Str × V)} {n : Nat} (S : RS CR r dx H0 H fs n) (f : Str) (v : V) : Keep H (upd H r (.ins CR dx (putF f v fs))) := But.keep S.ins But.put
theorem tl_mono {H H' : Hp} {tl : Addr} {txs : List V} {tds : List PyData} (s : Keep H H') (h : H tl = some (.lst txs) ∧ DpAll K H txs tds) : H' tl = some (.lst txs) ∧ DpAll K H' txs tds := ⟨s _ _ h.1 (by simp), dpAllKeep s h.2⟩
theorem same_keep {H H' : Hp} (s : Same H H') : Keep H H' := fun b o h _ => s _ _ h
/-- the data that rules hold -/
inductive RF where | task_count | levels | side_of | sizes | line_of | places | wipes | pads | lends | plain | miss | switch | greatest | has_slots | span | slots | letter_port | every | period | all_frames
  deriving DecidableEq
def RF.nm : RF → Str
  | .task_count => "task_count" | .levels => "levels" | .side_of => "side_of" | .sizes => "sizes" | .line_of => "line_of" | .places => "places" | .wipes => "wipes" | .pads => "pads" | .lends => "lends" | .plain => "plain" | .miss => "miss" | .switch => "switch"
  | .greatest => "greatest" | .has_slots => "has_slots" | .span => "span" | .slots => "slots" | .letter_port => "letter_port" | .every => "every" | .period => "period" | .all_frames => "all_frames"
def RF.all : List RF := [.period, .every, .letter_port, .slots, .span, .has_slots, .all_frames, .greatest, .switch, .miss, .plain, .lends, .pads, .wipes, .places, .line_of, .sizes, .side_of, .levels, .task_count]
def RF.ix : Str → Option RF := fun z => (RF.all.find? fun f => decide (f.nm = z))
theorem RF.ix_nm (f : RF) : RF.ix f.nm = some f := by cases f <;> decide +kernel
theorem RF.inj : ∀ f g : RF, f.nm = g.nm → f = g := fun f g h => by
  have z := RF.ix_nm f
  rw [h, RF.ix_nm g] at z
  exact (Option.some.inj z).symm
def dl : PyData → List PyData | .list l => l | _ => []
def dInt0 : PyData → Int | .int i => i | _ => 0
def cost3 : PyData → Int × Int × Int | .tuple [.int a, .int b, .int c] => (a, b, c) | _ => (0, 0, 0)
def levelD (d : PyData) : Int := match d with | .tuple [_, .int s] => s | _ => 0
def greatOf (b : BD) : Int := (cost3 b.costs).1 + if dInt0 b.disk - 1 > (cost3 b.costs).2.1 then dInt0 b.disk - 1 else (cost3 b.costs).2.1
def ticksOfB (b : BD) : List STick := planTicks (cost3 b.costs).2.2 (greatOf b) b.plan
def stickD (s : STick) : PyData := .tuple [.int s.1, .bool s.2.1, .bool s.2.2]
def outD : PyData → PyData | .tuple [.int p, _] => .int p | _ => .none
def periodOf (b : BD) : Int := ((Nat.lcm (outEvery b.outside).natAbs (max (ticksOfB b).length 1) : Nat) : Int)
/-- what each field of rules is -/
def rulesD (b : BD) : RF → PyData
  | .task_count => .int (dl b.tasks).length
  | .levels => .tuple ((dl b.tasks).map fun d => .int (levelD d))
  | .side_of => .tuple ((dl b.tasks).map fun d => .int (sideD d))
  | .sizes => tupOf b.ports
  | .line_of => tupOf b.lines
  | .places => b.disk
  | .wipes => b.wipe
  | .pads => b.pad
  | .lends => b.lend
  | .plain => .int (cost3 b.costs).1
  | .miss => .int (cost3 b.costs).2.1
  | .switch => .int (cost3 b.costs).2.2
  | .greatest => .int (greatOf b)
  | .has_slots => .bool (planHas b.plan)
  | .span => .int (planSpan b.plan)
  | .slots => .tuple ((ticksOfB b).map stickD)
  | .letter_port => outD b.outside
  | .every => .int (outEvery b.outside)
  | .period => .int (periodOf b)
  | .all_frames => b.frames
theorem dpAll_ints {H : Hp} (f : PyData → Int) : ∀ l : List PyData, DpAll K H (l.map fun d => V.int (f d)) (l.map fun d => PyData.int (f d))
  | [] => .nil
  | x :: r => .cons (.int _) (dpAll_ints f r)
theorem dpAll_rows {H : Hp} : ∀ {ys : List V} {ss : List STick}, Paired (RowV H) ys ss → DpAll K H ys (ss.map stickD)
  | [], [], .nil => .nil
  | _ :: _, s :: _, .cons h t => .cons (by obtain ⟨t, rfl, e⟩ := h; exact .tup (SqT.of e) (.cons (.int _) (.cons (.bl _) (.cons (.bl _) .nil)))) (dpAll_rows t)
theorem Told.fill {r dx : Addr} {names : List Str} {fs fs' : List (Str × V)} {H H' : Hp} {D : RF → PyData} {ns : List RF} (h : Told K RF.nm H fs D ns) (e : H r = some (.ins CR dx fs)) (F : Filled CR names r dx fs fs' H H') (hn : ∀ f ∈ ns, f.nm ∉ names) : Told K RF.nm H' fs' D ns := fun f hf => by
  obtain ⟨v, e1, d1⟩ := h f hf
  exact ⟨v, by rw [F.2.2.2.2 _ (hn f hf)]; exact e1, dpKeep (But.keep e F.1) d1⟩
theorem Told.new {fs : List (Str × V)} {H : Hp} {D : RF → PyData} {ns : List RF} {v : V} (h : Told K RF.nm H fs D ns) (f : RF) (e : fs.lookup f.nm = some v) (d : Dp K H v (D f)) : Told K RF.nm H fs D (f :: ns) := fun g hg => by
  rcases List.mem_cons.mp hg with rfl | hg
  · exact ⟨v, e, d⟩
  · exact h g hg
/-- the table of counts -/
def CntsAt (H : Hp) (fs : List (Str × V)) (b : BD) : Prop := ∃ c, fs.lookup ("counts" : Str) = some (.ref c) ∧ H c = some (.dK (countKV (cOf b)))
theorem CntsAt.mono {H H' : Hp} {fs : List (Str × V)} {b : BD} (h : CntsAt H fs b) (s : Same H H') : CntsAt H' fs b := by
  obtain ⟨c, e1, e2⟩ := h; exact ⟨c, e1, s _ _ e2⟩
theorem CntsAt.keep {H H' : Hp} {fs : List (Str × V)} {b : BD} (h : CntsAt H fs b) (s : Keep H H') : CntsAt H' fs b := by
  obtain ⟨c, e1, e2⟩ := h; exact ⟨c, e1, s _ _ e2 (by simp)⟩
theorem CntsAt.put {H : Hp} {fs : List (Str × V)} {b : BD} (h : CntsAt H fs b) {g : Str} {v : V} (ne : ("counts" : Str) ≠ g) : CntsAt H (putF g v fs) b := by
  obtain ⟨c, e1, e2⟩ := h; exact ⟨c, by rw [put_ne _ _ ne]; exact e1, e2⟩
theorem CntsAt.fill {r dx : Addr} {names : List Str} {fs fs' : List (Str × V)} {H H' : Hp} {b : BD} (h : CntsAt H fs b) (e : H r = some (.ins CR dx fs)) (F : Filled CR names r dx fs fs' H H') (hn : ("counts" : Str) ∉ names) : CntsAt H' fs' b := by
  obtain ⟨c, e1, e2⟩ := h.keep (But.keep e F.1)
  exact ⟨c, by rw [F.2.2.2.2 _ hn]; exact e1, e2⟩
theorem RS.counts {r dx : Addr} {H0 H : Hp} {fs : List (Str × V)} {n : Nat} {b : BD} (S : RS CR r dx H0 H fs n) (c : Addr) (e : H c = some (.dK (countKV (cOf b)))) : CntsAt (upd H r (.ins CR dx (putF "counts" (.ref c) fs))) (putF "counts" (.ref c) fs) b :=
  CntsAt.keep ⟨c, put_same _ _ _, e⟩ (S.kp "counts" (.ref c))
/-- rules of a build -/
def RulesAt (K : PySem.W.Frag) (CR : Addr) (H : Hp) (r : Addr) (b : BD) : Prop := ∃ dx fs, H r = some (.ins CR dx fs) ∧ Only fs RN ∧ Told K RF.nm H fs (rulesD b) RF.all ∧ CntsAt H fs b
theorem RulesAt.mono {H H' : Hp} {r : Addr} {b : BD} (h : RulesAt K CR H r b) (s : Same H H') : RulesAt K CR H' r b := by
  obtain ⟨dx, fs, e, o, t, c⟩ := h
  exact ⟨dx, fs, s _ _ e, o, t.mono s, c.mono s⟩
theorem RulesAt.but {H H' : Hp} {r p C' dx' : Addr} {fs' : List (Str × V)} {b : BD} (h : RulesAt K CR H r b) (e : H p = some (.ins C' dx' fs')) (s : But p H H') (ne : r ≠ p) : RulesAt K CR H' r b := by
  obtain ⟨dx, fs, e1, o, t, c⟩ := h
  exact ⟨dx, fs, s _ _ e1 ne, o, t.keep (But.keep e s), c.keep (But.keep e s)⟩
theorem RulesAt.get {H : Hp} {r : Addr} {b : BD} (h : RulesAt K CR H r b) (f : RF) (hf : f ∈ RF.all := by decide) : ∃ dx fs v, H r = some (.ins CR dx fs) ∧ fs.lookup f.nm = some v ∧ Dp K H v (rulesD b f) := by
  obtain ⟨dx, fs, e, o, t, c⟩ := h
  obtain ⟨v, e1, e2⟩ := t f hf
  exact ⟨dx, fs, v, e, e1, e2⟩
def spRules (K : PySem.W.Frag) (C CR : Addr) : Sp := fun vs H Q _ => ∃ (r dx : Addr) (p : Addr) (b : BD), vs = [.ref r, .ref p] ∧ H r = some (.ins CR dx []) ∧ p ≠ r ∧ PartsAt K C H p b ∧
  ∀ H', But r H H' → RulesAt K CR H' r b → Q .non H'
theorem ok_Rules (B : Bl mg) (R : RCls K CR)
    (c_counted : Cal P w K mg base 1 "counted" ["tasks", "pages", "ports", "locks", "disk"] spCounted)
    (m_tasks : MCal P w K mg base 1 C "tasks" ["self"] (spGet K C fun b H v H' => NewL K H H' v b.tasks))
    (m_pages : MCal P w K mg base 1 C "pages" ["self"] (spGet K C fun b H v H' => NewL K H H' v b.pages))
    (m_ports : MCal P w K mg base 1 C "ports" ["self"] (spGet K C fun b H v H' => NewL K H H' v b.ports))
    (m_lines : MCal P w K mg base 1 C "lines" ["self"] (spGet K C fun b H v H' => NewL K H H' v b.lines))
    (m_locks : MCal P w K mg base 1 C "locks" ["self"] (spGet K C fun b H v H' => Dp K H' v b.locks))
    (m_disk : MCal P w K mg base 1 C "disk" ["self"] (spGet K C fun b H v H' => Dp K H' v b.disk))
    (m_costs : MCal P w K mg base 1 C "costs" ["self"] (spGet K C fun b H v H' => Dp K H' v b.costs))
    (m_plan : MCal P w K mg base 1 C "plan" ["self"] (spGet K C fun b H v H' => Dp K H' v b.plan))
    (m_outside : MCal P w K mg base 1 C "outside" ["self"] (spGet K C fun b H v H' => Dp K H' v b.outside))
    (m_wipe : MCal P w K mg base 1 C "wipe" ["self"] (spGet K C fun b H v H' => Dp K H' v b.wipe))
    (m_pad : MCal P w K mg base 1 C "pad" ["self"] (spGet K C fun b H v H' => Dp K H' v b.pad))
    (m_lend : MCal P w K mg base 1 C "lend" ["self"] (spGet K C fun b H v H' => Dp K H' v b.lend))
    (m_set_costs : MCal P w K mg base 1 CR "set_costs" ["self", "costs"] (spSetCosts K CR))
    (m_set_frames : MCal P w K mg base 2 CR "set_frames" ["self", "build"] (spSetFrames K C CR))
    (m_set_plan : MCal P w K mg base 2 CR "set_plan" ["self", "plan"] (spSetPlan K CR))
    (m_set_letters : MCal P w K mg base 1 CR "set_letters" ["self", "outside"] (spSetLetters K CR)) :
    ∀ f fd, Fun K "__init__" "Rules.__init__" s_Rules___init__ f fd → FnOk P w K mg base CX0 3 f fd ["self", "build"] (spRules K C CR) := by
 refine Hk.hold ?_
 simp (disch := with_unfolding_all (
 exact Hk.disch (fun f fd F => by
  refine F.ok sc_Rules___init__ (fun vs H Q E h => ?_) (fun cdv A outer s H vs Q E hr h => ?_)
  · obtain ⟨r, dx, p, b, rfl, _⟩ := h; rfl
  · obtain ⟨r, dx, p, b, rfl, hR, hne, hp, q⟩ := h
    refine ⟨_, (pss_cons (ps_set (i := 2) sc_Rules___init__.nd rfl (Or.inl rfl) (pe_mcal0 m_tasks (hr.mono (by omega)) (pv 1)))
      (pss_cons (ps_fld (pv 0) (pe_callB call_len_seq rfl B.len hb_len (pa_cons (pv 2) pa_nil)) rfl)
      (pss_cons (ps_fld (pv 0) (pe_callTy call_tuple_of rfl B.tuple_ hb_tuple (pa_cons (pe_lc (own := [("side", 3), ("level", 4)]) (tt := tYes) rfl sc_Rules___init__.nd (pi_list (pv 2)) (blkOk_by (N := ["self", "build", "tasks", "side", "level"]) (sc := defScope s_Rules___init__) (by decide +kernel)) (fun _ _ _ _ _ => (show PG _ _ (gTup K 2 _) from pg_tup rfl (pgs_cons (pg_name (i := 3) sc_Rules___init__.nd rfl (Or.inl rfl)) (pgs_cons (pg_name (i := 4) sc_Rules___init__.nd rfl (Or.inl rfl)) pgs_nil)))) (fun _ _ _ _ _ => pts_nil) (fun _ _ _ _ _ => (pv 4))) pa_nil)) rfl)
      (pss_cons (ps_fld (pv 0) (pe_callTy call_tuple_of rfl B.tuple_ hb_tuple (pa_cons (pe_lc (own := [("side", 3), ("level", 4)]) (tt := tYes) rfl sc_Rules___init__.nd (pi_list (pv 2)) (blkOk_by (N := ["self", "build", "tasks", "side", "level"]) (sc := defScope s_Rules___init__) (by decide +kernel)) (fun _ _ _ _ _ => (show PG _ _ (gTup K 2 _) from pg_tup rfl (pgs_cons (pg_name (i := 3) sc_Rules___init__.nd rfl (Or.inl rfl)) (pgs_cons (pg_name (i := 4) sc_Rules___init__.nd rfl (Or.inl rfl)) pgs_nil)))) (fun _ _ _ _ _ => pts_nil) (fun _ _ _ _ _ => (pv 3))) pa_nil)) rfl)
      (pss_cons (ps_fld (pv 0) (pe_callTy call_tuple_of rfl B.tuple_ hb_tuple (pa_cons (pe_mcal0 m_ports (hr.mono (by omega)) (pv 1)) pa_nil)) rfl)
      (pss_cons (ps_fld (pv 0) (pe_callTy call_tuple_of rfl B.tuple_ hb_tuple (pa_cons (pe_mcal0 m_lines (hr.mono (by omega)) (pv 1)) pa_nil)) rfl)
      (pss_cons (ps_fld (pv 0) (pe_mcal0 m_disk (hr.mono (by omega)) (pv 1)) rfl)
      (pss_cons (ps_fld (pv 0) (pe_cal c_counted (hr.mono (by omega)) rfl (pa_cons (pe_callB call_len_seq rfl B.len hb_len (pa_cons (pv 2) pa_nil)) (pa_cons (pe_callB call_len_seq rfl B.len hb_len (pa_cons (pe_mcal0 m_pages (hr.mono (by omega)) (pv 1)) pa_nil)) (pa_cons (pe_callB call_len_seq rfl B.len hb_len (pa_cons (pe_fld (pv 0) rfl) pa_nil)) (pa_cons (pe_mcal0 m_locks (hr.mono (by omega)) (pv 1)) (pa_cons (pe_fld (pv 0) rfl) pa_nil)))))) rfl)
      (pss_cons (ps_fld (pv 0) (pe_mcal0 m_wipe (hr.mono (by omega)) (pv 1)) rfl)
      (pss_cons (ps_fld (pv 0) (pe_mcal0 m_pad (hr.mono (by omega)) (pv 1)) rfl)
      (pss_cons (ps_fld (pv 0) (pe_mcal0 m_lend (hr.mono (by omega)) (pv 1)) rfl)
      (pss_cons (ps_expr (pe_mcal m_set_costs (hr.mono (by omega)) (pv 0) (pa_cons (pe_mcal0 m_costs (hr.mono (by omega)) (pv 1)) pa_nil)))
      (pss_cons (ps_expr (pe_mcal m_set_frames (hr.mono (by omega)) (pv 0) (pa_cons (pv 1) pa_nil)))
      (pss_cons (ps_expr (pe_mcal m_set_plan (hr.mono (by omega)) (pv 0) (pa_cons (pe_mcal0 m_plan (hr.mono (by omega)) (pv 1)) pa_nil)))
      (pss_one (ps_expr (pe_mcal m_set_letters (hr.mono (by omega)) (pv 0) (pa_cons (pe_mcal0 m_outside (hr.mono (by omega)) (pv 1)) pa_nil)))))))))))))))))), ?_⟩
    have S : RS CR r dx H H [] 0 := ⟨hR, fun _ _ => rfl, by simp, But.refl⟩
    have TD : Told K RF.nm H [] (rulesD b) [] := fun f hf => (nomatch hf)
    have ok := hp.ok
    walk_at "st0"
    refine q_get hp (by decide +kernel) (by decide +kernel) fun v1 H1 s1 d1 => ?_
    replace S := S.mono s1
    replace TD := TD.mono s1
    walk_at "st"
    obtain ⟨tl, txs, tds, rfl, ntl, etl, ed, hta⟩ := d1
    obtain ⟨ds', ed', t2, t4, tall⟩ := okTasksL ok.tasks
    rw [ed] at ed'; cases ed'
    have ltx := hta.length
    refine ⟨tl, txs, rfl, .inl (SqL.of etl), ?_⟩
    walk_at "st"
    refine ⟨r, CR, dx, _, rfl, S.ins, R.cls, R.no _ (by decide +kernel), Nat.lt_of_le_of_lt S.len (by decide), ?_⟩
    have TL := tl_mono (S.kp "task_count" (V.int txs.length)) ⟨etl, hta⟩
    replace TD := (TD.add RF.inj (f := .task_count) (v := (V.int txs.length)) (by decide) (by show Dp K _ _ (.int ((dl b.tasks).length : Int)); rw [ed]; show Dp K _ _ (.int (tds.length : Int)); rw [← ltx]; exact .int _)).keep (S.kp "task_count" (V.int txs.length))
    replace S := S.put "task_count" (V.int txs.length) (by decide +kernel)
    walk_at "st"
    refine ⟨_, rfl, tl, rfl, ⟨txs, SqL.of TL.1⟩, fun D nD => lc_map (fun d => V.int (levelD d)) (SqL.of TL.1) TL.2 (by omega) nD ?_ ?_⟩
    · intro x2 d2 H3 h2 hm s2 Q2 k2
      obtain ⟨sd, l, rfl, _⟩ := okTask_shape (tall d2 hm)
      cases h2 with
      | @tup t ys _ ht hb =>
      cases hb with
      | @cons x0 r0 _ _ a0 hb => cases hb with
        | @cons x1 r1 _ _ a1 hb =>
          cases hb
          cases a0; cases a1
          refine ⟨t, _, rfl, ht, rfl, _, _, rfl, _, _, rfl, rfl, rfl, ?_⟩
          walk_at "st"
          exact k2 _ (Same.refl _)
    intro H3 s3 e3
    replace S := S.mono s3
    replace TD := TD.mono s3
    replace TL := tl_mono (same_keep s3) TL
    refine ⟨D, _, rfl, .inl ⟨SqL.of e3, fun p1 n1 => ?_⟩⟩
    replace TL := tl_mono (same_keep (same_new (o := .tup (tds.map fun d => V.int (levelD d))) n1)) TL
    replace S := S.mono (same_new (o := .tup (tds.map fun d => V.int (levelD d))) n1)
    replace TD := TD.mono (same_new (o := .tup (tds.map fun d => V.int (levelD d))) n1)
    walk_at "st"
    refine ⟨r, CR, dx, _, rfl, S.ins, R.cls, R.no _ (by decide +kernel), Nat.lt_of_le_of_lt S.len (by decide), ?_⟩
    replace TL := tl_mono (S.kp "levels" (V.ref p1)) TL
    replace TD := (TD.add RF.inj (f := .levels) (v := (V.ref p1)) (by decide) (by show Dp K _ _ (.tuple ((dl b.tasks).map fun d => .int (levelD d))); rw [ed]; exact .tup (SqT.of upd_same) (dpAll_ints _ _))).keep (S.kp "levels" (V.ref p1))
    replace S := S.put "levels" (V.ref p1) (by decide +kernel)
    walk_at "st"
    refine ⟨_, rfl, tl, rfl, ⟨txs, SqL.of TL.1⟩, fun D2 nD2 => lc_map (fun d => V.int (sideD d)) (SqL.of TL.1) TL.2 (by omega) nD2 ?_ ?_⟩
    · intro x2 d2 H3 h2 hm s2 Q2 k2
      obtain ⟨sd, l, rfl, _⟩ := okTask_shape (tall d2 hm)
      cases h2 with
      | @tup t ys _ ht hb =>
      cases hb with
      | @cons x0 r0 _ _ a0 hb => cases hb with
        | @cons x1 r1 _ _ a1 hb =>
          cases hb
          cases a0; cases a1
          refine ⟨t, _, rfl, ht, rfl, _, _, rfl, _, _, rfl, rfl, rfl, ?_⟩
          walk_at "st"
          exact k2 _ (Same.refl _)
    intro H4 s4 e4
    replace S := S.mono s4
    replace TD := TD.mono s4
    replace TL := tl_mono (same_keep s4) TL
    refine ⟨D2, _, rfl, .inl ⟨SqL.of e4, fun p2 n2 => ?_⟩⟩
    replace TL := tl_mono (same_keep (same_new (o := .tup (tds.map fun d => V.int (sideD d))) n2)) TL
    replace S := S.mono (same_new (o := .tup (tds.map fun d => V.int (sideD d))) n2)
    replace TD := TD.mono (same_new (o := .tup (tds.map fun d => V.int (sideD d))) n2)
    walk_at "st"
    refine ⟨r, CR, dx, _, rfl, S.ins, R.cls, R.no _ (by decide +kernel), Nat.lt_of_le_of_lt S.len (by decide), ?_⟩
    replace TL := tl_mono (S.kp "side_of" (V.ref p2)) TL
    replace TD := (TD.add RF.inj (f := .side_of) (v := (V.ref p2)) (by decide) (by show Dp K _ _ (.tuple ((dl b.tasks).map fun d => .int (sideD d))); rw [ed]; exact .tup (SqT.of upd_same) (dpAll_ints _ _))).keep (S.kp "side_of" (V.ref p2))
    replace S := S.put "side_of" (V.ref p2) (by decide +kernel)
    walk_at "st"
    refine q_get (S.parts hR hp hne) (by decide +kernel) (by decide +kernel) fun v5 H5 s5 d5 => ?_
    replace S := S.mono s5
    replace TD := TD.mono s5
    replace TL := tl_mono (same_keep s5) TL
    walk_at "st"
    obtain ⟨pl, pxs, pds, rfl, npl, epl, edp, hpa⟩ := d5
    obtain ⟨qds, edp', q2, _⟩ := okList ok.ports
    rw [edp] at edp'; cases edp'
    have lpx := hpa.length
    refine ⟨pl, pxs, rfl, .inl ⟨SqL.of epl, fun p5 n5 => ?_⟩⟩
    replace TL := tl_mono (same_keep (same_new (o := .tup pxs) n5)) TL
    replace S := S.mono (same_new (o := .tup pxs) n5)
    replace TD := TD.mono (same_new (o := .tup pxs) n5)
    have SZ : upd H5 p5 (.tup pxs) p5 = some (.tup pxs) := upd_same
    walk_at "st"
    refine ⟨r, CR, dx, _, rfl, S.ins, R.cls, R.no _ (by decide +kernel), Nat.lt_of_le_of_lt S.len (by decide), ?_⟩
    replace SZ := S.kp "sizes" (V.ref p5) _ _ SZ (by simp)
    replace TL := tl_mono (S.kp "sizes" (V.ref p5)) TL
    replace TD := (TD.add RF.inj (f := .sizes) (v := (V.ref p5)) (by decide) (by show Dp K _ _ (tupOf b.ports); rw [edp]; exact .tup (SqT.of upd_same) (L2.DpAll.mono (same_new n5) hpa))).keep (S.kp "sizes" (V.ref p5))
    replace S := S.put "sizes" (V.ref p5) (by decide +kernel)
    walk_at "st"
    refine q_get (S.parts hR hp hne) (by decide +kernel) (by decide +kernel) fun v6 H6 s6 d6 => ?_
    replace S := S.mono s6
    replace TD := TD.mono s6
    replace TL := tl_mono (same_keep s6) TL
    replace SZ := s6 _ _ SZ
    walk_at "st"
    obtain ⟨ll, lxs, lds, rfl, nll, ell, edl, hla⟩ := d6
    refine ⟨ll, lxs, rfl, .inl ⟨SqL.of ell, fun p6 n6 => ?_⟩⟩
    replace TL := tl_mono (same_keep (same_new (o := .tup lxs) n6)) TL
    replace S := S.mono (same_new (o := .tup lxs) n6)
    replace TD := TD.mono (same_new (o := .tup lxs) n6)
    replace SZ := same_new (o := .tup lxs) n6 _ _ SZ
    walk_at "st"
    refine ⟨r, CR, dx, _, rfl, S.ins, R.cls, R.no _ (by decide +kernel), Nat.lt_of_le_of_lt S.len (by decide), ?_⟩
    replace SZ := S.kp "line_of" (V.ref p6) _ _ SZ (by simp)
    replace TL := tl_mono (S.kp "line_of" (V.ref p6)) TL
    replace TD := (TD.add RF.inj (f := .line_of) (v := (V.ref p6)) (by decide) (by show Dp K _ _ (tupOf b.lines); rw [edl]; exact .tup (SqT.of upd_same) (L2.DpAll.mono (same_new n6) hla))).keep (S.kp "line_of" (V.ref p6))
    replace S := S.put "line_of" (V.ref p6) (by decide +kernel)
    walk_at "st"
    refine q_get (S.parts hR hp hne) (by decide +kernel) (by decide +kernel) fun v7 H7 s7 d7 => ?_
    replace S := S.mono s7
    replace TD := TD.mono s7
    replace TL := tl_mono (same_keep s7) TL
    replace SZ := s7 _ _ SZ
    have okd := ok.disk
    unfold okDisk at okd
    rw [Bool.and_eq_true] at okd
    obtain ⟨dn, edn, _⟩ := okBetween okd.1
    simp only [edn] at d7
    cases d7
    walk_at "st"
    refine ⟨r, CR, dx, _, rfl, S.ins, R.cls, R.no _ (by decide +kernel), Nat.lt_of_le_of_lt S.len (by decide), ?_⟩
    replace SZ := S.kp "places" (V.int dn) _ _ SZ (by simp)
    replace TL := tl_mono (S.kp "places" (V.int dn)) TL
    replace TD := (TD.add RF.inj (f := .places) (v := (V.int dn)) (by decide) (by show Dp K _ _ b.disk; rw [edn]; exact .int _)).keep (S.kp "places" (V.int dn))
    replace S := S.put "places" (V.int dn) (by decide +kernel)
    walk_at "st"
    refine ⟨tl, txs, rfl, .inl (SqL.of TL.1), ?_⟩
    walk_at "st"
    refine q_get (S.parts hR hp hne) (by decide +kernel) (by decide +kernel) fun v8 H8 s8 d8 => ?_
    replace S := S.mono s8
    replace TD := TD.mono s8
    replace SZ := s8 _ _ SZ
    clear TL
    obtain ⟨gl, gxs, gds, rfl, ngl, egl, edg, hga⟩ := d8
    walk_at "st"
    refine ⟨gl, gxs, rfl, .inl (SqL.of egl), ?_⟩
    walk_at "st"
    refine ⟨r, CR, dx, _, _, rfl, S.ins, R.cls, R.no _ (by decide +kernel), by walk_at "lk", ?_⟩
    walk_at "st"
    refine ⟨p5, pxs, rfl, .inr (SqT.of SZ), ?_⟩
    walk_at "st"
    refine q_get (S.parts hR hp hne) (by decide +kernel) (by decide +kernel) fun v9 H9 s9 d9 => ?_
    replace S := S.mono s9
    replace TD := TD.mono s9
    clear SZ
    obtain ⟨kn, ekn, _⟩ := okBetween ok.locks
    simp only [ekn] at d9
    cases d9
    walk_at "st"
    refine ⟨r, CR, dx, _, _, rfl, S.ins, R.cls, R.no _ (by decide +kernel), by walk_at "lk", ?_⟩
    walk_at "st"
    refine ⟨_, _, _, _, _, rfl, fun c10 H10 s10 nc10 ec10 => ?_⟩
    replace S := S.mono s10
    replace TD := TD.mono s10
    walk_at "st"
    refine ⟨r, CR, dx, _, rfl, S.ins, R.cls, R.no _ (by decide +kernel), Nat.lt_of_le_of_lt S.len (by decide), ?_⟩
    replace TD := (TD.off (g := "counts") (v := (V.ref c10)) (by decide +kernel)).keep (S.kp "counts" (V.ref c10))
    have CT := S.counts (b := b) c10 (by rw [show cOf b = _ from (by unfold cOf; rw [ed, edg, edp, ekn, edn])]; show _ = some (HO.dK (countKV (cntOf tds.length gds.length pds.length kn dn))); rw [← ltx, ← hga.length, ← lpx]; exact ec10)
    replace S := S.put "counts" (V.ref c10) (by decide +kernel)
    walk_at "st"
    refine q_get (S.parts hR hp hne) (by decide +kernel) (by decide +kernel) fun v11 H11 s11 d11 => ?_
    replace S := S.mono s11
    replace TD := TD.mono s11
    replace CT := CT.mono s11
    walk_at "st"
    refine ⟨r, CR, dx, _, rfl, S.ins, R.cls, R.no _ (by decide +kernel), Nat.lt_of_le_of_lt S.len (by decide), ?_⟩
    replace TD := (TD.add RF.inj (f := .wipes) (v := v11) (by decide) (by exact d11)).keep (S.kp "wipes" v11)
    replace CT := (CT.put (g := "wipes") (v := v11) (by decide +kernel)).keep (S.kp "wipes" v11)
    replace S := S.put "wipes" v11 (by decide +kernel)
    walk_at "st"
    refine q_get (S.parts hR hp hne) (by decide +kernel) (by decide +kernel) fun v12 H12 s12 d12 => ?_
    replace S := S.mono s12
    replace TD := TD.mono s12
    replace CT := CT.mono s12
    walk_at "st"
    refine ⟨r, CR, dx, _, rfl, S.ins, R.cls, R.no _ (by decide +kernel), Nat.lt_of_le_of_lt S.len (by decide), ?_⟩
    replace TD := (TD.add RF.inj (f := .pads) (v := v12) (by decide) (by exact d12)).keep (S.kp "pads" v12)
    replace CT := (CT.put (g := "pads") (v := v12) (by decide +kernel)).keep (S.kp "pads" v12)
    replace S := S.put "pads" v12 (by decide +kernel)
    walk_at "st"
    refine q_get (S.parts hR hp hne) (by decide +kernel) (by decide +kernel) fun v13 H13 s13 d13 => ?_
    replace S := S.mono s13
    replace TD := TD.mono s13
    replace CT := CT.mono s13
    walk_at "st"
    refine ⟨r, CR, dx, _, rfl, S.ins, R.cls, R.no _ (by decide +kernel), Nat.lt_of_le_of_lt S.len (by decide), ?_⟩
    replace TD := (TD.add RF.inj (f := .lends) (v := v13) (by decide) (by exact d13)).keep (S.kp "lends" v13)
    replace CT := (CT.put (g := "lends") (v := v13) (by decide +kernel)).keep (S.kp "lends" v13)
    replace S := S.put "lends" v13 (by decide +kernel)
    walk_at "st"
    refine ⟨r, dx, _, rfl, S.ins, S.only _ (by decide +kernel), ?_⟩
    walk_at "st"
    refine q_get (S.parts hR hp hne) (by decide +kernel) (by decide +kernel) fun v14 H14 s14 d14 => ?_
    replace S := S.mono s14
    replace TD := TD.mono s14
    replace CT := CT.mono s14
    walk_at "st"
    obtain ⟨ca, cb, cc, ecs, _⟩ := okCostsL ok.costs
    simp only [ecs] at d14
    refine ⟨r, dx, _, v14, dn, ca, cb, cc, rfl, S.ins, S.only, Nat.le_trans S.len (by decide), by walk_at "lk", d14, fun fs15 H15 F15 l15a l15b l15c l15d => ?_⟩
    replace TD := Told.fill TD S.ins F15 (by decide +kernel)
    replace CT := CT.fill S.ins F15 (by decide +kernel)
    have e3 : cost3 b.costs = (ca, cb, cc) := by rw [ecs]; rfl
    have eg : greatOf b = ca + if dn - 1 > cb then dn - 1 else cb := by unfold greatOf; rw [e3, edn]; rfl
    replace TD := Told.new TD .plain l15a (by show Dp K _ _ (.int (cost3 b.costs).1); rw [e3]; exact .int _)
    replace TD := Told.new TD .miss l15b (by show Dp K _ _ (.int (cost3 b.costs).2.1); rw [e3]; exact .int _)
    replace TD := Told.new TD .switch l15c (by show Dp K _ _ (.int (cost3 b.costs).2.2); rw [e3]; exact .int _)
    replace TD := Told.new TD .greatest l15d (by show Dp K _ _ (.int (greatOf b)); rw [eg]; exact .int _)
    replace S := S.fill F15
    walk_at "st"
    refine ⟨r, dx, _, rfl, S.ins, S.only _ (by decide +kernel), ?_⟩
    walk_at "st"
    refine ⟨r, dx, _, p, b, rfl, S.ins, S.only, Nat.le_trans S.len (by decide), hne, S.parts hR hp hne, fun fs16 H16 i16 F16 e16 l16 => ?_⟩
    replace TD := Told.fill TD S.ins F16 (by decide +kernel)
    replace TD := Told.new TD .all_frames l16 (by show Dp K _ _ b.frames; rw [e16]; exact .int _)
    replace CT := CT.fill S.ins F16 (by decide +kernel)
    replace S := S.fill F16
    have k16 := F16.2.2.2.2
    walk_at "st"
    refine ⟨r, dx, _, rfl, S.ins, S.only _ (by decide +kernel), ?_⟩
    walk_at "st"
    refine q_get (S.parts hR hp hne) (by decide +kernel) (by decide +kernel) fun v17 H17 s17 d17 => ?_
    replace S := S.mono s17
    replace TD := TD.mono s17
    replace CT := CT.mono s17
    walk_at "st"
    refine ⟨r, dx, _, v17, cc, _, cOf b, b.plan, rfl, S.ins, S.only, Nat.le_trans S.len (by decide), by rw [k16 _ (by decide +kernel)]; exact l15c, by rw [k16 _ (by decide +kernel)]; exact l15d, d17, ok.plan, fun fs18 H18 ts ys F18 l18a l18b l18c ets prs lys => ?_⟩
    replace TD := Told.fill TD S.ins F18 (by decide +kernel)
    replace CT := CT.fill S.ins F18 (by decide +kernel)
    have et : ticksOfB b = planTicks cc (ca + if dn - 1 > cb then dn - 1 else cb) b.plan := by unfold ticksOfB; rw [e3, eg]
    have lyt := paired_len prs
    replace TD := Told.new TD .has_slots l18a (.bl _)
    replace TD := Told.new TD .span l18b (.int _)
    replace TD := Told.new TD .slots l18c (by show Dp K _ _ (.tuple ((ticksOfB b).map stickD)); rw [et]; exact .tup (SqT.of ets) (dpAll_rows prs))
    replace S := S.fill F18
    walk_at "st"
    refine ⟨r, dx, _, rfl, S.ins, S.only _ (by decide +kernel), ?_⟩
    walk_at "st"
    refine q_get (S.parts hR hp hne) (by decide +kernel) (by decide +kernel) fun v19 H19 s19 d19 => ?_
    replace S := S.mono s19
    replace TD := TD.mono s19
    replace CT := CT.mono s19
    walk_at "st"
    refine ⟨r, dx, _, v19, ts, ys, cOf b, b.outside, rfl, S.ins, S.only, Nat.le_trans S.len (by decide), l18c, s19 _ _ ets, lys, d19, ok.outside, fun fs20 H20 F20 l20a l20b l20c => ?_⟩
    replace TD := Told.fill TD S.ins F20 (by decide +kernel)
    replace CT := CT.fill S.ins F20 (by decide +kernel)
    replace TD := Told.new TD .letter_port l20a (by show Dp K _ _ (outD b.outside); rcases okOutsideL ok.outside with e | ⟨_, _, e, _⟩ <;> rw [e] <;> constructor)
    replace TD := Told.new TD .every l20b (.int _)
    replace TD := Told.new TD .period l20c (by show Dp K _ _ (.int (periodOf b)); unfold periodOf; rw [et, ← lyt]; exact .int _)
    replace S := S.fill F20
    exact q _ S.but ⟨dx, _, S.ins, S.only, TD, CT⟩))) only [↓Hk.hold_s]
end
end T
namespace T
section
variable {P : Program} {w : World} {K : PySem.W.Frag} {mg : Str → Option Value} {base : Heap} {C CR : Addr}
/-- all but instances and dicts is as it was -/
def KeepD (H H' : Hp) : Prop := ∀ b o, H b = some o → (∀ C dx fs, o ≠ .ins C dx fs) → (∀ kvs, o ≠ .dK kvs) → H' b = some o
theorem KeepD.sqL {H H' : Hp} {a : Addr} {xs : List V} (s : KeepD H H') (h : SqL K H a xs) : SqL K H' a xs := by
  rcases h with (h | ⟨o, h⟩) | h
  · exact .inl (.inl (s _ _ h (by simp) (by simp)))
  · exact .inl (.inr ⟨o, s _ _ h (by simp) (by simp)⟩)
  · exact .inr h
theorem KeepD.sqT {H H' : Hp} {a : Addr} {xs : List V} (s : KeepD H H') (h : SqT K H a xs) : SqT K H' a xs := by
  rcases h with (h | ⟨o, h⟩) | h
  · exact .inl (.inl (s _ _ h (by simp) (by simp)))
  · exact .inl (.inr ⟨o, s _ _ h (by simp) (by simp)⟩)
  · exact .inr h
mutual
theorem dpKeepD {H H' : Hp} (s : KeepD H H') : ∀ {v : V} {d : PyData}, Dp K H v d → Dp K H' v d
  | _, _, .non => .non
  | _, _, .bl b => .bl b
  | _, _, .int i => .int i
  | _, _, .str x => .str x
  | _, _, .lst h a => .lst (KeepD.sqL s h) (dpAllKeepD s a)
  | _, _, .tup h a => .tup (KeepD.sqT s h) (dpAllKeepD s a)
theorem dpAllKeepD {H H' : Hp} (s : KeepD H H') : ∀ {vs : List V} {ds : List PyData}, DpAll K H vs ds → DpAll K H' vs ds
  | _, _, .nil => .nil
  | _, _, .cons h t => .cons (dpKeepD s h) (dpAllKeepD s t)
end
theorem merge_app : ∀ (more acc : List (Key × V)), ((acc ++ more).map (·.1)).Nodup → mergeK acc more = acc ++ more
  | [], acc, _ => by simp [mergeK]
  | x :: r, acc, h => by
    have hx : valV acc x.1 = none := by
      unfold valV
      rw [Option.map_eq_none_iff, List.find?_eq_none]
      intro p hp
      have z : p.1 ≠ x.1 := by
        rw [List.map_append, List.nodup_append] at h
        exact h.2.2 _ (List.mem_map_of_mem hp) _ (by simp)
      simpa using z
    have e : mergeK acc (x :: r) = mergeK (putK acc x.1 x.2) r := rfl
    rw [e, putK_new x.2 hx, merge_app r _ (by simpa using h)]
    simp
theorem em11 (v1 v2 v3 v4 v5 v6 v7 v8 v9 v10 v11 : V) : mergeK [] [(Sum.inr "tasks", v1), (Sum.inr "pages", v2), (Sum.inr "ports", v3), (Sum.inr "locks", v4), (Sum.inr "frames", v5), (Sum.inr "disk", v6), (Sum.inr "rights", v7), (Sum.inr "lines", v8), (Sum.inr "costs", v9), (Sum.inr "plan", v10), (Sum.inr "outside", v11)] = ([(Sum.inr "tasks", v1), (Sum.inr "pages", v2), (Sum.inr "ports", v3), (Sum.inr "locks", v4), (Sum.inr "frames", v5), (Sum.inr "disk", v6), (Sum.inr "rights", v7), (Sum.inr "lines", v8), (Sum.inr "costs", v9), (Sum.inr "plan", v10), (Sum.inr "outside", v11)] : List (Key × V)) :=
  merge_app _ [] (by show ([Sum.inr "tasks", Sum.inr "pages", Sum.inr "ports", Sum.inr "locks", Sum.inr "frames", Sum.inr "disk", Sum.inr "rights", Sum.inr "lines", Sum.inr "costs", Sum.inr "plan", Sum.inr "outside"] : List Key).Nodup; decide +kernel)
theorem em15 (v1 v2 v3 v4 v5 v6 v7 v8 v9 v10 v11 u1 u2 u3 u4 : V) : mergeK [(Sum.inr "tasks", v1), (Sum.inr "pages", v2), (Sum.inr "ports", v3), (Sum.inr "locks", v4), (Sum.inr "frames", v5), (Sum.inr "disk", v6), (Sum.inr "rights", v7), (Sum.inr "lines", v8), (Sum.inr "costs", v9), (Sum.inr "plan", v10), (Sum.inr "outside", v11)] [(Sum.inr "wipe", u1), (Sum.inr "pad", u2), (Sum.inr "lend", u3), (Sum.inr "share", u4)] = ([(Sum.inr "tasks", v1), (Sum.inr "pages", v2), (Sum.inr "ports", v3), (Sum.inr "locks", v4), (Sum.inr "frames", v5), (Sum.inr "disk", v6), (Sum.inr "rights", v7), (Sum.inr "lines", v8), (Sum.inr "costs", v9), (Sum.inr "plan", v10), (Sum.inr "outside", v11), (Sum.inr "wipe", u1), (Sum.inr "pad", u2), (Sum.inr "lend", u3), (Sum.inr "share", u4)] : List (Key × V)) :=
  merge_app _ _ (by show ([Sum.inr "tasks", Sum.inr "pages", Sum.inr "ports", Sum.inr "locks", Sum.inr "frames", Sum.inr "disk", Sum.inr "rights", Sum.inr "lines", Sum.inr "costs", Sum.inr "plan", Sum.inr "outside", Sum.inr "wipe", Sum.inr "pad", Sum.inr "lend", Sum.inr "share"] : List Key).Nodup; decide +kernel)
abbrev rTupOf (K : PySem.W.Frag) : List V → Hp → VK → Prop := fun xs H Q => ∃ p ys, xs = [V.ref p] ∧ ((SqL K H p ys ∧ ∀ l, H l = none → Q (.ref l) (upd H l (.tup ys))) ∨ SqT K H p ys ∧ Q (.ref p) H)
/-- a build with its rules -/
def BuildAt (K : PySem.W.Frag) (C CR : Addr) (H : Hp) (p : Addr) (b : BD) : Prop := PartsAt K C H p b ∧ ∃ dx fs r, H p = some (.ins C dx fs) ∧ fs.lookup ("rules" : Str) = some (.ref r) ∧ RulesAt K CR H r b
theorem BuildAt.mono {H H' : Hp} {p : Addr} {b : BD} (h : BuildAt K C CR H p b) (s : Same H H') : BuildAt K C CR H' p b := by
  obtain ⟨h1, dx, fs, r, e1, e2, h2⟩ := h
  exact ⟨h1.mono s, dx, fs, r, s _ _ e1, e2, h2.mono s⟩
theorem BuildAt.but {H H' : Hp} {p k C' dx' : Addr} {fs' : List (Str × V)} {b : BD} (h : BuildAt K C CR H p b) (e : H k = some (.ins C' dx' fs')) (s : But k H H') (n1 : p ≠ k) (n2 : C' ≠ CR) : BuildAt K C CR H' p b := by
  obtain ⟨⟨ok, dx2, fs2, q, kvs, e1, e2, e3, e4, e5⟩, dx, fs, r, f1, f2, h2⟩ := h
  have kk := But.keep e s
  refine ⟨⟨ok, dx2, fs2, q, kvs, s _ _ e1 n1, e2, kk _ _ e3 (by simp), Paired.mapP e4 fun a b r => ⟨r.1, dpKeep kk r.2⟩, e5⟩, dx, fs, r, s _ _ f1 n1, f2, h2.but e s fun z => ?_⟩
  subst z
  obtain ⟨dx3, fs3, g, _⟩ := h2
  rw [e] at g
  cases g
  exact n2 rfl
def spBuild (K : PySem.W.Frag) (C CR : Addr) : Sp := fun vs H Q _ => ∃ (p dx : Addr) (x1 x2 x3 x4 x5 x6 x7 x8 x9 x10 x11 x12 x13 x14 x15 : V) (b : BD), vs = [.ref p, x1, x2, x3, x4, x5, x6, x7, x8, x9, x10, x11, x12, x13, x14, x15] ∧ H p = some (.ins C dx []) ∧ BOk b ∧
  Dp K H x1 b.tasks ∧ Dp K H x2 b.pages ∧ Dp K H x3 b.ports ∧ Dp K H x4 b.locks ∧ Dp K H x5 b.frames ∧ Dp K H x6 b.disk ∧ Dp K H x7 b.rights ∧ Dp K H x8 b.lines ∧ Dp K H x9 b.costs ∧ Dp K H x10 b.plan ∧ Dp K H x11 b.outside ∧
  Dp K H x12 b.wipe ∧ Dp K H x13 b.pad ∧ Dp K H x14 b.lend ∧ Dp K H x15 b.share ∧ ∀ H', But p H H' → BuildAt K C CR H' p b → Q .non H'
theorem tup_fact {H : Hp} {a : Addr} {ds : List PyData} (hd : Dp K H (.ref a) (.list ds)) : ∃ xs, SqL K H a xs ∧ ∀ l, H l = none → Dp K (upd H l (.tup xs)) (.ref l) (.tuple ds) := by
  cases hd with
  | @lst a xs _ hs ha => exact ⟨xs, hs, fun l nl => .tup (SqT.of upd_same) (L2.DpAll.mono (same_new nl) ha)⟩
theorem okRightsL {c : Cnt} {d : PyData} (h : okRights c d = true) : ∃ rs, d = .list rs ∧ (rs.length : Int) = cnt c "task" ∧ ∀ r ∈ rs, ∃ l, r = .list l := by
  unfold okRights at h
  rw [Bool.and_eq_true] at h
  obtain ⟨rs, rfl, h0, h1⟩ := dListOf_list h.1
  refine ⟨rs, rfl, by omega, fun r hr => ?_⟩
  have z := List.all_eq_true.mp h.2 r hr
  unfold okRow at z
  rw [Bool.and_eq_true] at z
  obtain ⟨l, rfl, _⟩ := dListOf_list z.1
  exact ⟨l, rfl⟩
theorem thingsV_ok {b : BD} (ok : BOk b) : thingsV b.tasks b.pages b.ports b.locks b.frames b.disk = .non := by
  unfold thingsV
  rw [ok.tasks, ok.pages, ok.ports, ok.locks, ok.frames, ok.disk]; rfl
theorem waysV_ok {b : BD} (ok : BOk b) : waysV (cOf b) b.rights b.lines b.costs b.plan b.outside = .non := by
  unfold waysV
  rw [ok.rights, ok.lines, ok.costs, ok.plan, ok.outside]; rfl
theorem build_end (T : BCls K C) {p dx pq : Addr} {σ : L2.St} {H HF : Hp} {kvs : List (Key × V)} {Q : VK} {b : BD} (ok : BOk b) (hp : H p = some (.ins C dx [])) (hq : HF pq = some (.dK kvs)) (hk : Paired (fun p q => p.1 = Sum.inr q.1 ∧ Dp K HF p.2 q.2) kvs b.parts) (s : Same H HF)
    (q : ∀ H', But p H H' → BuildAt K C CR H' p b → Q .non H') (s0 : σ[0]? = some (some (.ref p))) :
    ∃ a C_1 dx fs, V.ref p = V.ref a ∧ HF a = some (.ins C_1 dx fs) ∧ Cls K C_1 ∧ NoAttr K C_1 "_parts" ∧ fs.length < 1000 ∧ sFld K (tVar 0) (tMake CR (spRules K C CR) [] E0 (tCons (tVar 0) tNil)) "rules" { nx := fun x H' => Q .non H', rt := Q } σ (upd HF a (.ins C_1 dx (putF "_parts" (.ref pq) fs))) := by
 refine Hk.hold ?_
 simp (disch := with_unfolding_all (
 exact Hk.disch (by
  have hpF := s _ _ hp
  have npq : pq ≠ p := ne_of hq hpF (by simp)
  refine ⟨p, C, dx, [], rfl, hpF, T.cls, T.n_parts, by simp, ?_⟩
  have k1 : Keep HF (upd HF p (.ins C dx (putF "_parts" (.ref pq) []))) := But.keep hpF But.put
  refine ⟨_, s0, ?_⟩
  intro x dxn nx ndx nex
  have m2 : Same (upd HF p (.ins C dx (putF "_parts" (.ref pq) []))) (upd (upd (upd HF p (.ins C dx (putF "_parts" (.ref pq) []))) dxn (.own x)) x (.ins CR dxn [])) := (same_new ndx).trans (same_new (by rw [upd_ne (Ne.symm nex)]; exact nx))
  have npx : p ≠ x := fun z => by subst z; rw [upd_same] at nx; cases nx
  have nHx : H x = none := s.free (by rw [upd_ne (Ne.symm npx)] at nx; exact nx)
  have at1 : PartsAt K C (upd HF p (.ins C dx (putF "_parts" (.ref pq) []))) p b :=
    ⟨ok, dx, _, pq, kvs, upd_same, put_same _ _ _, k1 _ _ hq (by simp), Paired.mapP hk fun a b r => ⟨r.1, dpKeep k1 r.2⟩, fun m h1 _ => by rw [put_ne _ _ h1]; rfl⟩
  refine ⟨x, dxn, p, b, rfl, upd_same, npx, at1.mono m2, fun H3 bt er => ⟨rfl, ?_⟩⟩
  have hp3 := bt _ _ (m2 _ _ upd_same) npx
  refine ⟨_, s0, p, C, dx, _, rfl, hp3, T.cls, T.n_rules, by have := length_putF "_parts" (V.ref pq) []; simp at this; omega, ?_⟩
  have k2 := Keep.trans k1 (Keep.trans (same_keep m2) (Keep.trans (But.keep (upd_same : upd _ x _ x = _) bt) (But.keep hp3 (But.put (o := .ins C dx (putF "rules" (.ref x) (putF "_parts" (.ref pq) [])))))))
  show Q .non _
  have LK : (putF "rules" (V.ref x) (putF "_parts" (V.ref pq) [])).lookup ("_parts" : Str) = some (V.ref pq) := by rw [put_ne _ _ (by decide +kernel)]; exact put_same _ _ _
  refine q _ (fun a o ha na => ?_) ⟨⟨ok, dx, _, pq, kvs, upd_same, LK, k2 _ _ hq (by simp), Paired.mapP hk fun a b r => ⟨r.1, dpKeep k2 r.2⟩, fun m h1 h2 => by rw [put_ne _ _ h2, put_ne _ _ h1]; rfl⟩, dx, _, x, upd_same, put_same _ _ _, er.but hp3 But.put (Ne.symm npx)⟩
  rw [upd_ne na]
  exact bt _ _ (m2 _ _ (by rw [upd_ne na]; exact s _ _ ha)) (ne_of_none ha nHx)))) only [↓Hk.hold_s]
theorem ok_Build (B : Bl mg) (T : BCls K C) (c_counted : Cal P w K mg base 1 "counted" ["tasks", "pages", "ports", "locks", "disk"] spCounted)
    (c_things_fault : Cal P w K mg base 4 "things_fault" ["tasks", "pages", "ports", "locks", "frames", "disk"] (spThings K))
    (c_ways_fault : Cal P w K mg base 9 "ways_fault" ["counts", "rights", "lines", "costs", "plan", "outside"] (spWays K))
    (c_flags_fault : Cal P w K mg base 1 "flags_fault" ["flags"] (spFlags K))
    (c_Rules : MkCal P w K mg base 3 CR "Rules" ["self", "build"] (spRules K C CR)) :
    ∀ f fd, Fun K "__init__" "Build.__init__" s_Build___init__ f fd → FnOk P w K mg base CX0 10 f fd ["self", "tasks", "pages", "ports", "locks", "frames", "disk", "rights", "lines", "costs", "plan", "outside", "wipe", "pad", "lend", "share"] (spBuild K C CR) := by
 refine Hk.hold ?_
 simp (disch := with_unfolding_all (
 exact Hk.disch (fun f fd F => by
  refine F.ok sc_Build___init__ (fun vs H Q E h => ?_) (fun cdv A outer s H vs Q E hr h => ?_)
  · obtain ⟨p, dx, x1, x2, x3, x4, x5, x6, x7, x8, x9, x10, x11, x12, x13, x14, x15, b, rfl, _⟩ := h; rfl
  · obtain ⟨p, dx, x1, x2, x3, x4, x5, x6, x7, x8, x9, x10, x11, x12, x13, x14, x15, b, rfl, hP, ok, D1, D2, D3, D4, D5, D6, D7, D8, D9, D10, D11, D12, D13, D14, D15, q⟩ := h
    refine ⟨_, (pss_cons (ps_set (i := 16) sc_Build___init__.nd rfl (Or.inl rfl) (pe_cal c_things_fault (hr.mono (by omega)) rfl (pa_cons (pv 1) (pa_cons (pv 2) (pa_cons (pv 3) (pa_cons (pv 4) (pa_cons (pv 5) (pa_cons (pv 6) pa_nil))))))))
      (pss_cons (ps_if (pt_cmp (pc_notN (pv 16))) (pss_one ps_never) pss_nil)
      (pss_cons (ps_set (i := 17) sc_Build___init__.nd rfl (Or.inl rfl) (pe_cal c_counted (hr.mono (by omega)) rfl (pa_cons (pe_callB call_len_seq rfl B.len hb_len (pa_cons (pv 1) pa_nil)) (pa_cons (pe_callB call_len_seq rfl B.len hb_len (pa_cons (pv 2) pa_nil)) (pa_cons (pe_callB call_len_seq rfl B.len hb_len (pa_cons (pv 3) pa_nil)) (pa_cons (pv 4) (pa_cons (pv 6) pa_nil)))))))
      (pss_cons (ps_set (i := 16) sc_Build___init__.nd rfl (Or.inl rfl) (pe_cal c_ways_fault (hr.mono (by omega)) rfl (pa_cons (pv 17) (pa_cons (pv 7) (pa_cons (pv 8) (pa_cons (pv 9) (pa_cons (pv 10) (pa_cons (pv 11) pa_nil))))))))
      (pss_cons (ps_if (pt_cmp (pc_notN (pv 16))) (pss_one ps_never) pss_nil)
      (pss_cons (ps_set (i := 18) sc_Build___init__.nd rfl (Or.inl rfl) (pe_disp (pps_cons pe_str (pv 12) (pps_cons pe_str (pv 13) (pps_cons pe_str (pv 14) (pps_cons pe_str (pv 15) pps_nil)))) rfl rfl (by simp) (by decide)))
      (pss_cons (ps_set (i := 16) sc_Build___init__.nd rfl (Or.inl rfl) (pe_cal c_flags_fault (hr.mono (by omega)) rfl (pa_cons (pv 18) pa_nil)))
      (pss_cons (ps_if (pt_cmp (pc_notN (pv 16))) (pss_one ps_never) pss_nil)
      (pss_cons (ps_fld (pv 0) (pe_dispS (d0 := .Constant .none 0 ⟨0, 0, 0, 0⟩) (pps_cons pe_str (pe_callTy call_tuple_of rfl B.tuple_ hb_tuple (pa_cons (pv 1) pa_nil)) (pps_cons pe_str (pe_callTy call_tuple_of rfl B.tuple_ hb_tuple (pa_cons (pv 2) pa_nil)) (pps_cons pe_str (pe_callTy call_tuple_of rfl B.tuple_ hb_tuple (pa_cons (pv 3) pa_nil)) (pps_cons pe_str (pv 4) (pps_cons pe_str (pv 5) (pps_cons pe_str (pv 6) (pps_cons pe_str (pe_callTy call_tuple_of rfl B.tuple_ hb_tuple (pa_cons (pe_lc (own := [("row", 19)]) (tt := tYes) rfl sc_Build___init__.nd (pi_list (pv 7)) (blkOk_by (N := ["self", "tasks", "pages", "ports", "locks", "frames", "disk", "rights", "lines", "costs", "plan", "outside", "wipe", "pad", "lend", "share", "part", "counts", "flags", "row"]) (sc := defScope s_Build___init__) (by decide +kernel)) (fun _ _ _ _ _ => (pg_name (i := 19) sc_Build___init__.nd rfl (Or.inl rfl))) (fun _ _ _ _ _ => pts_nil) (fun _ _ _ _ _ => (pe_callTy (show CallR _ _ (rTupOf K) from call_tuple_of) rfl B.tuple_ hb_tuple (pa_cons (pv 19) pa_nil)))) pa_nil)) (pps_cons pe_str (pe_callTy call_tuple_of rfl B.tuple_ hb_tuple (pa_cons (pv 8) pa_nil)) (pps_cons pe_str (pv 9) (pps_cons pe_str (pe_tup (pa_cons (pe_ix ix_tup (pv 10) pe_int (fun _ _ => rfl)) (pa_cons (pe_ifExp (pt_cmpR op_eq (pe_ix ix_tup (pv 10) pe_int (fun _ _ => rfl)) pe_str (nomark _)) (pe_callTy call_tuple_of rfl B.tuple_ hb_tuple (pa_cons (pe_ix ix_tup (pv 10) pe_int (fun _ _ => rfl)) pa_nil)) (pe_ix ix_tup (pv 10) pe_int (fun _ _ => rfl))) pa_nil))) (pps_cons pe_str (pv 11) pps_nil))))))))))) (pv 18)) rfl)
      (pss_one (ps_fld (pv 0) (pe_mk c_Rules (hr.mono (by omega)) rfl (pa_cons (pv 0) pa_nil)) rfl))))))))))), ?_⟩
    walk_at "st0"
    refine ⟨x1, x2, x3, x4, x5, x6, b.tasks, b.pages, b.ports, b.locks, b.frames, b.disk, rfl, D1, D2, D3, D4, D5, D6, fun H1 s1 => ?_⟩
    rw [thingsV_ok ok]
    walk_at "st"
    refine iteF ?_
    walk_at "st"
    obtain ⟨tds, et, t2, t4, tall⟩ := okTasksL ok.tasks
    obtain ⟨pds, ep, p3, pall⟩ := okList ok.pages
    obtain ⟨qds, eq, q2, qall⟩ := okList ok.ports
    obtain ⟨kn, ek, k0, k2⟩ := okBetween ok.locks
    have okd := ok.disk
    unfold okDisk at okd
    rw [Bool.and_eq_true] at okd
    obtain ⟨dn, ed, d0, d4⟩ := okBetween okd.1
    have ec : cOf b = cntOf tds.length pds.length qds.length kn dn := by unfold cOf; rw [et, ep, eq, ek, ed]
    have sm : cntSmall (cOf b) := by
      rw [ec]
      exact ⟨⟨_, _, _, _, _, rfl⟩, by show (tds.length : Int) ≤ 100; omega, by show (pds.length : Int) ≤ 100; omega⟩
    have E1 := L2.Dp.mono s1 D1
    have E2 := L2.Dp.mono s1 D2
    have E3 := L2.Dp.mono s1 D3
    have E4 := D4
    have E6 := D6
    rw [et] at E1; rw [ep] at E2; rw [eq] at E3; rw [ek] at E4; rw [ed] at E6
    cases E4
    cases E6
    cases E1 with
    | @lst a1 xs1 _ hs1 ha1 =>
    cases E2 with
    | @lst a2 xs2 _ hs2 ha2 =>
    cases E3 with
    | @lst a3 xs3 _ hs3 ha3 =>
    refine ⟨a1, xs1, rfl, .inl hs1, ?_⟩
    walk_at "st"
    refine ⟨a2, xs2, rfl, .inl hs2, ?_⟩
    walk_at "st"
    refine ⟨a3, xs3, rfl, .inl hs3, ?_⟩
    walk_at "st"
    refine ⟨_, _, _, _, _, rfl, fun c2 H2 s2 nc2 ec2 => ?_⟩
    replace s2 := s1.trans s2
    rw [ha1.length, ha2.length, ha3.length, ← ec] at ec2
    walk_at "st"
    refine ⟨c2, cOf b, x7, x8, x9, x10, x11, b.rights, b.lines, b.costs, b.plan, b.outside, rfl, ec2, sm, L2.Dp.mono s2 D7, L2.Dp.mono s2 D8, L2.Dp.mono s2 D9, L2.Dp.mono s2 D10, L2.Dp.mono s2 D11, ?_, fun H3 s3 => ?_⟩
    · obtain ⟨z, e, ez, _⟩ := okPlanL ok.plan
      intro e0 e1 h
      rw [ez] at h
      cases h
      exact ⟨z, rfl⟩
    replace s3 := s2.trans s3
    rw [waysV_ok ok]
    walk_at "st"
    refine iteF ?_
    walk_at "st"
    intro c4 nc4
    unfold tPairs; walk_at "st"; unfold tPairs; walk_at "st"; unfold tPairs; walk_at "st"; unfold tPairs; walk_at "st"
    unfold tPairs
    refine ⟨upd_same, [(Sum.inr "wipe", x12), (Sum.inr "pad", x13), (Sum.inr "lend", x14), (Sum.inr "share", x15)], rfl, by simp, ?_⟩
    have s4 : Same H (upd (upd H3 c4 (.dK [])) c4 (.dK (mergeK [] [(Sum.inr "wipe", x12), (Sum.inr "pad", x13), (Sum.inr "lend", x14), (Sum.inr "share", x15)]))) := fun b o e => by
      have hb := ne_of_none (s3 _ _ e) nc4
      rw [upd_ne hb, upd_ne hb]; exact s3 _ _ e
    have em : mergeK [] [(Sum.inr "wipe", x12), (Sum.inr "pad", x13), (Sum.inr "lend", x14), (Sum.inr "share", x15)] = ([(Sum.inr "wipe", x12), (Sum.inr "pad", x13), (Sum.inr "lend", x14), (Sum.inr "share", x15)] : List (Key × V)) := rfl
    rw [em] at s4 ⊢
    walk_at "st"
    refine ⟨c4, _, [("wipe", b.wipe), ("pad", b.pad), ("lend", b.lend), ("share", b.share)], rfl, upd_same, .cons ⟨rfl, L2.Dp.mono s4 D12⟩ (.cons ⟨rfl, L2.Dp.mono s4 D13⟩ (.cons ⟨rfl, L2.Dp.mono s4 D14⟩ (.cons ⟨rfl, L2.Dp.mono s4 D15⟩ .nil))), fun H5 s5 => ?_⟩
    have ef : flagsV [("wipe", b.wipe), ("pad", b.pad), ("lend", b.lend), ("share", b.share)] = .non := by
      unfold flagsV
      simp [List.find?, ok.wipe, ok.pad, ok.lend, ok.share]
    rw [ef]
    have ec5 := s5 _ _ (upd_same : upd _ c4 _ c4 = _)
    replace s5 := s4.trans s5
    walk_at "st"
    refine iteF ?_
    walk_at "st"
    intro pq nq
    have s6 : Same H (upd H5 pq (.dK [])) := s5.trans (same_new nq)
    have e6 : upd H5 pq (.dK []) pq = some (.dK []) := upd_same
    have ec6 := same_new (o := .dK []) nq _ _ ec5
    unfold tPairs
    walk_at "st"
    have G1 := L2.Dp.mono s6 D1
    rw [et] at G1
    obtain ⟨ys1, hys1, T1⟩ := tup_fact G1
    refine ⟨a1, ys1, rfl, .inl ⟨hys1, fun l1 n1 => ?_⟩⟩
    replace T1 := T1 l1 n1
    have m1 := same_new (o := .tup ys1) n1
    replace s6 := s6.trans m1
    replace e6 := m1 _ _ e6
    replace ec6 := m1 _ _ ec6
    unfold tPairs
    walk_at "st"
    have G2 := L2.Dp.mono s6 D2
    rw [ep] at G2
    obtain ⟨ys2, hys2, T2⟩ := tup_fact G2
    refine ⟨a2, ys2, rfl, .inl ⟨hys2, fun l2 n2 => ?_⟩⟩
    replace T2 := T2 l2 n2
    have m2 := same_new (o := .tup ys2) n2
    replace s6 := s6.trans m2
    replace e6 := m2 _ _ e6
    replace ec6 := m2 _ _ ec6
    replace T1 := L2.Dp.mono m2 T1
    unfold tPairs
    walk_at "st"
    have G3 := L2.Dp.mono s6 D3
    rw [eq] at G3
    obtain ⟨ys3, hys3, T3⟩ := tup_fact G3
    refine ⟨a3, ys3, rfl, .inl ⟨hys3, fun l3 n3 => ?_⟩⟩
    replace T3 := T3 l3 n3
    have m3 := same_new (o := .tup ys3) n3
    replace s6 := s6.trans m3
    replace e6 := m3 _ _ e6
    replace ec6 := m3 _ _ ec6
    replace T1 := L2.Dp.mono m3 T1
    replace T2 := L2.Dp.mono m3 T2
    unfold tPairs; walk_at "st"; unfold tPairs; walk_at "st"; unfold tPairs; walk_at "st"; unfold tPairs; walk_at "st"
    obtain ⟨rds, er, rl, rall⟩ := okRightsL ok.rights
    have rl8 : rds.length ≤ 4 := by
      rw [ec] at rl
      have z : cnt (cntOf tds.length pds.length qds.length kn dn) "task" = tds.length := rfl
      omega
    have G7 := L2.Dp.mono s6 D7
    rw [er] at G7
    cases G7 with
    | @lst a7 xs7 _ hs7 ha7 =>
    have l7 := ha7.length
    generalize upd (upd (upd (upd H5 pq (.dK [])) l1 (.tup ys1)) l2 (.tup ys2)) l3 (.tup ys3) = HX at *
    refine ⟨_, rfl, a7, rfl, ⟨xs7, hs7⟩, fun D nD => lc_rel walk_list (fun i y Hh => ∃ (t : Addr) (xs : List V) (l : List PyData), y = .ref t ∧ Hh t = some (.tup xs) ∧ rds[i]? = some (.list l) ∧ DpAll K HX xs l) nD (sz1000 (by omega)) (fun H2 s => s.seq hs7) yat_same ?_ ?_ ?_⟩
    · rintro i y Ha Hb acc e bt ⟨t, xs, l, rfl, h1, h2, h3⟩
      exact ⟨t, xs, l, rfl, bt _ _ h1 (fun z => by subst z; rw [h1] at e; cases e), h2, h3⟩
    · rintro i x H' H2 lt s y Q' k
      obtain ⟨rfl, e⟩ := y
      obtain ⟨d, e2, hd2⟩ := ha7.get' e
      obtain ⟨l, rfl⟩ := rall d (List.mem_of_getElem? e2)
      cases hd2 with
      | @lst a xs _ hs ha =>
      refine q_gname ?_
      refine ⟨rfl, ?_⟩
      walk_at "st"
      exact ⟨a, xs, rfl, .inl ⟨s.seq hs, fun l2 nl => k _ _ (same_new nl) ⟨l2, xs, l, rfl, upd_same, e2, ha⟩⟩⟩
    intro ys7 H8 s8 e8 l8 r8
    refine ⟨D, ys7, rfl, .inl ⟨SqL.of e8, fun l77 n7 => ?_⟩⟩
    have m7 := s8.trans (same_new (o := .tup ys7) n7)
    have T7 : Dp K (upd H8 l77 (.tup ys7)) (.ref l77) (.tuple (rds.map tupOf)) := by
      refine .tup (SqT.of upd_same) (dpAll_of (by rw [List.length_map]; omega) fun i x d ex ed2 => ?_)
      obtain ⟨t, xs, l, rfl, h1, h2, h3⟩ := r8 i x ex
      rw [List.getElem?_map, h2] at ed2
      cases ed2
      exact .tup (SqT.of (same_new n7 _ _ h1)) (L2.DpAll.mono m7 h3)
    replace s6 := s6.trans m7
    replace e6 := m7 _ _ e6
    replace ec6 := m7 _ _ ec6
    replace T1 := L2.Dp.mono m7 T1
    replace T2 := L2.Dp.mono m7 T2
    replace T3 := L2.Dp.mono m7 T3
    generalize upd H8 l77 (.tup ys7) = HY at *
    unfold tPairs
    walk_at "st"
    obtain ⟨lds, el, _⟩ := okLinesL ok.lines
    have G8 := L2.Dp.mono s6 D8
    rw [el] at G8
    cases G8 with
    | @lst a8 xs8 _ hs8 ha8 =>
    refine ⟨a8, xs8, rfl, .inl ⟨hs8, fun l88 n8 => ?_⟩⟩
    have m8 := same_new (o := .tup xs8) n8
    have T8 : Dp K (upd HY l88 (.tup xs8)) (.ref l88) (.tuple lds) := .tup (SqT.of upd_same) (L2.DpAll.mono m8 ha8)
    replace s6 := s6.trans m8
    replace e6 := m8 _ _ e6
    replace ec6 := m8 _ _ ec6
    replace T1 := L2.Dp.mono m8 T1
    replace T2 := L2.Dp.mono m8 T2
    replace T3 := L2.Dp.mono m8 T3
    replace T7 := L2.Dp.mono m8 T7
    generalize upd HY l88 (.tup xs8) = HZ at *
    unfold tPairs; walk_at "st"; unfold tPairs; walk_at "st"
    obtain ⟨z, e, epl, hz⟩ := okPlanL ok.plan
    have G10 := L2.Dp.mono s6 D10
    rw [epl] at G10
    cases G10 with
    | @tup a10 xs10 _ hs10 ha10 =>
    cases ha10 with
    | @cons y0 r0 _ _ b0 ha10 => cases ha10 with
      | @cons y1 r1 _ _ b1 ha10 =>
        cases ha10
        cases b0
        refine q_ixT hs10 (atI0 rfl) ?_
        walk_at "st"
        refine q_ixT hs10 (atI0 rfl) ?_
        walk_at "st"
        refine q_eq rfl ?_
        rcases hz with ⟨rfl, i, rfl, _⟩ | ⟨rfl, hz⟩
        · rw [decide_eq_false (fun q => slots_ne (V.str.inj q))]
          walk_at "st"
          refine iteF ?_
          walk_at "st"
          refine q_ixT hs10 (atI1 rfl) ?_
          walk_at "st"
          refine ⟨by show 2 ≤ sizeLine; decide, fun l99 n9 => ?_⟩
          have m9 := same_new (o := .tup [.str "levels", y1]) n9
          have T10 : Dp K (upd HZ l99 (.tup [.str "levels", y1])) (.ref l99) (planT b.plan) := by
            rw [epl]
            simp only [planT]
            rw [if_neg slots_ne]
            exact .tup (SqT.of upd_same) (.cons (.str _) (.cons (L2.Dp.mono m9 b1) .nil))
          replace s6 := s6.trans m9
          replace e6 := m9 _ _ e6
          replace ec6 := m9 _ _ ec6
          replace T1 := L2.Dp.mono m9 T1
          replace T2 := L2.Dp.mono m9 T2
          replace T3 := L2.Dp.mono m9 T3
          replace T7 := L2.Dp.mono m9 T7
          replace T8 := L2.Dp.mono m9 T8
          generalize upd HZ l99 (.tup [.str "levels", y1]) = HV at *
          unfold tPairs; walk_at "st"
          unfold tPairs
          refine ⟨e6, [(Sum.inr "tasks", .ref l1), (Sum.inr "pages", .ref l2), (Sum.inr "ports", .ref l3), (Sum.inr "locks", .int kn), (Sum.inr "frames", x5), (Sum.inr "disk", .int dn), (Sum.inr "rights", .ref l77), (Sum.inr "lines", .ref l88), (Sum.inr "costs", x9), (Sum.inr "plan", .ref l99), (Sum.inr "outside", x11)], rfl, by simp, ?_⟩
          rw [em11]
          walk_at "st"
          have nc : c4 ≠ pq := ne_of_none ec5 nq
          refine ⟨c4, [(Sum.inr "wipe", x12), (Sum.inr "pad", x13), (Sum.inr "lend", x14), (Sum.inr "share", x15)], rfl, nc, .inl (by rw [upd_ne nc]; exact ec6), upd_same, by simp, by simp, ?_⟩
          rw [em15]
          walk_at "st"
          have k4 : KeepD HV (upd (upd HV pq (.dK [(Sum.inr "tasks", .ref l1), (Sum.inr "pages", .ref l2), (Sum.inr "ports", .ref l3), (Sum.inr "locks", .int kn), (Sum.inr "frames", x5), (Sum.inr "disk", .int dn), (Sum.inr "rights", .ref l77), (Sum.inr "lines", .ref l88), (Sum.inr "costs", x9), (Sum.inr "plan", .ref l99), (Sum.inr "outside", x11)])) pq (.dK [(Sum.inr "tasks", .ref l1), (Sum.inr "pages", .ref l2), (Sum.inr "ports", .ref l3), (Sum.inr "locks", .int kn), (Sum.inr "frames", x5), (Sum.inr "disk", .int dn), (Sum.inr "rights", .ref l77), (Sum.inr "lines", .ref l88), (Sum.inr "costs", x9), (Sum.inr "plan", .ref l99), (Sum.inr "outside", x11), (Sum.inr "wipe", x12), (Sum.inr "pad", x13), (Sum.inr "lend", x14), (Sum.inr "share", x15)])) := fun a o ha _ nd => by
            have na : a ≠ pq := fun z => by subst z; rw [e6] at ha; cases ha; exact nd _ rfl
            rw [upd_ne na, upd_ne na]; exact ha
          have nqH : H pq = none := (s5.free nq)
          refine build_end T ok hP upd_same ?_ (fun a o ha => ?_) q rfl
          · refine .cons ⟨rfl, ?_⟩ (.cons ⟨rfl, ?_⟩ (.cons ⟨rfl, ?_⟩ (.cons ⟨rfl, ?_⟩ (.cons ⟨rfl, ?_⟩ (.cons ⟨rfl, ?_⟩ (.cons ⟨rfl, ?_⟩ (.cons ⟨rfl, ?_⟩ (.cons ⟨rfl, ?_⟩ (.cons ⟨rfl, ?_⟩ (.cons ⟨rfl, ?_⟩ (.cons ⟨rfl, ?_⟩ (.cons ⟨rfl, ?_⟩ (.cons ⟨rfl, ?_⟩ (.cons ⟨rfl, ?_⟩ .nil))))))))))))))
            · show Dp K _ (.ref l1) (tupOf b.tasks); rw [et]; exact dpKeepD k4 T1
            · show Dp K _ (.ref l2) (tupOf b.pages); rw [ep]; exact dpKeepD k4 T2
            · show Dp K _ (.ref l3) (tupOf b.ports); rw [eq]; exact dpKeepD k4 T3
            · exact dpKeepD k4 (L2.Dp.mono s6 D4)
            · exact dpKeepD k4 (L2.Dp.mono s6 D5)
            · exact dpKeepD k4 (L2.Dp.mono s6 D6)
            · show Dp K _ (.ref l77) (rowsT b.rights); rw [er]; exact dpKeepD k4 T7
            · show Dp K _ (.ref l88) (tupOf b.lines); rw [el]; exact dpKeepD k4 T8
            · exact dpKeepD k4 (L2.Dp.mono s6 D9)
            · exact dpKeepD k4 T10
            · exact dpKeepD k4 (L2.Dp.mono s6 D11)
            · exact dpKeepD k4 (L2.Dp.mono s6 D12)
            · exact dpKeepD k4 (L2.Dp.mono s6 D13)
            · exact dpKeepD k4 (L2.Dp.mono s6 D14)
            · exact dpKeepD k4 (L2.Dp.mono s6 D15)
          · have na := ne_of_none ha nqH
            rw [upd_ne na, upd_ne na]; exact s6 _ _ ha
        · rw [decide_eq_true rfl]
          walk_at "st"
          refine iteT ?_
          obtain ⟨srs, rfl, _⟩ := okSlotsL hz
          cases b1 with
          | @lst a98 xs98 _ hs98 ha98 =>
          walk_at "st"
          refine q_ixT hs10 (atI1 rfl) ?_
          walk_at "st"
          refine ⟨a98, xs98, rfl, .inl ⟨hs98, fun l98 n98 => ?_⟩⟩
          have m98 := same_new (o := .tup xs98) n98
          have T98 : Dp K (upd HZ l98 (.tup xs98)) (.ref l98) (.tuple srs) := .tup (SqT.of upd_same) (L2.DpAll.mono m98 ha98)
          replace s6 := s6.trans m98
          replace e6 := m98 _ _ e6
          replace ec6 := m98 _ _ ec6
          replace T1 := L2.Dp.mono m98 T1
          replace T2 := L2.Dp.mono m98 T2
          replace T3 := L2.Dp.mono m98 T3
          replace T7 := L2.Dp.mono m98 T7
          replace T8 := L2.Dp.mono m98 T8
          generalize upd HZ l98 (.tup xs98) = HW at *
          walk_at "st"
          refine ⟨by show 2 ≤ sizeLine; decide, fun l99 n9 => ?_⟩
          have m9 := same_new (o := .tup [.str "slots", .ref l98]) n9
          have T10 : Dp K (upd HW l99 (.tup [.str "slots", .ref l98])) (.ref l99) (planT b.plan) := by
            rw [epl]
            simp only [planT]
            rw [if_pos trivial]
            exact .tup (SqT.of upd_same) (.cons (.str _) (.cons (L2.Dp.mono m9 T98) .nil))
          replace s6 := s6.trans m9
          replace e6 := m9 _ _ e6
          replace ec6 := m9 _ _ ec6
          replace T1 := L2.Dp.mono m9 T1
          replace T2 := L2.Dp.mono m9 T2
          replace T3 := L2.Dp.mono m9 T3
          replace T7 := L2.Dp.mono m9 T7
          replace T8 := L2.Dp.mono m9 T8
          generalize upd HW l99 (.tup [.str "slots", .ref l98]) = HV at *
          unfold tPairs; walk_at "st"
          unfold tPairs
          refine ⟨e6, [(Sum.inr "tasks", .ref l1), (Sum.inr "pages", .ref l2), (Sum.inr "ports", .ref l3), (Sum.inr "locks", .int kn), (Sum.inr "frames", x5), (Sum.inr "disk", .int dn), (Sum.inr "rights", .ref l77), (Sum.inr "lines", .ref l88), (Sum.inr "costs", x9), (Sum.inr "plan", .ref l99), (Sum.inr "outside", x11)], rfl, by simp, ?_⟩
          rw [em11]
          walk_at "st"
          have nc : c4 ≠ pq := ne_of_none ec5 nq
          refine ⟨c4, [(Sum.inr "wipe", x12), (Sum.inr "pad", x13), (Sum.inr "lend", x14), (Sum.inr "share", x15)], rfl, nc, .inl (by rw [upd_ne nc]; exact ec6), upd_same, by simp, by simp, ?_⟩
          rw [em15]
          walk_at "st"
          have k4 : KeepD HV (upd (upd HV pq (.dK [(Sum.inr "tasks", .ref l1), (Sum.inr "pages", .ref l2), (Sum.inr "ports", .ref l3), (Sum.inr "locks", .int kn), (Sum.inr "frames", x5), (Sum.inr "disk", .int dn), (Sum.inr "rights", .ref l77), (Sum.inr "lines", .ref l88), (Sum.inr "costs", x9), (Sum.inr "plan", .ref l99), (Sum.inr "outside", x11)])) pq (.dK [(Sum.inr "tasks", .ref l1), (Sum.inr "pages", .ref l2), (Sum.inr "ports", .ref l3), (Sum.inr "locks", .int kn), (Sum.inr "frames", x5), (Sum.inr "disk", .int dn), (Sum.inr "rights", .ref l77), (Sum.inr "lines", .ref l88), (Sum.inr "costs", x9), (Sum.inr "plan", .ref l99), (Sum.inr "outside", x11), (Sum.inr "wipe", x12), (Sum.inr "pad", x13), (Sum.inr "lend", x14), (Sum.inr "share", x15)])) := fun a o ha _ nd => by
            have na : a ≠ pq := fun z => by subst z; rw [e6] at ha; cases ha; exact nd _ rfl
            rw [upd_ne na, upd_ne na]; exact ha
          have nqH : H pq = none := (s5.free nq)
          refine build_end T ok hP upd_same ?_ (fun a o ha => ?_) q rfl
          · refine .cons ⟨rfl, ?_⟩ (.cons ⟨rfl, ?_⟩ (.cons ⟨rfl, ?_⟩ (.cons ⟨rfl, ?_⟩ (.cons ⟨rfl, ?_⟩ (.cons ⟨rfl, ?_⟩ (.cons ⟨rfl, ?_⟩ (.cons ⟨rfl, ?_⟩ (.cons ⟨rfl, ?_⟩ (.cons ⟨rfl, ?_⟩ (.cons ⟨rfl, ?_⟩ (.cons ⟨rfl, ?_⟩ (.cons ⟨rfl, ?_⟩ (.cons ⟨rfl, ?_⟩ (.cons ⟨rfl, ?_⟩ .nil))))))))))))))
            · show Dp K _ (.ref l1) (tupOf b.tasks); rw [et]; exact dpKeepD k4 T1
            · show Dp K _ (.ref l2) (tupOf b.pages); rw [ep]; exact dpKeepD k4 T2
            · show Dp K _ (.ref l3) (tupOf b.ports); rw [eq]; exact dpKeepD k4 T3
            · exact dpKeepD k4 (L2.Dp.mono s6 D4)
            · exact dpKeepD k4 (L2.Dp.mono s6 D5)
            · exact dpKeepD k4 (L2.Dp.mono s6 D6)
            · show Dp K _ (.ref l77) (rowsT b.rights); rw [er]; exact dpKeepD k4 T7
            · show Dp K _ (.ref l88) (tupOf b.lines); rw [el]; exact dpKeepD k4 T8
            · exact dpKeepD k4 (L2.Dp.mono s6 D9)
            · exact dpKeepD k4 T10
            · exact dpKeepD k4 (L2.Dp.mono s6 D11)
            · exact dpKeepD k4 (L2.Dp.mono s6 D12)
            · exact dpKeepD k4 (L2.Dp.mono s6 D13)
            · exact dpKeepD k4 (L2.Dp.mono s6 D14)
            · exact dpKeepD k4 (L2.Dp.mono s6 D15)
          · have na := ne_of_none ha nqH
            rw [upd_ne na, upd_ne na]; exact s6 _ _ ha))) only [↓Hk.hold_s]
end
end T
set_option Elab.async false
set_option linter.all false
set_option maxRecDepth 100000
set_option maxHeartbeats 4000000
namespace Hk
open PySem PySem.Spec PyProof.Rows L2 L2H
/-- the exception that a suite holds, at p: of the class at D, its own dict at d (where it has one) -/
structure ExA (K : PySem.W.Frag) (p : Addr × Obj) (D : Addr) (d : Option Addr) : Prop where
  z : Zc (.ref D) d p.2
  f : ∃ vs, p.2.data = .fields vs
  c : L2.ExcC K D
/-- its dict stands there -/
def XdAt (H : Hp) : Option Addr → List (Str × V) → Prop
  | none, fs => fs = []
  | some dd, fs => H dd = some (.xd fs)
section
variable {X : Cx} {k : Nat} {f C : Addr} {fd : FuncData} {ps : List Str} {sp : Addr × Obj → Sp} {x m : Str} {q pos apos : Pos} {e o : Expr} {es : List Expr} {ta : TE} {t : TA} {p : Addr × Obj}
theorem ExA.at {X : Cx} {p : Addr × Obj} {D : Addr} {d : Option Addr} {fs : List (Str × V)} {pins : List (Addr × Obj)} {σ : L2.St} {H : Hp} {s : Shared} (EA : ExA X.K p D d) (xd : XdAt H d fs) (hp : p ∈ X.pn) (I : Inv X pins σ H s) :
    ∃ od, PySem.W.InstAt s.heap p.1 p.2 D od ∧ (d.isSome = true → ∃ (ob : Obj) (mA : Str → Option Value), od = some ob ∧ (∀ y, PySem.W.lookIn y ob = some (mA y)) ∧ ∀ y, RelO (fs.lookup y) (mA y)) := by
  obtain ⟨here, _⟩ := I.pin p (List.mem_append.mpr (Or.inl hp))
  obtain ⟨ws, hw⟩ := EA.f
  have plain : PySem.W.notCls p.2 = true := by unfold PySem.W.notCls; rw [hw]
  rcases d with _ | dd
  · exact ⟨none, ⟨here, EA.z.1, plain, by rw [EA.z.2]; trivial⟩, fun z => by cases z⟩
  · obtain ⟨mA, hn, rel⟩ : ∃ mA, s.heap.Ns1 dd mA ∧ ∀ y, RelO (fs.lookup y) (mA y) := I.hok dd _ xd
    obtain ⟨ob, e1, e2⟩ := lookIn_ns hn
    exact ⟨some ob, ⟨here, EA.z.1, plain, by rw [EA.z.2]; exact e1⟩, fun _ => ⟨ob, mA, rfl, e2, rel⟩⟩
end
theorem q_gname {σ : L2.St} {H : Hp} {i : Nat} {v : V} {q : L2.St → Hp → Prop} (h : q (σ.set i (some v)) H) : gName i v σ H q := h
theorem q_app {K : PySem.W.Frag} {σ : L2.St} {H : Hp} {D : Ends} {i : Nat} {te : TE} {a : Addr} {acc : List V} (hv : σ[i]? = some (some (.ref a))) (ha : H a = some (.lst acc)) (h : te σ H fun y H2 => ∃ l xs z, V.ref a = .ref l ∧ [y] = [z] ∧ H2 l = some (.lst xs) ∧ xs.length < sizeLine ∧ D.nx σ (upd H2 l (.lst (xs ++ [z])))) : tDrop (tBM K "list" rAppend (tVar i) (tCons te tNil)) D σ H :=
  ⟨_, hv, .inl ⟨rfl, acc, SqL.of ha⟩, h⟩
/-- a loop over a range, its bound told already -/
def ForR (n : Nat) (g : TG) (tb : TS) (D : Ends) (σ : L2.St) (H1 : Hp) : Prop := ∃ W : Nat → Nat → L2.St → Hp → Prop, (∃ m, W 0 m σ H1) ∧ ∀ i m σ H, W i m σ H →
    ((Itr 0 n).stop i H ∧ D.nx σ H) ∨ ((Itr 0 n).go i H ∧ ∃ N : L2.St → Hp → Prop, (∀ σ' H', N σ' H' → ∃ m', m' < m ∧ W (i + 1) m' σ' H') ∧ ∀ x H', (Itr 0 n).yld i H x H' → g x σ H' fun σ2 H2 => tb { D with nx := N, ct := N, bk := D.nx } σ2 H2)
theorem q_forRA {ta : TA} {g : TG} {tb : TS} {D : Ends} {σ : L2.St} {H : Hp} (h : ta σ H fun vs H1 => ∃ j : Int, vs = [.int j] ∧ -(2 ^ 62) ≤ j ∧ j < 2 ^ 62 ∧ ForR j.toNat g tb D σ H1) : tFor (iRng1 ta) g tb D σ H := h
theorem forR {n : Nat} {g : TG} {tb : TS} {D : Ends} {σ : L2.St} {H : Hp} (Pv : Nat → L2.St → Hp → Prop) (h0 : Pv 0 σ H)
    (hs : ∀ i σ H, i < n → Pv i σ H → g (.int (0 + (i : Int))) σ H fun σ2 H2 => tb { D with nx := Pv (i + 1), ct := Pv (i + 1), bk := D.nx } σ2 H2) (hd : ∀ σ H, Pv n σ H → D.nx σ H) : ForR n g tb D σ H := for_range Pv h0 hs hd
end Hk
set_option Elab.async false
set_option linter.all false
set_option maxRecDepth 100000
set_option maxHeartbeats 4000000
namespace Hk
open PySem PySem.Spec PyProof.Rows L2
/-- an error class of the module: directly under the class at KE, which stands under ValueError -/
structure ECls (K : PySem.W.Frag) (mg : Str → Option Value) (KE : Addr) (x : Str) (C : Addr) : Prop where
  g : mg x = some (.ref C)
  L : ∃ (nm q : Str) (N : Addr) (bs : List Value) (sn : List Str) (sub : List Value) (ab : Bool) (col : Option Bool) (dd : Option Addr) (k0 k1 k2 k3 k5 : Option Value), K.lookup C = some (excClassObj nm q C N bs (.ref KE :: PySem.HandSPX.veTail) true sn sub ab col dd k0 k1 k2 k3 k5 "ValueError.__new__")
  ga : PySem.W.findIn K (.ref C) "__getattribute__" = some (some (.builtin "BaseException.__getattribute__"))
  gg : PySem.W.findIn K (.ref C) "__getattr__" = some none
  gc : PySem.W.findIn K (.ref C) "__class__" = some (some (.builtin "object.__class__"))
  kp : PySem.W.keepIn K (.ref C) = true
section
variable {K : PySem.W.Frag} {mg : Str → Option Value} {KE C : Addr} {x : Str}
theorem ECls.cls (E : ECls K mg KE x C) : ∃ cd : ClassData, PySem.W.clsIn K C = some cd ∧ cd.mro = .ref C :: .ref KE :: PySem.HandSPX.veTail ∧ cd.hasDict = true := by
  obtain ⟨nm, q, N, bs, sn, sub, ab, col, dd, k0, k1, k2, k3, k5, h⟩ := E.L
  refine ⟨_, by unfold PySem.W.clsIn; rw [h], rfl, rfl⟩
theorem ECls.mro (E : ECls K mg KE x C) (v : Value) : PySem.W.mroIn K C v = some ((Value.ref C :: .ref KE :: PySem.HandSPX.veTail).contains v) := by
  obtain ⟨cd, h1, h2, _⟩ := E.cls
  unfold PySem.W.mroIn
  rw [h1, Option.bind_some, h2]
  rfl
theorem ECls.sub (E : ECls K mg KE x C) (v : Value) : PySem.W.subIn K (.ref C) v = some ((Value.ref C :: .ref KE :: PySem.HandSPX.veTail).contains v) := E.mro v
theorem ECls.ty (E : ECls K mg KE x C) : PySem.W.typeIn K (.ref C) = some (.type "type") := by
  obtain ⟨nm, q, N, bs, sn, sub, ab, col, dd, k0, k1, k2, k3, k5, h⟩ := E.L
  show (K.lookup C).map (·.cls) = _
  rw [h]; rfl
theorem ECls.hd (E : ECls K mg KE x C) : PySem.W.hasDictIn K C = true := by
  obtain ⟨cd, h1, _, h3⟩ := E.cls
  unfold PySem.W.hasDictIn
  rw [h1]; exact h3
theorem ECls.isSome (E : ECls K mg KE x C) : (PySem.W.clsIn K C).isSome = true := by
  obtain ⟨cd, h1, _⟩ := E.cls
  rw [h1]; rfl
end
end Hk
set_option Elab.async false
set_option linter.all false
set_option maxRecDepth 100000
set_option maxHeartbeats 4000000
namespace Hk
open PySem PySem.Spec PyProof.Rows L2
theorem iteT' {c : Bool} {A B : Prop} (h : c = true) (a : A) : if c = true then A else B := by rw [if_pos h]; exact a
theorem iteF' {c : Bool} {A B : Prop} (h : c = false) (b : B) : if c = true then A else B := by rw [h]; exact iteF b
theorem q_eqI {i j : Int} {Q : VK} {H : Hp} (q : Q (.bl (decide (i = j))) H) : rEq (.int i) (.int j) H Q := ⟨rfl, by
  have e : decide (V.int i = V.int j) = decide (i = j) := decide_eq_decide.mpr ⟨fun h => V.int.inj h, fun h => by rw [h]⟩
  rw [e]; exact q⟩
end Hk
set_option Elab.async false
set_option linter.all false
set_option maxRecDepth 100000
namespace Hk
open L2
open PySem PySem.Spec PyProof.Rows
end Hk
set_option Elab.async false
set_option linter.all false
set_option maxRecDepth 100000
namespace Hk
open L2
open PySem PySem.Spec PyProof.Rows
/-- all but what stands at Z is as it was -/
def OffZ (Z : List Addr) (H H' : Hp) : Prop := ∀ b o, H b = some o → b ∉ Z → H' b = some o
theorem OffZ.refl {Z : List Addr} {H : Hp} : OffZ Z H H := fun _ _ h _ => h
theorem OffZ.of {Z : List Addr} {H H' : Hp} (s : Same H H') : OffZ Z H H' := fun b o h _ => s b o h
theorem OffZ.trans {Z : List Addr} {H H1 H2 : Hp} (a : OffZ Z H H1) (b : OffZ Z H1 H2) : OffZ Z H H2 := fun x o h n => b x o (a x o h n) n
theorem OffZ.mono {Z Z' : List Addr} {H H' : Hp} (a : OffZ Z H H') (h : ∀ x ∈ Z, x ∈ Z') : OffZ Z' H H' := fun b o e n => a b o e fun z => n (h b z)
def leafD : PyData → Prop | .none => True | .bool _ => True | .int _ => True | .str _ => True | _ => False
inductive OwnsAll (F : V → PyData → List Addr → Prop) : List V → List PyData → List Addr → Prop
  | nil : OwnsAll F [] [] []
  | cons {x : V} {xs : List V} {d : PyData} {ds : List PyData} {S T : List Addr} : F x d S → OwnsAll F xs ds T → (∀ a ∈ S, a ∉ T) → OwnsAll F (x :: xs) (d :: ds) (S ++ T)
/-- v tells d in H; its lists are S, each once; k deep -/
def OwnV (K : PySem.W.Frag) : Nat → Hp → V → PyData → List Addr → Prop
  | 0, _, _, _, _ => False
  | k + 1, H, v, d, S => (leafD d ∧ Dp K H v d ∧ S = []) ∨
      (∃ a xs ds T, v = .ref a ∧ d = .list ds ∧ H a = some (.lst xs) ∧ ds.length ≤ 1000 ∧ S = a :: T ∧ a ∉ T ∧ OwnsAll (OwnV K k H) xs ds T) ∨
      (∃ a xs ds, v = .ref a ∧ d = .tuple ds ∧ SqT K H a xs ∧ ds.length ≤ 1000 ∧ OwnsAll (OwnV K k H) xs ds S)
section
variable {K : PySem.W.Frag} {H H' : Hp} {Z : List Addr}
theorem OwnsAll.imp {F G : V → PyData → List Addr → Prop} {xs : List V} {ds : List PyData} {T : List Addr} (h : OwnsAll F xs ds T) : (∀ x d S, F x d S → (∀ a ∈ S, a ∈ T) → G x d S) → OwnsAll G xs ds T := by
  induction h with
  | nil => intro _; exact .nil
  | cons f t n ih =>
    intro k
    exact .cons (k _ _ _ f fun a ha => List.mem_append_left _ ha) (ih fun x d S g hs => k x d S g fun a ha => List.mem_append_right _ (hs a ha)) n
theorem OwnsAll.length {F : V → PyData → List Addr → Prop} {xs : List V} {ds : List PyData} {T : List Addr} (h : OwnsAll F xs ds T) : xs.length = ds.length := by
  induction h with
  | nil => rfl
  | cons f t n ih => simp [ih]
theorem dp_leaf {v : V} {d : PyData} (l : leafD d) (h : Dp K H v d) : Dp K H' v d := by
  cases h with
  | non => exact .non
  | bl b => exact .bl b
  | int i => exact .int i
  | str z => exact .str z
  | lst _ _ => exact l.elim
  | tup _ _ => exact l.elim
theorem offZ_seqT {a : Addr} {xs : List V} (hZ : ∀ x ∈ Z, ∃ ys, H x = some (.lst ys)) (o : OffZ Z H H') (h : SqT K H a xs) : SqT K H' a xs := by
  rcases h with h | h
  · rcases h with h | ⟨u, h⟩
    · exact .inl (.inl (o _ _ h fun z => by obtain ⟨ys, e⟩ := hZ _ z; rw [h] at e; cases e))
    · exact .inl (.inr ⟨u, o _ _ h fun z => by obtain ⟨ys, e⟩ := hZ _ z; rw [h] at e; cases e⟩)
  · exact .inr h
/-- elsewhere lists have changed -/
theorem OwnV.off (hZ : ∀ x ∈ Z, ∃ ys, H x = some (.lst ys)) (o : OffZ Z H H') : ∀ {k : Nat} {v : V} {d : PyData} {S : List Addr}, (∀ a ∈ S, a ∉ Z) → OwnV K k H v d S → OwnV K k H' v d S
  | k + 1, v, d, S, hS, .inl ⟨l, h, e⟩ => .inl ⟨l, dp_leaf l h, e⟩
  | k + 1, v, d, S, hS, .inr (.inl ⟨a, xs, ds, T, e1, e2, e3, e4, e5, e6, e7⟩) => by
    subst e5
    exact .inr (.inl ⟨a, xs, ds, T, e1, e2, o _ _ e3 (hS a List.mem_cons_self), e4, rfl, e6, e7.imp fun x d S' h hs => OwnV.off hZ o (fun b hb => hS b (List.mem_cons_of_mem _ (hs b hb))) h⟩)
  | k + 1, v, d, S, hS, .inr (.inr ⟨a, xs, ds, e1, e2, e3, e4, e5⟩) => .inr (.inr ⟨a, xs, ds, e1, e2, offZ_seqT hZ o e3, e4, e5.imp fun x d S' h hs => OwnV.off hZ o (fun b hb => hS b (hs b hb)) h⟩)
theorem OwnV.mono (s : Same H H') {k : Nat} {v : V} {d : PyData} {S : List Addr} (h : OwnV K k H v d S) : OwnV K k H' v d S := OwnV.off (Z := []) (fun _ h => by cases h) (OffZ.of s) (fun _ _ h => by cases h) h
theorem OwnsAll.off {k : Nat} (hZ : ∀ x ∈ Z, ∃ ys, H x = some (.lst ys)) (o : OffZ Z H H') {xs : List V} {ds : List PyData} {T : List Addr} (hT : ∀ a ∈ T, a ∉ Z) (h : OwnsAll (OwnV K k H) xs ds T) : OwnsAll (OwnV K k H') xs ds T :=
  h.imp fun x d S' h hs => OwnV.off hZ o (fun b hb => hT b (hs b hb)) h
theorem OwnsAll.mono {k : Nat} (s : Same H H') {xs : List V} {ds : List PyData} {T : List Addr} (h : OwnsAll (OwnV K k H) xs ds T) : OwnsAll (OwnV K k H') xs ds T := h.imp fun x d S' h hs => h.mono s
theorem OwnsAll.all {F : V → PyData → List Addr → Prop} {P : Addr → Prop} {xs : List V} {ds : List PyData} {T : List Addr} (h : OwnsAll F xs ds T) : (∀ x d S, F x d S → ∀ a ∈ S, P a) → ∀ a ∈ T, P a := by
  induction h with
  | nil => intro _ a ha; cases ha
  | cons f t n ih =>
    intro k a ha
    rcases List.mem_append.mp ha with h | h
    · exact k _ _ _ f a h
    · exact ih k a h
theorem OwnV.nodup_nil {k : Nat} {v : V} {d : PyData} (l : leafD d) (h : Dp K H v d) : OwnV K (k + 1) H v d [] := .inl ⟨l, h, rfl⟩
end
end Hk
set_option Elab.async false
set_option linter.all false
set_option maxRecDepth 100000
namespace Hk
open L2
open PySem PySem.Spec PyProof.Rows
end Hk
set_option Elab.async false
set_option linter.all false
set_option maxRecDepth 100000
namespace Hk
open L2
open PySem PySem.Spec PyProof.Rows
end Hk
set_option Elab.async false
set_option linter.all false
set_option maxRecDepth 100000
set_option maxHeartbeats 4000000
namespace Hk
open PySem PySem.Spec PyProof.Rows L2
theorem meets_enum1 {v : Value} {o : Obj} {H : Heap → Prop} (B : Begins v o H) :
    Meets (Builtin.«enumerate.__new__» ⟨[.type "enumerate", v], []⟩) (fun _ R s => H s.heap ∧
      R (.ok (.ret (.ref (s.heap.push o).objs.size))) { s with heap := (s.heap.push o).push { cls := .type "enumerate", data := .fields #[.none, .bool false, .ref s.heap.objs.size, rawInt 0, .none, .none] } }) := by
 refine Hk.hold ?_
 simp (disch := with_unfolding_all (
 exact Hk.disch (.of_wp fun prog w A R s h => by
    obtain ⟨hp, g, d, tk, os⟩ := s; obtain ⟨h1, h⟩ := h
    have hsub := sub_enumerate
    have q1 : ∀ {A' : Around} {E : Value → Shared → Prop} {Q : Value → Shared → Prop}, Q (.ref hp.objs.size) ⟨hp.push o, g, d, tk, os⟩ → wpAny (model prog w) A' (pyIter v) Q E ⟨hp, g, d, tk, os⟩ :=
      fun q => B.iter prog w _ _ ⟨hp, g, d, tk, os⟩ _ h1 q
    wp_walk using q1
    refine wpAny_stack_any fun st => wpAny_pure ?_
    split
    · rename_i c _ _ _ _ _
      cases (c == Value.type "enumerate")
      · wp_walk using q1
        exact ⟨_, rfl, h⟩
      · wp_walk using q1
        exact ⟨_, rfl, h⟩
    · wp_walk using q1
      exact ⟨_, rfl, h⟩))) only [↓Hk.hold_s]
section
variable {prog : Program} {w : World} {A : Around} {E : Value → Shared → Prop} {s : Shared}
theorem call_enumT {t : Addr} {items : Array Value} {Q : Value → Shared → Prop} (ht : s.heap.IsTuple t items)
    (h : ∀ h', IsEnum h' (s.heap.objs.size + 1) s.heap.objs.size 0 .none → h'.IsTupleIter s.heap.objs.size t 0 → h'.objs.size = s.heap.objs.size + 2 →
      (∀ b o, s.heap.get? b = some o → h'.get? b = some o) → Q (.ref (s.heap.objs.size + 1)) { s with heap := h' }) :
    wpAny (model prog w) A (call (.type "enumerate") [.ref t]) Q E s := by
 refine Hk.hold ?_
 simp (disch := with_unfolding_all (
 exact Hk.disch (by
  refine callType_new F.called_enumerate (by decide) (F.typeCall_enumerate_1 _) (F.newCall_enumerate_1 _) (fun obj => F.args_object_init_2 obj _) F.entry_enumerate_new
    (meets_enum1 (begins_tuple t items)) ⟨ht, ?_⟩
  have hz : (s.heap.push { cls := .type "tuple_iterator", data := .fields #[.ref t, .int 0 0] }).objs.size = s.heap.objs.size + 1 := Heap.size_push ..
  show _ ∧ _
  rw [hz]
  have he : IsEnum ((s.heap.push { cls := .type "tuple_iterator", data := .fields #[.ref t, .int 0 0] }).push { cls := .type "enumerate", data := .fields #[.none, .bool false, .ref s.heap.objs.size, rawInt 0, .none, .none] }) (s.heap.objs.size + 1) s.heap.objs.size 0 .none := by
    have := Heap.get?_push_size (s.heap.push { cls := .type "tuple_iterator", data := .fields #[.ref t, .int 0 0] }) (o := { cls := .type "enumerate", data := .fields #[.none, .bool false, .ref s.heap.objs.size, rawInt 0, .none, .none] }) rfl
    rw [hz] at this; exact this
  refine ⟨⟨_, he, rfl⟩, h _ he ⟨_, Heap.get?_push_of_some _ (Heap.get?_push_size _ rfl), rfl, rfl⟩ (by rw [Heap.size_push, hz]) fun b o x => Heap.get?_push_of_some _ (Heap.get?_push_of_some _ x)⟩))) only [↓Hk.hold_s]
end
/-- the tuple at a, each item in a new pair -/
def IteT (K : PySem.W.Frag) (a : Addr) : It :=
  ⟨fun i H => ∃ (xs : List V) (x : V), SqT K H a xs ∧ xs[i]? = some x, fun i H v H' => ∃ T x, v = .ref T ∧ H T = none ∧ H' = upd H T (.tup [.int (i : Nat), x]) ∧ ∀ xs, SqT K H a xs → xs[i]? = some x, fun i H => ∃ xs : List V, SqT K H a xs ∧ xs.length ≤ i⟩
theorem turn_enumT {P : Program} {w : World} {K : PySem.W.Frag} {elts : List Expr} {kk : Nat} {tpos : Pos} (a e it : Addr) :
    Turn P w K (.Tuple elts kk tpos) (IteT K a) [e, it] e (fun i h => (∃ old, IsEnum h e it ((i : Nat) : Int) old) ∧ h.IsTupleIter it a i ∧ e ≠ it) where
  mem := by simp
  obj := fun i h st b hb => by
    obtain ⟨⟨old, he⟩, ⟨o, ho, hc, hd⟩, _⟩ := st
    have e' : b = e ∨ b = it := by simpa using hb
    rcases e' with z | z
    · rw [z]; exact ⟨_, he, fun v q => nomatch q⟩
    · rw [z]; exact ⟨o, ho, fun v q => by rw [hd] at q; cases q⟩
  keep := fun i h h' st k => let ⟨⟨old, he⟩, hi, hne⟩ := st; ⟨⟨old, k e (by simp) _ he⟩, hi.at fun o q => k it (by simp) o q, hne⟩
  item := by
    intro X hP hw hK hc i pins s σ H E I hf st hg
    subst hP hw hK
    obtain ⟨⟨old, he⟩, hit, hne⟩ := st
    obtain ⟨xs, x, hq, hx⟩ := hg
    obtain ⟨its, rv, p, hz⟩ := I.tuple hq
    obtain ⟨u, hu, ru⟩ := rv.get hx
    have hel : e < s.heap.objs.size := Heap.lt_size he
    have hil : it < s.heap.objs.size := by obtain ⟨_, q, _⟩ := hit; exact Heap.lt_size q
    have pt : s.heap.IsTuple a its.toArray := p
    have hat : a ≠ it := fun z => by
      subst z
      obtain ⟨o1, q1, c1, _⟩ := hit
      obtain ⟨o2, q2, c2, _⟩ := pt
      rw [q1] at q2
      cases q2
      rw [c1] at c2
      exact absurd c2 (by decide +kernel)
    have hae : e ≠ a := fun z => by
      subst z
      obtain ⟨o2, q2, c2, _⟩ := pt
      have q3 : s.heap.get? e = _ := he
      rw [q3] at q2
      cases q2
      have c3 : Value.type "enumerate" = Value.type "tuple" := c2
      exact absurd c3 (by decide +kernel)
    have D := Draws.tuple (prog := X.prog) (w := X.w) (A := X.A.in1) (I.ok.hd hc) it a hat its.toArray
    have ilt : i < its.toArray.size := by
      rw [List.size_toArray]
      exact (List.getElem?_eq_some_iff.mp hu).1
    refine wpAny_pyNext_enum_itemD D he ⟨hit, pt⟩ ilt hne (by simp [hne, hae]) fun y h' tk hP ho hs' hT hsz hk => ?_
    have ey : y = u := by
      have z1 : its[i]? = some y := by simpa using hP
      rw [hu] at z1
      exact (Option.some.inj z1).symm
    subst ey
    refine ⟨_, rfl, wpAny_letOwnedTupleGo_enum (s := { s with heap := h', toks := tk + 1 }) ho fun h'' he' sb => ?_⟩
    have hT2 : h''.get? s.heap.objs.size = some { cls := .type "tuple", data := .seq #[.int i tk, y] } := (sb.2 _ (Nat.ne_of_gt hel)).trans hT
    have new : ObjOk X.prog X.w (upd H s.heap.objs.size (.tup [.int (i : Nat), x])) h'' s.heap.objs.size (.tup [.int (i : Nat), x]) :=
      ⟨by show 2 ≤ sizeLine; decide, [.int i tk, y], .cons ⟨_, rfl⟩ (.cons ru .nil), ⟨_, hT2, rfl, _, rfl⟩⟩
    have I1 : Inv X pins σ (upd H s.heap.objs.size (.tup [.int (i : Nat), x])) { s with heap := h'', toks := tk + 1 } :=
      I.turnedNew (ch := [e, it]) (fun b ob hb q => (sb.2 b (fun z => hb (by simp [z]))).trans (hk b ob (fun z => hb (by simp [z])) (fun z => hb (by simp [z])) q)) hf (Nat.le_refl _) new
    refine ⟨.ref s.heap.objs.size, _, I1, rfl, ⟨_, x, rfl, I.hok.fresh (Nat.le_refl _), rfl, fun ys hy => by rw [I.tuple_inj hy hq]; exact hx⟩, ⟨⟨y, ?_⟩, hs'.1.at fun o q => (sb.2 it (Ne.symm hne)).trans q, hne⟩, fun b hb => ?_⟩
    · have e1 : ((i + 1 : Nat) : Int) = (i : Int) + 1 := by omega
      rw [e1]; exact he'
    · have hb' : b < s.heap.objs.size := by
        have e' : b = e ∨ b = it := by simpa using hb
        rcases e' with z | z
        · rw [z]; exact hel
        · rw [z]; exact hil
      rw [upd_ne (Nat.ne_of_lt hb')]
      exact (hf b hb).1
  done := by
    intro X hP hw hK hc i pins s σ H E I hf st hg
    subst hP hw hK
    obtain ⟨⟨old, he⟩, hit, hne⟩ := st
    obtain ⟨xs, hq, hx⟩ := hg
    obtain ⟨its, rv, p, hz⟩ := I.tuple hq
    obtain ⟨f0, f1, f2, f3, f4, f5⟩ := hf it (by simp)
    have hl := rv.length
    have hT : s.TypeIs (.ref e) "enumerate" := ⟨_, he, rfl⟩
    have hno : its.toArray[i]? = none := by simp; omega
    unfold pyNext
    refine wpAny_bind (wpAny_attempt (wpAny_callSpecial?_slot (name := Str.ofString "__next__") hT F.slot_enumerate_next
      (wpAny_call_entry F.slot_enumerate_next hT F.entry_enumerate_next ?_ (F.args_enumerate_next_1 _))))
    show wpAny _ _ (field (.ref e) 2 >>= _) _ _ _
    refine wpAny_bind (wpAny_field he rfl (x := .ref it) rfl ?_)
    refine wpAny_bind (wpAny_nextOf_tuple_end (I.ok.hd hc) hit (show s.heap.IsTuple a its.toArray from p) hno fun h' x he' hx' => ?_)
    obtain ⟨o, ho, hcc⟩ := hx'
    refine wpAny_bind (wpAny_isInstance (T := "StopIteration") (b := true) ⟨o, ho, hcc⟩ isSubtype_stop ?_)
    exact wpAny_pure ⟨rfl, I.turned (t' := s.toks) (fun b o hb q => he' b o hb q) f0 f1 f3 f4 f5⟩
  self := fun A i s Q E st h => let ⟨⟨_, he⟩, _⟩ := st; wpAny_pyIter_enum he h
def iEnumT (K : PySem.W.Frag) (ta : TA) : TI := fun σ H R => ta σ H fun vs H1 => ∃ a xs, vs = [.ref a] ∧ SqT K H1 a xs ∧ R (IteT K a) H1
theorem pi_enumT {X : Cx} {e : Expr} {ta : TA} {p pos tpos : Pos} {elts : List Expr} {kk : Nat} (hg : Gl X "enumerate") (hm : X.mg "enumerate" = none) (ha : PA X [e] ta) (hs : starEach [e] X.env = [(false, eval e X.env)] := by rfl) :
    PI X (.Tuple elts kk tpos) (.Call (.Name "enumerate" p) [e] [] pos) (iEnumT X.K ta) := by
 refine Hk.hold ?_
 simp (disch := with_unfolding_all (
 exact Hk.disch (by
  refine ⟨fun pins s σ H R I h => ?_⟩
  refine Call_ (ld_blt I hg hm boot_enumerate (PyProof.Rows.callWith_type1 (thn (ha.run pos pins s σ H _ I h) fun us s1 ⟨vs, H1, I1, r1, q1⟩ => ?_) hs rfl))
  obtain ⟨a, xs, ex, hq, q⟩ := q1
  subst ex
  cases r1 with
  | cons r rr =>
    cases rr
    cases r
    obtain ⟨its, rv, p', hz⟩ := I1.tuple hq
    refine call_enumT (show s1.heap.IsTuple a its.toArray from p') fun h' he hit hsz hk => wpAny_pyIter_enum he ?_
    have I2 : Inv X pins σ H1 { s1 with heap := h' } := I1.kept (t' := s1.toks) hk
    refine ⟨s1.heap.objs.size + 1, [s1.heap.objs.size + 1, s1.heap.objs.size], _, _, H1, rfl, I2, turn_enumT a (s1.heap.objs.size + 1) s1.heap.objs.size, ⟨⟨.none, he⟩, hit, Nat.succ_ne_self _⟩, fun b hb => ?_, q⟩
    have e' : b = s1.heap.objs.size + 1 ∨ b = s1.heap.objs.size := by simpa using hb
    have hle : s1.heap.objs.size ≤ b := by
      rcases e' with z | z
      · rw [z]; exact Nat.le_add_right _ _
      · rw [z]; exact Nat.le_refl _
    exact I1.fpOk hle (I1.hok.fresh hle)))) only [↓Hk.hold_s]
theorem walk_enumT {K : PySem.W.Frag} {a : Addr} {xs : List V} : L2.Walk (IteT K a) xs.length (fun H => SqT K H a xs) (YPair (fun i => some (.int (i : Nat))) (fun i => xs[i]?)) :=
  ⟨fun i H hi h => ⟨xs, xs[i], h, List.getElem?_eq_getElem hi⟩, fun H h => ⟨xs, h, Nat.le_refl _⟩, fun i H x H' hi h y => by
    obtain ⟨T, z, rfl, n, rfl, e⟩ := y
    exact ⟨T, _, z, rfl, n, rfl, rfl, e xs h⟩⟩
/-- d[z], d a dict of the module -/
def rIxKD (K : PySem.W.Frag) (d : Addr) : R2 := fun x y H Q => ∃ (z : Str) (u0 : Value) (v0 : V), x = .ref d ∧ y = .str z ∧ PySem.W.nsIn K d z = some (some u0) ∧ RelV v0 u0 ∧ Q v0 H
theorem ix_kd {X : Cx} {d : Addr} (D : ∃ es n, KDict X.K X.w d es n) : IxR X (rIxKD X.K d) := by
  obtain ⟨es, n, D⟩ := D
  intro value slice pins s σ H x y v u Q I rx ry h hs
  obtain ⟨z, u0, v0, rfl, rfl, e, r, q⟩ := h
  cases rx
  obtain ⟨t, rfl⟩ := ry
  refine tail_any (kd_type D I) PySem.F.slot_dict_getitem.lookup ?_ hs
  exact wpAny_getItem_of (PySem.strKind_is X.prog X.w z t) (PySem.W.mapOf_K (prog := X.prog) I.kIn D.at_ D.lit) (PySem.W.find_K D.at_ e) ⟨v0, H, I.tok _, r, q⟩
theorem q_lcT {K : PySem.W.Frag} {ta : TA} {g : TG} {tt : TT} {te : TE} {vs : List Nat} {σ : L2.St} {H : Hp} {Q : VK} (h : ta σ H fun ws H1 => ∃ a xs, ws = [.ref a] ∧ SqT K H1 a xs ∧ tLc (fun _ H2 R => R (IteT K a) H2) g tt te vs σ H1 Q) : tLc (iEnumT K ta) g tt te vs σ H Q := h
/-- what a comprehension with a test keeps: each item told by R -/
theorem lc_keep {J : It} {n : Nat} {G : Hp → Prop} {Y : Nat → Hp → V → Hp → Prop} {g : TG} {te : TE} {tt : TT} {vs : List Nat} {σ : L2.St} {H1 : Hp} {D : Addr} {Qd : Hp → Prop} (w : L2.Walk J n G Y) (p : Nat → Bool) (f : Nat → V) (hD : H1 D = none) (few : n < sizeLine) (hG : ∀ H', Same H1 H' → G H') (hY : ∀ i H x H', Y i H x H' → Same H H')
    (body : ∀ i x H' H2, i < n → Same H1 H' → Y i H' x H2 → ∀ Q' : Bool → L2.St → Hp → Prop, (∀ σ2 H3, Same H2 H3 → wipe σ2 vs = wipe σ vs → (∀ H4 (Q2 : VK), Same H2 H4 → p i = true → (∀ H5, Same H4 H5 → Q2 (f i) H5) → te σ2 H4 Q2) → Q' (p i) σ2 H3) → g x (wipe σ vs) H2 fun σ2 H3 => wipe σ2 vs = wipe σ vs ∧ tt σ2 H3 fun b H4 => Q' b σ2 H4)
    (done : ∀ H', Same H1 H' → H' D = some (.lst (((List.range n).filter p).map f)) → Qd H') :
    ∃ W : Nat → Nat → Hp → Prop, (∃ m, W 0 m (upd H1 D (.lst []))) ∧ ∀ i m H, W i m H →
      (J.stop i H ∧ Qd H) ∨ (J.go i H ∧ ∃ Nx : Hp → Prop, (∀ H', Nx H' → ∃ m', m' < m ∧ W (i + 1) m' H') ∧ ∀ x H', J.yld i H x H' → g x (wipe σ vs) H' fun σ2 H2 => wipe σ2 vs = wipe σ vs ∧ tt σ2 H2 fun b H3 =>
        if b = true then te σ2 H3 fun y H4 => ∃ acc, H4 D = some (.lst acc) ∧ acc.length < sizeLine ∧ Nx (upd H4 D (.lst (acc ++ [y]))) else Nx H3) := by
 refine Hk.hold ?_
 simp (disch := with_unfolding_all (
 exact Hk.disch (by
  refine ⟨fun i m H => m = n - i ∧ i ≤ n ∧ Same H1 H ∧ H D = some (.lst (((List.range i).filter p).map f)), ⟨n, by simp, Nat.zero_le _, same_new hD, by rw [upd_same]; rfl⟩, ?_⟩
  rintro i m H ⟨rfl, hi, s1, eD⟩
  by_cases hlt : i < n
  · refine .inr ⟨w.goes i H hlt (hG H s1), fun H' => i + 1 ≤ n ∧ Same H1 H' ∧ H' D = some (.lst (((List.range (i + 1)).filter p).map f)), fun H' z => ⟨n - (i + 1), by omega, rfl, z⟩, fun x H' y => ?_⟩
    have yy := w.yields i H x H' hlt (hG H s1) y
    have s2 := hY i H x H' yy
    refine body i x H H' hlt s1 yy (fun b σ2 H3 => if b = true then te σ2 H3 fun y H4 => ∃ acc, H4 D = some (.lst acc) ∧ acc.length < sizeLine ∧ (i + 1 ≤ n ∧ Same H1 (upd H4 D (.lst (acc ++ [y]))) ∧ upd H4 D (.lst (acc ++ [y])) D = some (.lst (((List.range (i + 1)).filter p).map f))) else i + 1 ≤ n ∧ Same H1 H3 ∧ H3 D = some (.lst (((List.range (i + 1)).filter p).map f))) fun σ2 H3 s3 ew k => ?_
    rw [List.range_succ, List.filter_append]
    by_cases hp : p i = true
    · rw [if_pos hp]
      refine k H3 _ s3 hp fun H5 s5 => ?_
      have e5 := s5 _ _ (s3 _ _ (s2 _ _ eD))
      refine ⟨_, e5, ?_, hlt, fun b o h => ?_, ?_⟩
      · rw [List.length_map]
        have z := List.length_filter_le p (List.range i)
        rw [List.length_range] at z
        omega
      · rw [upd_ne (ne_of_none h hD)]
        exact s5 _ _ (s3 _ _ (s2 _ _ (s1 _ _ h)))
      · rw [upd_same, List.map_append]
        simp [hp]
    · have hpf : p i = false := by simpa using hp
      rw [if_neg hp]
      refine ⟨hlt, s1.trans (s2.trans s3), ?_⟩
      rw [s3 _ _ (s2 _ _ eD)]
      simp [hpf]
  · have e : i = n := by omega
    subst e
    exact .inl ⟨w.stops H (hG H s1), done H s1 eD⟩))) only [↓Hk.hold_s]
end Hk
set_option Elab.async false
set_option linter.all false
set_option maxRecDepth 100000
set_option maxHeartbeats 4000000
namespace Hk
open PySem PySem.Spec PyProof.Rows L2
theorem zip_lookup : ∀ {ps : List Str} {us : List Value}, us.length = ps.length → ∀ n ∈ ps, ((ps.zip us).lookup n).isSome = true
  | [], _, _, n, h => by simp at h
  | p :: ps, [], l, _, _ => by simp at l
  | p :: ps, u :: us, l, n, h => by
    rw [List.zip_cons_cons, List.lookup_cons]
    cases e : n == p with
    | true => rfl
    | false =>
      have h2 : n ∈ ps := by
        rcases List.mem_cons.mp h with rfl | h
        · simp at e
        · exact h
      exact zip_lookup (by simpa using l) n h2
theorem fm_congr {α β : Type} {f g : α → Option β} : ∀ {l : List α}, (∀ x ∈ l, f x = g x) → l.filterMap f = l.filterMap g
  | [], _ => rfl
  | x :: l, h => by rw [List.filterMap_cons, List.filterMap_cons, h x List.mem_cons_self, fm_congr fun y hy => h y (List.mem_cons_of_mem _ hy)]
theorem zip_back : ∀ {ps : List Str} {us : List Value}, us.length = ps.length → ps.Nodup → (ps.filterMap fun n => ((ps.zip us).lookup n).map (n, ·)) = ps.zip us
  | [], us, l, _ => rfl
  | p :: ps, [], l, _ => by simp at l
  | p :: ps, u :: us, l, nd => by
    rw [List.nodup_cons] at nd
    rw [List.zip_cons_cons, List.filterMap_cons]
    simp only [List.lookup_cons, beq_self_eq_true, Option.map_some]
    congr 1
    have ih := zip_back (ps := ps) (us := us) (by simpa using l) nd.2
    refine Eq.trans (fm_congr fun n hn => ?_) ih
    have ne : (n == p) = false := by
      cases e : n == p with
      | false => rfl
      | true => exact absurd (by rw [← eq_of_beq e]; exact hn) nd.1
    rw [ne]
theorem bindArgs_plain {fd : FuncData} {as : List Arg} {us : List Value} (hp : fd.params = ⟨[], as, none, [], [], none, []⟩) (hd : fd.defaults = .none) (nd : (as.map (·.arg)).Nodup) (l : us.length = (as.map (·.arg)).length) : bindArgs fd ⟨us, []⟩ = pure ((as.map (·.arg)).zip us) := by
 refine Hk.hold ?_
 simp (disch := with_unfolding_all (
 exact Hk.disch (by
  have e1 : (List.filter (fun n => (((as.map (·.arg)).zip us).lookup n).isNone) (List.take (as.map (·.arg)).length (as.map (·.arg)))) = [] := by
    rw [List.take_length, List.filter_eq_nil_iff]
    intro n hn
    have z := zip_lookup l n hn
    rw [Option.isSome_iff_ne_none] at z
    simp [Option.isNone_iff_eq_none, z]
  have e2 := zip_back l nd
  have e3 : notAStandIn Value.none = pure () := rfl
  unfold bindArgs
  rw [hp, hd]
  simp only [List.map_nil, List.nil_append, List.append_nil, l, Nat.lt_irrefl, gt_iff_lt, Bool.false_and, decide_false, seqItems?, e3, pure_bind, Option.getD_none, List.drop_nil, List.length_nil, Nat.sub_zero, List.zip_nil_right, List.forIn_nil, e1, List.isEmpty_nil, Bool.not_true, e2, Bool.false_eq_true, if_false]))) only [↓Hk.hold_s]
theorem _root_.L2.Fun.bindsP {K : PySem.W.Frag} {x qual : Str} {st : Stmt} {f : Addr} {fd : FuncData} {as : List Arg} {ps : List Str} (F : Fun K x qual st f fd) (h : defArgs st = ⟨[], as, none, [], [], none, []⟩) (hp : as.map (·.arg) = ps) (nd : ps.Nodup) : Binds K fd ps [] :=
  F.binds fun kV doc pm an cdv ct us hl => by
    subst hp
    exact bindArgs_plain (fd := PySem.W.fnOf x qual (defArgs st) (defBody st) (defScope st) .none kV doc pm an cdv ct) h rfl nd hl
end Hk
set_option Elab.async false
set_option linter.all false
set_option maxRecDepth 100000
set_option maxHeartbeats 4000000
namespace Hk
open PySem PySem.Spec PyProof.Rows L2
end Hk
set_option Elab.async false
set_option linter.all false
set_option maxRecDepth 100000
set_option maxHeartbeats 4000000
namespace Hk
open PySem PySem.Spec PyProof.Rows L2
end Hk
set_option Elab.async false
set_option linter.all false
set_option maxRecDepth 100000
set_option maxHeartbeats 4000000
namespace Hk
open PySem PySem.Spec PyProof.Rows L2
section
variable {prog : Program} {w : World} {A : Around} {E : Value → Shared → Prop} {s : Shared} {l : Addr} {its : List Value} {ns : List Int} {Q : Value → Shared → Prop}
theorem maxD_raw {d : Value} (hh : A.handled = none) (hl : s.heap.IsList l its.toArray) (hi : IntsAre its ns)
    (h0 : ns = [] → ∀ h' tk, (∀ b o, s.heap.get? b = some o → h'.get? b = some o) → Q d { s with heap := h', toks := tk })
    (h : ∀ h' tk M t', (∀ b o, s.heap.get? b = some o → h'.get? b = some o) → M ∈ ns → (∀ a, a ∈ ns → a ≤ M) → Q (.int M t') { s with heap := h', toks := tk }) : wpAny (model prog w) A (call (.builtin "max") [.ref l] [(Str.ofString "default", d)]) Q E s := by
 refine Hk.hold ?_
 simp (disch := with_unfolding_all (
 exact Hk.disch (by
  obtain ⟨xs, e⟩ := hi.allInts.items
  have hn : numsOf (intItems xs).toList = ns := by rw [← e]; exact hi.numsOf
  rw [nums_intItems] at hn
  subst hn
  rw [e] at hl
  have esz : (intItems xs).size = xs.size := by simp [intItems]
  refine call_max_walkD (PySem.W.iter_listW (A := A.in1) hh hl fun s₂ e W st hfp hw hk => ?_)
  refine ⟨_, _, _, _, _, _, _, s.heap, (fun i j => decide (numAt xs i > numAt xs j)), rfl, W, st, hfp, hw, hk, fun hz s' m => ?_, fun hp => ⟨fun i j vi vj s Q E _ hi hj h => CmpOf.ints_gt (numAt xs) (fun _ _ => intItems_at) i j vi vj s Q E hi hj h, fun v s' hP m => ?_⟩⟩
  · obtain ⟨h', tk, rfl, hk'⟩ := PySem.W.moved_old e rfl m
    rw [esz] at hz
    exact h0 (List.eq_nil_of_length_eq_zero (by rw [List.length_map, Array.length_toList]; exact hz)) h' tk hk'
  · obtain ⟨h', tk, rfl, hk'⟩ := PySem.W.moved_old e rfl m
    rw [esz] at hP hp
    obtain ⟨t, rfl⟩ := intItems_at hP
    obtain ⟨h1, h2⟩ := argBest_gt (numAt xs) (xs.size - 1)
    refine h h' tk _ t hk' ?_ fun a ha => ?_
    · rw [numAt_eq]; exact PySem.getD_mem (by rw [List.length_map, Array.length_toList]; omega)
    · obtain ⟨j, hj, rfl⟩ := mem_getD ha
      rw [List.length_map, Array.length_toList] at hj
      rw [← numAt_eq]; exact h2 j (by omega)))) only [↓Hk.hold_s]
end
section
variable {X : Cx} {x : Str} {id : String} {p pos : Pos} {e : Expr} {es : List Expr} {kws : List Keyword} {ks : List Str} {t tk : TA} {r : List V → List V → Hp → VK → Prop}
/-- how a built-in function with keywords ends -/
def CallKR (X : Cx) (f : Value) (ks : List Str) (r : List V → List V → Hp → VK → Prop) : Prop :=
  ∀ (pins : List (Addr × Obj)) (s : Shared) (σ : L2.St) (H : Hp) (vs : List V) (us : List Value) (zs : List V) (ws : List Value) (Q : VK), Inv X pins σ H s → Vals vs us → Vals zs ws → r vs zs H Q → wpAny (model X.prog X.w) X.A (call f us (ks.zip ws)) (EP X pins σ Q) X.xe s
/-- max(xs, default=z) of a list of ints -/
def rMaxDef (K : PySem.W.Frag) : List V → List V → Hp → VK → Prop := fun vs zs H Q => ∃ (a : Addr) (ns : List Int) (z : V), vs = [V.ref a] ∧ zs = [z] ∧ SqL K H a (ns.map V.int) ∧ (ns = [] → Q z H) ∧ ∀ m, m ∈ ns → (∀ y, y ∈ ns → y ≤ m) → Q (.int m) H
theorem call_maxDef (hc : X.calm = true) : CallKR X (.builtin "max") ["default"] (rMaxDef X.K) := by
  intro pins s σ H vs us zs ws Q I r rz h
  obtain ⟨a, ns, z, rfl, rfl, hs, q0, q⟩ := h
  obtain ⟨its, rv, hl, _⟩ := I.list hs
  rw [Vals.ref1 r]
  obtain ⟨wz, rfl, rw'⟩ := rz.one
  exact maxD_raw (I.ok.hd hc) hl.isList rv.ints (fun e h' tk hk => ⟨z, H, I.kept hk, rw', q0 e⟩) fun h' tk m t' hk h1 h2 => ⟨.int _, H, I.kept hk, ⟨_, rfl⟩, q m h1 h2⟩
/-- sum(t) of a tuple of ints -/
def rSumT (K : PySem.W.Frag) : List V → Hp → VK → Prop := fun vs H Q => ∃ (a : Addr) (ns : List Int), vs = [V.ref a] ∧ SqT K H a (ns.map V.int) ∧ Q (.int ns.sum) H
theorem cr_sumT (hc : X.calm = true) : CallR X (.builtin "sum") (rSumT X.K) := by
  intro pins s σ H vs us Q I r h
  obtain ⟨a, ns, rfl, hs, q⟩ := h
  obtain ⟨its, rv, hl, _⟩ := I.tuple hs
  rw [Vals.ref1 r]
  have hi := rv.ints
  obtain ⟨xs, e⟩ := hi.allInts.items
  have hn : numsOf (intItems xs).toList = ns := by rw [← e]; exact hi.numsOf
  rw [nums_intItems] at hn
  have hl2 : s.heap.IsTuple a (intItems xs) := by rw [← e]; exact hl
  refine PySem.W.ktm_sumG (I.ok.hd hc) hl2 fun h' tk t' hk => ⟨.int ns.sum, H, I.kept hk, ?_, q⟩
  rw [preSum_eq, List.take_of_length_le (by simp), hn]
  exact ⟨_, rfl⟩
def tCBK (r : List V → List V → Hp → VK → Prop) (t tk : TA) : TE := fun σ H Q => t σ H fun vs H1 => tk σ H1 fun zs H2 => r vs zs H2 Q
/-- f(e, .., k = v, ..), f a built-in function -/
theorem pe_callBK (hc : CallKR X (.builtin id) ks r) (hg : Gl X x) (hm : X.mg x = none) (hv : bootBuiltins x = some (.builtin id)) (ha : PA X (e :: es) t) (hkw : PK X kws tk) (hks : (backToKw pos (keywordEach kws X.env)).filterMap (·.1) = ks := by rfl)
    (hn : x ≠ "__name__" := by decide) (hdb : (x == ("__debug__" : Str)) = false := by decide)
    (he : backTo pos (starEach (e :: es) X.env) = (false, eval e X.env) :: backTo pos (starEach es X.env) := by rfl)
    (hplain : (backTo pos (starEach (e :: es) X.env)).any (·.1) = false := by rfl)
    (hall : (backToKw pos (keywordEach kws X.env)).all (·.1.isSome) = true := by rfl)
    (hkn : (backToKw pos (keywordEach kws X.env)).any (·.1.isNone) = false := by rfl) : PE X (.Call (.Name x p) (e :: es) kws pos) (tCBK r t tk) := by
  refine ⟨fun pins s σ H Q I h => ?_⟩
  refine wpAny_Call_Name_kw (ld_blt I hg hm hv ?_ hn hdb)
  refine PyProof.Rows.callWith_kw (thn (ha.run pos pins s σ H _ I h) fun us s1 ⟨vs, H1, I1, r1, q1⟩ => ?_) he hplain hall hkn
  refine thn (hkw.run pos pins s1 σ H1 _ I1 q1) fun ws s2 ⟨zs, H2, I2, rz, q2⟩ => ?_
  rw [hks]
  exact hc pins s2 σ H2 vs us zs ws Q I2 r1 rz q2
end
end Hk
local macro_rules | `(tactic| walk_at "s1") => `(tactic| first | with_reducible refine q_sl ?_ | with_reducible refine q_np ?_ | with_reducible refine q_pt ?_)
namespace T
section
variable {P : Program} {w : World} {K : PySem.W.Frag} {mg : Str → Option Value} {base : Heap} {C CR CK : Addr}
/-- a tuple with another item at one place -/
def spPut (K : PySem.W.Frag) : Sp := fun vs H Q _ => ∃ (v x : V) (n : Nat) (ds : List PyData) (d : PyData), vs = [v, .int n, x] ∧ Dp K H v (.tuple ds) ∧ n < ds.length ∧ ds.length ≤ 500 ∧ Dp K H x d ∧ ∀ v' H', Same H H' → Dp K H' v' (.tuple (ds.set n d)) → Q v' H'
theorem ok_put (B : Bl mg) (dd : DefAt K mg "put" s_put ["row", "at", "item"]) : Cal P w K mg base 1 "put" ["row", "at", "item"] (spPut K) := by
 refine Hk.hold ?_
 simp (disch := with_unfolding_all (
 exact Hk.disch (dd.cal fun f fd F => by
  refine F.ok sc_put (fun vs H Q E h => ?_) (fun cdv A outer s H vs Q E hr h => ?_)
  · obtain ⟨v, x, n, ds, d, rfl, _⟩ := h; rfl
  · obtain ⟨v, x, n, ds, d, rfl, hv, hn, hl, hx, q⟩ := h
    refine ⟨_, (pss_one (ps_ret (pe_op op_catA (pe_op op_catA (pe_slice sl_tupA (pv 0) po_none (po_some (pv 1))) (pe_tup (pa_cons (pv 2) pa_nil))) (pe_slice sl_tupA (pv 0) (po_some (pe_op op_add (pv 1) pe_int)) po_none)))), ?_⟩
    walk_at "st0"
    refine ⟨_, rfl, ?_⟩
    refine slA_take (n := n) hv (by omega) fun v1 H1 s1 d1 => ?_
    walk_at "st"
    refine ⟨by show 1 ≤ sizeLine; decide, fun p np => ?_⟩
    have sp := same_new (o := .tup [x]) np
    have d2 : Dp K (upd H1 p (.tup [x])) (.ref p) (.tuple [d]) := .tup (SqT.of upd_same) (.cons (L2.Dp.mono (s1.trans sp) hx) .nil)
    refine catA_dp (L2.Dp.mono sp d1) d2 (by rw [List.length_take, List.length_cons]; show min n ds.length + 1 ≤ 1000; omega) fun v3 H3 s3 d3 => ?_
    have s03 := s1.trans (sp.trans s3)
    walk_at "st"
    refine ⟨_, rfl, ?_⟩
    walk_at "st"
    rw [show ((n : Int) + 1) = ((n + 1 : Nat) : Int) by omega]
    refine slA_drop (n := n + 1) (L2.Dp.mono s03 hv) (by omega) fun v4 H4 s4 d4 => ?_
    refine catA_dp (L2.Dp.mono s4 d3) d4 (by simp only [List.length_append, List.length_take, List.length_drop, List.length_cons, List.length_nil]; omega) fun v5 H5 s5 d5 => ?_
    refine q _ _ (s03.trans (s4.trans s5)) ?_
    rw [List.set_eq_take_append_cons_drop, if_pos hn]
    rw [List.append_assoc] at d5
    exact d5))) only [↓Hk.hold_s]
inductive KF where | statuses | answers | owned | taken | values_now | queues | lock_rows | cached | place | runs | spent | busy | phase | turn | extra
  deriving DecidableEq
def KF.nm : KF → Str
  | .statuses => "statuses" | .answers => "answers" | .owned => "owned" | .taken => "taken" | .values_now => "values_now" | .queues => "queues" | .lock_rows => "lock_rows" | .cached => "cached" | .place => "place" | .runs => "runs" | .spent => "spent" | .busy => "busy" | .phase => "phase" | .turn => "turn" | .extra => "extra"
def KF.all : List KF := [.extra, .turn, .phase, .busy, .spent, .runs, .place, .cached, .lock_rows, .queues, .values_now, .taken, .owned, .answers, .statuses]
def KN : List Str := ["rules", "statuses", "answers", "owned", "taken", "values_now", "queues", "lock_rows", "cached", "place", "runs", "spent", "busy", "phase", "turn", "extra"]
def KF.ix : Str → Option KF := fun z => (KF.all.find? fun f => decide (f.nm = z))
theorem KF.ix_nm (f : KF) : KF.ix f.nm = some f := by cases f <;> decide +kernel
theorem KF.inj : ∀ f g : KF, f.nm = g.nm → f = g := fun f g h => by
  have z := KF.ix_nm f
  rw [h, KF.ix_nm g] at z
  exact (Option.some.inj z).symm
theorem KF.in_all (f : KF) : f ∈ KF.all := by cases f <;> decide
theorem KF.in_KN (f : KF) : f.nm ∈ KN := by cases f <;> decide +kernel
theorem KF.not_rules (f : KF) : f.nm ≠ "rules" := by cases f <;> decide +kernel
abbrev KD := KF → PyData
def shapeOf (D : KD) : PyData := .tuple [D .statuses, D .answers, D .owned, D .taken, D .values_now, D .queues, D .lock_rows, D .cached, D .place, .tuple [D .runs, D .spent, D .busy, D .phase]]
structure KCls (K : PySem.W.Frag) (CK : Addr) : Prop where
  cls : Cls K CK
  no : ∀ f, f ∈ KN → NoAttr K CK f
/-- a kernel with these rules and data -/
def KAt (K : PySem.W.Frag) (CK : Addr) (H : Hp) (k r : Addr) (D : KD) : Prop := ∃ dx fs, H k = some (.ins CK dx fs) ∧ fs.map (·.1) = KN ∧ fs.lookup ("rules" : Str) = some (.ref r) ∧ Told K KF.nm H fs D KF.all
theorem KAt.mono {H H' : Hp} {k r : Addr} {D : KD} (h : KAt K CK H k r D) (s : Same H H') : KAt K CK H' k r D := by
  obtain ⟨dx, fs, e, m, l, t⟩ := h
  exact ⟨dx, fs, s _ _ e, m, l, t.mono s⟩
theorem KAt.but {H H' : Hp} {k r p C' dx' : Addr} {fs' : List (Str × V)} {D : KD} (h : KAt K CK H k r D) (e : H p = some (.ins C' dx' fs')) (s : But p H H') (ne : k ≠ p) : KAt K CK H' k r D := by
  obtain ⟨dx, fs, e1, m, l, t⟩ := h
  exact ⟨dx, fs, s _ _ e1 ne, m, l, t.keep (But.keep e s)⟩
theorem len_KN {fs : List (Str × V)} (m : fs.map (·.1) = KN) : fs.length < 1000 := by
  have := congrArg List.length m
  rw [List.length_map, show KN.length = 16 from rfl] at this
  omega
/-- a field read -/
theorem KAt.get {H : Hp} {k r : Addr} {D : KD} (T : KCls K CK) (h : KAt K CK H k r D) (f : KF) {Q : V → Prop} (q : ∀ v, Dp K H v (D f) → Q v) :
    ∃ a C dx fs v, V.ref k = .ref a ∧ H a = some (.ins C dx fs) ∧ Cls K C ∧ NoAttr K C f.nm ∧ fs.lookup f.nm = some v ∧ Q v := by
  obtain ⟨dx, fs, e, m, l, t⟩ := h
  obtain ⟨v, e1, d1⟩ := t f f.in_all
  exact ⟨k, CK, dx, fs, v, rfl, e, T.cls, T.no _ f.in_KN, e1, q v d1⟩
theorem KAt.getR {H : Hp} {k r : Addr} {D : KD} (T : KCls K CK) (h : KAt K CK H k r D) {Q : V → Prop} (q : Q (.ref r)) :
    ∃ a C dx fs v, V.ref k = .ref a ∧ H a = some (.ins C dx fs) ∧ Cls K C ∧ NoAttr K C ("rules" : Str) ∧ fs.lookup ("rules" : Str) = some v ∧ Q v := by
  obtain ⟨dx, fs, e, m, l, t⟩ := h
  exact ⟨k, CK, dx, fs, .ref r, rfl, e, T.cls, T.no _ (by decide +kernel), l, q⟩
/-- a field written -/
theorem KAt.set {H : Hp} {k r : Addr} {D : KD} (T : KCls K CK) (h : KAt K CK H k r D) (f : KF) {v : V} {d : PyData} (hd : Dp K H v d) {Q : Hp → Prop} (q : ∀ H', But k H H' → KAt K CK H' k r (fset D f d) → Q H') :
    ∃ a C dx fs, V.ref k = .ref a ∧ H a = some (.ins C dx fs) ∧ Cls K C ∧ NoAttr K C f.nm ∧ fs.length < 1000 ∧ Q (upd H a (.ins C dx (putF f.nm v fs))) := by
  obtain ⟨dx, fs, e, m, l, t⟩ := h
  refine ⟨k, CK, dx, fs, rfl, e, T.cls, T.no _ f.in_KN, len_KN m, q _ But.put ⟨dx, _, upd_same, ?_, ?_, (t.set KF.inj hd).keep (But.keep e But.put)⟩⟩
  · rw [map_putF (by rw [m]; exact f.in_KN)]; exact m
  · rw [put_ne _ _ (Ne.symm f.not_rules)]; exact l
/-- the rules' fields -/
theorem RulesAt.rd (R : RCls K CR) {H : Hp} {r : Addr} {b : BD} (h : RulesAt K CR H r b) (f : RF) {Q : V → Prop} (q : ∀ v, Dp K H v (rulesD b f) → Q v) (hf : f ∈ RF.all := by decide) (hn : f.nm ∈ RN := by decide +kernel) :
    ∃ a C dx fs v, V.ref r = .ref a ∧ H a = some (.ins C dx fs) ∧ Cls K C ∧ NoAttr K C f.nm ∧ fs.lookup f.nm = some v ∧ Q v := by
  obtain ⟨dx, fs, e, o, t, c⟩ := h
  obtain ⟨v, e1, d1⟩ := t f hf
  exact ⟨r, CR, dx, fs, v, rfl, e, R.cls, R.no _ hn, e1, q v d1⟩
/-- where the making of a kernel stands -/
structure KS (K : PySem.W.Frag) (CK k r dx : Addr) (H0 H : Hp) (fs : List (Str × V)) (D : KD) (nms : List Str) (ns : List KF) : Prop where
  ins : H k = some (.ins CK dx fs)
  keys : fs.map (·.1) = nms
  rl : fs.lookup ("rules" : Str) = some (.ref r)
  told : Told K KF.nm H fs D ns
  but : But k H0 H
theorem KS.put {k r dx : Addr} {H0 H : Hp} {fs : List (Str × V)} {D : KD} {nms : List Str} {ns : List KF} {v : V} (S : KS K CK k r dx H0 H fs D nms ns) (f : KF) (hf : f ∉ ns) (hk : f.nm ∉ nms) (hd : Dp K H v (D f)) :
    KS K CK k r dx H0 (upd H k (.ins CK dx (putF f.nm v fs))) (putF f.nm v fs) D (nms ++ [f.nm]) (f :: ns) :=
  ⟨upd_same, by rw [map_putF_new (by rw [S.keys]; exact hk), S.keys], by rw [put_ne _ _ (Ne.symm f.not_rules)]; exact S.rl, (S.told.add KF.inj hf hd).keep (But.keep S.ins But.put), S.but.trans But.put⟩
theorem KS.few {k r dx : Addr} {H0 H : Hp} {fs : List (Str × V)} {D : KD} {nms : List Str} {ns : List KF} (S : KS K CK k r dx H0 H fs D nms ns) (h : nms.length < 1000) : fs.length < 1000 := by
  rw [← List.length_map (f := (·.1)), S.keys]; exact h
theorem KS.step {k r dx : Addr} {H0 H : Hp} {fs : List (Str × V)} {D : KD} {nms : List Str} {ns : List KF} {v : V} (T : KCls K CK) (S : KS K CK k r dx H0 H fs D nms ns) (f : KF) (hd : Dp K H0 v (D f)) (h0 : ∃ C dx fs, H0 k = some (.ins C dx fs)) (hf : f ∉ ns) (hk : f.nm ∉ nms) (hn : nms.length < 1000) {Q : Hp → Prop}
    (q : ∀ fs' H', KS K CK k r dx H0 H' fs' D (nms ++ [f.nm]) (f :: ns) → Q H') : ∃ a C dx fs, V.ref k = .ref a ∧ H a = some (.ins C dx fs) ∧ Cls K C ∧ NoAttr K C f.nm ∧ fs.length < 1000 ∧ Q (upd H a (.ins C dx (putF f.nm v fs))) := by
  obtain ⟨C0, dx0, fs0, e0⟩ := h0
  exact ⟨k, CK, dx, fs, rfl, S.ins, T.cls, T.no _ f.in_KN, S.few hn, q _ _ (S.put f hf hk (dpKeep (But.keep e0 S.but) hd))⟩
theorem KS.gstep {k r dx : Addr} {H0 H : Hp} {fs : List (Str × V)} {D : KD} {nms : List Str} {ns : List KF} {v : V} {σ : L2.St} {Q : L2.St → Hp → Prop} (T : KCls K CK) (S : KS K CK k r dx H0 H fs D nms ns) (f : KF) (hd : Dp K H0 v (D f)) (h0 : ∃ C dx fs, H0 k = some (.ins C dx fs)) (s0 : σ[0]? = some (some (.ref k))) (hf : f ∉ ns) (hk : f.nm ∉ nms) (hn : nms.length < 1000)
    (q : ∀ fs' H', KS K CK k r dx H0 H' fs' D (nms ++ [f.nm]) (f :: ns) → Q σ H') : gFld K (tVar 0) f.nm v σ H Q := ⟨_, s0, S.step T f hd h0 hf hk hn q⟩
end
end T
namespace T
section
variable {P : Program} {w : World} {K : PySem.W.Frag} {mg : Str → Option Value} {base : Heap} {C CR CK : Addr}
def spKernel (K : PySem.W.Frag) (CK : Addr) : Sp := fun vs H Q _ => ∃ (k r dx : Addr) (v : V) (D : KD), vs = [.ref k, .ref r, v] ∧ H k = some (.ins CK dx []) ∧ Dp K H v (shapeOf D) ∧ D .turn = .none ∧ D .extra = .int 0 ∧ ∀ H', But k H H' → KAt K CK H' k r D → Q .non H'
theorem ok_Kernel (B : Bl mg) (T : KCls K CK) : ∀ f fd, Fun K "__init__" "Kernel.__init__" s_Kernel___init__ f fd → FnOk P w K mg base CX0 1 f fd ["self", "rules", "shape"] (spKernel K CK) := by
 refine Hk.hold ?_
 simp (disch := with_unfolding_all (
 exact Hk.disch (fun f fd F => by
  refine F.ok sc_Kernel___init__ (fun vs H Q E h => ?_) (fun cdv A outer s H vs Q E hr h => ?_)
  · obtain ⟨k, r, dx, v, D, rfl, _⟩ := h; rfl
  · obtain ⟨k, r, dx, v, D, rfl, hk, hv, ht, he, q⟩ := h
    refine ⟨_, (pss_cons (ps_fld (pv 0) (pv 1) rfl)
      (pss_cons (ps_asg (pv 2) (pg_tup rfl (pgs_cons (pg_fld (pv 0)) (pgs_cons (pg_fld (pv 0)) (pgs_cons (pg_fld (pv 0)) (pgs_cons (pg_fld (pv 0)) (pgs_cons (pg_fld (pv 0)) (pgs_cons (pg_fld (pv 0)) (pgs_cons (pg_fld (pv 0)) (pgs_cons (pg_fld (pv 0)) (pgs_cons (pg_fld (pv 0)) (pgs_cons (pg_name (i := 3) sc_Kernel___init__.nd rfl (Or.inl rfl)) pgs_nil))))))))))))
      (pss_cons (ps_asg (pv 3) (pg_tup rfl (pgs_cons (pg_fld (pv 0)) (pgs_cons (pg_fld (pv 0)) (pgs_cons (pg_fld (pv 0)) (pgs_cons (pg_fld (pv 0)) pgs_nil))))))
      (pss_cons (ps_fld (pv 0) pe_non rfl)
      (pss_one (ps_fld (pv 0) pe_int rfl)))))), ?_⟩
    walk_at "st0"
    refine ⟨k, CK, dx, [], rfl, hk, T.cls, T.no _ (by decide +kernel), by simp, ?_⟩
    have S : KS K CK k r dx H (upd H k (.ins CK dx (putF "rules" (.ref r) []))) (putF "rules" (.ref r) []) D ["rules"] [] := ⟨upd_same, rfl, put_same _ _ _, fun f hf => (nomatch hf), But.put⟩
    have h0 : ∃ C dx fs, H k = some (.ins C dx fs) := ⟨_, _, _, hk⟩
    have kk : Keep H (upd H k (.ins CK dx (putF "rules" (.ref r) []))) := But.keep hk But.put
    walk_at "st"
    unfold shapeOf at hv
    cases hv with
    | @tup t xs _ hs ha =>
    cases ha with
    | @cons y0 r0 _ _ a0 ha =>
    cases ha with
    | @cons y1 r1 _ _ a1 ha =>
    cases ha with
    | @cons y2 r2 _ _ a2 ha =>
    cases ha with
    | @cons y3 r3 _ _ a3 ha =>
    cases ha with
    | @cons y4 r4 _ _ a4 ha =>
    cases ha with
    | @cons y5 r5 _ _ a5 ha =>
    cases ha with
    | @cons y6 r6 _ _ a6 ha =>
    cases ha with
    | @cons y7 r7 _ _ a7 ha =>
    cases ha with
    | @cons y8 r8 _ _ a8 ha =>
    cases ha with
    | @cons y9 r9 _ _ a9 ha =>
    cases ha
    refine ⟨t, _, rfl, Keep.sqT kk hs, rfl, ?_⟩
    refine ⟨_, _, rfl, S.gstep T .statuses a0 h0 rfl (by decide) (by decide +kernel) (by decide) fun fs0 H0 S => ?_⟩
    refine ⟨_, _, rfl, S.gstep T .answers a1 h0 rfl (by decide) (by decide +kernel) (by decide) fun fs1 H1 S => ?_⟩
    refine ⟨_, _, rfl, S.gstep T .owned a2 h0 rfl (by decide) (by decide +kernel) (by decide) fun fs2 H2 S => ?_⟩
    refine ⟨_, _, rfl, S.gstep T .taken a3 h0 rfl (by decide) (by decide +kernel) (by decide) fun fs3 H3 S => ?_⟩
    refine ⟨_, _, rfl, S.gstep T .values_now a4 h0 rfl (by decide) (by decide +kernel) (by decide) fun fs4 H4 S => ?_⟩
    refine ⟨_, _, rfl, S.gstep T .queues a5 h0 rfl (by decide) (by decide +kernel) (by decide) fun fs5 H5 S => ?_⟩
    refine ⟨_, _, rfl, S.gstep T .lock_rows a6 h0 rfl (by decide) (by decide +kernel) (by decide) fun fs6 H6 S => ?_⟩
    refine ⟨_, _, rfl, S.gstep T .cached a7 h0 rfl (by decide) (by decide +kernel) (by decide) fun fs7 H7 S => ?_⟩
    refine ⟨_, _, rfl, S.gstep T .place a8 h0 rfl (by decide) (by decide +kernel) (by decide) fun fs8 H8 S => ?_⟩
    refine ⟨_, _, rfl, rfl, ?_⟩
    walk_at "st"
    cases a9 with
    | @tup t2 xs2 _ hs2 hb =>
    cases hb with
    | @cons z0 q0 _ _ b0 hb =>
    cases hb with
    | @cons z1 q1 _ _ b1 hb =>
    cases hb with
    | @cons z2 q2 _ _ b2 hb =>
    cases hb with
    | @cons z3 q3 _ _ b3 hb =>
    cases hb
    refine ⟨t2, _, rfl, Keep.sqT (But.keep hk S.but) hs2, rfl, ?_⟩
    refine ⟨_, _, rfl, S.gstep T .runs b0 h0 rfl (by decide) (by decide +kernel) (by decide) fun fs10 H10 S => ?_⟩
    refine ⟨_, _, rfl, S.gstep T .spent b1 h0 rfl (by decide) (by decide +kernel) (by decide) fun fs11 H11 S => ?_⟩
    refine ⟨_, _, rfl, S.gstep T .busy b2 h0 rfl (by decide) (by decide +kernel) (by decide) fun fs12 H12 S => ?_⟩
    refine ⟨_, _, rfl, S.gstep T .phase b3 h0 rfl (by decide) (by decide +kernel) (by decide) fun fs13 H13 S => ?_⟩
    refine ⟨rfl, ?_⟩
    walk_at "st"
    refine S.step T .turn (by rw [ht]; exact .non) h0 (by decide) (by decide +kernel) (by decide) fun fs20 H20 S => ?_
    walk_at "st"
    refine S.step T .extra (by rw [he]; exact .int _) h0 (by decide) (by decide +kernel) (by decide) fun fs21 H21 S => ?_
    exact q _ S.but ⟨dx, _, S.ins, S.keys, S.rl, S.told⟩))) only [↓Hk.hold_s]
end
end T
namespace T
section
variable {P : Program} {w : World} {K : PySem.W.Frag} {mg : Str → Option Value} {base : Heap} {C CR CK tR : Addr}
theorem hu64 {k : Nat} {A : Around} (hr : Room k A) : A.units + 64 < cLine := by have := hr.un; omega
def readyD : PyData := .tuple [.str "ready"]
structure GK (K : PySem.W.Frag) (mg : Str → Option Value) (tR : Addr) : Prop where
  g_READY : mg "READY" = some (.ref tR)
  ready : ∀ H, Dp K H (.ref tR) readyD
def spShape (K : PySem.W.Frag) (CK : Addr) : Sp := fun vs H Q _ => ∃ (k r : Addr) (D : KD), vs = [.ref k] ∧ KAt K CK H k r D ∧ ∀ v H', Same H H' → Dp K H' v (shapeOf D) → Q v H'
theorem ok_shape (B : Bl mg) (T : KCls K CK) (d : MethAt K CK "shape" "Kernel.shape" s_Kernel_shape ["self"]) : MCal P w K mg base 1 CK "shape" ["self"] (spShape K CK) := by
 refine Hk.hold ?_
 simp (disch := with_unfolding_all (
 exact Hk.disch (d.cal fun f fd F => by
  refine F.ok sc_Kernel_shape (fun vs H Q E h => ?_) (fun cdv A outer s H vs Q E hr h => ?_)
  · obtain ⟨k, r, D, rfl, _⟩ := h; rfl
  · obtain ⟨k, r, D, rfl, hk, q⟩ := h
    refine ⟨_, (pss_cons (ps_set (i := 1) sc_Kernel_shape.nd rfl (Or.inl rfl) (pe_tup (pa_cons (pe_fld (pv 0) rfl) (pa_cons (pe_fld (pv 0) rfl) (pa_cons (pe_fld (pv 0) rfl) (pa_cons (pe_fld (pv 0) rfl) pa_nil))))))
      (pss_one (ps_ret (pe_tup (pa_cons (pe_fld (pv 0) rfl) (pa_cons (pe_fld (pv 0) rfl) (pa_cons (pe_fld (pv 0) rfl) (pa_cons (pe_fld (pv 0) rfl) (pa_cons (pe_fld (pv 0) rfl) (pa_cons (pe_fld (pv 0) rfl) (pa_cons (pe_fld (pv 0) rfl) (pa_cons (pe_fld (pv 0) rfl) (pa_cons (pe_fld (pv 0) rfl) (pa_cons (pv 1) pa_nil)))))))))))))), ?_⟩
    walk_at "st0"
    refine hk.get T .runs fun v1 d1 => ?_
    walk_at "st"
    refine hk.get T .spent fun v2 d2 => ?_
    walk_at "st"
    refine hk.get T .busy fun v3 d3 => ?_
    walk_at "st"
    refine hk.get T .phase fun v4 d4 => ?_
    walk_at "st"
    refine ⟨by show 4 ≤ sizeLine; decide, fun p np => ?_⟩
    have sp := same_new (o := .tup [v1, v2, v3, v4]) np
    replace hk := hk.mono sp
    have dr : Dp K (upd H p (.tup [v1, v2, v3, v4])) (.ref p) (.tuple [D .runs, D .spent, D .busy, D .phase]) := .tup (SqT.of upd_same) (.cons (L2.Dp.mono sp d1) (.cons (L2.Dp.mono sp d2) (.cons (L2.Dp.mono sp d3) (.cons (L2.Dp.mono sp d4) .nil))))
    walk_at "st"
    refine hk.get T .statuses fun v1 d1 => ?_
    walk_at "st"
    refine hk.get T .answers fun v2 d2 => ?_
    walk_at "st"
    refine hk.get T .owned fun v3 d3 => ?_
    walk_at "st"
    refine hk.get T .taken fun v4 d4 => ?_
    walk_at "st"
    refine hk.get T .values_now fun v5 d5 => ?_
    walk_at "st"
    refine hk.get T .queues fun v6 d6 => ?_
    walk_at "st"
    refine hk.get T .lock_rows fun v7 d7 => ?_
    walk_at "st"
    refine hk.get T .cached fun v8 d8 => ?_
    walk_at "st"
    refine hk.get T .place fun v9 d9 => ?_
    walk_at "st"
    refine ⟨by show 10 ≤ sizeLine; decide, fun p2 np2 => ?_⟩
    have s2 := same_new (o := .tup [v1, v2, v3, v4, v5, v6, v7, v8, v9, .ref p]) np2
    have m : ∀ {v : V} {d : PyData}, Dp K _ v d → Dp K _ v d := fun {v d} h => L2.Dp.mono s2 (v := v) (d := d) h
    exact q _ _ (sp.trans s2) (.tup (SqT.of upd_same) (.cons (m d1) (.cons (m d2) (.cons (m d3) (.cons (m d4) (.cons (m d5) (.cons (m d6) (.cons (m d7) (.cons (m d8) (.cons (m d9) (.cons (m dr) .nil)))))))))))))) only [↓Hk.hold_s]
/-- what is seen -/
def seenD (D : KD) : PyData := match D .turn, D .answers with | .int t, .tuple as => .tuple [.int t, as.getD t.toNat .none] | _, _ => .none
def spSeen (K : PySem.W.Frag) (CK : Addr) : Sp := fun vs H Q _ => ∃ (k r : Addr) (D : KD) (as : List PyData), vs = [.ref k] ∧ KAt K CK H k r D ∧ D .answers = .tuple as ∧ (D .turn = .none ∨ ∃ n : Nat, D .turn = .int n ∧ n < as.length) ∧ ∀ v H', Same H H' → Dp K H' v (seenD D) → Q v H'
theorem ok_seen (B : Bl mg) (T : KCls K CK) (d : MethAt K CK "seen" "Kernel.seen" s_Kernel_seen ["self"]) : MCal P w K mg base 1 CK "seen" ["self"] (spSeen K CK) := by
 refine Hk.hold ?_
 simp (disch := with_unfolding_all (
 exact Hk.disch (d.cal fun f fd F => by
  refine F.ok sc_Kernel_seen (fun vs H Q E h => ?_) (fun cdv A outer s H vs Q E hr h => ?_)
  · obtain ⟨k, r, D, as, rfl, _⟩ := h; rfl
  · obtain ⟨k, r, D, as, rfl, hk, ha, ht, q⟩ := h
    refine ⟨_, (pss_one (ps_ret (pe_ifExp (pt_cmp (pc_isN (pe_fld (pv 0) rfl))) pe_non (pe_tup (pa_cons (pe_fld (pv 0) rfl) (pa_cons (pe_ix ix_tup (pe_fld (pv 0) rfl) (pe_fld (pv 0) rfl) (fun _ _ => rfl)) pa_nil)))))), ?_⟩
    walk_at "st0"
    refine hk.get T .turn fun v1 d1 => ?_
    rcases ht with ht | ⟨n, ht, hn⟩
    · rw [ht] at d1
      cases d1
      walk_at "st"
      refine iteT ?_
      walk_at "st"
      refine q _ _ (Same.refl _) ?_
      unfold seenD
      rw [ht]
      exact .non
    · rw [ht] at d1
      cases d1
      walk_at "st"
      refine iteF ?_
      walk_at "st"
      refine hk.get T .turn fun v2 d2 => ?_
      rw [ht] at d2
      cases d2
      walk_at "st"
      refine hk.get T .answers fun v3 d3 => ?_
      rw [ha] at d3
      walk_at "st"
      refine hk.get T .turn fun v4 d4 => ?_
      rw [ht] at d4
      cases d4
      cases d3 with
      | @tup a xs _ hs hxs =>
      have lx : n < xs.length := by rw [hxs.length]; exact hn
      refine q_ixT hs (atI_nat (List.getElem?_eq_getElem lx)) ?_
      walk_at "st"
      refine ⟨by show 2 ≤ sizeLine; decide, fun p np => ?_⟩
      obtain ⟨dd, e1, e2⟩ := hxs.get' (List.getElem?_eq_getElem lx)
      refine q _ _ (same_new np) ?_
      unfold seenD
      rw [ht, ha]
      have e3 : as.getD n .none = dd := by rw [List.getD_eq_getElem?_getD, e1]; rfl
      show Dp K _ _ (.tuple [.int n, as.getD ((n : Int)).toNat .none])
      rw [Int.toNat_natCast, e3]
      exact .tup (SqT.of upd_same) (.cons (.int _) (.cons (L2.Dp.mono (same_new np) e2) .nil))))) only [↓Hk.hold_s]
def spIsReady (K : PySem.W.Frag) (CK : Addr) : Sp := fun vs H Q _ => ∃ (k r : Addr) (D : KD) (ds : List PyData) (n : Nat) (st : PyData), vs = [.ref k, .int n] ∧ KAt K CK H k r D ∧ D .statuses = .tuple ds ∧ ds[n]? = some st ∧ SeqAt.shaped st = true ∧ Q (.bl (PyData.eqv st readyD)) H
theorem ok_is_ready (B : Bl mg) (T : KCls K CK) (G : GK K mg tR) (d : MethAt K CK "is_ready" "Kernel.is_ready" s_Kernel_is_ready ["self", "task"]) : MCal P w K mg base 1 CK "is_ready" ["self", "task"] (spIsReady K CK) := by
 refine Hk.hold ?_
 simp (disch := with_unfolding_all (
 exact Hk.disch (d.cal fun f fd F => by
  refine F.ok sc_Kernel_is_ready (fun vs H Q E h => ?_) (fun cdv A outer s H vs Q E hr h => ?_)
  · obtain ⟨k, r, D, ds, n, st, rfl, _⟩ := h; rfl
  · obtain ⟨k, r, D, ds, n, st, rfl, hk, ha, hn, sh, q⟩ := h
    have hu := hu_of hr
    refine ⟨_, (pss_one (ps_ret (pe_cmpR (op_eqD (hu64 hr)) (pe_ix ix_tup (pe_fld (pv 0) rfl) (pv 1) (fun _ _ => rfl)) (pe_glob (v := .ref tR) rfl G.g_READY rfl) (nomark _)))), ?_⟩
    walk_at "st0"
    refine hk.get T .statuses fun v3 d3 => ?_
    rw [ha] at d3
    walk_at "st"
    cases d3 with
    | @tup a xs _ hs hxs =>
    have lx : n < xs.length := by rw [hxs.length]; exact (List.getElem?_eq_some_iff.mp hn).1
    refine q_ixT hs (atI_nat (List.getElem?_eq_getElem lx)) ?_
    obtain ⟨dd, e1, e2⟩ := hxs.get' (List.getElem?_eq_getElem lx)
    rw [hn] at e1
    cases e1
    walk_at "st"
    exact ⟨st, readyD, e2, G.ready _, sh, by decide +kernel, q⟩))) only [↓Hk.hold_s]
end
end T
namespace T
section
variable {P : Program} {w : World} {K : PySem.W.Frag} {mg : Str → Option Value} {base : Heap} {C CR CK tR : Addr}
theorem KAt.meth {H : Hp} {k r : Addr} {D : KD} (h : KAt K CK H k r D) {m : Str} (hm : m ∉ KN) {Q : Prop} (q : Q) : ∃ a dx fs, V.ref k = .ref a ∧ H a = some (.ins CK dx fs) ∧ fs.lookup m = none ∧ Q := by
  obtain ⟨dx, fs, e, m1, l, t⟩ := h
  exact ⟨k, dx, fs, rfl, e, only_map m1 _ hm, q⟩
def yesD : PyData := .str "yes"
def noD : PyData := .str "no"
def putT : PyData → Nat → PyData → PyData | .tuple l, n, d => .tuple (l.set n d) | x, _, _ => x
def settleD (D : KD) (t : Nat) (st an : PyData) : KD := fset (fset D .statuses (putT (D .statuses) t st)) .answers (putT (D .answers) t an)
structure BothOk (D : KD) (t : Nat) : Prop where
  st : ∃ ds, D .statuses = .tuple ds ∧ t < ds.length ∧ ds.length ≤ 100
  an : ∃ as, D .answers = .tuple as ∧ t < as.length ∧ as.length ≤ 100
def spSettle (K : PySem.W.Frag) (CK : Addr) : Sp := fun vs H Q _ => ∃ (k r : Addr) (D : KD) (t : Nat) (x y : V) (st an : PyData), vs = [.ref k, .int t, x, y] ∧ KAt K CK H k r D ∧ BothOk D t ∧ Dp K H x st ∧ Dp K H y an ∧ ∀ H', But k H H' → KAt K CK H' k r (settleD D t st an) → Q .non H'
theorem ok_settle (B : Bl mg) (T : KCls K CK) (c_put : Cal P w K mg base 1 "put" ["row", "at", "item"] (spPut K)) (d : MethAt K CK "settle" "Kernel.settle" s_Kernel_settle ["self", "task", "status", "answer"]) : MCal P w K mg base 2 CK "settle" ["self", "task", "status", "answer"] (spSettle K CK) := by
 refine Hk.hold ?_
 simp (disch := with_unfolding_all (
 exact Hk.disch (d.cal fun f fd F => by
  refine F.ok sc_Kernel_settle (fun vs H Q E h => ?_) (fun cdv A outer s H vs Q E hr h => ?_)
  · obtain ⟨k, r, D, t, x, y, st, an, rfl, _⟩ := h; rfl
  · obtain ⟨k, r, D, t, x, y, st, an, rfl, hk, ⟨⟨ds, e1, l1, l2⟩, as, e3, l3, l4⟩, hx, hy, q⟩ := h
    refine ⟨_, (pss_cons (ps_fld (pv 0) (pe_cal c_put (hr.mono (by omega)) rfl (pa_cons (pe_fld (pv 0) rfl) (pa_cons (pv 1) (pa_cons (pv 2) pa_nil)))) rfl)
      (pss_one (ps_fld (pv 0) (pe_cal c_put (hr.mono (by omega)) rfl (pa_cons (pe_fld (pv 0) rfl) (pa_cons (pv 1) (pa_cons (pv 3) pa_nil)))) rfl))), ?_⟩
    walk_at "st0"
    refine hk.get T .statuses fun v1 d1 => ?_
    rw [e1] at d1
    walk_at "st"
    refine ⟨v1, x, t, ds, st, rfl, d1, l1, by omega, hx, fun v2 H2 s2 d2 => ?_⟩
    walk_at "st"
    refine (hk.mono s2).set T .statuses d2 fun H3 b3 hk3 => ?_
    have e1' : putT (D .statuses) t st = .tuple (ds.set t st) := by rw [e1]; rfl
    rw [← e1'] at hk3
    have kk : Keep H H3 := by
      obtain ⟨dx, fs, ei, _⟩ := id (hk.mono s2)
      exact fun a o ho hi => But.keep ei b3 _ _ (s2 _ _ ho) hi
    walk_at "st"
    refine hk3.get T .answers fun v4 d4 => ?_
    have d5 : Dp K H3 v4 (.tuple as) := by rw [← e3]; exact d4
    walk_at "st"
    refine ⟨v4, y, t, as, an, rfl, d5, l3, by omega, dpKeep kk hy, fun v6 H6 s6 d6 => ?_⟩
    walk_at "st"
    refine (hk3.mono s6).set T .answers d6 fun H7 b7 hk7 => ?_
    refine q _ ((But.same s2).trans (b3.trans ((But.same s6).trans b7))) ?_
    unfold settleD
    rw [show putT (D .answers) t an = .tuple (as.set t an) by rw [e3]; rfl]
    exact hk7))) only [↓Hk.hold_s]
def asleepD (n : Int) : PyData := .tuple [.str "asleep", .int n]
def isNap : PyData → Bool | .tuple (.str z :: _) => decide (z = "asleep") | _ => false
def napOf : PyData → Int | .tuple [_, .int i] => i | _ => 0
def sleptS (d : PyData) : PyData := if isNap d then (if 1 < napOf d then asleepD (napOf d - 1) else readyD) else d
def sleptA (d a : PyData) : PyData := if isNap d then (if 1 < napOf d then .none else yesD) else a
def napOk (d : PyData) : Prop := (∃ z r, d = .tuple (.str z :: r) ∧ z ≠ "asleep") ∨ ∃ i, d = asleepD i
def seqD : PyData → List PyData | .tuple l => l | _ => []
/-- behind a tick's sleep -/
def sleepD (D : KD) : KD := fset (fset D .statuses (.tuple ((seqD (D .statuses)).map sleptS))) .answers (.tuple (List.zipWith sleptA (seqD (D .statuses)) (seqD (D .answers))))
structure SleepOk (D : KD) (ds as : List PyData) : Prop where
  st : D .statuses = .tuple ds
  an : D .answers = .tuple as
  len : as.length = ds.length
  few : ds.length ≤ 100
  nap : ∀ d ∈ ds, napOk d
def partD (D : KD) (ds as : List PyData) (p : Nat → Bool) : KD := fset (fset D .statuses (.tuple (ds.mapIdx fun i d => if p i then sleptS d else d))) .answers (.tuple (as.mapIdx fun i a => if p i then sleptA (ds.getD i .none) a else a))
theorem partD_none {D : KD} {ds as : List PyData} (O : SleepOk D ds as) (p : Nat → Bool) (h : ∀ i, p i = false) : partD D ds as p = D := by
  have e1 : (ds.mapIdx fun i d => if p i then sleptS d else d) = ds := by
    apply List.ext_getElem?
    intro i
    simp [List.getElem?_mapIdx, h]
  have e2 : (as.mapIdx fun i a => if p i then sleptA (ds.getD i .none) a else a) = as := by
    apply List.ext_getElem?
    intro i
    simp [List.getElem?_mapIdx, h]
  unfold partD
  rw [e1, e2, ← O.st, ← O.an]
  funext f
  unfold fset
  split
  · rename_i h; rw [h]
  · split
    · rename_i h; rw [h]
    · rfl
theorem partD_step {D : KD} {ds as : List PyData} {p p' : Nat → Bool} {t : Nat} {d a : PyData} (ht : ds[t]? = some d) (ha : as[t]? = some a) (h1 : p t = false) (h2 : p' t = true) (h3 : ∀ i, i ≠ t → p' i = p i) : settleD (partD D ds as p) t (sleptS d) (sleptA d a) = partD D ds as p' := by
 refine Hk.hold ?_
 simp (disch := with_unfolding_all (
 exact Hk.disch (by
  have g : ds.getD t .none = d := by rw [List.getD_eq_getElem?_getD, ht]; rfl
  have lt := (List.getElem?_eq_some_iff.mp ht).1
  have la := (List.getElem?_eq_some_iff.mp ha).1
  have e1 : (ds.mapIdx fun i d => if p i then sleptS d else d).set t (sleptS d) = (ds.mapIdx fun i d => if p' i then sleptS d else d) := by
    apply List.ext_getElem?
    intro i
    rw [List.getElem?_set]
    by_cases hi : t = i
    · subst hi
      rw [if_pos rfl, if_pos (by rw [List.length_mapIdx]; exact lt)]
      simp only [List.getElem?_mapIdx, ht, h2, Option.map_some, if_true]
    · rw [if_neg hi]
      simp only [List.getElem?_mapIdx, h3 i (Ne.symm hi)]
  have e2 : (as.mapIdx fun i a => if p i then sleptA (ds.getD i .none) a else a).set t (sleptA d a) = (as.mapIdx fun i a => if p' i then sleptA (ds.getD i .none) a else a) := by
    apply List.ext_getElem?
    intro i
    rw [List.getElem?_set]
    by_cases hi : t = i
    · subst hi
      simp only [List.getElem?_mapIdx, ha, h2, g, Option.map_some, if_true]
      rw [if_pos (by rw [List.length_mapIdx]; exact la)]
    · rw [if_neg hi]
      simp only [List.getElem?_mapIdx, h3 i (Ne.symm hi)]
  unfold settleD
  rw [show partD D ds as p .statuses = .tuple (ds.mapIdx fun i d => if p i then sleptS d else d) from rfl, show partD D ds as p .answers = .tuple (as.mapIdx fun i a => if p i then sleptA (ds.getD i .none) a else a) from rfl]
  show fset (fset (partD D ds as p) .statuses (.tuple _)) .answers (.tuple _) = _
  rw [e1, e2]
  unfold partD
  funext f
  unfold fset
  cases f <;> rfl))) only [↓Hk.hold_s]
theorem partD_all {D : KD} {ds as : List PyData} (O : SleepOk D ds as) (p : Nat → Bool) (h : ∀ i d, ds[i]? = some d → p i = isNap d) : partD D ds as p = sleepD D := by
 refine Hk.hold ?_
 simp (disch := with_unfolding_all (
 exact Hk.disch (by
  have e1 : (ds.mapIdx fun i d => if p i then sleptS d else d) = ds.map sleptS := by
    apply List.ext_getElem?
    intro i
    rw [List.getElem?_mapIdx, List.getElem?_map]
    cases hd : ds[i]? with
    | none => rfl
    | some d =>
      simp only [Option.map_some, h i d hd]
      unfold sleptS
      cases isNap d <;> rfl
  have e2 : (as.mapIdx fun i a => if p i then sleptA (ds.getD i .none) a else a) = List.zipWith sleptA ds as := by
    apply List.ext_getElem?
    intro i
    rw [List.getElem?_mapIdx, List.getElem?_zipWith]
    cases ha : as[i]? with
    | none => cases ds[i]? <;> rfl
    | some a =>
      have la := (List.getElem?_eq_some_iff.mp ha).1
      have ld : i < ds.length := by rw [← O.len]; exact la
      have hd : ds[i]? = some ds[i] := List.getElem?_eq_getElem ld
      rw [hd]
      simp only [Option.map_some, h i _ hd, List.getD_eq_getElem?_getD, hd, Option.getD_some]
      unfold sleptA
      cases isNap ds[i] <;> rfl
  unfold partD sleepD
  rw [e1, e2, O.st, O.an]
  rfl))) only [↓Hk.hold_s]
def napL (ds : List PyData) : List Nat := (List.range ds.length).filter fun i => isNap (ds.getD i .none)
theorem napL_mem {ds : List PyData} {i : Nat} {d : PyData} (h : ds[i]? = some d) : decide (i ∈ napL ds) = isNap d := by
  have lt := (List.getElem?_eq_some_iff.mp h).1
  have g : ds.getD i .none = d := by rw [List.getD_eq_getElem?_getD, h]; rfl
  rw [Bool.eq_iff_iff, decide_eq_true_iff]
  unfold napL
  rw [List.mem_filter, List.mem_range, g]
  exact ⟨fun h => h.2, fun h => ⟨lt, h⟩⟩
theorem napL_nodup (ds : List PyData) : (napL ds).Nodup := List.nodup_range.sublist List.filter_sublist
theorem take_new {l : List Nat} (nd : l.Nodup) {i t : Nat} (h : l[i]? = some t) : t ∉ l.take i ∧ ∀ j, j ∈ l.take (i + 1) ↔ j ∈ l.take i ∨ j = t := by
  have e : l.take (i + 1) = l.take i ++ [t] := by rw [List.take_add_one, h]; rfl
  refine ⟨fun hm => ?_, fun j => by rw [e]; simp⟩
  have z : (l.take (i + 1)).Nodup := nd.sublist (List.take_sublist _ _)
  rw [e, List.nodup_append] at z
  exact z.2.2 _ hm _ (by simp) rfl
def spSleepOn (K : PySem.W.Frag) (CK : Addr) : Sp := fun vs H Q _ => ∃ (k r : Addr) (D : KD) (ds as : List PyData), vs = [.ref k] ∧ KAt K CK H k r D ∧ SleepOk D ds as ∧ ∀ H', But k H H' → KAt K CK H' k r (sleepD D) → Q .non H'
theorem ok_sleep_on (B : Bl mg) (T : KCls K CK) (G : GK K mg tR) (g_enum : mg "enumerate" = none) (m_settle : MCal P w K mg base 2 CK "settle" ["self", "task", "status", "answer"] (spSettle K CK)) (d : MethAt K CK "sleep_on" "Kernel.sleep_on" s_Kernel_sleep_on ["self"]) : MCal P w K mg base 3 CK "sleep_on" ["self"] (spSleepOn K CK) := by
 refine Hk.hold ?_
 simp (disch := with_unfolding_all (
 exact Hk.disch (d.cal fun f fd F => by
  refine F.ok sc_Kernel_sleep_on (fun vs H Q E h => ?_) (fun cdv A outer s H vs Q E hr h => ?_)
  · obtain ⟨k, r, D, ds, as, rfl, _⟩ := h; rfl
  · obtain ⟨k, r, D, ds, as, rfl, hk, O, q⟩ := h
    refine ⟨_, (pss_cons (ps_setLc (i := 1) (own := [("task", 2), ("status", 4)]) rfl sc_Kernel_sleep_on.nd rfl rfl (sw_true rfl rfl rfl (by decide +kernel)) (pi_enumT rfl g_enum (pa_cons (pe_fld (pv 0) rfl) pa_nil)) (blkOk_by (N := ["self", "asleep", "task", "ticks", "status"]) (sc := defScope s_Kernel_sleep_on) (by decide +kernel)) (fun _ _ _ _ _ => (show PG _ _ (gTup K 2 _) from pg_tup rfl (pgs_cons (pg_name (i := 2) sc_Kernel_sleep_on.nd rfl (Or.inl rfl)) (pgs_cons (pg_name (i := 4) sc_Kernel_sleep_on.nd rfl (Or.inl rfl)) pgs_nil)))) (fun _ _ _ _ _ => (pts_one (pt_cmpR op_eq (pe_ix (show IxR _ (rIxT K) from ix_tup) (pv 4) pe_int (fun _ _ => rfl)) pe_str (nomark _)))) (fun _ _ _ _ _ => (pv 2)))
      (pss_one (ps_for PassesOwn.never rfl (pi_list (pv 1)) (pg_name (i := 2) sc_Kernel_sleep_on.nd rfl (Or.inl rfl)) (pss_cons (ps_set (i := 3) sc_Kernel_sleep_on.nd rfl (Or.inl rfl) (pe_ix ix_tup (pe_ix ix_tup (pe_fld (pv 0) rfl) (pv 2) (fun _ _ => rfl)) pe_int (fun _ _ => rfl)))
      (pss_one (ps_if (pt_cmpR op_gt (pv 3) pe_int (nomark _)) (pss_one (ps_expr (pe_mcal m_settle (hr.mono (by omega)) (pv 0) (pa_cons (pv 2) (pa_cons (pe_tup (pa_cons pe_str (pa_cons (pe_op op_sub (pv 3) pe_int) pa_nil))) (pa_cons pe_non pa_nil)))))) (pss_one (ps_expr (pe_mcal m_settle (hr.mono (by omega)) (pv 0) (pa_cons (pv 2) (pa_cons (pe_glob (v := .ref tR) rfl G.g_READY rfl) (pa_cons pe_str pa_nil)))))))))))), ?_⟩
    walk_at "st0"
    refine q_lcT ?_
    walk_at "st"
    refine hk.get T .statuses fun v1 d1 => ?_
    rw [O.st] at d1
    have few := O.few
    cases d1 with
    | @tup a xs _ ht hxs =>
    have lx := hxs.length
    refine ⟨a, xs, rfl, ht, fun X nX => lc_keep walk_enumT (fun i => isNap (ds.getD i .none)) (fun i => .int (i : Nat)) nX (sz1000 (by omega)) (fun H2 s => Same.sqT s ht) ypair_same ?_ ?_⟩
    · rintro i x H1 H2 lt s1 ⟨t, z0, z1, rfl, nt, rfl, e0, e1⟩ Q' k
      cases e0
      obtain ⟨dd, g1, g2⟩ := hxs.get' e1
      have egd : ds.getD i .none = dd := by rw [List.getD_eq_getElem?_getD, g1]; rfl
      have hn := O.nap dd (List.mem_of_getElem? g1)
      have hsh : ∃ z rr, dd = .tuple (.str z :: rr) := by
        rcases hn with ⟨z, rr, rfl, _⟩ | ⟨i, rfl⟩
        · exact ⟨z, rr, rfl⟩
        · exact ⟨_, _, rfl⟩
      obtain ⟨z, rr, rfl⟩ := hsh
      have m2 : Same H (upd H1 t (.tup [.int (i : Nat), z1])) := s1.trans (same_new nt)
      refine ⟨t, _, rfl, SqT.of upd_same, rfl, _, _, rfl, _, _, rfl, rfl, rfl, ?_⟩
      walk_at "st"
      cases g2 with
      | @tup b ys _ hb hc =>
      cases hc with
      | @cons x0 r0 _ _ a0 hc =>
      cases a0
      refine q_ixT (Same.sqT m2 hb) (atI0 rfl) ?_
      walk_at "st"
      refine q_eq rfl ?_
      refine ⟨_, rfl, ?_⟩
      have eb : decide (V.str z = V.str "asleep") = isNap (ds.getD i .none) := by
        rw [egd]
        show _ = decide (z = "asleep")
        by_cases h : z = "asleep"
        · rw [decide_eq_true h, decide_eq_true (by rw [h])]
        · rw [decide_eq_false h, decide_eq_false (fun e => h (V.str.inj e))]
      rw [eb]
      refine k _ _ (Same.refl _) rfl (fun H4 Q2 s4 e kk => ?_)
      walk_at "st"
      exact kk _ (Same.refl _)
    · intro H1 s1 e1
      rw [lx] at e1
      have e2 : H1 X = some (.lst ((napL ds).map fun (i : Nat) => V.int i)) := e1
      clear e1
      have hk1 := hk.mono s1
      walk_at "st"
      have npL : X ≠ k := by
        obtain ⟨dxk, fsk, ek, _⟩ := hk1
        intro z; subst z; rw [e2] at ek; cases ek
      refine q_forV ((napL ds).map fun (i : Nat) => V.int i) (fun i σ H2 => ∃ o2 o3 o4, σ = [some (.ref k), some (.ref X), o2, o3, o4] ∧ But k H1 H2 ∧ KAt K CK H2 k r (partD D ds as fun j => decide (j ∈ (napL ds).take i))) rfl (SqL.of e2) ⟨_, _, _, rfl, But.refl, by rw [partD_none O _ (fun i => by simp)]; exact hk1⟩ (fun i σ H2 _ I => ?_) (fun i x σ H2 ex I => ?_) (fun σ H2 I => ?_)
      · obtain ⟨o2, o3, o4, rfl, b2, _⟩ := I
        exact SqL.of (b2 _ _ e2 npL)
      · obtain ⟨o2, o3, o4, rfl, b2, hk2⟩ := I
        rw [List.getElem?_map] at ex
        obtain ⟨t, et, rfl⟩ := Option.map_eq_some_iff.mp ex
        obtain ⟨tn, tk⟩ := take_new (napL_nodup ds) et
        have tm : t ∈ napL ds := List.mem_of_getElem? et
        have lt : t < ds.length := by unfold napL at tm; rw [List.mem_filter, List.mem_range] at tm; exact tm.1
        have hd : ds[t]? = some ds[t] := List.getElem?_eq_getElem lt
        have nd : isNap ds[t] = true := by rw [← napL_mem hd]; exact decide_eq_true tm
        have ed : ∃ n, ds[t] = asleepD n := by
          rcases O.nap _ (List.getElem_mem lt) with ⟨z, rr, e, hz⟩ | h
          · rw [e] at nd
            exact absurd (of_decide_eq_true nd) hz
          · exact h
        obtain ⟨n, en⟩ := ed
        have la : t < as.length := by rw [O.len]; exact lt
        have ha : as[t]? = some as[t] := List.getElem?_eq_getElem la
        have stp := partD_step (D := D) (p := fun j => decide (j ∈ (napL ds).take i)) (p' := fun j => decide (j ∈ (napL ds).take (i + 1))) hd ha (decide_eq_false tn) (decide_eq_true ((tk t).mpr (.inr rfl))) (fun j hj => by rw [Bool.eq_iff_iff, decide_eq_true_iff, decide_eq_true_iff, tk]; simp [hj])
        have bo : BothOk (partD D ds as fun j => decide (j ∈ (napL ds).take i)) t := ⟨⟨_, rfl, by rw [List.length_mapIdx]; exact lt, by rw [List.length_mapIdx]; exact few⟩, ⟨_, rfl, by rw [List.length_mapIdx]; exact la, by rw [List.length_mapIdx, O.len]; exact few⟩⟩
        show tSeq _ _ _ [some (.ref k), some (.ref X), some (.int t), o3, o4] H2
        walk_at "st"
        refine hk2.get T .statuses fun v2 d2 => ?_
        have e7 : (ds.mapIdx fun i_1 d => if decide (i_1 ∈ (napL ds).take i) then sleptS d else d)[t]? = some (asleepD n) := by
          rw [List.getElem?_mapIdx, hd, Option.map_some, if_neg (by simpa using tn), en]
        have d3 : Dp K H2 v2 (.tuple (ds.mapIdx fun i_1 d => if decide (i_1 ∈ (napL ds).take i) then sleptS d else d)) := d2
        cases d3 with
        | @tup a4 ys _ hs4 hys =>
        have ly : t < ys.length := by rw [hys.length, List.length_mapIdx]; exact lt
        walk_at "st"
        refine q_ixT hs4 (atI_nat (List.getElem?_eq_getElem ly)) ?_
        obtain ⟨dd, g1, g2⟩ := hys.get' (List.getElem?_eq_getElem ly)
        rw [e7] at g1
        cases g1
        generalize ys[t] = y at g2 ⊢
        cases g2 with
        | @tup a5 zs _ hs5 hzs =>
        cases hzs with
        | @cons y0 q0 _ _ b0 hzs =>
        cases hzs with
        | @cons y1 q1 _ _ b1 hzs =>
        cases hzs
        cases b0; cases b1
        walk_at "st"
        refine q_ixT hs5 (atI1 rfl) ?_
        walk_at "st"
        have hS : sleptS ds[t] = if 1 < n then asleepD (n - 1) else readyD := by unfold sleptS; rw [nd, en]; rfl
        have hA : sleptA ds[t] as[t] = if 1 < n then .none else yesD := by unfold sleptA; rw [nd, en]; rfl
        rw [hS, hA] at stp
        refine q_if (fun hc => ?_) (fun hc => ?_)
        · have hc' : 1 < n := by simpa using hc
          rw [if_pos hc', if_pos hc'] at stp
          walk_at "st"
          refine hk2.meth (by decide +kernel) ?_
          walk_at "st"
          refine ⟨by show 2 ≤ sizeLine; decide, fun pt npt => ?_⟩
          have sp := same_new (o := .tup [V.str "asleep", V.int (n - 1)]) npt
          walk_at "st"
          refine ⟨k, r, _, t, .ref pt, .non, asleepD (n - 1), .none, rfl, hk2.mono sp, bo, .tup (SqT.of upd_same) (.cons (.str _) (.cons (.int _) .nil)), .non, fun H3 b3 hk3 => ?_⟩
          rw [stp] at hk3
          exact ⟨_, _, _, rfl, b2.trans ((But.same sp).trans b3), hk3⟩
        · have hc' : ¬ 1 < n := by simpa using hc
          rw [if_neg hc', if_neg hc'] at stp
          walk_at "st"
          refine hk2.meth (by decide +kernel) ?_
          walk_at "st"
          refine ⟨k, r, _, t, .ref tR, .str "yes", readyD, yesD, rfl, hk2, bo, G.ready _, .str _, fun H3 b3 hk3 => ?_⟩
          rw [stp] at hk3
          exact ⟨_, _, _, rfl, b2.trans b3, hk3⟩
      · obtain ⟨o2, o3, o4, rfl, b2, hk2⟩ := I
        rw [partD_all O _ (fun i d h => by rw [List.length_map, List.take_length]; exact napL_mem h)] at hk2
        exact q _ ((But.same s1).trans b2) hk2))) only [↓Hk.hold_s]
def spMayCome (K : PySem.W.Frag) (CR : Addr) : Sp := fun vs H Q _ => ∃ (r : Addr) (b : BD) (n : Nat), vs = [.ref r, .int n] ∧ RulesAt K CR H r b ∧ BOk b ∧ Q (.bl (!(decide (outPort b.outside = .non)) && decide ((n : Int) % outEvery b.outside = 0))) H
theorem ok_may_come (B : Bl mg) (R : RCls K CR) (d : MethAt K CR "may_come" "Rules.may_come" s_Rules_may_come ["self", "phase"]) : MCal P w K mg base 1 CR "may_come" ["self", "phase"] (spMayCome K CR) := by
 refine Hk.hold ?_
 simp (disch := with_unfolding_all (
 exact Hk.disch (d.cal fun f fd F => by
  refine F.ok sc_Rules_may_come (fun vs H Q E h => ?_) (fun cdv A outer s H vs Q E hr h => ?_)
  · obtain ⟨r, b, n, rfl, _⟩ := h; rfl
  · obtain ⟨r, b, n, rfl, hR, ok, q⟩ := h
    refine ⟨_, (pss_one (ps_ret (pe_and (pe_cmp (pc_notN (pe_fld (pv 0) rfl))) (pe_one (pe_cmpR op_eq (pe_op op_mod (pv 1) (pe_fld (pv 0) rfl)) pe_int (nomark _)))))), ?_⟩
    walk_at "st0"
    refine hR.rd R .letter_port fun v1 d1 => ?_
    have e1 : decide (v1 = V.non) = decide (outPort b.outside = .non) := by
      have d2 : Dp K H v1 (outD b.outside) := d1
      rcases okOutsideL ok.outside with e | ⟨p, e2, e, _⟩
      · rw [e] at d2 ⊢; cases d2; rfl
      · rw [e] at d2 ⊢; cases d2; rfl
    have ev : 1 ≤ outEvery b.outside ∧ outEvery b.outside ≤ 4 := by
      rcases okOutsideL ok.outside with e | ⟨p, e2, e, _, _, h1, h2⟩
      · rw [e]; exact ⟨by decide, by decide⟩
      · rw [e]; exact ⟨h1, h2⟩
    rw [e1]
    refine ⟨_, rfl, ?_⟩
    by_cases hp : outPort b.outside = .non
    · rw [decide_eq_true hp] at q ⊢
      exact q
    · rw [decide_eq_false hp] at q ⊢
      refine (if_pos rfl).mpr ?_
      walk_at "st"
      refine hR.rd R .every fun v2 d2 => ?_
      have d3 : Dp K H v2 (.int (outEvery b.outside)) := d2
      cases d3
      refine ⟨_, _, rfl, rfl, by omega, ?_⟩
      walk_at "st"
      exact q_eqI q))) only [↓Hk.hold_s]
def spChange (K : PySem.W.Frag) (C CR CK : Addr) : Sp := fun vs H Q _ => ∃ (k r : Addr) (D : KD) (b : BD) (n : Nat), vs = [.ref k, .int n] ∧ KAt K CK H k r D ∧ RulesAt K CR H r b ∧ b.wipe = .bool false ∧ ∀ H', But k H H' → KAt K CK H' k r (fset D .runs (.int n)) → Q .non H'
theorem ok_change (B : Bl mg) (T : KCls K CK) (R : RCls K CR) (d : DefAt K mg "change" s_change ["kernel", "task"]) : Cal P w K mg base 1 "change" ["kernel", "task"] (spChange K C CR CK) := by
 refine Hk.hold ?_
 simp (disch := with_unfolding_all (
 exact Hk.disch (d.cal fun f fd F => by
  refine F.ok sc_change (fun vs H Q E h => ?_) (fun cdv A outer s H vs Q E hr h => ?_)
  · obtain ⟨k, r, D, b, n, rfl, _⟩ := h; rfl
  · obtain ⟨k, r, D, b, n, rfl, hk, hR, hw, q⟩ := h
    refine ⟨_, (pss_cons (ps_set (i := 2) sc_change.nd rfl (Or.inl rfl) (pe_fld (pe_fld (pv 0) rfl) rfl))
      (pss_cons (ps_if (PW.pt (pw_and (pt_val (pe_fld (pe_fld (pv 0) rfl) rfl)) (pw_and1 (PW.pt (pw_or (pt_cmp (pc_isN (pe_fld (pv 0) rfl))) (pw_or1 (pt_cmpR op_ne (pe_ix ix_tup (pv 2) (pe_fld (pv 0) rfl) (fun _ _ => rfl)) (pe_ix ix_tup (pv 2) (pv 1) (fun _ _ => rfl)) (nomark _)))))))) (pss_one (ps_fld (pv 0) (pe_tup (pa_cons pe_non (pa_cons pe_non pa_nil))) rfl)) pss_nil)
      (pss_one (ps_fld (pv 0) (pv 1) rfl)))), ?_⟩
    walk_at "st0"
    refine hk.getR T ?_
    walk_at "st"
    refine hR.rd R .side_of fun v1 d1 => ?_
    walk_at "st"
    refine hk.getR T ?_
    walk_at "st"
    refine hR.rd R .wipes fun v2 d2 => ?_
    have d3 : Dp K H v2 b.wipe := d2
    rw [hw] at d3
    cases d3
    walk_at "st"
    refine iteF ?_
    refine iteF ?_
    walk_at "st"
    exact hk.set T .runs (.int _) q))) only [↓Hk.hold_s]
end
end T
namespace T
section
variable {P : Program} {w : World} {K : PySem.W.Frag} {mg : Str → Option Value} {base : Heap} {C CR CK tR : Addr}
def readyL (ds : List PyData) : List Nat := (List.range ds.length).filter fun i => PyData.eqv (ds.getD i .none) readyD
def levelAt (b : BD) (t : Nat) : Int := levelD ((dl b.tasks).getD t .none)
/-- the ready ones of the greatest level -/
def candL (b : BD) (ds : List PyData) : List Nat := (readyL ds).filter fun i => (readyL ds).all fun j => decide (levelAt b j ≤ levelAt b i)
theorem filter_at {α : Type} (L : List Nat) (p : Nat → Bool) (g : Nat → α) : ((List.range L.length).filter fun i => p (L.getD i 0)).map (fun i => g (L.getD i 0)) = (L.filter p).map g := by
  have e : L = (List.range L.length).map fun i => L.getD i 0 := by
    apply List.ext_getElem?
    intro i
    rw [List.getElem?_map]
    by_cases h : i < L.length
    · rw [List.getElem?_range h]
      simp [List.getD_eq_getElem?_getD, List.getElem?_eq_getElem h]
    · rw [List.getElem?_eq_none (by omega), List.getElem?_eq_none (by simp; omega)]
      rfl
  conv => rhs; rw [e, List.filter_map, List.map_map]
  rfl
def spLevelsNow (K : PySem.W.Frag) (CR CK : Addr) : Sp := fun vs H Q _ => ∃ (k r : Addr) (D : KD) (b : BD), vs = [.ref k] ∧ KAt K CK H k r D ∧ RulesAt K CR H r b ∧ b.lend = .bool false ∧ ∀ v, Dp K H v (.tuple ((dl b.tasks).map fun d => .int (levelD d))) → Q v H
theorem ok_levels_now (B : Bl mg) (T : KCls K CK) (R : RCls K CR) (d : DefAt K mg "levels_now" s_levels_now ["kernel"]) : Cal P w K mg base 1 "levels_now" ["kernel"] (spLevelsNow K CR CK) := by
 refine Hk.hold ?_
 simp (disch := with_unfolding_all (
 exact Hk.disch (d.cal fun f fd F => by
  refine F.ok sc_levels_now (fun vs H Q E h => ?_) (fun cdv A outer s H vs Q E hr h => ?_)
  · obtain ⟨k, r, D, b, rfl, _⟩ := h; rfl
  · obtain ⟨k, r, D, b, rfl, hk, hR, hl, q⟩ := h
    refine ⟨_, (pss_cons (ps_set (i := 1) sc_levels_now.nd rfl (Or.inl rfl) (pe_fld (pe_fld (pv 0) rfl) rfl))
      (pss_cons (ps_if (pt_not (pt_val (pe_fld (pe_fld (pv 0) rfl) rfl))) (pss_one (ps_ret (pv 1))) pss_nil)
      (pss_cons (ps_never)
      (pss_cons (ps_never)
      (pss_one (ps_never)))))), ?_⟩
    walk_at "st0"
    refine hk.getR T ?_
    walk_at "st"
    refine hR.rd R .levels fun v1 d1 => ?_
    walk_at "st"
    refine hk.getR T ?_
    walk_at "st"
    refine hR.rd R .lends fun v2 d2 => ?_
    have d3 : Dp K H v2 b.lend := d2
    rw [hl] at d3
    cases d3
    refine ⟨_, rfl, ?_⟩
    refine iteT ?_
    walk_at "st"
    exact q _ d1))) only [↓Hk.hold_s]
theorem q_lcR1 {ta : TA} {te2 : TE} {g : TG} {tt : TT} {vs : List Nat} {σ : L2.St} {H : Hp} {Q : VK} (h : ta σ H fun ws H1 => ∃ n : Int, ws = [.int n] ∧ -(2 ^ 62) ≤ n ∧ n < 2 ^ 62 ∧ tLc (fun _ H2 R => R (Itr 0 n.toNat) H2) g tt te2 vs σ H1 Q) : tLc (iRng1 ta) g tt te2 vs σ H Q := h
theorem q_lcI1 {te te2 : TE} {g : TG} {tt : TT} {vs : List Nat} {σ : L2.St} {H : Hp} {Q : VK} (h : te σ H fun x H1 => ∃ a, x = .ref a ∧ (∃ xs, SqL K H1 a xs) ∧ tLc (fun _ H2 R => R (Itl K a) H2) g tt te2 vs σ H1 Q) : tLc (iList K te) g tt te2 vs σ H Q := h
theorem q_cbk {r : List V → List V → Hp → VK → Prop} {t tk : TA} {σ : L2.St} {H : Hp} {Q : VK} (h : t σ H fun vs H1 => tk σ H1 fun zs H2 => r vs zs H2 Q) : tCBK r t tk σ H Q := h
structure LevOk (b : BD) (ds : List PyData) : Prop where
  lend : b.lend = .bool false
  len : ds.length = (dl b.tasks).length
  few : ds.length ≤ 100
  sh : ∀ d ∈ ds, SeqAt.shaped d = true
def spCand (K : PySem.W.Frag) (CR CK : Addr) : Sp := fun vs H Q _ => ∃ (k r : Addr) (D : KD) (b : BD) (ds : List PyData), vs = [.ref k] ∧ KAt K CK H k r D ∧ RulesAt K CR H r b ∧ D .statuses = .tuple ds ∧ LevOk b ds ∧ ∀ l H', Same H H' → H l = none → H' l = some (.lst ((candL b ds).map fun (i : Nat) => V.int i)) → Q (.ref l) H'
theorem ok_candidates (B : Bl mg) (T : KCls K CK) (R : RCls K CR) (m_is_ready : MCal P w K mg base 1 CK "is_ready" ["self", "task"] (spIsReady K CK)) (c_levels_now : Cal P w K mg base 1 "levels_now" ["kernel"] (spLevelsNow K CR CK)) (d : DefAt K mg "candidates" s_candidates ["kernel"]) : Cal P w K mg base 2 "candidates" ["kernel"] (spCand K CR CK) := by
 refine Hk.hold ?_
 simp (disch := with_unfolding_all (
 exact Hk.disch (d.cal fun f fd F => by
  refine F.ok sc_candidates (fun vs H Q E h => ?_) (fun cdv A outer s H vs Q E hr h => ?_)
  · obtain ⟨k, r, D, b, ds, rfl, _⟩ := h; rfl
  · obtain ⟨k, r, D, b, ds, rfl, hk, hR, hs, O, q⟩ := h
    have few := O.few
    refine ⟨_, (pss_cons (ps_setLc (i := 1) (own := [("task", 4)]) rfl sc_candidates.nd rfl rfl (sw_true rfl rfl rfl (by decide +kernel)) (pi_range1 rfl B.range (pa_cons (pe_fld (pe_fld (pv 0) rfl) rfl) pa_nil)) (blkOk_by (N := ["kernel", "ready", "levels", "top", "task"]) (sc := defScope s_candidates) (by decide +kernel)) (fun _ _ _ _ _ => (pg_name (i := 4) sc_candidates.nd rfl (Or.inl rfl))) (fun _ _ _ _ _ => (pts_one (pt_val (pe_mcal m_is_ready (hr.mono (by omega)) (pv 0) (pa_cons (pv 4) pa_nil))))) (fun _ _ _ _ _ => (pv 4)))
      (pss_cons (ps_set (i := 2) sc_candidates.nd rfl (Or.inr rfl) (pe_cal c_levels_now (hr.mono (by omega)) rfl (pa_cons (pv 0) pa_nil)))
      (pss_cons (ps_set (i := 3) sc_candidates.nd rfl (Or.inr rfl) (pe_callBK (call_maxDef rfl) rfl B.max hb_max (pa_cons (pe_lc (own := [("task", 4)]) (tt := tYes) rfl sc_candidates.nd (pi_list (pv 1)) (blkOk_by (N := ["kernel", "ready", "levels", "top", "task"]) (sc := defScope s_candidates) (by decide +kernel)) (fun _ _ _ _ _ => (pg_name (i := 4) sc_candidates.nd rfl (Or.inl rfl))) (fun _ _ _ _ _ => pts_nil) (fun _ _ _ _ _ => (pe_ix (show IxR _ (rIxT K) from ix_tup) (pv 2) (pv 4) (fun _ _ => rfl)))) pa_nil) (pk_cons pe_int pk_nil)))
      (pss_one (ps_ret (pe_lc (own := [("task", 4)]) rfl sc_candidates.nd (pi_list (pv 1)) (blkOk_by (N := ["kernel", "ready", "levels", "top", "task"]) (sc := defScope s_candidates) (by decide +kernel)) (fun _ _ _ _ _ => (pg_name (i := 4) sc_candidates.nd rfl (Or.inl rfl))) (fun _ _ _ _ _ => (pts_one (pt_cmpR op_eq (pe_ix (show IxR _ (rIxT K) from ix_tup) (pv 2) (pv 4) (fun _ _ => rfl)) (pv 3) (nomark _)))) (fun _ _ _ _ _ => (pv 4)))))))), ?_⟩
    walk_at "st0"
    refine q_lcR1 ?_
    walk_at "st"
    refine hk.getR T ?_
    walk_at "st"
    refine hR.rd R .task_count fun v1 d1 => ?_
    have d2 : Dp K H v1 (.int ((dl b.tasks).length : Int)) := d1
    cases d2
    rw [← O.len]
    refine ⟨(ds.length : Int), rfl, by omega, by omega, ?_⟩
    rw [Int.toNat_natCast]
    refine fun X nX => lc_keep walk_range (fun i => PyData.eqv (ds.getD i .none) readyD) (fun i => .int (i : Nat)) nX (sz1000 (by omega)) (fun H2 s => trivial) yfn_same ?_ ?_
    · rintro i x H1 H2 lt s1 ⟨rfl, rfl⟩ Q' kk
      refine q_gname ?_
      refine ⟨rfl, ?_⟩
      simp only [Int.zero_add]
      show tB _ [some (.ref k), none, none, none, some (.int (i : Nat))] _ _
      walk_at "st"
      refine (hk.mono s1).meth (by decide +kernel) ?_
      walk_at "st"
      have ei : ds[i]? = some ds[i] := List.getElem?_eq_getElem lt
      refine ⟨k, r, D, ds, i, ds[i], rfl, hk.mono s1, hs, ei, O.sh _ (List.getElem_mem lt), ?_⟩
      refine ⟨_, rfl, ?_⟩
      have eg : PyData.eqv ds[i] readyD = PyData.eqv (ds.getD i .none) readyD := by rw [List.getD_eq_getElem?_getD, ei]; rfl
      rw [eg]
      refine kk _ _ (Same.refl _) rfl (fun H4 Q2 s4 e k2 => ?_)
      walk_at "st"
      exact k2 _ (Same.refl _)
    · intro H1 s1 e1
      have e2 : H1 X = some (.lst ((readyL ds).map fun (i : Nat) => V.int i)) := e1
      clear e1
      replace hk := hk.mono s1
      replace hR := hR.mono s1
      have rl : (readyL ds).length ≤ ds.length := by
        have := List.length_filter_le (fun i => PyData.eqv (ds.getD i .none) readyD) (List.range ds.length)
        rw [List.length_range] at this
        exact this
      have rm : ∀ t ∈ readyL ds, t < ds.length := fun t ht => by unfold readyL at ht; rw [List.mem_filter, List.mem_range] at ht; exact ht.1
      walk_at "st"
      refine ⟨k, r, D, b, rfl, hk, hR, O.lend, fun v2 d2 => ?_⟩
      cases d2 with
      | @tup a2 ys _ hs2 hys =>
      have lys : ys.length = ds.length := by rw [hys.length, List.length_map, O.len]
      have yl : ∀ t, t < ds.length → ys[t]? = some (.int (levelAt b t)) := fun t lt => by
        have ly : t < ys.length := by omega
        obtain ⟨dd, g1, g2⟩ := hys.get' (List.getElem?_eq_getElem ly)
        rw [List.getElem?_map] at g1
        obtain ⟨d0, g3, rfl⟩ := Option.map_eq_some_iff.mp g1
        rw [List.getElem?_eq_getElem ly]
        generalize ys[t] = y at g2 ⊢
        cases g2
        unfold levelAt
        rw [List.getD_eq_getElem?_getD, g3]
        rfl
      walk_at "st"
      refine q_cbk ?_
      walk_at "st"
      refine q_lcI1 ?_
      walk_at "st"
      have dW : ∀ l : List Nat, DpAll K H1 (l.map fun (i : Nat) => V.int i) (l.map fun (i : Nat) => PyData.int i) := fun l => by
        induction l with
        | nil => exact .nil
        | cons i l ih => exact .cons (.int _) ih
      refine ⟨X, rfl, ⟨_, SqL.of e2⟩, fun X2 nX2 => lc_map (fun d => V.int (levelAt b (dInt0 d).toNat)) (SqL.of e2) (dW (readyL ds)) (by rw [List.length_map]; omega) nX2 ?_ ?_⟩
      · intro x d H2 h2 hm s2 Q2 k2
        obtain ⟨t, ht, rfl⟩ := List.mem_map.mp hm
        cases h2
        refine q_gname ?_
        refine ⟨rfl, ?_⟩
        show tOp _ _ _ [some (.ref k), some (.ref X), some (.ref a2), none, some (.int (t : Nat))] _ _
        walk_at "st"
        refine q_ixT (Same.sqT s2 hs2) (atI_nat (yl t (rm t ht))) ?_
        have et : dInt0 (.int (t : Int)) = t := rfl
        rw [et, Int.toNat_natCast] at k2
        exact k2 _ (Same.refl _)
      · intro H3 s3 e3
        have e4 : H3 X2 = some (.lst (((readyL ds).map (levelAt b)).map V.int)) := by
          rw [e3, List.map_map, List.map_map]
          rfl
        clear e3
        walk_at "st"
        suffices fin : ∀ m : Int, ((readyL ds).map (levelAt b) = [] ∧ m = 0 ∨ m ∈ (readyL ds).map (levelAt b) ∧ ∀ y, y ∈ (readyL ds).map (levelAt b) → y ≤ m) → tRet (tLc (iList K (tVar 1)) (gName 4) (tTest (tOp rEq (tOp (rIxT K) (tVar 2) (tVar 4)) (tVar 3))) (tVar 4) [4]) { nx := fun x H' => Q V.non H', rt := Q } [some (V.ref k), some (V.ref X), some (V.ref a2), some (.int m), none] H3 from
          ⟨X2, _, .int 0, rfl, rfl, SqL.of e4, fun e => fin 0 (.inl ⟨e, rfl⟩), fun m h1 h2 => fin m (.inr ⟨h1, h2⟩)⟩
        intro m hm
        have key : ∀ t ∈ readyL ds, decide (levelAt b t = m) = (readyL ds).all fun j => decide (levelAt b j ≤ levelAt b t) := fun t ht => by
          rw [Bool.eq_iff_iff, decide_eq_true_iff, List.all_eq_true]
          rcases hm with ⟨e, _⟩ | ⟨h1, h2⟩
          · have := List.map_eq_nil_iff.mp e
            rw [this] at ht; cases ht
          · constructor
            · intro e j hj
              rw [e]
              exact decide_eq_true (h2 _ (List.mem_map_of_mem hj))
            · intro h
              obtain ⟨j, hj, rfl⟩ := List.mem_map.mp h1
              have a1 := of_decide_eq_true (h j hj)
              have a2 := h2 _ (List.mem_map_of_mem ht)
              omega
        walk_at "st"
        refine q_lcI1 ?_
        walk_at "st"
        refine ⟨X, rfl, ⟨_, SqL.of (s3 _ _ e2)⟩, fun X3 nX3 => lc_keep walk_list (fun i => decide (levelAt b ((readyL ds).getD i 0) = m)) (fun i => .int ((readyL ds).getD i 0 : Nat)) nX3 (sz1000 (by rw [List.length_map]; omega)) (fun H4 s4 => (s3.trans s4).seq (SqL.of e2)) yat_same ?_ ?_⟩
        · rintro i x H4 H5 lt s4 ⟨rfl, e⟩ Q' kk
          rw [List.length_map] at lt
          rw [List.getElem?_map, List.getElem?_eq_getElem lt] at e
          cases e
          have eg : (readyL ds).getD i 0 = (readyL ds)[i] := by rw [List.getD_eq_getElem?_getD, List.getElem?_eq_getElem lt]; rfl
          rw [eg] at kk
          refine q_gname ?_
          refine ⟨rfl, ?_⟩
          show tTest _ [some (.ref k), some (.ref X), some (.ref a2), some (.int m), some (.int ((readyL ds)[i] : Nat))] _ _
          walk_at "st"
          refine q_ixT (Same.sqT (s3.trans s4) hs2) (atI_nat (yl _ (rm _ (List.getElem_mem lt)))) ?_
          walk_at "st"
          refine q_eqI ?_
          refine ⟨_, rfl, ?_⟩
          refine kk _ _ (Same.refl _) rfl (fun H6 Q2 s6 e k2 => ?_)
          walk_at "st"
          exact k2 _ (Same.refl _)
        · intro H4 s4 e5
          refine q X3 H4 ((s1.trans s3).trans s4) ((s1.trans s3).free nX3) ?_
          rw [e5, List.length_map, filter_at (readyL ds) (fun t => decide (levelAt b t = m)) (fun t => V.int (t : Nat))]
          unfold candL
          rw [List.filter_congr key]))) only [↓Hk.hold_s]
/-- who follows -/
def followN (l : List Nat) (runs : PyData) : Nat := match runs with | .int r => ((l.filter fun (t : Nat) => decide (r < (t : Int))) ++ l).headD 0 | _ => l.headD 0
def spFollow (K : PySem.W.Frag) : Sp := fun vs H Q _ => ∃ (a : Addr) (l : List Nat) (v : V) (runs : PyData), vs = [.ref a, v] ∧ H a = some (.lst (l.map fun (i : Nat) => V.int i)) ∧ l ≠ [] ∧ l.length ≤ 100 ∧ Dp K H v runs ∧ (runs = .none ∨ ∃ i, runs = .int i) ∧ ∀ H', Same H H' → Q (.int (followN l runs)) H'
theorem ok_following (B : Bl mg) (d : DefAt K mg "following" s_following ["tasks", "runs"]) : Cal P w K mg base 1 "following" ["tasks", "runs"] (spFollow K) := by
 refine Hk.hold ?_
 simp (disch := with_unfolding_all (
 exact Hk.disch (d.cal fun f fd F => by
  refine F.ok sc_following (fun vs H Q E h => ?_) (fun cdv A outer s H vs Q E hr h => ?_)
  · obtain ⟨a, l, v, runs, rfl, _⟩ := h; rfl
  · obtain ⟨a, l, v, runs, rfl, ha, hne, few, hv, hr2, q⟩ := h
    refine ⟨_, (pss_cons (ps_if (pt_cmp (pc_isN (pv 1))) (pss_one (ps_ret (pe_ix ix_list (pv 0) pe_int (fun _ _ => rfl)))) pss_nil)
      (pss_cons (ps_setLc (i := 2) (own := [("task", 3)]) rfl sc_following.nd rfl rfl (sw_true rfl rfl rfl (by decide +kernel)) (pi_list (pv 0)) (blkOk_by (N := ["tasks", "runs", "behind", "task"]) (sc := defScope s_following) (by decide +kernel)) (fun _ _ _ _ _ => (pg_name (i := 3) sc_following.nd rfl (Or.inl rfl))) (fun _ _ _ _ _ => (pts_one (pt_cmpR op_gt (pv 3) (pv 1) (nomark _)))) (fun _ _ _ _ _ => (pv 3)))
      (pss_one (ps_ret (pe_ifExp (pt_cmpR op_gt (pe_callB call_len_seq rfl B.len hb_len (pa_cons (pv 2) pa_nil)) pe_int (nomark _)) (pe_ix ix_list (pv 2) pe_int (fun _ _ => rfl)) (pe_ix ix_list (pv 0) pe_int (fun _ _ => rfl))))))), ?_⟩
    obtain ⟨t0, l0, rfl⟩ : ∃ t l', l = t :: l' := by cases l with | nil => exact absurd rfl hne | cons t l' => exact ⟨t, l', rfl⟩
    walk_at "st0"
    rcases hr2 with rfl | ⟨r, rfl⟩
    · cases hv
      refine iteT ?_
      walk_at "st"
      refine q_ixL (SqL.of ha) (atI0 rfl) ?_
      exact q _ (Same.refl _)
    · cases hv
      refine iteF ?_
      walk_at "st"
      refine q_lcI1 ?_
      walk_at "st"
      have few' : (t0 :: l0).length ≤ 100 := few
      refine ⟨a, rfl, ⟨_, SqL.of ha⟩, fun X nX => lc_keep walk_list (fun i => decide (r < ((t0 :: l0).getD i 0 : Nat))) (fun i => .int ((t0 :: l0).getD i 0 : Nat)) nX (sz1000 (by rw [List.length_map]; omega)) (fun H4 s4 => s4.seq (SqL.of ha)) yat_same ?_ ?_⟩
      · rintro i x H4 H5 lt s4 ⟨rfl, e⟩ Q' kk
        rw [List.length_map] at lt
        rw [List.getElem?_map, List.getElem?_eq_getElem lt] at e
        cases e
        have eg : (t0 :: l0).getD i 0 = (t0 :: l0)[i] := by rw [List.getD_eq_getElem?_getD, List.getElem?_eq_getElem lt]; rfl
        rw [eg] at kk
        generalize (t0 :: l0)[i] = tt at kk ⊢
        refine q_gname ?_
        refine ⟨rfl, ?_⟩
        show tTest _ [some (.ref a), some (.int r), none, some (.int (tt : Nat))] _ _
        walk_at "st"
        refine kk _ _ (Same.refl _) rfl (fun H6 Q2 s6 e k2 => ?_)
        walk_at "st"
        exact k2 _ (Same.refl _)
      · intro H4 s4 e5
        rw [List.length_map, filter_at (t0 :: l0) (fun t => decide (r < (t : Int))) (fun t => V.int (t : Nat))] at e5
        have ef : followN (t0 :: l0) (.int r) = (((t0 :: l0).filter fun (t : Nat) => decide (r < (t : Int))) ++ (t0 :: l0)).headD 0 := rfl
        generalize (t0 :: l0).filter (fun (t : Nat) => decide (r < (t : Int))) = bl at e5 ef
        walk_at "st"
        refine ⟨X, _, rfl, .inl (SqL.of e5), ?_⟩
        rw [List.length_map]
        walk_at "st"
        cases bl with
        | nil =>
          refine iteF ?_
          walk_at "st"
          refine q_ixL (s4.seq (SqL.of ha)) (atI0 rfl) ?_
          have z := q H4 s4
          rw [ef] at z
          exact z
        | cons t1 bl1 =>
          rw [decide_eq_true (by simp)]
          refine iteT ?_
          walk_at "st"
          refine q_ixL (SqL.of e5) (atI0 rfl) ?_
          have z := q H4 s4
          rw [ef] at z
          exact z))) only [↓Hk.hold_s]
end
end T
namespace T
section
variable {P : Program} {w : World} {K : PySem.W.Frag} {mg : Str → Option Value} {base : Heap} {C CR CK tR : Addr}
theorem ints_lay : ∀ l : List Nat, PyData.canLayAll0 (l.map fun (i : Nat) => PyData.int i) = true
  | [] => by simp [PyData.canLayAll0]
  | i :: l => by
    have h := ints_lay l
    simp only [List.map_cons, PyData.canLayAll0, PyData.canLay0, Bool.true_and]
    exact h
theorem ints_depth : ∀ l : List Nat, PyData.depthAll (l.map fun (i : Nat) => PyData.int i) ≤ 1
  | [] => by simp [PyData.depthAll]
  | i :: l => by
    have h := ints_depth l
    simp only [List.map_cons, PyData.depthAll, PyData.depth]
    omega
theorem ints_shaped (l : List Nat) : SeqAt.shaped (.list (l.map fun (i : Nat) => PyData.int i)) = true := by
  have h1 := ints_depth l
  have h2 : PyData.depth (.list (l.map fun (i : Nat) => PyData.int i)) ≤ 64 := by
    simp only [PyData.depth]
    omega
  show (PyData.canLay0 (.list (l.map fun (i : Nat) => PyData.int i)) && decide (PyData.depth (.list (l.map fun (i : Nat) => PyData.int i)) ≤ 64)) = true
  rw [Bool.and_eq_true]
  exact ⟨by simp only [PyData.canLay0]; exact ints_lay l, decide_eq_true h2⟩
def runOf : PyData → Option Int | .int i => some i | _ => none
def inRun (l : List Nat) (o : PyData) : Bool := match o with | .int r => l.any fun (t : Nat) => decide ((t : Int) = r) | _ => false
theorem inRun_inV {H : Hp} {l : List Nat} {v : V} {d : PyData} (hv : Dp K H v d) (h : d = .none ∨ ∃ i, d = .int i) : inV v (l.map fun (i : Nat) => V.int i) = inRun l d := by
  rcases h with rfl | ⟨i, rfl⟩
  · cases hv
    unfold inV inRun
    rw [List.any_map]
    induction l with
    | nil => rfl
    | cons a l ih => rw [List.any_cons, ih]; rfl
  · cases hv
    unfold inV inRun
    rw [List.any_map]
    congr 1
/-- the turn by the levels: what it leaves, and whose it is -/
def levL (D : KD) (b : BD) : List Nat := candL b (seqD (D .statuses))
def levGo (D : KD) (b : BD) : Bool := inRun (levL D b) (D .runs) && decide (dInt0 (D .spent) < planSpan b.plan)
def levNext (D : KD) (b : BD) : Nat := followN (levL D b) (D .runs)
def levStep (D : KD) (b : BD) : KD × PyData :=
  if levL D b = [] then (fset (fset D .runs .none) .spent (.int 0), .none)
  else if levGo D b then (D, D .runs)
  else if runOf (D .runs) = some (levNext D b : Int) then (fset D .spent (.int 0), .int (levNext D b))
  else (fset (fset (fset D .spent (.int 0)) .runs (.int (levNext D b))) .busy (.int (cost3 b.costs).2.2), if (cost3 b.costs).2.2 = 0 then .int (levNext D b) else .none)
structure LvOk (b : BD) (D : KD) (ds : List PyData) : Prop where
  wipe : b.wipe = .bool false
  has : planHas b.plan = false
  st : D .statuses = .tuple ds
  lev : LevOk b ds
  runs : D .runs = .none ∨ ∃ i : Int, D .runs = .int i
  spent : ∃ i : Int, D .spent = .int i
def spByLevels (K : PySem.W.Frag) (CR CK : Addr) : Sp := fun vs H Q _ => ∃ (k r : Addr) (D : KD) (b : BD) (ds : List PyData), vs = [.ref k] ∧ KAt K CK H k r D ∧ RulesAt K CR H r b ∧ CR ≠ CK ∧ LvOk b D ds ∧ ∀ v H', But k H H' → KAt K CK H' k r (levStep D b).1 → Dp K H' v (levStep D b).2 → Q v H'
theorem ok_turn_by_levels (B : Bl mg) (T : KCls K CK) (R : RCls K CR) (c_candidates : Cal P w K mg base 2 "candidates" ["kernel"] (spCand K CR CK)) (c_following : Cal P w K mg base 1 "following" ["tasks", "runs"] (spFollow K)) (c_change : Cal P w K mg base 1 "change" ["kernel", "task"] (spChange K C CR CK)) (d : DefAt K mg "turn_by_levels" s_turn_by_levels ["kernel"]) : Cal P w K mg base 3 "turn_by_levels" ["kernel"] (spByLevels K CR CK) := by
 refine Hk.hold ?_
 simp (disch := with_unfolding_all (
 exact Hk.disch (d.cal fun f fd F => by
  refine F.ok sc_turn_by_levels (fun vs H Q E h => ?_) (fun cdv A outer s H vs Q E hr h => ?_)
  · obtain ⟨k, r, D, b, ds, rfl, _⟩ := h; rfl
  · obtain ⟨k, r, D, b, ds, rfl, hk, hR, nCC, O, q⟩ := h
    have few := O.lev.few
    obtain ⟨sp, esp⟩ := O.spent
    have eds : seqD (D .statuses) = ds := by rw [O.st]; rfl
    refine ⟨_, (pss_cons (ps_set (i := 1) sc_turn_by_levels.nd rfl (Or.inl rfl) (pe_cal c_candidates (hr.mono (by omega)) rfl (pa_cons (pv 0) pa_nil)))
      (pss_cons (ps_if (pt_cmpR ((op_eqD (hu64 hr))) (pv 1) (pe_lst pa_nil) (nomark _)) (pss_cons (ps_fld (pv 0) pe_non rfl)
      (pss_cons (ps_fld (pv 0) pe_int rfl)
      (pss_one (ps_ret pe_non)))) pss_nil)
      (pss_cons (ps_if (PW.pt (pw_and (pt_cmpR op_in_seq (pe_fld (pv 0) rfl) (pv 1) (by with_unfolding_all rfl)) (pw_and1 (pt_cmpR op_lt (pe_fld (pv 0) rfl) (pe_fld (pe_fld (pv 0) rfl) rfl) (nomark _))))) (pss_one (ps_ret (pe_fld (pv 0) rfl))) pss_nil)
      (pss_cons (ps_set (i := 2) sc_turn_by_levels.nd rfl (Or.inl rfl) (pe_cal c_following (hr.mono (by omega)) rfl (pa_cons (pv 1) (pa_cons (pe_fld (pv 0) rfl) pa_nil))))
      (pss_cons (ps_fld (pv 0) pe_int rfl)
      (pss_cons (ps_if (pt_cmpR op_eq (pv 2) (pe_fld (pv 0) rfl) (nomark _)) (pss_one (ps_ret (pv 2))) pss_nil)
      (pss_cons (ps_expr (pe_cal c_change (hr.mono (by omega)) rfl (pa_cons (pv 0) (pa_cons (pv 2) pa_nil))))
      (pss_cons (ps_fld (pv 0) (pe_fld (pe_fld (pv 0) rfl) rfl) rfl)
      (pss_one (ps_ret (pe_ifExp (pt_cmpR op_eq (pe_fld (pv 0) rfl) pe_int (nomark _)) (pv 2) pe_non))))))))))), ?_⟩
    walk_at "st0"
    refine ⟨k, r, D, b, ds, rfl, hk, hR, O.st, O.lev, fun l H1 s1 nl el => ?_⟩
    have eL : levL D b = candL b ds := by unfold levL; rw [eds]
    have lL : (levL D b).length ≤ 100 := by
      rw [eL]
      have h1 : (candL b ds).length ≤ (readyL ds).length := List.length_filter_le _ _
      have h2 : (readyL ds).length ≤ (List.range ds.length).length := List.length_filter_le _ _
      rw [List.length_range] at h2
      omega
    rw [← eL] at el
    unfold levStep at q
    replace hk := hk.mono s1
    replace hR := hR.mono s1
    have b1 : But k H H1 := But.same s1
    have dW : ∀ H2 (l : List Nat), DpAll K H2 (l.map fun (i : Nat) => V.int i) (l.map fun (i : Nat) => PyData.int i) := fun H2 l => by
      induction l with
      | nil => exact .nil
      | cons i l ih => exact .cons (.int _) ih
    have nkl : l ≠ k := by
      obtain ⟨dxk, fsk, ek, _⟩ := hk
      intro z; subst z; rw [el] at ek; cases ek
    walk_at "st"
    refine ⟨by show 0 ≤ sizeLine; decide, fun l0 nl0 => ?_⟩
    have s0 := same_new (o := .lst []) nl0
    replace hk := hk.mono s0
    replace hR := hR.mono s0
    replace el := s0 _ _ el
    replace b1 := b1.trans (But.same s0)
    have dE : Dp K (upd H1 l0 (.lst [])) (.ref l0) (.list []) := .lst (SqL.of upd_same) .nil
    refine ⟨.list ((levL D b).map fun (i : Nat) => PyData.int i), .list [], .lst (SqL.of el) (dW _ _), dE, ints_shaped _, by decide +kernel, ?_⟩
    generalize upd H1 l0 (.lst []) = H2 at *
    clear dE
    cases hw : levL D b with
    | nil =>
      rw [hw, if_pos rfl] at q
      refine ⟨_, rfl, ?_⟩
      refine iteT ?_
      walk_at "st"
      refine hk.set T .runs .non fun H3 b3 hk3 => ?_
      walk_at "st"
      refine hk3.set T .spent (.int 0) fun H4 b4 hk4 => ?_
      walk_at "st"
      exact q _ _ (b1.trans (b3.trans b4)) hk4 .non
    | cons t0 rest =>
      rw [hw, if_neg (by simp)] at q
      refine ⟨_, rfl, ?_⟩
      refine iteF ?_
      walk_at "st"
      refine hk.get T .runs fun v1 d1 => ?_
      walk_at "st"
      have fv : flatV v1 = true := by
        rcases O.runs with e | ⟨i, e⟩
        · rw [e] at d1; cases d1; rfl
        · rw [e] at d1; cases d1; rfl
      refine ⟨l, _, rfl, .inl (SqL.of el), fv, by rw [List.all_map]; exact List.all_eq_true.mpr fun _ _ => rfl, ?_⟩
      have ei := inRun_inV (l := levL D b) d1 O.runs
      simp only [Bool.false_eq_true, if_false]
      rw [ei]
      suffices tail : levGo D b = false → tSeq (tAsg (tCall (spFollow K) [] E0 (tCons (tVar 1) (tCons (tFld K (tVar 0) "runs") tNil))) (gName 2)) (tSeq (sFld K (tVar 0) (tC (V.int 0)) "spent") (tSeq (tIfS (tTest (tOp rEq (tVar 2) (tFld K (tVar 0) "runs"))) (tRet (tVar 2)) tNext) (tSeq (tDrop (tCall (spChange K C CR CK) [] E0 (tCons (tVar 0) (tCons (tVar 2) tNil)))) (tSeq (sFld K (tVar 0) (tFld K (tFld K (tVar 0) "rules") "switch") "busy") (tRet (tIf (tTest (tOp rEq (tFld K (tVar 0) "busy") (tC (V.int 0)))) (tVar 2) (tC V.non))))))) { nx := fun x H' => Q V.non H', rt := Q } [some (.ref k), some (.ref l), none] H2 by
        refine ⟨_, rfl, ?_⟩
        cases hin : inRun (levL D b) (D .runs) with
        | false =>
          refine iteF ?_
          exact tail (by unfold levGo; rw [hin]; rfl)
        | true =>
          refine iteT ?_
          walk_at "st"
          refine hk.get T .spent fun v2 d2 => ?_
          rw [esp] at d2
          cases d2
          walk_at "st"
          refine hk.getR T ?_
          walk_at "st"
          refine hR.rd R .span fun v3 d3 => ?_
          have d4 : Dp K H2 v3 (.int (planSpan b.plan)) := d3
          cases d4
          have eg : levGo D b = decide (sp < planSpan b.plan) := by unfold levGo; rw [hin, esp]; rfl
          rw [eg] at q tail
          refine ⟨_, _, rfl, rfl, ?_⟩
          refine ⟨_, rfl, ?_⟩
          cases hsp : decide (sp < planSpan b.plan) with
          | false =>
            refine iteF ?_
            exact tail hsp
          | true =>
            rw [hsp, if_pos rfl] at q
            refine iteT ?_
            walk_at "st"
            refine hk.get T .runs fun v4 d4 => ?_
            exact q _ _ b1 hk d4
      intro hgo
      rw [hgo, if_neg (by simp)] at q
      walk_at "st"
      refine hk.get T .runs fun v2 d2 => ?_
      walk_at "st"
      refine ⟨l, levL D b, v2, D .runs, rfl, el, by rw [hw]; simp, lL, d2, O.runs, fun H3 s3 => ?_⟩
      replace hk := hk.mono s3
      replace hR := hR.mono s3
      replace b1 := b1.trans (But.same s3)
      walk_at "st"
      refine hk.set T .spent (.int 0) fun H4 b4 hk4 => ?_
      walk_at "st"
      refine hk4.get T .runs fun v5 d5 => ?_
      have d6 : Dp K H4 v5 (D .runs) := d5
      have er : ∃ bb : Bool, scal (.int (levNext D b)) v5 = true ∧ decide (V.int (levNext D b) = v5) = bb ∧ (bb = true ↔ runOf (D .runs) = some (levNext D b : Int)) := by
        rcases O.runs with e | ⟨i, e⟩
        · rw [e] at d6 ⊢; cases d6; exact ⟨_, rfl, rfl, by simp [runOf]⟩
        · rw [e] at d6 ⊢; cases d6
          refine ⟨_, rfl, rfl, ?_⟩
          rw [decide_eq_true_iff]
          unfold runOf
          constructor
          · intro h; rw [V.int.inj h]
          · intro h; rw [Option.some.inj h]
      obtain ⟨bb, es, eb, eiff⟩ := er
      have eN : levNext D b = followN (levL D b) (D .runs) := rfl
      rw [← eN]
      walk_at "st"
      refine ⟨es, ?_⟩
      rw [eb]
      refine ⟨_, rfl, ?_⟩
      cases bb with
      | true =>
        rw [if_pos (eiff.mp rfl)] at q
        refine iteT ?_
        walk_at "st"
        exact q _ _ (b1.trans b4) hk4 (.int _)
      | false =>
        rw [if_neg (fun h => by have := eiff.mpr h; cases this)] at q
        refine iteF ?_
        walk_at "st"
        obtain ⟨dxk, fsk, ek, _⟩ := id hk
        have nkr : r ≠ k := fun z => by
          subst z
          obtain ⟨dx3, fs3, g, _⟩ := hR
          rw [ek] at g; cases g; exact nCC rfl
        have hR4 := hR.but ek b4 nkr
        refine ⟨k, r, _, b, levNext D b, rfl, hk4, hR4, O.wipe, fun H5 b5 hk5 => ?_⟩
        walk_at "st"
        refine hk5.getR T ?_
        walk_at "st"
        have hR5 := hR.but ek (b4.trans b5) nkr
        refine hR5.rd R .switch fun v7 d7 => ?_
        have d8 : Dp K H5 v7 (.int (cost3 b.costs).2.2) := d7
        cases d8
        walk_at "st"
        refine hk5.set T .busy (.int _) fun H6 b6 hk6 => ?_
        walk_at "st"
        refine hk6.get T .busy fun v9 d9 => ?_
        have d10 : Dp K H6 v9 (.int (cost3 b.costs).2.2) := d9
        cases d10
        walk_at "st"
        refine q_eqI ?_
        refine ⟨_, rfl, ?_⟩
        have bb6 : But k H H6 := b1.trans (b4.trans (b5.trans b6))
        have z := fun v => q v _ bb6 hk6
        simp only at z
        by_cases h0 : (cost3 b.costs).2.2 = 0
        · rw [decide_eq_true h0]
          rw [if_pos h0] at z
          refine iteT ?_
          walk_at "st"
          exact z _ (.int _)
        · rw [decide_eq_false h0]
          rw [if_neg h0] at z
          refine iteF ?_
          walk_at "st"
          exact z _ .non))) only [↓Hk.hold_s]
def spNow (K : PySem.W.Frag) (CR CK : Addr) : Sp := spByLevels K CR CK
theorem ok_turn_now (B : Bl mg) (T : KCls K CK) (R : RCls K CR) (c_turn_by_levels : Cal P w K mg base 3 "turn_by_levels" ["kernel"] (spByLevels K CR CK)) (d : DefAt K mg "turn_now" s_turn_now ["kernel"]) : Cal P w K mg base 4 "turn_now" ["kernel"] (spNow K CR CK) := by
 refine Hk.hold ?_
 simp (disch := with_unfolding_all (
 exact Hk.disch (d.cal fun f fd F => by
  refine F.ok sc_turn_now (fun vs H Q E h => ?_) (fun cdv A outer s H vs Q E hr h => ?_)
  · obtain ⟨k, r, D, b, ds, rfl, _⟩ := h; rfl
  · obtain ⟨k, r, D, b, ds, rfl, hk, hR, nCC, S, q⟩ := h
    refine ⟨_, (pss_cons (ps_if (pt_val (pe_fld (pe_fld (pv 0) rfl) rfl)) (pss_one (ps_never)) pss_nil)
      (pss_one (ps_ret (pe_cal c_turn_by_levels (hr.mono (by omega)) rfl (pa_cons (pv 0) pa_nil))))), ?_⟩
    walk_at "st0"
    refine hk.getR T ?_
    walk_at "st"
    refine hR.rd R .has_slots fun v1 d1 => ?_
    have d2 : Dp K H v1 (.bool (planHas b.plan)) := d1
    rw [S.has] at d2
    cases d2
    walk_at "st"
    refine iteF ?_
    walk_at "st"
    exact ⟨k, r, D, b, ds, rfl, hk, hR, nCC, S, q⟩))) only [↓Hk.hold_s]
end
end T
namespace T
section
variable {P : Program} {w : World} {K : PySem.W.Frag} {mg : Str → Option Value} {base : Heap} {C CR CK tR : Addr}
theorem hb_sum0 : bootBuiltins "sum" = some (.builtin "sum") := by with_unfolding_all rfl
theorem KAt.put {H : Hp} {k r dx : Addr} {fs : List (Str × V)} {D : KD} (e : H k = some (.ins CK dx fs)) (m : fs.map (·.1) = KN) (l : fs.lookup ("rules" : Str) = some (.ref r)) (t : Told K KF.nm H fs D KF.all) (f : KF) {v : V} {d : PyData} (hd : Dp K H v d) :
    KAt K CK (upd H k (.ins CK dx (putF f.nm v fs))) k r (fset D f d) := by
  refine ⟨dx, _, upd_same, ?_, ?_, (t.set KF.inj hd).keep (But.keep e But.put)⟩
  · rw [map_putF (by rw [m]; exact f.in_KN)]; exact m
  · rw [put_ne _ _ (Ne.symm f.not_rules)]; exact l
/-- an effect: what it leaves and what it answers -/
def spEff (K : PySem.W.Frag) (CR CK : Addr) (pre : KD → BD → Nat → PyData → Prop) (post : KD → BD → Nat → PyData → KD) (ans : KD → BD → Nat → PyData → PyData) : Sp := fun vs H Q _ => ∃ (k r : Addr) (D : KD) (b : BD) (t : Nat) (x : V) (c : PyData), vs = [.ref k, .int t, x] ∧ KAt K CK H k r D ∧ RulesAt K CR H r b ∧ CR ≠ CK ∧ Dp K H x c ∧ pre D b t c ∧ ∀ v H', But k H H' → KAt K CK H' k r (post D b t c) → Dp K H' v (ans D b t c) → Q v H'
def slpD (n : Int) : PyData := .tuple [.str "sleep", .int n]
def slpOf : PyData → Int | .tuple [_, .int n] => n | _ => 0
def sleepPre (D : KD) (b : BD) (t : Nat) (c : PyData) : Prop := ∃ n ds, c = slpD n ∧ D .statuses = .tuple ds ∧ t < ds.length ∧ ds.length ≤ 100
def sleepPost (D : KD) (b : BD) (t : Nat) (c : PyData) : KD := fset D .statuses (putT (D .statuses) t (asleepD (slpOf c)))
def noAns (D : KD) (b : BD) (t : Nat) (c : PyData) : PyData := .none
theorem ok_fall_asleep (B : Bl mg) (T : KCls K CK) (c_put : Cal P w K mg base 1 "put" ["row", "at", "item"] (spPut K)) (d : DefAt K mg "fall_asleep" s_fall_asleep ["kernel", "task", "call"]) : Cal P w K mg base 4 "fall_asleep" ["kernel", "task", "call"] (spEff K CR CK sleepPre sleepPost noAns) := by
 refine Hk.hold ?_
 simp (disch := with_unfolding_all (
 exact Hk.disch (d.cal fun f fd F => by
  refine F.ok sc_fall_asleep (fun vs H Q E h => ?_) (fun cdv A outer s H vs Q E hr h => ?_)
  · obtain ⟨k, r, D, b, t, x, c, rfl, _⟩ := h; rfl
  · obtain ⟨k, r, D, b, t, x, c, rfl, hk, hR, nCC, hx, ⟨n, ds, rfl, es, lt, few⟩, q⟩ := h
    refine ⟨_, (pss_cons (ps_fld (pv 0) (pe_cal c_put (hr.mono (by omega)) rfl (pa_cons (pe_fld (pv 0) rfl) (pa_cons (pv 1) (pa_cons (pe_tup (pa_cons pe_str (pa_cons (pe_ix ix_tup (pv 2) pe_int (fun _ _ => rfl)) pa_nil))) pa_nil)))) rfl)
      (pss_one (ps_ret pe_non))), ?_⟩
    unfold sleepPost noAns at q
    rw [show slpOf (slpD n) = n from rfl, es] at q
    cases hx with
    | @tup a xs _ hs hxs =>
    cases hxs with
    | @cons y0 q0 _ _ a0 hxs =>
    cases hxs with
    | @cons y1 q1 _ _ a1 hxs =>
    cases hxs
    cases a0; cases a1
    walk_at "st0"
    refine hk.get T .statuses fun v1 d1 => ?_
    rw [es] at d1
    walk_at "st"
    refine q_ixT hs (atI1 rfl) ?_
    walk_at "st"
    refine ⟨by show 2 ≤ sizeLine; decide, fun pt npt => ?_⟩
    have sp := same_new (o := .tup [V.str "asleep", V.int n]) npt
    have dn : Dp K (upd H pt (.tup [V.str "asleep", V.int n])) (.ref pt) (asleepD n) := .tup (SqT.of upd_same) (.cons (.str _) (.cons (.int _) .nil))
    walk_at "st"
    refine ⟨v1, _, t, ds, asleepD n, rfl, L2.Dp.mono sp d1, lt, by omega, dn, fun v3 H3 s3 d3 => ?_⟩
    walk_at "st"
    refine (hk.mono (sp.trans s3)).set T .statuses d3 fun H4 b4 hk4 => ?_
    walk_at "st"
    exact q _ _ ((But.same (sp.trans s3)).trans b4) hk4 .non))) only [↓Hk.hold_s]
def getPre (D : KD) (b : BD) (t : Nat) (c : PyData) : Prop := b.frames = .int 0 ∧ ∃ ns : List Int, D .taken = .tuple (ns.map .int) ∧ 0 ≤ ns.sum
def keepPost (D : KD) (b : BD) (t : Nat) (c : PyData) : KD := D
def noAnsw (D : KD) (b : BD) (t : Nat) (c : PyData) : PyData := noD
def yesAnsw (D : KD) (b : BD) (t : Nat) (c : PyData) : PyData := yesD
theorem ints_of_dp {H : Hp} : ∀ {xs : List V} {ns : List Int}, DpAll K H xs (ns.map PyData.int) → xs = ns.map V.int
  | _, [], h => by cases h; rfl
  | _, n :: ns, h => by
    cases h with
    | @cons x r _ _ a h => cases a; rw [ints_of_dp h]; rfl
theorem ok_get_frame (B : Bl mg) (g_sum : mg "sum" = none) (T : KCls K CK) (R : RCls K CR) (d : DefAt K mg "get_frame" s_get_frame ["kernel", "task", "call"]) : Cal P w K mg base 4 "get_frame" ["kernel", "task", "call"] (spEff K CR CK getPre keepPost noAnsw) := by
 refine Hk.hold ?_
 simp (disch := with_unfolding_all (
 exact Hk.disch (d.cal fun f fd F => by
  refine F.ok sc_get_frame (fun vs H Q E h => ?_) (fun cdv A outer s H vs Q E hr h => ?_)
  · obtain ⟨k, r, D, b, t, x, c, rfl, _⟩ := h; rfl
  · obtain ⟨k, r, D, b, t, x, c, rfl, hk, hR, nCC, hx, ⟨ef, ns, et, hns⟩, q⟩ := h
    refine ⟨_, (pss_cons (ps_set (i := 3) sc_get_frame.nd rfl (Or.inl rfl) (pe_fld (pv 0) rfl))
      (pss_cons (ps_if (pt_cmpR op_ge (pe_callB (cr_sumT rfl) rfl g_sum hb_sum0 (pa_cons (pe_fld (pv 0) rfl) pa_nil)) (pe_fld (pv 3) rfl) (nomark _)) (pss_one (ps_ret pe_str)) pss_nil)
      (pss_cons (ps_never)
      (pss_cons (ps_never)
      (pss_cons (ps_never)
      (pss_cons (ps_never)
      (pss_one (ps_never)))))))), ?_⟩
    walk_at "st0"
    refine hk.getR T ?_
    walk_at "st"
    refine hk.get T .taken fun v1 d1 => ?_
    rw [et] at d1
    cases d1 with
    | @tup a xs _ hs hxs =>
    rw [ints_of_dp hxs] at hs
    walk_at "st"
    refine ⟨a, ns, rfl, hs, ?_⟩
    walk_at "st"
    refine hR.rd R .all_frames fun v2 d2 => ?_
    have d3 : Dp K H v2 b.frames := d2
    rw [ef] at d3
    cases d3
    walk_at "st"
    rw [decide_eq_true (by omega)]
    refine iteT ?_
    walk_at "st"
    exact q _ _ But.refl hk (.str _)))) only [↓Hk.hold_s]
theorem ok_do_nothing (B : Bl mg) (d : DefAt K mg "do_nothing" s_do_nothing ["kernel", "task", "call"]) : Cal P w K mg base 4 "do_nothing" ["kernel", "task", "call"] (spEff K CR CK (fun _ _ _ _ => True) keepPost yesAnsw) := d.cal fun f fd F => by
  refine F.ok sc_do_nothing (fun vs H Q E h => ?_) (fun cdv A outer s H vs Q E hr h => ?_)
  · obtain ⟨k, r, D, b, t, x, c, rfl, _⟩ := h; rfl
  · obtain ⟨k, r, D, b, t, x, c, rfl, hk, hR, nCC, hx, _, q⟩ := h
    refine ⟨_, (pss_one (ps_ret pe_str)), ?_⟩
    walk_at "st0"
    exact q _ _ But.refl hk (.str _)
end
end T
namespace T
section
variable {P : Program} {w : World} {K : PySem.W.Frag} {mg : Str → Option Value} {base : Heap} {C CR CK tR dE : Addr} {S : Addr → Option Sp}
structure EffAt (P : Program) (w : World) (K : PySem.W.Frag) (mg : Str → Option Value) (base : Heap) (dE : Addr) (S : Addr → Option Sp) : Prop where
  g_EFFECTS : mg "EFFECTS" = some (.ref dE)
  kd : ∃ es n, KDict K w dE es n
  held : ∀ f sp, S f = some sp → Held P w K mg base 4 f sp
/-- behind the effect of a call -/
def ansPut (D : KD) (t : Nat) (a : PyData) : KD := match a with | .none => D | a => fset D .answers (putT (D .answers) t a)
def busyOf (D : KD) (b : BD) : Int := match b.pad with | .bool true => greatOf b | _ => (cost3 b.costs).1 + dInt0 (D .extra)
def afterCall (D : KD) (b : BD) (t : Nat) (a : PyData) : KD := if planHas b.plan then fset (ansPut D t a) .busy (.int (busyOf D b)) else fset (fset (ansPut D t a) .busy (.int (busyOf D b))) .spent (.int (dInt0 (D .spent) + busyOf D b))
def clearAns (D : KD) (t : Nat) : KD := fset D .answers (putT (D .answers) t .none)
structure CallOk (K : PySem.W.Frag) (CR CK dE : Addr) (S : Addr → Option Sp) (D : KD) (b : BD) (t : Nat) (c : PyData) (pre : KD → BD → Nat → PyData → Prop) (post : KD → BD → Nat → PyData → KD) (ans : KD → BD → Nat → PyData → PyData) : Prop where
  turn : D .turn = .int t
  answers : ∃ as, D .answers = .tuple as ∧ t < as.length ∧ as.length ≤ 100
  word : ∃ (z : Str) (rest : List PyData) (f : Addr), c = .tuple (.str z :: rest) ∧ PySem.W.nsIn K dE z = some (some (.ref f)) ∧ S f = some (spEff K CR CK pre post ans)
  pre : pre (clearAns D t) b t c
  post : ∃ as e s, post (clearAns D t) b t c .answers = .tuple as ∧ t < as.length ∧ as.length ≤ 100 ∧ post (clearAns D t) b t c .extra = .int e ∧ post (clearAns D t) b t c .spent = .int s
  ans : ans (clearAns D t) b t c = .none ∨ ∃ z, ans (clearAns D t) b t c = .str z
  pad : ∃ x, b.pad = .bool x
def spCall (K : PySem.W.Frag) (CR CK dE : Addr) (S : Addr → Option Sp) : Sp := fun vs H Q _ => ∃ (k r : Addr) (D : KD) (b : BD) (t : Nat) (x : V) (c : PyData) (pre : KD → BD → Nat → PyData → Prop) (post : KD → BD → Nat → PyData → KD) (ans : KD → BD → Nat → PyData → PyData), vs = [.ref k, x] ∧ KAt K CK H k r D ∧ RulesAt K CR H r b ∧ CR ≠ CK ∧ Dp K H x c ∧
  CallOk K CR CK dE S D b t c pre post ans ∧ ∀ H', But k H H' → KAt K CK H' k r (afterCall (post (clearAns D t) b t c) b t (ans (clearAns D t) b t c)) → Q .non H'
theorem ok_make_call (B : Bl mg) (T : KCls K CK) (R : RCls K CR) (EF : EffAt P w K mg base dE S) (c_put : Cal P w K mg base 1 "put" ["row", "at", "item"] (spPut K)) (d : DefAt K mg "make_call" s_make_call ["kernel", "call"]) : Cal P w K mg base 5 "make_call" ["kernel", "call"] (spCall K CR CK dE S) := by
 refine Hk.hold ?_
 simp (disch := with_unfolding_all (
 exact Hk.disch (d.cal fun f fd F => by
  refine F.ok sc_make_call (fun vs H Q E h => ?_) (fun cdv A outer s H vs Q E hr h => ?_)
  · obtain ⟨k, r, D, b, t, x, c, pre, post, ans, rfl, _⟩ := h; rfl
  · obtain ⟨k, r, D, b, t, x, c, pre, post, ans, rfl, hk, hR, nCC, hx, ⟨eT, ⟨as, ea, ta, fa⟩, ⟨z, rest, fE, rfl, ens, eS⟩, hpre, ⟨as2, e2, s2, ea2, ta2, fa2, ee2, es2⟩, hans, ⟨pd, epd⟩⟩, q⟩ := h
    refine ⟨_, (pss_cons (ps_set (i := 2) sc_make_call.nd rfl (Or.inl rfl) (pe_fld (pv 0) rfl))
      (pss_cons (ps_fld (pv 0) (pe_cal c_put (hr.mono (by omega)) rfl (pa_cons (pe_fld (pv 0) rfl) (pa_cons (pv 2) (pa_cons pe_non pa_nil)))) rfl)
      (pss_cons (ps_set (i := 3) sc_make_call.nd rfl (Or.inl rfl) (pe_ix (show IxR _ (rIxKD K dE) from ix_kd EF.kd) (pe_glob (v := .ref dE) rfl EF.g_EFFECTS rfl) (pe_ix ix_tup (pv 1) pe_int (fun _ _ => rfl)) (fun _ _ => rfl)))
      (pss_cons (ps_set (i := 4) sc_make_call.nd rfl (Or.inl rfl) (pe_callA (i := 3) EF.held (hr.mono (by omega)) rfl (Or.inl rfl) (pa_cons (pv 0) (pa_cons (pv 2) (pa_cons (pv 1) pa_nil)))))
      (pss_cons (ps_if (pt_cmp (pc_notN (pv 4))) (pss_one (ps_fld (pv 0) (pe_cal c_put (hr.mono (by omega)) rfl (pa_cons (pe_fld (pv 0) rfl) (pa_cons (pv 2) (pa_cons (pv 4) pa_nil)))) rfl)) pss_nil)
      (pss_cons (ps_set (i := 5) sc_make_call.nd rfl (Or.inl rfl) (pe_fld (pv 0) rfl))
      (pss_cons (ps_fld (pv 0) (pe_ifExp (pt_val (pe_fld (pv 5) rfl)) (pe_fld (pv 5) rfl) (pe_op op_add (pe_fld (pv 5) rfl) (pe_fld (pv 0) rfl))) rfl)
      (pss_one (ps_if (pt_not (pt_val (pe_fld (pv 5) rfl))) (pss_one (ps_fldaug (pv 0) (pe_fld (pv 0) rfl) in_add)) pss_nil))))))))), ?_⟩
    walk_at "st0"
    refine hk.get T .turn fun v1 d1 => ?_
    rw [eT] at d1
    cases d1
    walk_at "st"
    refine hk.get T .answers fun v2 d2 => ?_
    rw [ea] at d2
    walk_at "st"
    refine ⟨v2, _, t, as, .none, rfl, d2, ta, by omega, .non, fun v3 H1 s1 d3 => ?_⟩
    walk_at "st"
    refine (hk.mono s1).set T .answers d3 fun H2 b2 hk2 => ?_
    have ecl : clearAns D t = fset D .answers (.tuple (as.set t .none)) := by unfold clearAns; rw [ea]; rfl
    rw [← ecl] at hk2
    obtain ⟨dxk, fsk, ek, _⟩ := id hk
    have b02 : But k H H2 := (But.same s1).trans b2
    have kp := But.keep ek b02
    have hx2 := dpKeep kp hx
    have nkr : r ≠ k := fun z => by
      subst z
      obtain ⟨dx3, fs3, g, _⟩ := hR
      rw [ek] at g; cases g; exact nCC rfl
    have hR2 := hR.but ek b02 nkr
    walk_at "st"
    cases hx2 with
    | @tup a xs _ hs hxs =>
    cases hxs with
    | @cons y0 q0 _ _ a0 hxs =>
    have hx3 : Dp K H2 (.ref a) (.tuple (.str z :: rest)) := .tup hs (.cons a0 hxs)
    cases a0
    refine q_ixT hs (atI0 rfl) ?_
    refine ⟨z, .ref fE, .ref fE, rfl, rfl, ens, rfl, ?_⟩
    walk_at "st"
    refine ⟨fE, _, rfl, eS, ?_⟩
    walk_at "st"
    refine ⟨k, r, clearAns D t, b, t, _, _, rfl, hk2, hR2, nCC, hx3, hpre, fun v5 H3 b3 hk3 d5 => ?_⟩
    generalize post (clearAns D t) b t (.tuple (.str z :: rest)) = D2 at hk3 q ea2 ee2 es2
    generalize ans (clearAns D t) b t (.tuple (.str z :: rest)) = av at d5 q hans
    have b03 : But k H H3 := b02.trans b3
    walk_at "st"
    rcases hans with rfl | ⟨zz, rfl⟩
    · cases d5
      walk_at "st"
      refine iteF ?_
      have b04 := b03
      have hk4 : KAt K CK H3 k r (ansPut D2 t .none) := hk3
      walk_at "st"
      refine hk4.getR T ?_
      walk_at "st"
      have hR4 := hR.but ek b04 nkr
      refine hR4.rd R .pads fun v6 d6 => ?_
      have d6' : Dp K H3 v6 b.pad := d6
      rw [epd] at d6'
      cases d6'
      walk_at "st"
      cases pd with
      | true =>
        refine iteT ?_
        walk_at "st"
        refine hR4.rd R .greatest fun v7 d7 => ?_
        have eb : busyOf D2 b = greatOf b := by unfold busyOf; rw [epd]
        have d7' : Dp K H3 v7 (.int (busyOf D2 b)) := by rw [eb]; exact d7
        walk_at "st"
        refine hk4.set T .busy d7' fun H5 b5 hk5 => ?_
        have hR5 := hR.but ek (b04.trans b5) nkr
        walk_at "st"
        refine hR5.rd R .has_slots fun v9 d9 => ?_
        have d9' : Dp K H5 v9 (.bool (planHas b.plan)) := d9
        cases d9'
        walk_at "st"
        cases hpl : planHas b.plan with
        | true =>
          refine iteF ?_
          refine q _ (b04.trans b5) ?_
          unfold afterCall
          rw [if_pos hpl]
          exact hk5
        | false =>
          refine iteT ?_
          obtain ⟨dx6, fs6, e6, m6, l6, t6⟩ := id hk5
          obtain ⟨v10, g10, d10⟩ := t6 .spent (KF.in_all _)
          have d10' : Dp K H5 v10 (.int s2) := by rw [← es2]; exact d10
          cases d10'
          refine ⟨_, rfl, k, CK, dx6, fs6, _, rfl, e6, T.cls, T.no _ (by decide +kernel), g10, ?_⟩
          walk_at "st"
          refine hk5.get T .busy fun v11 d11 => ?_
          have d11' : Dp K H5 v11 (.int (busyOf D2 b)) := d11
          cases d11'
          refine ⟨_, _, rfl, rfl, dx6, fs6, e6, len_KN m6, ?_⟩
          refine q _ ((b04.trans b5).trans But.put) ?_
          unfold afterCall
          rw [if_neg (by rw [hpl]; decide), es2]
          exact KAt.put e6 m6 l6 t6 .spent (.int _)
      | false =>
        refine iteF ?_
        walk_at "st"
        refine hR4.rd R .plain fun v7 d7 => ?_
        have d7' : Dp K H3 v7 (.int (cost3 b.costs).1) := d7
        cases d7'
        walk_at "st"
        refine hk4.get T .extra fun v8 d8 => ?_
        have d8' : Dp K H3 v8 (.int e2) := by rw [← ee2]; exact d8
        cases d8'
        have eb : busyOf D2 b = (cost3 b.costs).1 + e2 := by unfold busyOf; rw [epd, ee2]; rfl
        walk_at "st"
        rw [← eb]
        refine hk4.set T .busy (.int _) fun H5 b5 hk5 => ?_
        have hR5 := hR.but ek (b04.trans b5) nkr
        walk_at "st"
        refine hR5.rd R .has_slots fun v9 d9 => ?_
        have d9' : Dp K H5 v9 (.bool (planHas b.plan)) := d9
        cases d9'
        walk_at "st"
        cases hpl : planHas b.plan with
        | true =>
          refine iteF ?_
          refine q _ (b04.trans b5) ?_
          unfold afterCall
          rw [if_pos hpl]
          exact hk5
        | false =>
          refine iteT ?_
          obtain ⟨dx6, fs6, e6, m6, l6, t6⟩ := id hk5
          obtain ⟨v10, g10, d10⟩ := t6 .spent (KF.in_all _)
          have d10' : Dp K H5 v10 (.int s2) := by rw [← es2]; exact d10
          cases d10'
          refine ⟨_, rfl, k, CK, dx6, fs6, _, rfl, e6, T.cls, T.no _ (by decide +kernel), g10, ?_⟩
          walk_at "st"
          refine hk5.get T .busy fun v11 d11 => ?_
          have d11' : Dp K H5 v11 (.int (busyOf D2 b)) := d11
          cases d11'
          refine ⟨_, _, rfl, rfl, dx6, fs6, e6, len_KN m6, ?_⟩
          refine q _ ((b04.trans b5).trans But.put) ?_
          unfold afterCall
          rw [if_neg (by rw [hpl]; decide), es2]
          exact KAt.put e6 m6 l6 t6 .spent (.int _)
    · cases d5
      walk_at "st"
      refine iteT ?_
      walk_at "st"
      refine hk3.get T .answers fun v12 d12 => ?_
      rw [ea2] at d12
      walk_at "st"
      refine ⟨v12, _, t, as2, .str zz, rfl, d12, ta2, by omega, .str _, fun v13 H6 s6 d13 => ?_⟩
      walk_at "st"
      refine (hk3.mono s6).set T .answers d13 fun H4 b7 hk4' => ?_
      have b04 : But k H H4 := b03.trans ((But.same s6).trans b7)
      have hk4 : KAt K CK H4 k r (ansPut D2 t (.str zz)) := by
        unfold ansPut
        rw [ea2]
        exact hk4'
      walk_at "st"
      refine hk4.getR T ?_
      walk_at "st"
      have hR4 := hR.but ek b04 nkr
      refine hR4.rd R .pads fun v6 d6 => ?_
      have d6' : Dp K H4 v6 b.pad := d6
      rw [epd] at d6'
      cases d6'
      walk_at "st"
      cases pd with
      | true =>
        refine iteT ?_
        walk_at "st"
        refine hR4.rd R .greatest fun v7 d7 => ?_
        have eb : busyOf D2 b = greatOf b := by unfold busyOf; rw [epd]
        have d7' : Dp K H4 v7 (.int (busyOf D2 b)) := by rw [eb]; exact d7
        walk_at "st"
        refine hk4.set T .busy d7' fun H5 b5 hk5 => ?_
        have hR5 := hR.but ek (b04.trans b5) nkr
        walk_at "st"
        refine hR5.rd R .has_slots fun v9 d9 => ?_
        have d9' : Dp K H5 v9 (.bool (planHas b.plan)) := d9
        cases d9'
        walk_at "st"
        cases hpl : planHas b.plan with
        | true =>
          refine iteF ?_
          refine q _ (b04.trans b5) ?_
          unfold afterCall
          rw [if_pos hpl]
          exact hk5
        | false =>
          refine iteT ?_
          obtain ⟨dx6, fs6, e6, m6, l6, t6⟩ := id hk5
          obtain ⟨v10, g10, d10⟩ := t6 .spent (KF.in_all _)
          have d10' : Dp K H5 v10 (.int s2) := by rw [← es2]; exact d10
          cases d10'
          refine ⟨_, rfl, k, CK, dx6, fs6, _, rfl, e6, T.cls, T.no _ (by decide +kernel), g10, ?_⟩
          walk_at "st"
          refine hk5.get T .busy fun v11 d11 => ?_
          have d11' : Dp K H5 v11 (.int (busyOf D2 b)) := d11
          cases d11'
          refine ⟨_, _, rfl, rfl, dx6, fs6, e6, len_KN m6, ?_⟩
          refine q _ ((b04.trans b5).trans But.put) ?_
          unfold afterCall
          rw [if_neg (by rw [hpl]; decide), es2]
          exact KAt.put e6 m6 l6 t6 .spent (.int _)
      | false =>
        refine iteF ?_
        walk_at "st"
        refine hR4.rd R .plain fun v7 d7 => ?_
        have d7' : Dp K H4 v7 (.int (cost3 b.costs).1) := d7
        cases d7'
        walk_at "st"
        refine hk4.get T .extra fun v8 d8 => ?_
        have d8' : Dp K H4 v8 (.int e2) := by rw [← ee2]; exact d8
        cases d8'
        have eb : busyOf D2 b = (cost3 b.costs).1 + e2 := by unfold busyOf; rw [epd, ee2]; rfl
        walk_at "st"
        rw [← eb]
        refine hk4.set T .busy (.int _) fun H5 b5 hk5 => ?_
        have hR5 := hR.but ek (b04.trans b5) nkr
        walk_at "st"
        refine hR5.rd R .has_slots fun v9 d9 => ?_
        have d9' : Dp K H5 v9 (.bool (planHas b.plan)) := d9
        cases d9'
        walk_at "st"
        cases hpl : planHas b.plan with
        | true =>
          refine iteF ?_
          refine q _ (b04.trans b5) ?_
          unfold afterCall
          rw [if_pos hpl]
          exact hk5
        | false =>
          refine iteT ?_
          obtain ⟨dx6, fs6, e6, m6, l6, t6⟩ := id hk5
          obtain ⟨v10, g10, d10⟩ := t6 .spent (KF.in_all _)
          have d10' : Dp K H5 v10 (.int s2) := by rw [← es2]; exact d10
          cases d10'
          refine ⟨_, rfl, k, CK, dx6, fs6, _, rfl, e6, T.cls, T.no _ (by decide +kernel), g10, ?_⟩
          walk_at "st"
          refine hk5.get T .busy fun v11 d11 => ?_
          have d11' : Dp K H5 v11 (.int (busyOf D2 b)) := d11
          cases d11'
          refine ⟨_, _, rfl, rfl, dx6, fs6, e6, len_KN m6, ?_⟩
          refine q _ ((b04.trans b5).trans But.put) ?_
          unfold afterCall
          rw [if_neg (by rw [hpl]; decide), es2]
          exact KAt.put e6 m6 l6 t6 .spent (.int _)))) only [↓Hk.hold_s]
end
end T
namespace T
section
variable {P : Program} {w : World} {K : PySem.W.Frag} {mg : Str → Option Value} {base : Heap} {C CR CK tR dE : Addr} {S : Addr → Option Sp}
def decBusy (D : KD) : KD := if dInt0 (D .busy) > 0 then fset D .busy (.int (dInt0 (D .busy) - 1)) else D
def openD (D : KD) (b : BD) (n : Nat) : KD := if dInt0 (decBusy (sleepD D) .busy) = 0 then fset (levStep (decBusy (sleepD D)) b).1 .turn (levStep (decBusy (sleepD D)) b).2 else decBusy (sleepD D)
structure OpenOk (b : BD) (D : KD) (n : Nat) (ds : List PyData) : Prop where
  sleep : ∃ as, SleepOk D ds as
  lv : LvOk b (decBusy (sleepD D)) (ds.map sleptS)
  phase : D .phase = .int n
  busy : ∃ i : Int, D .busy = .int i
  turn : D .turn = .none
  extra : D .extra = .int 0
def spOpened (K : PySem.W.Frag) (CR CK : Addr) : Sp := fun vs H Q _ => ∃ (r : Addr) (b : BD) (v : V) (D : KD) (n : Nat) (ds : List PyData), vs = [.ref r, v, .non] ∧ RulesAt K CR H r b ∧ CR ≠ CK ∧ Dp K H v (shapeOf D) ∧ OpenOk b D n ds ∧ ∀ k H', Same H H' → KAt K CK H' k r (openD D b n) → Q (.ref k) H'
theorem ok_opened (B : Bl mg) (T : KCls K CK) (c_Kernel : MkCal P w K mg base 1 CK "Kernel" ["self", "rules", "shape"] (spKernel K CK)) (m_sleep_on : MCal P w K mg base 3 CK "sleep_on" ["self"] (spSleepOn K CK)) (c_turn_now : Cal P w K mg base 4 "turn_now" ["kernel"] (spNow K CR CK)) (d : DefAt K mg "opened" s_opened ["rules", "shape", "letter"]) : Cal P w K mg base 5 "opened" ["rules", "shape", "letter"] (spOpened K CR CK) := by
 refine Hk.hold ?_
 simp (disch := with_unfolding_all (
 exact Hk.disch (d.cal fun f fd F => by
  refine F.ok sc_opened (fun vs H Q E h => ?_) (fun cdv A outer s H vs Q E hr h => ?_)
  · obtain ⟨r, b, v, D, n, ds, rfl, _⟩ := h; rfl
  · obtain ⟨r, b, v, D, n, ds, rfl, hR, nCC, hv, O, q⟩ := h
    refine ⟨_, (pss_cons (ps_set (i := 3) sc_opened.nd rfl (Or.inl rfl) (pe_mk c_Kernel (hr.mono (by omega)) rfl (pa_cons (pv 0) (pa_cons (pv 1) pa_nil))))
      (pss_cons (ps_if (pt_cmp (pc_notN (pv 2))) (pss_one (ps_never)) pss_nil)
      (pss_cons (ps_expr (pe_mcal0 m_sleep_on (hr.mono (by omega)) (pv 3)))
      (pss_cons (ps_if (pt_cmpR op_gt (pe_fld (pv 3) rfl) pe_int (nomark _)) (pss_one (ps_fldaug (pv 3) pe_int in_sub)) pss_nil)
      (pss_cons (ps_if (pt_cmpR op_eq (pe_fld (pv 3) rfl) pe_int (nomark _)) (pss_one (ps_fld (pv 3) (pe_cal c_turn_now (hr.mono (by omega)) rfl (pa_cons (pv 3) pa_nil)) rfl)) pss_nil)
      (pss_one (ps_ret (pv 3)))))))), ?_⟩
    walk_at "st0"
    intro k dx nk ndx nekd
    have m2 : Same H (upd (upd H dx (.own k)) k (.ins CK dx [])) := (same_new ndx).trans (same_new (by rw [upd_ne (Ne.symm nekd)]; exact nk))
    refine ⟨k, r, dx, v, D, rfl, upd_same, L2.Dp.mono m2 hv, O.turn, O.extra, fun H1 b1 hk => ⟨rfl, ?_⟩⟩
    have fresh : ∀ {H'}, But k H1 H' → Same H H' := fun {H'} bt a o e => bt _ _ (b1 _ _ (m2 _ _ e) (ne_of_none e nk)) (ne_of_none e nk)
    walk_at "st"
    refine iteF ?_
    walk_at "st"
    refine hk.meth (by decide +kernel) ?_
    walk_at "st"
    obtain ⟨as, SO⟩ := O.sleep
    refine ⟨k, r, D, ds, as, rfl, hk, SO, fun H2 b2 hk => ?_⟩
    obtain ⟨i, ei⟩ := O.busy
    have ei : sleepD D .busy = .int i := ei
    have SL := O.lv
    unfold openD at q
    generalize sleepD D = DS at hk ei SL q
    have edi : dInt0 (DS .busy) = i := by rw [ei]; rfl
    walk_at "st"
    refine hk.get T .busy fun v3 d3 => ?_
    rw [ei] at d3
    cases d3
    walk_at "st"
    by_cases hi : 0 < i
    · rw [decide_eq_true hi]
      refine iteT ?_
      obtain ⟨dx6, fs6, e6, m6, l6, t6⟩ := id hk
      obtain ⟨v10, g10, d10⟩ := t6 .busy (KF.in_all _)
      rw [ei] at d10
      cases d10
      refine ⟨_, rfl, k, CK, dx6, fs6, _, rfl, e6, T.cls, T.no _ (by decide +kernel), g10, ?_⟩
      walk_at "st"
      refine ⟨_, _, rfl, rfl, dx6, fs6, e6, len_KN m6, ?_⟩
      have edb : decBusy DS = fset DS .busy (.int (i - 1)) := by unfold decBusy; rw [edi, if_pos (show i > 0 from hi)]
      have hk3 : KAt K CK (upd H2 k (.ins CK dx6 (putF "busy" (V.int (i - 1)) fs6))) k r (decBusy DS) := by rw [edb]; exact KAt.put e6 m6 l6 t6 .busy (.int _)
      have b3 : But k H1 (upd H2 k (.ins CK dx6 (putF "busy" (V.int (i - 1)) fs6))) := b2.trans But.put
      obtain ⟨j, e1⟩ : ∃ j, decBusy DS .busy = .int j := ⟨i - 1, by rw [edb]; rfl⟩
      generalize upd H2 k (.ins CK dx6 (putF "busy" (V.int (i - 1)) fs6)) = H3 at hk3 b3 ⊢
      have hR3 := hR.mono (fresh b3)
      walk_at "st"
      refine hk3.get T .busy fun v4 d4 => ?_
      rw [e1] at d4
      cases d4
      walk_at "st"
      refine q_eqI ?_
      walk_at "st"
      by_cases hj : j = 0
      · rw [decide_eq_true hj]
        refine iteT ?_
        walk_at "st"
        refine ⟨k, r, decBusy DS, b, _, rfl, hk3, hR3, nCC, SL, fun v5 H5 b5 hk5 d5 => ?_⟩
        walk_at "st"
        refine hk5.set T .turn d5 fun H6 b6 hk6 => ?_
        walk_at "st"
        refine q k H6 (fresh (b3.trans (b5.trans b6))) ?_
        rw [if_pos (by rw [e1]; exact hj)]
        exact hk6
      · rw [decide_eq_false hj]
        refine iteF ?_
        walk_at "st"
        refine q k _ (fresh b3) ?_
        rw [if_neg (by rw [e1]; exact hj)]
        exact hk3
    · rw [decide_eq_false hi]
      refine iteF ?_
      have edb : decBusy DS = DS := by unfold decBusy; rw [edi, if_neg (show ¬ i > 0 from hi)]
      have hk3 : KAt K CK H2 k r (decBusy DS) := by rw [edb]; exact hk
      have b3 := b2
      obtain ⟨j, e1⟩ : ∃ j, decBusy DS .busy = .int j := ⟨i, by rw [edb]; exact ei⟩
      have hR3 := hR.mono (fresh b3)
      walk_at "st"
      refine hk3.get T .busy fun v4 d4 => ?_
      rw [e1] at d4
      cases d4
      walk_at "st"
      refine q_eqI ?_
      walk_at "st"
      by_cases hj : j = 0
      · rw [decide_eq_true hj]
        refine iteT ?_
        walk_at "st"
        refine ⟨k, r, decBusy DS, b, _, rfl, hk3, hR3, nCC, SL, fun v5 H5 b5 hk5 d5 => ?_⟩
        walk_at "st"
        refine hk5.set T .turn d5 fun H6 b6 hk6 => ?_
        walk_at "st"
        refine q k H6 (fresh (b3.trans (b5.trans b6))) ?_
        rw [if_pos (by rw [e1]; exact hj)]
        exact hk6
      · rw [decide_eq_false hj]
        refine iteF ?_
        walk_at "st"
        refine q k _ (fresh b3) ?_
        rw [if_neg (by rw [e1]; exact hj)]
        exact hk3))) only [↓Hk.hold_s]
theorem periodOf_pos {b : BD} (ok : BOk b) : 0 < periodOf b := by
  have ev : 1 ≤ outEvery b.outside := by
    rcases okOutsideL ok.outside with e | ⟨p, e2, e, _, _, h1, h2⟩
    · rw [e]; decide
    · rw [e]; exact h1
  unfold periodOf
  have h : 0 < Nat.lcm (outEvery b.outside).natAbs (max (ticksOfB b).length 1) := Nat.lcm_pos (by omega) (by omega)
  omega
theorem shape_forms {H : Hp} {v : V} {D : KD} (h : Dp K H v (shapeOf D)) : ∃ (a a2 : Addr) (x0 x1 x2 x3 x4 x5 x6 x7 x8 y0 y1 y2 y3 : V), v = .ref a ∧ SqT K H a [x0, x1, x2, x3, x4, x5, x6, x7, x8, .ref a2] ∧ SqT K H a2 [y0, y1, y2, y3] ∧ Dp K H (.ref a2) (.tuple [D .runs, D .spent, D .busy, D .phase]) ∧ Dp K H x0 (D .statuses) ∧ Dp K H x1 (D .answers) ∧ Dp K H x2 (D .owned) ∧ Dp K H x3 (D .taken) ∧ Dp K H x4 (D .values_now) ∧ Dp K H x5 (D .queues) ∧ Dp K H x6 (D .lock_rows) ∧ Dp K H x7 (D .cached) ∧ Dp K H x8 (D .place) ∧ Dp K H y0 (D .runs) ∧ Dp K H y1 (D .spent) ∧ Dp K H y2 (D .busy) ∧ Dp K H y3 (D .phase) := by
 refine Hk.hold ?_
 simp (disch := with_unfolding_all (
 exact Hk.disch (by
  unfold shapeOf at h
  cases h with
  | @tup a xs _ hs ha =>
  cases ha with
  | @cons x0 r0 _ _ h0 ha =>
  cases ha with
  | @cons x1 r1 _ _ h1 ha =>
  cases ha with
  | @cons x2 r2 _ _ h2 ha =>
  cases ha with
  | @cons x3 r3 _ _ h3 ha =>
  cases ha with
  | @cons x4 r4 _ _ h4 ha =>
  cases ha with
  | @cons x5 r5 _ _ h5 ha =>
  cases ha with
  | @cons x6 r6 _ _ h6 ha =>
  cases ha with
  | @cons x7 r7 _ _ h7 ha =>
  cases ha with
  | @cons x8 r8 _ _ h8 ha =>
  cases ha with
  | @cons x9 r9 _ _ h9 ha =>
  cases ha
  have h10 := h9
  cases h9 with
  | @tup a2 ys _ hs2 hb =>
  cases hb with
  | @cons y0 q0 _ _ g0 hb =>
  cases hb with
  | @cons y1 q1 _ _ g1 hb =>
  cases hb with
  | @cons y2 q2 _ _ g2 hb =>
  cases hb with
  | @cons y3 q3 _ _ g3 hb =>
  cases hb
  exact ⟨a, a2, x0, x1, x2, x3, x4, x5, x6, x7, x8, y0, y1, y2, y3, rfl, hs, hs2, h10, h0, h1, h2, h3, h4, h5, h6, h7, h8, g0, g1, g2, g3⟩))) only [↓Hk.hold_s]
def spLetters (K : PySem.W.Frag) (CR : Addr) : Sp := fun vs H Q _ => ∃ (r : Addr) (b : BD) (v : V) (D : KD) (n : Nat), vs = [.ref r, v] ∧ RulesAt K CR H r b ∧ BOk b ∧ Dp K H v (shapeOf D) ∧ D .phase = .int n ∧ ∀ l xs H', Same H H' → H' l = some (.lst xs) → Q (.ref l) H'
theorem ok_letters_now (B : Bl mg) (m_may_come : MCal P w K mg base 1 CR "may_come" ["self", "phase"] (spMayCome K CR)) (d : DefAt K mg "letters_now" s_letters_now ["rules", "shape"]) : Cal P w K mg base 2 "letters_now" ["rules", "shape"] (spLetters K CR) := by
 refine Hk.hold ?_
 simp (disch := with_unfolding_all (
 exact Hk.disch (d.cal fun f fd F => by
  refine F.ok sc_letters_now (fun vs H Q E h => ?_) (fun cdv A outer s H vs Q E hr h => ?_)
  · obtain ⟨r, b, v, D, n, rfl, _⟩ := h; rfl
  · obtain ⟨r, b, v, D, n, rfl, hR, ok, hv, hp, q⟩ := h
    refine ⟨_, (pss_cons (ps_set (i := 2) sc_letters_now.nd rfl (Or.inl rfl) (pe_ix ix_tup (pe_ix ix_tup (pv 1) (pe_un un_neg pe_int) (fun _ _ => rfl)) (pe_un un_neg pe_int) (fun _ _ => rfl)))
      (pss_one (ps_ret (pe_ifExp (pt_val (pe_mcal m_may_come (hr.mono (by omega)) (pv 0) (pa_cons (pv 2) pa_nil))) (pe_lst (pa_cons pe_non (pa_cons pe_int (pa_cons pe_int pa_nil)))) (pe_lst (pa_cons pe_non pa_nil)))))), ?_⟩
    walk_at "st0"
    obtain ⟨a, a2, x0, x1, x2, x3, x4, x5, x6, x7, x8, y0, y1, y2, y3, rfl, hs, hs2, _, h0, h1, h2, h3, h4, h5, h6, h7, h8, g0, g1, g2, g3⟩ := shape_forms hv
    refine q_ixT hs (show atI [x0, x1, x2, x3, x4, x5, x6, x7, x8, V.ref a2] (-1) = some (.ref a2) from rfl) ?_
    walk_at "st"
    refine q_ixT hs2 (show atI [y0, y1, y2, y3] (-1) = some y3 from rfl) ?_
    rw [hp] at g3
    cases g3
    walk_at "st"
    obtain ⟨dxr, fsr, er, onr, tr, cr⟩ := id hR
    refine ⟨r, dxr, fsr, rfl, er, onr _ (by decide +kernel), ?_⟩
    walk_at "st"
    refine ⟨r, b, n, rfl, hR, ok, ?_⟩
    walk_at "st"
    refine q_if (fun hc => ?_) (fun hc => ?_)
    · walk_at "st"
      exact ⟨by show 3 ≤ sizeLine; decide, fun p np => q _ _ _ (same_new np) upd_same⟩
    · walk_at "st"
      exact ⟨by show 1 ≤ sizeLine; decide, fun p np => q _ _ _ (same_new np) upd_same⟩))) only [↓Hk.hold_s]
def base0 (D : KD) : KD := fset (fset D .extra (.int 0)) .turn .none
def baseT (D : KD) : KD := fset (base0 D) .turn (D .turn)
def nextPhase (D : KD) (b : BD) (n : Nat) : KD := fset D .phase (.int (((n : Int) + 1) % periodOf b))
def spFinished (K : PySem.W.Frag) (CR CK dE : Addr) (S : Addr → Option Sp) : Sp := fun vs H Q _ => ∃ (k r : Addr) (D : KD) (b : BD) (t n : Nat) (x : V) (c : PyData) (pre : KD → BD → Nat → PyData → Prop) (post : KD → BD → Nat → PyData → KD) (ans : KD → BD → Nat → PyData → PyData), vs = [.ref k, x] ∧ KAt K CK H k r D ∧ RulesAt K CR H r b ∧ BOk b ∧ CR ≠ CK ∧ Dp K H x c ∧
  CallOk K CR CK dE S (baseT D) b t c pre post ans ∧ afterCall (post (clearAns (baseT D) t) b t c) b t (ans (clearAns (baseT D) t) b t c) .phase = .int n ∧
  ∀ v H', Same H H' → Dp K H' v (shapeOf (nextPhase (afterCall (post (clearAns (baseT D) t) b t c) b t (ans (clearAns (baseT D) t) b t c)) b n)) → Q v H'
def spFinished0 (K : PySem.W.Frag) (CR CK : Addr) : Sp := fun vs H Q _ => ∃ (k r : Addr) (D : KD) (b : BD) (n : Nat) (x : V), vs = [.ref k, x] ∧ KAt K CK H k r D ∧ RulesAt K CR H r b ∧ BOk b ∧ CR ≠ CK ∧ D .turn = .none ∧ D .phase = .int n ∧
  ∀ v H', Same H H' → Dp K H' v (shapeOf (nextPhase D b n)) → Q v H'
def spFin (K : PySem.W.Frag) (CR CK dE : Addr) (S : Addr → Option Sp) : Sp := fun vs H Q E => spFinished K CR CK dE S vs H Q E ∨ spFinished0 K CR CK vs H Q E
theorem ok_finished (B : Bl mg) (T : KCls K CK) (R : RCls K CR) (c_Kernel : MkCal P w K mg base 1 CK "Kernel" ["self", "rules", "shape"] (spKernel K CK)) (m_shape : MCal P w K mg base 1 CK "shape" ["self"] (spShape K CK)) (c_make_call : Cal P w K mg base 5 "make_call" ["kernel", "call"] (spCall K CR CK dE S)) (d : DefAt K mg "finished" s_finished ["kernel", "call"]) : Cal P w K mg base 6 "finished" ["kernel", "call"] (spFin K CR CK dE S) := by
 refine Hk.hold ?_
 simp (disch := with_unfolding_all (
 exact Hk.disch (d.cal fun f fd F => by
  refine F.ok sc_finished (fun vs H Q E h => ?_) (fun cdv A outer s H vs Q E hr h => ?_)
  · rcases h with ⟨k, r, D, b, t, n, x, c, pre, post, ans, rfl, _⟩ | ⟨k, r, D, b, n, x, rfl, _⟩ <;> rfl
  · refine ⟨_, (pss_cons (ps_set (i := 2) sc_finished.nd rfl (Or.inl rfl) (pe_mk c_Kernel (hr.mono (by omega)) rfl (pa_cons (pe_fld (pv 0) rfl) (pa_cons (pe_mcal0 m_shape (hr.mono (by omega)) (pv 0)) pa_nil))))
      (pss_cons (ps_fld (pv 2) (pe_fld (pv 0) rfl) rfl)
      (pss_cons (ps_if (pt_cmp (pc_notN (pe_fld (pv 2) rfl))) (pss_one (ps_expr (pe_cal c_make_call (hr.mono (by omega)) rfl (pa_cons (pv 2) (pa_cons (pv 1) pa_nil))))) pss_nil)
      (pss_cons (ps_fld (pv 2) (pe_op op_mod (pe_op op_add (pe_fld (pv 2) rfl) pe_int) (pe_fld (pe_fld (pv 2) rfl) rfl)) rfl)
      (pss_one (ps_ret (pe_mcal0 m_shape (hr.mono (by omega)) (pv 2)))))))), ?_⟩
    rcases h with h | h
    · obtain ⟨k, r, D, b, t, n, x, c, pre, post, ans, rfl, hk, hR, ok, nCC, hx, CO, ep, q⟩ := h
      walk_at "st0"
      refine hk.getR T ?_
      walk_at "st"
      refine hk.meth (by decide +kernel) ?_
      walk_at "st"
      refine ⟨k, r, D, rfl, hk, fun v1 H1 s1 d1 => ?_⟩
      intro k2 dx nk ndx nekd
      have m2 : Same H1 (upd (upd H1 dx (.own k2)) k2 (.ins CK dx [])) := (same_new ndx).trans (same_new (by rw [upd_ne (Ne.symm nekd)]; exact nk))
      refine ⟨k2, r, dx, v1, base0 D, rfl, upd_same, L2.Dp.mono m2 d1, rfl, rfl, fun H2 b2 hk2 => ⟨rfl, ?_⟩⟩
      have fresh : ∀ {H'}, But k2 H2 H' → Same H H' := fun {H'} bt a o e => by
        have e1 := s1 _ _ e
        exact bt _ _ (b2 _ _ (m2 _ _ e1) (ne_of_none e1 nk)) (ne_of_none e1 nk)
      have hkk := hk.mono (fresh But.refl)
      walk_at "st"
      refine hkk.get T .turn fun v3 d3 => ?_
      walk_at "st"
      refine hk2.set T .turn d3 fun H3 b3 hk3 => ?_
      have hk3' : KAt K CK H3 k2 r (baseT D) := hk3
      walk_at "st"
      refine hk3'.get T .turn fun v4 d4 => ?_
      rw [CO.turn] at d4
      cases d4
      walk_at "st"
      refine iteT ?_
      walk_at "st"
      refine ⟨k2, r, baseT D, b, t, x, c, pre, post, ans, rfl, hk3', hR.mono (fresh b3), nCC, L2.Dp.mono (fresh b3) hx, CO, fun H4 b4 hk4 => ?_⟩
      walk_at "st"
      refine hk4.get T .phase fun v5 d5 => ?_
      rw [ep] at d5
      cases d5
      walk_at "st"
      refine hk4.getR T ?_
      walk_at "st"
      have hR4 := hR.mono (fresh (b3.trans b4))
      refine hR4.rd R .period fun v6 d6 => ?_
      have d6' : Dp K H4 v6 (.int (periodOf b)) := d6
      cases d6'
      have pp := periodOf_pos ok
      refine ⟨_, _, rfl, rfl, pp, ?_⟩
      walk_at "st"
      refine hk4.set T .phase (.int _) fun H5 b5 hk5 => ?_
      walk_at "st"
      refine hk5.meth (by decide +kernel) ?_
      walk_at "st"
      exact ⟨k2, r, _, rfl, hk5, fun v7 H7 s7 d7 => q _ _ ((fresh (b3.trans (b4.trans b5))).trans s7) d7⟩
    · obtain ⟨k, r, D, b, n, x, rfl, hk, hR, ok, nCC, et, ep, q⟩ := h
      walk_at "st0"
      refine hk.getR T ?_
      walk_at "st"
      refine hk.meth (by decide +kernel) ?_
      walk_at "st"
      refine ⟨k, r, D, rfl, hk, fun v1 H1 s1 d1 => ?_⟩
      intro k2 dx nk ndx nekd
      have m2 : Same H1 (upd (upd H1 dx (.own k2)) k2 (.ins CK dx [])) := (same_new ndx).trans (same_new (by rw [upd_ne (Ne.symm nekd)]; exact nk))
      refine ⟨k2, r, dx, v1, base0 D, rfl, upd_same, L2.Dp.mono m2 d1, rfl, rfl, fun H2 b2 hk2 => ⟨rfl, ?_⟩⟩
      have fresh : ∀ {H'}, But k2 H2 H' → Same H H' := fun {H'} bt a o e => by
        have e1 := s1 _ _ e
        exact bt _ _ (b2 _ _ (m2 _ _ e1) (ne_of_none e1 nk)) (ne_of_none e1 nk)
      have hkk := hk.mono (fresh But.refl)
      walk_at "st"
      refine hkk.get T .turn fun v3 d3 => ?_
      walk_at "st"
      refine hk2.set T .turn d3 fun H3 b3 hk3 => ?_
      have hk3' : KAt K CK H3 k2 r (baseT D) := hk3
      walk_at "st"
      refine hk3'.get T .turn fun v4 d4 => ?_
      have d4' : Dp K H3 v4 (D .turn) := d4
      rw [et] at d4'
      cases d4'
      walk_at "st"
      refine iteF ?_
      walk_at "st"
      refine hk3'.get T .phase fun v5 d5 => ?_
      have d5' : Dp K H3 v5 (D .phase) := d5
      rw [ep] at d5'
      cases d5'
      walk_at "st"
      refine hk3'.getR T ?_
      walk_at "st"
      have hR4 := hR.mono (fresh b3)
      refine hR4.rd R .period fun v6 d6 => ?_
      have d6' : Dp K H3 v6 (.int (periodOf b)) := d6
      cases d6'
      have pp := periodOf_pos ok
      refine ⟨_, _, rfl, rfl, pp, ?_⟩
      walk_at "st"
      refine hk3'.set T .phase (.int _) fun H5 b5 hk5 => ?_
      walk_at "st"
      refine hk5.meth (by decide +kernel) ?_
      walk_at "st"
      exact ⟨k2, r, _, rfl, hk5, fun v7 H7 s7 d7 => q _ _ ((fresh (b3.trans b5)).trans s7) d7⟩))) only [↓Hk.hold_s]
end
end T
namespace T
section
variable {P : Program} {w : World} {K : PySem.W.Frag} {mg : Str → Option Value} {base : Heap} {C CR CK CM tR dE : Addr} {S : Addr → Option Sp}
def cTab : List (Str × List Str) := [("read", ["page"]), ("write", ["page", "value"]), ("send", ["port", "value"]), ("take", ["port"]), ("wait", ["port"]), ("lock", ["lock"]), ("free", ["lock"]), ("hand", ["task", "right"]), ("strip", ["task", "right"]), ("sleep", ["ticks"]), ("seek", ["place"]), ("get", []), ("give", []), ("pass", [])]
structure CForms (K : PySem.W.Frag) (w : World) (mg : Str → Option Value) (d : Addr) : Prop where
  g_forms : mg "CALL_FORMS" = some (.ref d)
  forms : FormsAt K w d cTab
def dCall (c : Cnt) (d : PyData) : Bool := dFormed (kf1 c) (cTab.lookup (dWord d)) d
def spIsCall (K : PySem.W.Frag) : Sp := fun vs H Q _ => ∃ (a : Addr) (c : Cnt) (x : V) (d : PyData) (ks : List Str), vs = [.ref a, x] ∧ H a = some (.dK (countKV c)) ∧ Dp K H x d ∧ (∃ ds, d = .tuple ds) ∧ cTab.lookup (dWord d) = some ks ∧ ks.length ≤ 100 ∧ (∀ k ∈ ks, good1 c k) ∧ ∀ H', Same H H' → Q (.bl (dCall c d)) H'
theorem ok_is_call {dF : Addr} (B : Bl mg) (T : CForms K w mg dF) (d : DefAt K mg "is_call" s_is_call ["counts", "thing"]) (c_word_of : Cal P w K mg base 1 "word_of" ["thing"] (spWord K)) (c_is_formed : Cal P w K mg base 5 "is_formed" ["counts", "kinds", "thing"] (spFormed K good1 kf1)) :
    Cal P w K mg base 6 "is_call" ["counts", "thing"] (spIsCall K) := by
 refine Hk.hold ?_
 simp (disch := with_unfolding_all (
 exact Hk.disch (d.cal fun f fd F => by
  refine F.ok sc_is_call (fun vs H Q E h => ?_) (fun cdv A outer s H vs Q E hr h => ?_)
  · obtain ⟨a, c, x, d, ks, rfl, _⟩ := h; rfl
  · obtain ⟨a, c, x, d, ks, rfl, hc, hd, hds, ek, lk, gk, q⟩ := h
    refine ⟨_, (pss_one (ps_ret (pe_cal c_is_formed (hr.mono (by omega)) rfl (pa_cons (pv 0) (pa_cons (pe_kget T.forms (pe_glob (v := .ref dF) rfl T.g_forms rfl) (pe_cal c_word_of (hr.mono (by omega)) rfl (pa_cons (pv 1) pa_nil)) ⟨rfl, rfl, rfl, rfl⟩) (pa_cons (pv 1) pa_nil)))))), ?_⟩
    walk_at "st0"
    refine ⟨rfl, ?_⟩
    walk_at "st"
    refine ⟨x, d, rfl, hd, dWord d, rfl, fun t ks' e ht => ?_, fun e => ?_⟩
    · walk_at "st"
      have ee : ks' = ks := by
        have z : cTab.lookup (dWord d) = some ks' := e
        rw [ek] at z
        exact (Option.some.inj z).symm
      subst ee
      refine ⟨a, c, _, some ks', x, d, rfl, hc, hd, ⟨⟨t, rfl, ht H⟩, hds, lk, gk⟩, fun H2 s2 => ?_⟩
      have z := q H2 s2
      unfold dCall at z
      rw [ek] at z
      exact z
    · have z : cTab.lookup (dWord d) = none := e
      rw [ek] at z
      cases z))) only [↓Hk.hold_s]
theorem pe_globI {X : Cx} {x : Str} {i : Int} {pos : Pos} (hm : ∃ t, X.mg x = some (.int i t)) (hg : Gl X x := by rfl) (hd : (x == ("__debug__" : Str)) = false := by decide) : PE X (.Name x pos) (tC (.int i)) := by
  obtain ⟨t, hm⟩ := hm
  exact pe_glob hg hm ⟨t, rfl⟩ hd
/-- the places of the parts in a shape -/
structure GM (mg : Str → Option Value) : Prop where
  answers : ∃ t, mg "ANSWERS" = some (.int 1 t)
  pages : ∃ t, mg "PAGES" = some (.int 4 t)
  running : ∃ t, mg "RUNNING" = some (.int 9 t)
def MN : List Str := ["_build", "_shape"]
structure MCls (K : PySem.W.Frag) (CM : Addr) : Prop where
  cls : Cls K CM
  n_build : NoAttr K CM "_build"
  n_shape : NoAttr K CM "_shape"
/-- a moment of a build -/
def MAt (K : PySem.W.Frag) (C CR CM : Addr) (H : Hp) (m p : Addr) (b : BD) (D : KD) : Prop := ∃ dx fs v, H m = some (.ins CM dx fs) ∧ Only fs MN ∧ fs.lookup ("_build" : Str) = some (.ref p) ∧ fs.lookup ("_shape" : Str) = some v ∧ Dp K H v (shapeOf D) ∧ BuildAt K C CR H p b
theorem MAt.mono {H H' : Hp} {m p : Addr} {b : BD} {D : KD} (h : MAt K C CR CM H m p b D) (s : Same H H') : MAt K C CR CM H' m p b D := by
  obtain ⟨dx, fs, v, e, o, e1, e2, d, B⟩ := h
  exact ⟨dx, fs, v, s _ _ e, o, e1, e2, L2.Dp.mono s d, B.mono s⟩
theorem MAt.meth {H : Hp} {m p : Addr} {b : BD} {D : KD} (h : MAt K C CR CM H m p b D) {z : Str} (hz : z ∉ MN) {Q : Prop} (q : Q) : ∃ a dx fs, V.ref m = .ref a ∧ H a = some (.ins CM dx fs) ∧ fs.lookup z = none ∧ Q := by
  obtain ⟨dx, fs, v, e, o, _⟩ := h
  exact ⟨m, dx, fs, rfl, e, o _ hz, q⟩
theorem MAt.gb (T : MCls K CM) {H : Hp} {m p : Addr} {b : BD} {D : KD} (h : MAt K C CR CM H m p b D) {Q : V → Prop} (q : Q (.ref p)) :
    ∃ a C dx fs v, V.ref m = .ref a ∧ H a = some (.ins C dx fs) ∧ Cls K C ∧ NoAttr K C ("_build" : Str) ∧ fs.lookup ("_build" : Str) = some v ∧ Q v := by
  obtain ⟨dx, fs, v, e, o, e1, e2, d, B⟩ := h
  exact ⟨m, CM, dx, fs, _, rfl, e, T.cls, T.n_build, e1, q⟩
theorem MAt.gs (T : MCls K CM) {H : Hp} {m p : Addr} {b : BD} {D : KD} (h : MAt K C CR CM H m p b D) {Q : V → Prop} (q : ∀ v, Dp K H v (shapeOf D) → Q v) :
    ∃ a C dx fs v, V.ref m = .ref a ∧ H a = some (.ins C dx fs) ∧ Cls K C ∧ NoAttr K C ("_shape" : Str) ∧ fs.lookup ("_shape" : Str) = some v ∧ Q v := by
  obtain ⟨dx, fs, v, e, o, e1, e2, d, B⟩ := h
  exact ⟨m, CM, dx, fs, v, rfl, e, T.cls, T.n_shape, e2, q v d⟩
theorem BuildAt.rl (TB : BCls K C) {H : Hp} {p : Addr} {b : BD} (h : BuildAt K C CR H p b) {Q : V → Prop} (q : ∀ r, RulesAt K CR H r b → Q (.ref r)) :
    ∃ a C dx fs v, V.ref p = .ref a ∧ H a = some (.ins C dx fs) ∧ Cls K C ∧ NoAttr K C ("rules" : Str) ∧ fs.lookup ("rules" : Str) = some v ∧ Q v := by
  obtain ⟨_, dx, fs, r, e1, e2, h2⟩ := h
  exact ⟨p, C, dx, fs, _, rfl, e1, TB.cls, TB.n_rules, e2, q r h2⟩
def spMoment (K : PySem.W.Frag) (C CR CM : Addr) : Sp := fun vs H Q _ => ∃ (m p dx : Addr) (v : V) (b : BD) (D : KD), vs = [.ref m, .ref p, v] ∧ H m = some (.ins CM dx []) ∧ p ≠ m ∧ CM ≠ CR ∧ BuildAt K C CR H p b ∧ Dp K H v (shapeOf D) ∧ ∀ H', But m H H' → MAt K C CR CM H' m p b D → Q .non H'
theorem ok_Moment (B : Bl mg) (T : MCls K CM) : ∀ f fd, Fun K "__init__" "Moment.__init__" s_Moment___init__ f fd → FnOk P w K mg base CX0 1 f fd ["self", "build", "shape"] (spMoment K C CR CM) := by
 refine Hk.hold ?_
 simp (disch := with_unfolding_all (
 exact Hk.disch (fun f fd F => by
  refine F.ok sc_Moment___init__ (fun vs H Q E h => ?_) (fun cdv A outer s H vs Q E hr h => ?_)
  · obtain ⟨m, p, dx, v, b, D, rfl, _⟩ := h; rfl
  · obtain ⟨m, p, dx, v, b, D, rfl, hm, npm, nCC, hB, hv, q⟩ := h
    refine ⟨_, (pss_cons (ps_fld (pv 0) (pv 1) rfl)
      (pss_one (ps_fld (pv 0) (pv 2) rfl))), ?_⟩
    walk_at "st0"
    refine ⟨m, CM, dx, [], rfl, hm, T.cls, T.n_build, by simp, ?_⟩
    walk_at "st"
    refine ⟨m, CM, dx, _, rfl, upd_same, T.cls, T.n_shape, by have := length_putF "_build" (V.ref p) []; simp at this; omega, ?_⟩
    have b1 : But m H (upd (upd H m (.ins CM dx (putF "_build" (V.ref p) []))) m (.ins CM dx (putF "_shape" v (putF "_build" (V.ref p) [])))) := But.put.trans But.put
    have LK : (putF "_shape" v (putF "_build" (V.ref p) [])).lookup ("_build" : Str) = some (V.ref p) := by rw [put_ne _ _ (by decide +kernel)]; exact put_same _ _ _
    exact q _ b1 ⟨dx, _, v, upd_same, Only.put (Only.put (fun _ _ => rfl) (by decide +kernel)) (by decide +kernel), LK, put_same _ _ _, dpKeep (But.keep hm b1) hv, hB.but hm b1 npm nCC⟩))) only [↓Hk.hold_s]
def spGetM (K : PySem.W.Frag) (C CR CM : Addr) (R : BD → KD → Addr → Hp → V → Hp → Prop) : Sp := fun vs H Q _ => ∃ (m p : Addr) (b : BD) (D : KD), vs = [.ref m] ∧ MAt K C CR CM H m p b D ∧ ∀ v H', Same H H' → R b D p H v H' → Q v H'
theorem ok_M_build (B : Bl mg) (T : MCls K CM) (d : MethAt K CM "build" "Moment.build" s_Moment_build ["self"]) : MCal P w K mg base 1 CM "build" ["self"] (spGetM K C CR CM fun b D p H v H' => v = .ref p) := d.cal fun f fd F => by
  refine F.ok sc_Moment_build (fun vs H Q E h => ?_) (fun cdv A outer s H vs Q E hr h => ?_)
  · obtain ⟨m, p, b, D, rfl, _⟩ := h; rfl
  · obtain ⟨m, p, b, D, rfl, hm, q⟩ := h
    refine ⟨_, (pss_one (ps_ret (pe_fld (pv 0) rfl))), ?_⟩
    walk_at "st0"
    exact hm.gb T (q _ _ (Same.refl _) rfl)
theorem ok_M_shape (B : Bl mg) (T : MCls K CM) (d : MethAt K CM "shape" "Moment.shape" s_Moment_shape ["self"]) : MCal P w K mg base 1 CM "shape" ["self"] (spGetM K C CR CM fun b D p H v H' => Dp K H' v (shapeOf D)) := d.cal fun f fd F => by
  refine F.ok sc_Moment_shape (fun vs H Q E h => ?_) (fun cdv A outer s H vs Q E hr h => ?_)
  · obtain ⟨m, p, b, D, rfl, _⟩ := h; rfl
  · obtain ⟨m, p, b, D, rfl, hm, q⟩ := h
    refine ⟨_, (pss_one (ps_ret (pe_fld (pv 0) rfl))), ?_⟩
    walk_at "st0"
    exact hm.gs T fun v dv => q _ _ (Same.refl _) dv
def runD (D : KD) : PyData := .tuple [D .runs, D .spent, D .busy, D .phase]
theorem ok_M_running (B : Bl mg) (T : MCls K CM) (G : GM mg) (d : MethAt K CM "running" "Moment.running" s_Moment_running ["self"]) : MCal P w K mg base 1 CM "running" ["self"] (spGetM K C CR CM fun b D p H v H' => Dp K H' v (runD D)) := by
 refine Hk.hold ?_
 simp (disch := with_unfolding_all (
 exact Hk.disch (d.cal fun f fd F => by
  refine F.ok sc_Moment_running (fun vs H Q E h => ?_) (fun cdv A outer s H vs Q E hr h => ?_)
  · obtain ⟨m, p, b, D, rfl, _⟩ := h; rfl
  · obtain ⟨m, p, b, D, rfl, hm, q⟩ := h
    refine ⟨_, (pss_one (ps_ret (pe_ix ix_tup (pe_fld (pv 0) rfl) (pe_globI G.running) (fun _ _ => rfl)))), ?_⟩
    walk_at "st0"
    refine hm.gs T fun v dv => ?_
    walk_at "st"
    obtain ⟨a, a2, x0, x1, x2, x3, x4, x5, x6, x7, x8, y0, y1, y2, y3, rfl, hs, hs2, h9, h0, h1, h2, h3, h4, h5, h6, h7, h8, g0, g1, g2, g3⟩ := shape_forms dv
    refine q_ixT hs (atI_nat (j := 9) rfl) ?_
    exact q _ _ (Same.refl _) h9))) only [↓Hk.hold_s]
end
end T
namespace T
section
variable {P : Program} {w : World} {K : PySem.W.Frag} {mg : Str → Option Value} {base : Heap} {C CR CK CM tR dE : Addr} {S : Addr → Option Sp}
def spCheck (K : PySem.W.Frag) (C CR : Addr) : Sp := fun vs H Q _ => ∃ (p : Addr) (b : BD) (t : Nat), vs = [.ref p, .int t] ∧ BuildAt K C CR H p b ∧ t < (dl b.tasks).length ∧ Q .non H
theorem ok_check_task (B : Bl mg) (TB : BCls K C) (R : RCls K CR) (c_is_index : Cal P w K mg base 3 "is_index" ["thing", "many"] (spIndex K)) (d : DefAt K mg "check_task" s_check_task ["build", "task"]) : Cal P w K mg base 4 "check_task" ["build", "task"] (spCheck K C CR) := by
 refine Hk.hold ?_
 simp (disch := with_unfolding_all (
 exact Hk.disch (d.cal fun f fd F => by
  refine F.ok sc_check_task (fun vs H Q E h => ?_) (fun cdv A outer s H vs Q E hr h => ?_)
  · obtain ⟨p, b, t, rfl, _⟩ := h; rfl
  · obtain ⟨p, b, t, rfl, hB, lt, q⟩ := h
    refine ⟨_, (pss_one (ps_if (pt_not (pt_val (pe_cal c_is_index (hr.mono (by omega)) rfl (pa_cons (pv 1) (pa_cons (pe_fld (pe_fld (pv 0) rfl) rfl) pa_nil))))) (pss_one ps_never) pss_nil)), ?_⟩
    walk_at "st0"
    refine hB.rl TB fun r hR => ?_
    walk_at "st"
    refine hR.rd R .task_count fun v1 d1 => ?_
    have d2 : Dp K H v1 (.int ((dl b.tasks).length : Int)) := d1
    cases d2
    walk_at "st"
    refine ⟨_, .int t, _, rfl, .int _, ?_⟩
    have e : dBetween (.int (t : Int)) 0 (((dl b.tasks).length : Int) - 1) = true := by simp [dBetween]; omega
    rw [e]
    walk_at "st"
    refine iteF ?_
    exact q))) only [↓Hk.hold_s]
def spAnswer (K : PySem.W.Frag) (C CR CM : Addr) : Sp := fun vs H Q _ => ∃ (m p : Addr) (b : BD) (D : KD) (t : Nat) (as : List PyData) (a : PyData), vs = [.ref m, .int t] ∧ MAt K C CR CM H m p b D ∧ t < (dl b.tasks).length ∧ D .answers = .tuple as ∧ as[t]? = some a ∧ ∀ v, Dp K H v a → Q v H
theorem ok_M_answer (B : Bl mg) (T : MCls K CM) (G : GM mg) (c_check_task : Cal P w K mg base 4 "check_task" ["build", "task"] (spCheck K C CR)) (d : MethAt K CM "answer" "Moment.answer" s_Moment_answer ["self", "task"]) : MCal P w K mg base 5 CM "answer" ["self", "task"] (spAnswer K C CR CM) := by
 refine Hk.hold ?_
 simp (disch := with_unfolding_all (
 exact Hk.disch (d.cal fun f fd F => by
  refine F.ok sc_Moment_answer (fun vs H Q E h => ?_) (fun cdv A outer s H vs Q E hr h => ?_)
  · obtain ⟨m, p, b, D, t, as, a, rfl, _⟩ := h; rfl
  · obtain ⟨m, p, b, D, t, as, an, rfl, hm, lt, ea, et, q⟩ := h
    refine ⟨_, (pss_cons (ps_expr (pe_cal c_check_task (hr.mono (by omega)) rfl (pa_cons (pe_fld (pv 0) rfl) (pa_cons (pv 1) pa_nil))))
      (pss_one (ps_ret (pe_ix ix_tup (pe_ix ix_tup (pe_fld (pv 0) rfl) (pe_globI G.answers) (fun _ _ => rfl)) (pv 1) (fun _ _ => rfl))))), ?_⟩
    walk_at "st0"
    refine hm.gb T ?_
    walk_at "st"
    obtain ⟨_, _, _, _, _, _, _, _, hB⟩ := id hm
    refine ⟨p, b, t, rfl, hB, lt, ?_⟩
    walk_at "st"
    refine hm.gs T fun v dv => ?_
    walk_at "st"
    obtain ⟨a, a2, x0, x1, x2, x3, x4, x5, x6, x7, x8, y0, y1, y2, y3, rfl, hs, hs2, h9, h0, h1, h2, h3, h4, h5, h6, h7, h8, g0, g1, g2, g3⟩ := shape_forms dv
    refine q_ixT hs (atI_nat (j := 1) rfl) ?_
    walk_at "st"
    rw [ea] at h1
    cases h1 with
    | @tup a4 ys _ hs4 hys =>
    have ly : t < ys.length := by rw [hys.length]; exact (List.getElem?_eq_some_iff.mp et).1
    refine q_ixT hs4 (atI_nat (List.getElem?_eq_getElem ly)) ?_
    obtain ⟨dd, g1, g2⟩ := hys.get' (List.getElem?_eq_getElem ly)
    rw [et] at g1
    cases g1
    exact q _ g2))) only [↓Hk.hold_s]
def spLetNow (K : PySem.W.Frag) : Sp := fun vs H Q _ => ∃ (l : V), vs = [l, .non] ∧ Q (.bl true) H
theorem ok_is_letter_now (B : Bl mg) (c_is_index : Cal P w K mg base 3 "is_index" ["thing", "many"] (spIndex K)) (d : DefAt K mg "is_letter_now" s_is_letter_now ["letters", "outside"]) : Cal P w K mg base 4 "is_letter_now" ["letters", "outside"] (spLetNow K) := d.cal fun f fd F => by
  refine F.ok sc_is_letter_now (fun vs H Q E h => ?_) (fun cdv A outer s H vs Q E hr h => ?_)
  · obtain ⟨l, rfl, _⟩ := h; rfl
  · obtain ⟨l, rfl, q⟩ := h
    refine ⟨_, (pss_one (ps_ret (pe_or (pe_cmp (pc_isN (pv 1))) (pe_one (pe_and (pe_cal c_is_index (hr.mono (by omega)) rfl (pa_cons (pv 1) (pa_cons pe_int pa_nil))) (pe_one (pe_cmpR (op_in_seq) (pv 1) (pv 0) (by with_unfolding_all rfl)))))))), ?_⟩
    walk_at "st0"
    exact q
def spOpW (K : PySem.W.Frag) (C CR CK CM : Addr) : Sp := fun vs H Q _ => ∃ (m p : Addr) (b : BD) (D : KD) (n : Nat) (ds : List PyData), vs = [.ref m, .non] ∧ MAt K C CR CM H m p b D ∧ CR ≠ CK ∧ OpenOk b D n ds ∧ ∀ k r H', Same H H' → RulesAt K CR H' r b → KAt K CK H' k r (openD D b n) → Q (.ref k) H'
theorem ok_opened_with (B : Bl mg) (TB : BCls K C) (T : MCls K CM) (m_build : MCal P w K mg base 1 CM "build" ["self"] (spGetM K C CR CM fun b D p H v H' => v = .ref p)) (m_shape : MCal P w K mg base 1 CM "shape" ["self"] (spGetM K C CR CM fun b D p H v H' => Dp K H' v (shapeOf D)))
    (c_letters_now : Cal P w K mg base 2 "letters_now" ["rules", "shape"] (spLetters K CR)) (c_is_letter_now : Cal P w K mg base 4 "is_letter_now" ["letters", "outside"] (spLetNow K)) (c_opened : Cal P w K mg base 5 "opened" ["rules", "shape", "letter"] (spOpened K CR CK)) (d : DefAt K mg "opened_with" s_opened_with ["moment", "outside"]) : Cal P w K mg base 6 "opened_with" ["moment", "outside"] (spOpW K C CR CK CM) := by
 refine Hk.hold ?_
 simp (disch := with_unfolding_all (
 exact Hk.disch (d.cal fun f fd F => by
  refine F.ok sc_opened_with (fun vs H Q E h => ?_) (fun cdv A outer s H vs Q E hr h => ?_)
  · obtain ⟨m, p, b, D, n, ds, rfl, _⟩ := h; rfl
  · obtain ⟨m, p, b, D, n, ds, rfl, hm, nCC, O, q⟩ := h
    refine ⟨_, (pss_cons (ps_set (i := 2) sc_opened_with.nd rfl (Or.inl rfl) (pe_fld (pe_mcal0 m_build (hr.mono (by omega)) (pv 0)) rfl))
      (pss_cons (ps_set (i := 3) sc_opened_with.nd rfl (Or.inl rfl) (pe_mcal0 m_shape (hr.mono (by omega)) (pv 0)))
      (pss_cons (ps_if (pt_not (pt_val (pe_cal c_is_letter_now (hr.mono (by omega)) rfl (pa_cons (pe_cal c_letters_now (hr.mono (by omega)) rfl (pa_cons (pv 2) (pa_cons (pv 3) pa_nil))) (pa_cons (pv 1) pa_nil))))) (pss_one ps_never) pss_nil)
      (pss_one (ps_ret (pe_cal c_opened (hr.mono (by omega)) rfl (pa_cons (pv 2) (pa_cons (pv 3) (pa_cons (pv 1) pa_nil))))))))), ?_⟩
    walk_at "st0"
    refine hm.meth (by decide +kernel) ?_
    walk_at "st"
    refine ⟨m, p, b, D, rfl, hm, fun v1 H1 s1 e1 => ?_⟩
    subst e1
    replace hm := hm.mono s1
    obtain ⟨_, _, _, _, _, _, _, _, hB⟩ := id hm
    refine hB.rl TB fun r hR => ?_
    walk_at "st"
    refine hm.meth (by decide +kernel) ?_
    walk_at "st"
    refine ⟨m, p, b, D, rfl, hm, fun v2 H2 s2 d2 => ?_⟩
    walk_at "st"
    refine ⟨r, b, v2, D, n, rfl, hR.mono s2, hB.1.ok, d2, O.phase, fun l xs H3 s3 e3 => ?_⟩
    walk_at "st"
    refine ⟨.ref l, rfl, ?_⟩
    walk_at "st"
    refine iteF ?_
    walk_at "st"
    have s23 := s2.trans s3
    exact ⟨r, b, v2, D, n, ds, rfl, hR.mono s23, nCC, L2.Dp.mono s3 d2, O, fun k H4 s4 hk => q k r _ (s1.trans (s23.trans s4)) ((hR.mono s23).mono s4) hk⟩))) only [↓Hk.hold_s]
def spDue (K : PySem.W.Frag) (C CR CK CM : Addr) : Sp := fun vs H Q _ => ∃ (m p : Addr) (b : BD) (D : KD) (n : Nat) (ds : List PyData), vs = [.ref m, .non] ∧ MAt K C CR CM H m p b D ∧ CR ≠ CK ∧ OpenOk b D n ds ∧ ∀ v H', Same H H' → Dp K H' v (openD D b n .turn) → Q v H'
theorem ok_due (B : Bl mg) (T : KCls K CK) (c_opened_with : Cal P w K mg base 6 "opened_with" ["moment", "outside"] (spOpW K C CR CK CM)) : ∀ f fd, FunD K "due" "Moment.due" (defArgs s_Moment_due) (defBody s_Moment_due) (defScope s_Moment_due) [.non] [] f fd → FnOk P w K mg base CX0 7 f fd ["self", "outside"] (spDue K C CR CK CM) := fun f fd F => by
  refine F.ok sc_Moment_due (fun vs H Q E h => ?_) (fun cdv A outer s H vs Q E hr h => ?_)
  · obtain ⟨m, p, b, D, n, ds, rfl, _⟩ := h; rfl
  · obtain ⟨m, p, b, D, n, ds, rfl, hm, nCC, O, q⟩ := h
    refine ⟨_, (pss_one (ps_ret (pe_fld (pe_cal c_opened_with (hr.mono (by omega)) rfl (pa_cons (pv 0) (pa_cons (pv 1) pa_nil))) rfl))), ?_⟩
    walk_at "st0"
    refine ⟨m, p, b, D, n, ds, rfl, hm, nCC, O, fun k r H1 s1 hR hk => ?_⟩
    exact hk.get T .turn fun v dv => q v _ s1 dv
theorem RulesAt.cnt (R : RCls K CR) {H : Hp} {r : Addr} {b : BD} (h : RulesAt K CR H r b) {Q : V → Prop} (q : ∀ c, H c = some (.dK (countKV (cOf b))) → Q (.ref c)) :
    ∃ a C dx fs v, V.ref r = .ref a ∧ H a = some (.ins C dx fs) ∧ Cls K C ∧ NoAttr K C ("counts" : Str) ∧ fs.lookup ("counts" : Str) = some v ∧ Q v := by
  obtain ⟨dx, fs, e, o, t, c, e1, e2⟩ := h
  exact ⟨r, CR, dx, fs, _, rfl, e, R.cls, R.no _ (by decide +kernel), e1, q c e2⟩
structure TickOk (K : PySem.W.Frag) (CR CK dE : Addr) (S : Addr → Option Sp) (D : KD) (b : BD) (t n : Nat) (ds : List PyData) (c : PyData) (pre : KD → BD → Nat → PyData → Prop) (post : KD → BD → Nat → PyData → KD) (ans : KD → BD → Nat → PyData → PyData) : Prop where
  opn : OpenOk b D n ds
  turn : openD D b n .turn = .int t
  seen : ∃ as, openD D b n .answers = .tuple as ∧ t < as.length
  call : ∃ ks, (∃ ds, c = .tuple ds) ∧ cTab.lookup (dWord c) = some ks ∧ ks.length ≤ 100 ∧ (∀ k ∈ ks, good1 (cOf b) k) ∧ dCall (cOf b) c = true
  cok : CallOk K CR CK dE S (baseT (openD D b n)) b t c pre post ans
  phase : afterCall (post (clearAns (baseT (openD D b n)) t) b t c) b t (ans (clearAns (baseT (openD D b n)) t) b t c) .phase = .int n
def behind (D : KD) (b : BD) (t n : Nat) (c : PyData) (post : KD → BD → Nat → PyData → KD) (ans : KD → BD → Nat → PyData → PyData) : KD :=
  base0 (nextPhase (afterCall (post (clearAns (baseT (openD D b n)) t) b t c) b t (ans (clearAns (baseT (openD D b n)) t) b t c)) b n)
def spTick (K : PySem.W.Frag) (C CR CK CM dE : Addr) (S : Addr → Option Sp) : Sp := fun vs H Q _ => ∃ (m p : Addr) (b : BD) (D : KD) (t n : Nat) (ds : List PyData) (x : V) (c : PyData) (pre : KD → BD → Nat → PyData → Prop) (post : KD → BD → Nat → PyData → KD) (ans : KD → BD → Nat → PyData → PyData), vs = [.ref m, .non, x] ∧ MAt K C CR CM H m p b D ∧ CR ≠ CK ∧ CM ≠ CR ∧ Dp K H x c ∧ TickOk K CR CK dE S D b t n ds c pre post ans ∧
  ∀ tv sv m' H', Same H H' → H' tv = some (.tup [sv, .ref m']) → Dp K H' sv (seenD (openD D b n)) → MAt K C CR CM H' m' p b (behind D b t n c post ans) → Q (.ref tv) H'
/-- behind a tick without a turn -/
def idle (D : KD) (b : BD) (n : Nat) : KD := base0 (nextPhase (openD D b n) b n)
def spTick0 (K : PySem.W.Frag) (C CR CK CM : Addr) : Sp := fun vs H Q _ => ∃ (m p : Addr) (b : BD) (D : KD) (n : Nat) (ds as : List PyData), vs = [.ref m, .non, .non] ∧ MAt K C CR CM H m p b D ∧ CR ≠ CK ∧ CM ≠ CR ∧ OpenOk b D n ds ∧ openD D b n .turn = .none ∧ openD D b n .answers = .tuple as ∧ openD D b n .phase = .int n ∧
  ∀ tv m' H', Same H H' → H' tv = some (.tup [.non, .ref m']) → MAt K C CR CM H' m' p b (idle D b n) → Q (.ref tv) H'
def spTk (K : PySem.W.Frag) (C CR CK CM dE : Addr) (S : Addr → Option Sp) : Sp := fun vs H Q E => spTick K C CR CK CM dE S vs H Q E ∨ spTick0 K C CR CK CM vs H Q E
theorem ok_tick (B : Bl mg) (TB : BCls K C) (T : KCls K CK) (TM : MCls K CM) (R : RCls K CR) (c_opened_with : Cal P w K mg base 6 "opened_with" ["moment", "outside"] (spOpW K C CR CK CM)) (c_is_call : Cal P w K mg base 6 "is_call" ["counts", "thing"] (spIsCall K)) (m_seen : MCal P w K mg base 1 CK "seen" ["self"] (spSeen K CK))
    (c_finished : Cal P w K mg base 6 "finished" ["kernel", "call"] (spFin K CR CK dE S)) (c_Moment : MkCal P w K mg base 1 CM "Moment" ["self", "build", "shape"] (spMoment K C CR CM)) : ∀ f fd, FunD K "tick" "Moment.tick" (defArgs s_Moment_tick) (defBody s_Moment_tick) (defScope s_Moment_tick) [.non, .non] [] f fd → FnOk P w K mg base CX0 7 f fd ["self", "outside", "call"] (spTk K C CR CK CM dE S) := by
 refine Hk.hold ?_
 simp (disch := with_unfolding_all (
 exact Hk.disch (fun f fd F => by
  refine F.ok sc_Moment_tick (fun vs H Q E h => ?_) (fun cdv A outer s H vs Q E hr h => ?_)
  · rcases h with ⟨m, p, b, D, t, n, ds, x, c, pre, post, ans, rfl, _⟩ | ⟨m, p, b, D, n, ds, as, rfl, _⟩ <;> rfl
  · refine ⟨_, (pss_cons (ps_set (i := 3) sc_Moment_tick.nd rfl (Or.inl rfl) (pe_cal c_opened_with (hr.mono (by omega)) rfl (pa_cons (pv 0) (pa_cons (pv 1) pa_nil))))
      (pss_cons (ps_if (pt_cmp (pc_isN (pe_fld (pv 3) rfl))) (pss_one (ps_set (i := 4) sc_Moment_tick.nd rfl (Or.inl rfl) (pe_cmp (pc_isN (pv 2))))) (pss_one (ps_set (i := 4) sc_Moment_tick.nd rfl (Or.inl rfl) (pe_cal c_is_call (hr.mono (by omega)) rfl (pa_cons (pe_fld (pe_fld (pe_fld (pv 0) rfl) rfl) rfl) (pa_cons (pv 2) pa_nil))))))
      (pss_cons (ps_if (pt_not (pt_val (pv 4))) (pss_one ps_never) pss_nil)
      (pss_one (ps_ret (pe_tup (pa_cons (pe_mcal0 m_seen (hr.mono (by omega)) (pv 3)) (pa_cons (pe_mk c_Moment (hr.mono (by omega)) rfl (pa_cons (pe_fld (pv 0) rfl) (pa_cons (pe_cal c_finished (hr.mono (by omega)) rfl (pa_cons (pv 3) (pa_cons (pv 2) pa_nil))) pa_nil))) pa_nil)))))))), ?_⟩
    rcases h with h | h
    · obtain ⟨m, p, b, D, t, n, ds, x, c, pre, post, ans, rfl, hm, nCC, nMR, hx, ⟨O, et, ⟨as, ea, la⟩, ⟨ks, ec, ek, lk, gk, hc⟩, cok, ep⟩, q⟩ := h
      walk_at "st0"
      refine ⟨m, p, b, D, n, ds, rfl, hm, nCC, O, fun k r H1 s1 hR hk => ?_⟩
      walk_at "st"
      refine hk.get T .turn fun v1 d1 => ?_
      rw [et] at d1
      cases d1
      walk_at "st"
      refine iteF ?_
      walk_at "st"
      replace hm := hm.mono s1
      refine hm.gb TM ?_
      obtain ⟨_, _, _, _, _, _, _, _, hB⟩ := id hm
      walk_at "st"
      refine hB.rl TB fun r2 hR2 => ?_
      walk_at "st"
      refine hR2.cnt R fun cc ecc => ?_
      walk_at "st"
      refine ⟨cc, cOf b, x, c, ks, rfl, ecc, L2.Dp.mono s1 hx, ec, ek, lk, gk, fun H2 s2 => ?_⟩
      rw [hc]
      walk_at "st"
      refine iteF ?_
      walk_at "st"
      replace hk := hk.mono s2
      refine hk.meth (by decide +kernel) ?_
      walk_at "st"
      refine ⟨k, r, _, as, rfl, hk, ea, .inr ⟨t, et, la⟩, fun v3 H3 s3 d3 => ?_⟩
      walk_at "st"
      have s13 := s2.trans s3
      refine (hm.mono s13).gb TM ?_
      walk_at "st"
      refine .inl ⟨k, r, _, b, t, n, x, c, pre, post, ans, rfl, hk.mono s3, hR.mono s13, hB.1.ok, nCC, L2.Dp.mono (s1.trans s13) hx, cok, ep, fun v4 H4 s4 d4 => ?_⟩
      intro m2 dx nm ndx nemd
      have mm : Same H4 (upd (upd H4 dx (.own m2)) m2 (.ins CM dx [])) := (same_new ndx).trans (same_new (by rw [upd_ne (Ne.symm nemd)]; exact nm))
      have hB4 := (hB.mono s13).mono s4
      have npm : p ≠ m2 := fun z => by
        subst z
        obtain ⟨_, dx5, fs5, r5, e5, _⟩ := hB4
        rw [nm] at e5; cases e5
      refine ⟨m2, p, dx, v4, b, behind D b t n c post ans, rfl, upd_same, npm, nMR, hB4.mono mm, L2.Dp.mono mm d4, fun H6 b6 hm6 => ⟨rfl, ?_⟩⟩
      have s46 : Same H4 H6 := fun a o e => b6 _ _ (mm _ _ e) (ne_of_none e nm)
      refine ⟨by show 2 ≤ sizeLine; decide, fun tp ntp => ?_⟩
      exact q tp v3 m2 _ (s1.trans (s13.trans (s4.trans (s46.trans (same_new ntp))))) upd_same (L2.Dp.mono (s4.trans (s46.trans (same_new ntp))) d3) (hm6.mono (same_new ntp))
    · obtain ⟨m, p, b, D, n, ds, as, rfl, hm, nCC, nMR, O, et, ea, ep, q⟩ := h
      walk_at "st0"
      refine ⟨m, p, b, D, n, ds, rfl, hm, nCC, O, fun k r H1 s1 hR hk => ?_⟩
      walk_at "st"
      refine hk.get T .turn fun v1 d1 => ?_
      rw [et] at d1
      cases d1
      walk_at "st"
      refine iteT ?_
      walk_at "st"
      refine iteF ?_
      walk_at "st"
      replace hm := hm.mono s1
      obtain ⟨_, _, _, _, _, _, _, _, hB⟩ := id hm
      refine hk.meth (by decide +kernel) ?_
      walk_at "st"
      refine ⟨k, r, _, as, rfl, hk, ea, .inl et, fun v3 H3 s3 d3 => ?_⟩
      have d3' : Dp K H3 v3 .none := by
        unfold seenD at d3
        rw [et] at d3
        exact d3
      cases d3'
      clear d3
      walk_at "st"
      refine (hm.mono s3).gb TM ?_
      walk_at "st"
      refine .inr ⟨k, r, _, b, n, _, rfl, hk.mono s3, hR.mono s3, hB.1.ok, nCC, et, ep, fun v4 H4 s4 d4 => ?_⟩
      intro m2 dx nm ndx nemd
      have mm : Same H4 (upd (upd H4 dx (.own m2)) m2 (.ins CM dx [])) := (same_new ndx).trans (same_new (by rw [upd_ne (Ne.symm nemd)]; exact nm))
      have hB4 := (hB.mono s3).mono s4
      have npm : p ≠ m2 := fun z => by
        subst z
        obtain ⟨_, dx5, fs5, r5, e5, _⟩ := hB4
        rw [nm] at e5; cases e5
      refine ⟨m2, p, dx, v4, b, idle D b n, rfl, upd_same, npm, nMR, hB4.mono mm, L2.Dp.mono mm d4, fun H6 b6 hm6 => ⟨rfl, ?_⟩⟩
      have s46 : Same H4 H6 := fun a o e => b6 _ _ (mm _ _ e) (ne_of_none e nm)
      refine ⟨by show 2 ≤ sizeLine; decide, fun tp ntp => ?_⟩
      exact q tp m2 _ (s1.trans (s3.trans (s4.trans (s46.trans (same_new ntp))))) upd_same (hm6.mono (same_new ntp))))) only [↓Hk.hold_s]
end
end T
namespace T
section
variable {P : Program} {w : World} {K : PySem.W.Frag} {mg : Str → Option Value} {base : Heap} {C : Addr}
section
variable {J : It} {n : Nat} {G : Hp → Prop} {Y : Nat → Hp → V → Hp → Prop} {g : TG} {te : TE} {vs : List Nat} {σ : L2.St} {H1 : Hp} {D : Addr} {Qd : Hp → Prop}
/-- as lc_rel; the body knows the list under way -/
theorem lc_relD (w : L2.Walk J n G Y) (R : Nat → V → Hp → Prop) (hD : H1 D = none) (few : n < sizeLine) (hG : ∀ H', Same H1 H' → G H') (hY : ∀ i H x H', Y i H x H' → Same H H')
    (hR : ∀ i y H H' acc, H D = some (.lst acc) → But D H H' → R i y H → R i y H')
    (body : ∀ i x H' H2 acc, i < n → Same H1 H' → Y i H' x H2 → H2 D = some (.lst acc) → ∀ Q' : VK, (∀ y H3, Same H2 H3 → R i y H3 → Q' y H3) → g x (wipe σ vs) H2 fun σ2 H3 => wipe σ2 vs = wipe σ vs ∧ te σ2 H3 Q')
    (done : ∀ ys H', Same H1 H' → H' D = some (.lst ys) → ys.length = n → (∀ i y, ys[i]? = some y → R i y H') → Qd H') :
    ∃ W : Nat → Nat → Hp → Prop, (∃ m, W 0 m (upd H1 D (.lst []))) ∧ ∀ i m H, W i m H →
      (J.stop i H ∧ Qd H) ∨ (J.go i H ∧ ∃ Nx : Hp → Prop, (∀ H', Nx H' → ∃ m', m' < m ∧ W (i + 1) m' H') ∧ ∀ x H', J.yld i H x H' → g x (wipe σ vs) H' fun σ2 H2 => wipe σ2 vs = wipe σ vs ∧ tYes σ2 H2 fun b H3 =>
        if b = true then te σ2 H3 fun y H4 => ∃ acc, H4 D = some (.lst acc) ∧ acc.length < sizeLine ∧ Nx (upd H4 D (.lst (acc ++ [y]))) else Nx H3) := by
 refine Hk.hold ?_
 simp (disch := with_unfolding_all (
 exact Hk.disch (by
  refine lc_it w (fun i H => Same H1 H ∧ ∃ ys, H D = some (.lst ys) ∧ ys.length = i ∧ ∀ j y, ys[j]? = some y → R j y H) ⟨same_new hD, [], upd_same, rfl, fun j y e => by simp at e⟩ (fun i H _ h => hG H h.1) ?_ ?_
  · rintro i x H H2 lt ⟨s1, ys, e, l, r⟩ y
    have s2 := hY i H x H2 y
    have z := body i x H H2 ys lt s1 y (s2 _ _ e) (fun y H4 => ∃ acc, H4 D = some (.lst acc) ∧ acc.length < sizeLine ∧ (Same H1 (upd H4 D (.lst (acc ++ [y]))) ∧ ∃ ys, upd H4 D (.lst (acc ++ [y])) D = some (.lst ys) ∧ ys.length = i + 1 ∧ ∀ j y', ys[j]? = some y' → R j y' (upd H4 D (.lst (acc ++ [y]))))) ?_
    · exact z
    · intro y H4 s4 ry
      have e4 : H4 D = some (.lst ys) := s4 _ _ (s2 _ _ e)
      have bt : ∀ o, But D H4 (upd H4 D o) := fun o b u h hb => by rw [upd_ne hb]; exact h
      refine ⟨ys, e4, by omega, fun b o h => ?_, ys ++ [y], upd_same, by simp [l], fun j y' hj => ?_⟩
      · have hb : b ≠ D := ne_of_none h hD
        rw [upd_ne hb]
        exact s4 _ _ (s2 _ _ (s1 _ _ h))
      · refine hR j y' H4 _ ys e4 (bt _) ?_
        rw [List.getElem?_append] at hj
        split at hj
        · refine hR j y' H H4 ys e (fun b o h hb => s4 _ _ (s2 _ _ h)) (r j y' hj)
        · rename_i hge
          have : j = i := by
            rcases Nat.lt_trichotomy j i with z | z | z
            · omega
            · exact z
            · rw [List.getElem?_eq_none (by simp; omega)] at hj; cases hj
          subst this
          simp [l] at hj
          subst hj
          exact ry
  · rintro H ⟨s1, ys, e, l, r⟩
    exact done ys H s1 e l r))) only [↓Hk.hold_s]
end
abbrev rListOf (K : PySem.W.Frag) : List V → Hp → VK → Prop := fun xs H Q => ∃ p ys, xs = [V.ref p] ∧ (SqL K H p ys ∨ SqT K H p ys) ∧ ∀ l, H l = none → Q (.ref l) (upd H l (.lst ys))
theorem ok_Build_rights (B : Bl mg) (T : BCls K C) (d : MethAt K C "rights" "Build.rights" s_Build_rights ["self"]) : MCal P w K mg base 1 C "rights" ["self"] (spGet K C fun b H v H' => Dp K H' v b.rights) := by
 refine Hk.hold ?_
 simp (disch := with_unfolding_all (
 exact Hk.disch (d.cal fun f fd F => by
  refine F.ok sc_Build_rights (fun vs H Q E h => ?_) (fun cdv A outer s H vs Q E hr h => ?_)
  · obtain ⟨p, b, rfl, _⟩ := h; rfl
  · obtain ⟨p, b, rfl, ⟨ok, dx, fs, q0, kvs, e1, e2, e3, e4, e5⟩, q⟩ := h
    have hu := hu_of hr
    refine ⟨_, (pss_one (ps_ret (pe_lc (own := [("row", 1)]) (tt := tYes) rfl sc_Build_rights.nd (pi_tup (pe_dget hu (pe_fld (pv 0) rfl) pe_str (fun _ _ => rfl))) (blkOk_by (N := ["self", "row"]) (sc := defScope s_Build_rights) (by decide +kernel)) (fun _ _ _ _ _ => (pg_name (i := 1) sc_Build_rights.nd rfl (Or.inl rfl))) (fun _ _ _ _ _ => pts_nil) (fun _ _ _ _ _ => (pe_callTy (show CallR _ _ (rListOf K) from call_list_of) rfl B.list_ hb_list (pa_cons (pv 1) pa_nil)))))), ?_⟩
    walk_at "st0"
    obtain ⟨v, g1, g2⟩ := pairedKV_get (z := "rights") e4 rfl
    obtain ⟨rds, er, rl, rall⟩ := okRightsL ok.rights
    have ln : rds.length ≤ 1000 := by
      have z : cnt (cOf b) "task" ≤ 100 := by
        obtain ⟨tds, et, _, t4, _⟩ := okTasksL ok.tasks
        unfold cOf
        split
        · rename_i t p q l d h1 h2 h3 h4 h5
          rw [et] at h1; cases h1
          show (tds.length : Int) ≤ 100
          omega
        · show (0 : Int) ≤ 100
          omega
      omega
    rw [er] at g2
    cases g2 with
    | @tup a xs _ hs ha =>
    have lx := ha.length
    rw [List.length_map] at lx
    refine ⟨.ref p, rfl, ⟨p, C, dx, fs, _, rfl, e1, T.cls, T.n_parts, e2, ?_⟩⟩
    walk_at "st"
    refine ⟨q0, _, rfl, by rw [← g1]; exact DGet.k (k := Sum.inr "rights") e3, a, rfl, ⟨xs, hs⟩, fun D nD => lc_relD walk_tup (fun i y Hh => ∃ (l : Addr) (ys : List V) (es : List PyData), y = .ref l ∧ l ≠ D ∧ Hh l = some (.lst ys) ∧ rds[i]? = some (.list es) ∧ DpAll K H ys es) nD (sz1000 (by omega)) (fun H2 s => Same.sqT s hs) yat_same ?_ ?_ ?_⟩
    · rintro i y Ha Hb acc e bt ⟨l, ys, es, rfl, nl, h1, h2, h3⟩
      exact ⟨l, ys, es, rfl, nl, bt _ _ h1 nl, h2, h3⟩
    · rintro i x H' H2 acc lt s y eD Q' k
      obtain ⟨rfl, e⟩ := y
      obtain ⟨d2, ed, hd2⟩ := ha.get' e
      rw [List.getElem?_map] at ed
      cases er2 : rds[i]? with
      | none => rw [er2] at ed; cases ed
      | some d3 =>
        rw [er2] at ed
        cases ed
        obtain ⟨es, rfl⟩ := rall d3 (List.mem_of_getElem? er2)
        cases hd2 with
        | @tup ta ys _ ht hta =>
        refine q_gname ⟨rfl, ?_⟩
        walk_at "st"
        refine ⟨ta, ys, rfl, .inr (Same.sqT s ht), fun l nl => ?_⟩
        refine k _ _ (same_new nl) ⟨l, ys, es, rfl, fun z => ?_, upd_same, er2, hta⟩
        rw [z, eD] at nl; cases nl
    · intro ys H3 s3 eD lD hR
      refine q _ _ s3 ?_
      show Dp K H3 (.ref D) b.rights
      rw [er]
      refine .lst (SqL.of eD) (dpAll_of (by omega) fun i x d ex ed => ?_)
      obtain ⟨l, zs, es, rfl, _, h1, h2, h3⟩ := hR i x ex
      rw [h2] at ed; cases ed
      exact .lst (SqL.of h1) (L2.DpAll.mono s3 h3)))) only [↓Hk.hold_s]
end
end T
namespace T
section
variable {P : Program} {w : World} {K : PySem.W.Frag} {mg : Str → Option Value} {base : Heap} {C CR CK CM tR dE : Addr} {S : Addr → Option Sp}
theorem q_lcI {te te2 : TE} {g : TG} {tt : TT} {vs : List Nat} {σ : L2.St} {H : Hp} {Q : VK} (h : te σ H fun x H1 => ∃ a, x = .ref a ∧ (∃ xs, SqL K H1 a xs) ∧ tLc (fun _ H2 R => R (Itl K a) H2) g tt te2 vs σ H1 Q) : tLc (iList K te) g tt te2 vs σ H Q := h
theorem q_lcR {ta : TA} {te2 : TE} {g : TG} {tt : TT} {vs : List Nat} {σ : L2.St} {H : Hp} {Q : VK} (h : ta σ H fun ws H1 => ∃ n : Int, ws = [.int n] ∧ -(2 ^ 62) ≤ n ∧ n < 2 ^ 62 ∧ tLc (fun _ H2 R => R (Itr 0 n.toNat) H2) g tt te2 vs σ H1 Q) : tLc (iRng1 ta) g tt te2 vs σ H Q := h
def firstD (b : BD) : KD
  | .statuses => .tuple (List.replicate (dl b.tasks).length readyD)
  | .answers => .tuple (List.replicate (dl b.tasks).length .none)
  | .owned => rowsT b.rights
  | .taken => .tuple (List.replicate (dl b.tasks).length (.int 0))
  | .values_now => tupOf b.pages
  | .queues => .tuple ((dl b.ports).map fun _ => .tuple [])
  | .lock_rows => .tuple (List.replicate (dInt0 b.locks).toNat (.tuple [.none, .tuple []]))
  | .cached => .tuple [.none, .none]
  | .place => .int 0
  | .runs => .none
  | .spent => .int 0
  | .busy => .int 0
  | .phase => .int 0
  | .turn => .none
  | .extra => .int 0
theorem rep_dp {H : Hp} {x : V} {d : PyData} (h : Dp K H x d) : ∀ n, DpAll K H (List.replicate n [x]).flatten (List.replicate n d)
  | 0 => .nil
  | n + 1 => by
    rw [List.replicate_succ, List.replicate_succ, List.flatten_cons]
    exact .cons h (rep_dp h n)
def spFirst (K : PySem.W.Frag) (C CR CM : Addr) : Sp := fun vs H Q _ => ∃ (p : Addr) (b : BD), vs = [.ref p] ∧ BuildAt K C CR H p b ∧ CM ≠ CR ∧ ∀ m H', Same H H' → MAt K C CR CM H' m p b (firstD b) → Q (.ref m) H'
theorem ok_first (B : Bl mg) (TB : BCls K C) (R : RCls K CR) (G : GK K mg tR)
    (m_rights : MCal P w K mg base 1 C "rights" ["self"] (spGet K C fun b H v H' => Dp K H' v b.rights))
    (m_ports : MCal P w K mg base 1 C "ports" ["self"] (spGet K C fun b H v H' => NewL K H H' v b.ports))
    (m_locks : MCal P w K mg base 1 C "locks" ["self"] (spGet K C fun b H v H' => Dp K H' v b.locks))
    (m_pages : MCal P w K mg base 1 C "pages" ["self"] (spGet K C fun b H v H' => NewL K H H' v b.pages))
    (c_Moment : MkCal P w K mg base 1 CM "Moment" ["self", "build", "shape"] (spMoment K C CR CM)) (d : DefAt K mg "first" s_first ["build"]) : Cal P w K mg base 3 "first" ["build"] (spFirst K C CR CM) := by
 refine Hk.hold ?_
 simp (disch := with_unfolding_all (
 exact Hk.disch (d.cal fun f fd F => by
  refine F.ok sc_first (fun vs H Q E h => ?_) (fun cdv A outer s H vs Q E hr h => ?_)
  · obtain ⟨p, b, rfl, _⟩ := h; rfl
  · obtain ⟨p, b, rfl, hB, nMR, q⟩ := h
    refine ⟨_, (pss_cons (ps_set (i := 1) sc_first.nd rfl (Or.inl rfl) (pe_fld (pe_fld (pv 0) rfl) rfl))
      (pss_cons (ps_set (i := 2) sc_first.nd rfl (Or.inl rfl) (pe_callTy call_tuple_of rfl B.tuple_ hb_tuple (pa_cons (pe_lc (own := [("row", 6)]) (tt := tYes) rfl sc_first.nd (pi_list (pe_mcal0 m_rights (hr.mono (by omega)) (pv 0))) (blkOk_by (N := ["build", "many", "rights", "ports", "locks", "running", "row", "size", "lock"]) (sc := defScope s_first) (by decide +kernel)) (fun _ _ _ _ _ => (pg_name (i := 6) sc_first.nd rfl (Or.inl rfl))) (fun _ _ _ _ _ => pts_nil) (fun _ _ _ _ _ => (pe_callTy (show CallR _ _ (rTupOf K) from call_tuple_of) rfl B.tuple_ hb_tuple (pa_cons (pv 6) pa_nil)))) pa_nil)))
      (pss_cons (ps_set (i := 3) sc_first.nd rfl (Or.inl rfl) (pe_callTy call_tuple_of rfl B.tuple_ hb_tuple (pa_cons (pe_lc (own := [("size", 7)]) (tt := tYes) rfl sc_first.nd (pi_list (pe_mcal0 m_ports (hr.mono (by omega)) (pv 0))) (blkOk_by (N := ["build", "many", "rights", "ports", "locks", "running", "row", "size", "lock"]) (sc := defScope s_first) (by decide +kernel)) (fun _ _ _ _ _ => (pg_name (i := 7) sc_first.nd rfl (Or.inl rfl))) (fun _ _ _ _ _ => pts_nil) (fun _ _ _ _ _ => (pe_tup pa_nil))) pa_nil)))
      (pss_cons (ps_set (i := 4) sc_first.nd rfl (Or.inl rfl) (pe_callTy call_tuple_of rfl B.tuple_ hb_tuple (pa_cons (pe_lc (own := [("lock", 8)]) (tt := tYes) rfl sc_first.nd (pi_range1 rfl B.range (pa_cons (pe_mcal0 m_locks (hr.mono (by omega)) (pv 0)) pa_nil)) (blkOk_by (N := ["build", "many", "rights", "ports", "locks", "running", "row", "size", "lock"]) (sc := defScope s_first) (by decide +kernel)) (fun _ _ _ _ _ => (pg_name (i := 8) sc_first.nd rfl (Or.inl rfl))) (fun _ _ _ _ _ => pts_nil) (fun _ _ _ _ _ => (pe_tup (pa_cons pe_non (pa_cons (pe_tup pa_nil) pa_nil))))) pa_nil)))
      (pss_cons (ps_set (i := 5) sc_first.nd rfl (Or.inl rfl) (pe_tup (pa_cons pe_non (pa_cons pe_int (pa_cons pe_int (pa_cons pe_int pa_nil))))))
      (pss_one (ps_ret (pe_mk c_Moment (hr.mono (by omega)) rfl (pa_cons (pv 0) (pa_cons (pe_tup (pa_cons (pe_op op_repT (pe_tup (pa_cons (pe_glob (v := .ref tR) rfl G.g_READY rfl) pa_nil)) (pv 1)) (pa_cons (pe_op op_repT (pe_tup (pa_cons pe_non pa_nil)) (pv 1)) (pa_cons (pv 2) (pa_cons (pe_op op_repT (pe_tup (pa_cons pe_int pa_nil)) (pv 1)) (pa_cons (pe_callTy call_tuple_of rfl B.tuple_ hb_tuple (pa_cons (pe_mcal0 m_pages (hr.mono (by omega)) (pv 0)) pa_nil)) (pa_cons (pv 3) (pa_cons (pv 4) (pa_cons (pe_tup (pa_cons pe_non (pa_cons pe_non pa_nil))) (pa_cons pe_int (pa_cons (pv 5) pa_nil))))))))))) pa_nil)))))))))), ?_⟩
    have ok := hB.1.ok
    obtain ⟨tds, et, t2, t4, tall⟩ := okTasksL ok.tasks
    have en : (dl b.tasks).length = tds.length := by rw [et]; rfl
    walk_at "st0"
    refine hB.rl TB fun r hR => ?_
    walk_at "st"
    refine hR.rd R .task_count fun v1 d1 => ?_
    have d2 : Dp K H v1 (.int ((dl b.tasks).length : Int)) := d1
    cases d2
    walk_at "st"
    refine q_lcI ?_
    have nof : ∀ (H' : Hp), Same H H' → ∀ m : Str, m ≠ ("_parts" : Str) → m ≠ ("rules" : Str) → ∀ {Q : Prop}, Q → ∃ a dx2 fs2, V.ref p = .ref a ∧ H' a = some (.ins C dx2 fs2) ∧ fs2.lookup m = none ∧ Q := by
      obtain ⟨okk, dx2, fs2, q0, kvs, e1, e2, e3, e4, e5⟩ := hB.1
      exact fun H' s m h1 h2 Q q => ⟨p, dx2, fs2, rfl, s _ _ e1, e5 m h1 h2, q⟩
    walk_at "st"
    refine nof H (Same.refl _) "rights" (by decide +kernel) (by decide +kernel) ?_
    walk_at "st"
    refine ⟨p, b, rfl, hB.1, fun v1 H1 s1 d1 => ?_⟩
    obtain ⟨rds, er, rl, rall⟩ := okRightsL ok.rights
    replace d1 : Dp K H1 v1 b.rights := d1
    rw [er] at d1
    have tdc : cnt (cOf b) "task" = (tds.length : Int) := by
      obtain ⟨pds, ep, _, _⟩ := okList ok.pages
      obtain ⟨qds, eq, _, _⟩ := okList ok.ports
      obtain ⟨l, el, _⟩ := okBetween ok.locks
      have okd := ok.disk
      unfold okDisk at okd
      rw [Bool.and_eq_true] at okd
      obtain ⟨dd, ed, _⟩ := okBetween okd.1
      have e : cOf b = cntOf tds.length pds.length qds.length l dd := by unfold cOf; rw [et, ep, eq, el, ed]
      rw [e]
      rfl
    have rl8 : rds.length = tds.length := by omega
    cases d1 with
    | @lst a7 xs7 _ hs7 ha7 =>
    have l7 := ha7.length
    refine ⟨a7, rfl, ⟨xs7, hs7⟩, fun X nX => lc_rel walk_list (fun i y Hh => ∃ (t : Addr) (xs : List V) (l : List PyData), y = .ref t ∧ Hh t = some (.tup xs) ∧ rds[i]? = some (.list l) ∧ DpAll K H1 xs l) nX (sz1000 (by omega)) (fun H2 s => s.seq hs7) yat_same ?_ ?_ ?_⟩
    · rintro i y Ha Hb acc e bt ⟨t, xs, l, rfl, h1, h2, h3⟩
      exact ⟨t, xs, l, rfl, bt _ _ h1 (fun z => by subst z; rw [h1] at e; cases e), h2, h3⟩
    · rintro i x H' H2 lt s y Q' k
      obtain ⟨rfl, e⟩ := y
      obtain ⟨d, e2, hd2⟩ := ha7.get' e
      obtain ⟨l, rfl⟩ := rall d (List.mem_of_getElem? e2)
      cases hd2 with
      | @lst a xs _ hs ha =>
      refine q_gname ?_
      refine ⟨rfl, ?_⟩
      walk_at "st"
      exact ⟨a, xs, rfl, .inl ⟨s.seq hs, fun l2 nl => k _ _ (same_new nl) ⟨l2, xs, l, rfl, upd_same, e2, ha⟩⟩⟩
    intro ys7 H8 s8 e8 l8 r8
    walk_at "st"
    refine ⟨X, ys7, rfl, .inl ⟨SqL.of e8, fun l77 n7 => ?_⟩⟩
    have m7 := s8.trans (same_new (o := .tup ys7) n7)
    have T7 : Dp K (upd H8 l77 (.tup ys7)) (.ref l77) (.tuple (rds.map tupOf)) := by
      refine .tup (SqT.of upd_same) (dpAll_of (by rw [List.length_map]; omega) fun i x d ex ed2 => ?_)
      obtain ⟨t, xs, l, rfl, h1, h2, h3⟩ := r8 i x ex
      rw [List.getElem?_map, h2] at ed2
      cases ed2
      exact .tup (SqT.of (same_new n7 _ _ h1)) (L2.DpAll.mono m7 h3)
    have sA := s1.trans m7
    generalize upd H8 l77 (.tup ys7) = HA at *
    walk_at "st"
    refine q_lcI ?_
    walk_at "st"
    refine nof HA sA "ports" (by decide +kernel) (by decide +kernel) ?_
    walk_at "st"
    refine ⟨p, b, rfl, hB.1.mono sA, fun v2 H2 s2 d2 => ?_⟩
    obtain ⟨pl, pxs, pds, rfl, npl, epl, edp, hpa⟩ := d2
    obtain ⟨qds, eqd, q2, _⟩ := okList ok.ports
    rw [edp] at eqd
    cases eqd
    have lpx := hpa.length
    refine ⟨pl, rfl, ⟨pxs, SqL.of epl⟩, fun X2 nX2 => lc_rel walk_list (fun i y Hh => ∃ (t : Addr), y = .ref t ∧ Hh t = some (.tup [])) nX2 (sz1000 (by omega)) (fun H2 s => s.seq (SqL.of epl)) yat_same ?_ ?_ ?_⟩
    · rintro i y Ha Hb acc e bt ⟨t, rfl, h1⟩
      exact ⟨t, rfl, bt _ _ h1 (fun z => by subst z; rw [h1] at e; cases e)⟩
    · rintro i x H' H3 lt s y Q' k
      obtain ⟨rfl, e⟩ := y
      refine q_gname ?_
      refine ⟨rfl, ?_⟩
      walk_at "st"
      exact ⟨by show 0 ≤ sizeLine; decide, fun pe ne => k _ _ (same_new ne) ⟨pe, rfl, upd_same⟩⟩
    intro ys9 H9 s9 e9 l9 r9
    walk_at "st"
    refine ⟨X2, ys9, rfl, .inl ⟨SqL.of e9, fun l99 n9 => ?_⟩⟩
    have m9 := s2.trans (s9.trans (same_new (o := .tup ys9) n9))
    have T9 : Dp K (upd H9 l99 (.tup ys9)) (.ref l99) (.tuple (pds.map fun _ => .tuple [])) := by
      refine .tup (SqT.of upd_same) (dpAll_of (by rw [List.length_map]; omega) fun i x d ex ed2 => ?_)
      obtain ⟨t, rfl, h1⟩ := r9 i x ex
      rw [List.getElem?_map] at ed2
      obtain ⟨d0, _, rfl⟩ := Option.map_eq_some_iff.mp ed2
      exact .tup (SqT.of (same_new n9 _ _ h1)) .nil
    replace T7 := L2.Dp.mono m9 T7
    have sB := sA.trans m9
    generalize upd H9 l99 (.tup ys9) = HB at *
    walk_at "st"
    refine q_lcR ?_
    walk_at "st"
    refine nof HB sB "locks" (by decide +kernel) (by decide +kernel) ?_
    walk_at "st"
    refine ⟨p, b, rfl, hB.1.mono sB, fun v3 H3 s3 d3 => ?_⟩
    obtain ⟨kn, ekn, k0, k2⟩ := okBetween ok.locks
    replace d3 : Dp K H3 v3 b.locks := d3
    rw [ekn] at d3
    cases d3
    refine ⟨kn, rfl, by omega, by omega, fun X3 nX3 => lc_rel walk_range (fun i y Hh => ∃ (t t2 : Addr), y = .ref t ∧ Hh t = some (.tup [.non, .ref t2]) ∧ Hh t2 = some (.tup [])) nX3 (sz1000 (by omega)) (fun H2 s => trivial) yfn_same ?_ ?_ ?_⟩
    · rintro i y Ha Hb acc e bt ⟨t, t2, rfl, h1, h2⟩
      exact ⟨t, t2, rfl, bt _ _ h1 (fun z => by subst z; rw [h1] at e; cases e), bt _ _ h2 (fun z => by subst z; rw [h2] at e; cases e)⟩
    · rintro i x H' H4 lt s y Q' k
      obtain ⟨rfl, e⟩ := y
      refine q_gname ?_
      refine ⟨rfl, ?_⟩
      walk_at "st"
      refine ⟨by show 0 ≤ sizeLine; decide, fun pe ne => ?_⟩
      walk_at "st"
      refine ⟨by show 2 ≤ sizeLine; decide, fun pf nf => ?_⟩
      exact k _ _ ((same_new ne).trans (same_new nf)) ⟨pf, pe, rfl, upd_same, same_new nf _ _ upd_same⟩
    intro ys10 H10 s10 e10 l10 r10
    walk_at "st"
    refine ⟨X3, ys10, rfl, .inl ⟨SqL.of e10, fun l101 n10 => ?_⟩⟩
    have m10 := s3.trans (s10.trans (same_new (o := .tup ys10) n10))
    have T10 : Dp K (upd H10 l101 (.tup ys10)) (.ref l101) (.tuple (List.replicate kn.toNat (.tuple [.none, .tuple []]))) := by
      refine .tup (SqT.of upd_same) (dpAll_of (by rw [List.length_replicate]; omega) fun i x d ex ed2 => ?_)
      obtain ⟨t, t2, rfl, h1, h2⟩ := r10 i x ex
      have z := List.mem_of_getElem? ed2
      rw [List.mem_replicate] at z
      obtain ⟨_, rfl⟩ := z
      exact .tup (SqT.of (same_new n10 _ _ h1)) (.cons .non (.cons (.tup (SqT.of (same_new n10 _ _ h2)) .nil) .nil))
    replace T7 := L2.Dp.mono m10 T7
    replace T9 := L2.Dp.mono m10 T9
    have sC := sB.trans m10
    generalize upd H10 l101 (.tup ys10) = HC at *
    walk_at "st"
    refine ⟨by show 4 ≤ sizeLine; decide, fun pr nr => ?_⟩
    have mr := same_new (o := .tup [V.non, V.int 0, V.int 0, V.int 0]) nr
    have TR : Dp K (upd HC pr (.tup [V.non, V.int 0, V.int 0, V.int 0])) (.ref pr) (.tuple [.none, .int 0, .int 0, .int 0]) := .tup (SqT.of upd_same) (.cons .non (.cons (.int _) (.cons (.int _) (.cons (.int _) .nil))))
    replace T7 := L2.Dp.mono mr T7
    replace T9 := L2.Dp.mono mr T9
    replace T10 := L2.Dp.mono mr T10
    have sHD1 := sC.trans mr
    generalize upd HC pr (.tup [V.non, V.int 0, V.int 0, V.int 0]) = HD1 at *
    walk_at "st"
    refine ⟨by show 1 ≤ sizeLine; decide, fun pa1 na1 => ?_⟩
    have ma1 := same_new (o := .tup [V.ref tR]) na1
    have ea1 : (upd HD1 pa1 (.tup [V.ref tR])) pa1 = some (.tup [V.ref tR]) := upd_same
    replace T7 := L2.Dp.mono ma1 T7
    replace T9 := L2.Dp.mono ma1 T9
    replace T10 := L2.Dp.mono ma1 T10
    replace TR := L2.Dp.mono ma1 TR
    have sHE1 := sHD1.trans ma1
    generalize upd HD1 pa1 (.tup [V.ref tR]) = HE1 at *
    walk_at "st"
    refine ⟨pa1, _, [V.ref tR], rfl, rfl, SqT.of ea1, by simp, by omega, by omega, by simp, fun pb1 nb1 => ?_⟩
    have mb1 := same_new (o := .tup (List.replicate ((dl b.tasks).length : Int).toNat [V.ref tR]).flatten) nb1
    have TA : Dp K (upd HE1 pb1 (.tup (List.replicate ((dl b.tasks).length : Int).toNat [V.ref tR]).flatten)) (.ref pb1) (.tuple (List.replicate (dl b.tasks).length (readyD))) := by
      refine .tup (SqT.of upd_same) ?_
      rw [Int.toNat_natCast]
      exact rep_dp (G.ready _) _
    replace T7 := L2.Dp.mono mb1 T7
    replace T9 := L2.Dp.mono mb1 T9
    replace T10 := L2.Dp.mono mb1 T10
    replace TR := L2.Dp.mono mb1 TR
    have sHF1 := sHE1.trans mb1
    generalize upd HE1 pb1 (.tup (List.replicate ((dl b.tasks).length : Int).toNat [V.ref tR]).flatten) = HF1 at *
    walk_at "st"
    refine ⟨by show 1 ≤ sizeLine; decide, fun pa2 na2 => ?_⟩
    have ma2 := same_new (o := .tup [V.non]) na2
    have ea2 : (upd HF1 pa2 (.tup [V.non])) pa2 = some (.tup [V.non]) := upd_same
    replace T7 := L2.Dp.mono ma2 T7
    replace T9 := L2.Dp.mono ma2 T9
    replace T10 := L2.Dp.mono ma2 T10
    replace TR := L2.Dp.mono ma2 TR
    replace TA := L2.Dp.mono ma2 TA
    have sHE2 := sHF1.trans ma2
    generalize upd HF1 pa2 (.tup [V.non]) = HE2 at *
    walk_at "st"
    refine ⟨pa2, _, [V.non], rfl, rfl, SqT.of ea2, by simp, by omega, by omega, by simp, fun pb2 nb2 => ?_⟩
    have mb2 := same_new (o := .tup (List.replicate ((dl b.tasks).length : Int).toNat [V.non]).flatten) nb2
    have TB2 : Dp K (upd HE2 pb2 (.tup (List.replicate ((dl b.tasks).length : Int).toNat [V.non]).flatten)) (.ref pb2) (.tuple (List.replicate (dl b.tasks).length (.none))) := by
      refine .tup (SqT.of upd_same) ?_
      rw [Int.toNat_natCast]
      exact rep_dp (.non) _
    replace T7 := L2.Dp.mono mb2 T7
    replace T9 := L2.Dp.mono mb2 T9
    replace T10 := L2.Dp.mono mb2 T10
    replace TR := L2.Dp.mono mb2 TR
    replace TA := L2.Dp.mono mb2 TA
    have sHF2 := sHE2.trans mb2
    generalize upd HE2 pb2 (.tup (List.replicate ((dl b.tasks).length : Int).toNat [V.non]).flatten) = HF2 at *
    walk_at "st"
    refine ⟨by show 1 ≤ sizeLine; decide, fun pa3 na3 => ?_⟩
    have ma3 := same_new (o := .tup [V.int 0]) na3
    have ea3 : (upd HF2 pa3 (.tup [V.int 0])) pa3 = some (.tup [V.int 0]) := upd_same
    replace T7 := L2.Dp.mono ma3 T7
    replace T9 := L2.Dp.mono ma3 T9
    replace T10 := L2.Dp.mono ma3 T10
    replace TR := L2.Dp.mono ma3 TR
    replace TA := L2.Dp.mono ma3 TA
    replace TB2 := L2.Dp.mono ma3 TB2
    have sHE3 := sHF2.trans ma3
    generalize upd HF2 pa3 (.tup [V.int 0]) = HE3 at *
    walk_at "st"
    refine ⟨pa3, _, [V.int 0], rfl, rfl, SqT.of ea3, by simp, by omega, by omega, by simp, fun pb3 nb3 => ?_⟩
    have mb3 := same_new (o := .tup (List.replicate ((dl b.tasks).length : Int).toNat [V.int 0]).flatten) nb3
    have TC : Dp K (upd HE3 pb3 (.tup (List.replicate ((dl b.tasks).length : Int).toNat [V.int 0]).flatten)) (.ref pb3) (.tuple (List.replicate (dl b.tasks).length (.int 0))) := by
      refine .tup (SqT.of upd_same) ?_
      rw [Int.toNat_natCast]
      exact rep_dp (.int _) _
    replace T7 := L2.Dp.mono mb3 T7
    replace T9 := L2.Dp.mono mb3 T9
    replace T10 := L2.Dp.mono mb3 T10
    replace TR := L2.Dp.mono mb3 TR
    replace TA := L2.Dp.mono mb3 TA
    replace TB2 := L2.Dp.mono mb3 TB2
    have sHF3 := sHE3.trans mb3
    generalize upd HE3 pb3 (.tup (List.replicate ((dl b.tasks).length : Int).toNat [V.int 0]).flatten) = HF3 at *
    walk_at "st"
    refine nof HF3 sHF3 "pages" (by decide +kernel) (by decide +kernel) ?_
    walk_at "st"
    refine ⟨p, b, rfl, hB.1.mono sHF3, fun v5 H5 s5 d5 => ?_⟩
    obtain ⟨gl, gxs, gds, rfl, ngl, egl, edg, hga⟩ := d5
    refine ⟨gl, gxs, rfl, .inl ⟨SqL.of egl, fun pp np => ?_⟩⟩
    have mp := s5.trans (same_new (o := .tup gxs) np)
    have TP : Dp K (upd H5 pp (.tup gxs)) (.ref pp) (tupOf b.pages) := by
      rw [edg]
      exact .tup (SqT.of upd_same) (L2.DpAll.mono (same_new np) hga)
    replace T7 := L2.Dp.mono mp T7
    replace T9 := L2.Dp.mono mp T9
    replace T10 := L2.Dp.mono mp T10
    replace TR := L2.Dp.mono mp TR
    replace TA := L2.Dp.mono mp TA
    replace TB2 := L2.Dp.mono mp TB2
    replace TC := L2.Dp.mono mp TC
    have sHG := sHF3.trans mp
    generalize upd H5 pp (.tup gxs) = HG at *
    walk_at "st"
    refine ⟨by show 2 ≤ sizeLine; decide, fun pc nc => ?_⟩
    have mc := same_new (o := .tup [V.non, V.non]) nc
    have TCC : Dp K (upd HG pc (.tup [V.non, V.non])) (.ref pc) (.tuple [.none, .none]) := .tup (SqT.of upd_same) (.cons .non (.cons .non .nil))
    replace T7 := L2.Dp.mono mc T7
    replace T9 := L2.Dp.mono mc T9
    replace T10 := L2.Dp.mono mc T10
    replace TR := L2.Dp.mono mc TR
    replace TA := L2.Dp.mono mc TA
    replace TB2 := L2.Dp.mono mc TB2
    replace TC := L2.Dp.mono mc TC
    replace TP := L2.Dp.mono mc TP
    have sHI := sHG.trans mc
    generalize upd HG pc (.tup [V.non, V.non]) = HI at *
    walk_at "st"
    refine ⟨by show 10 ≤ sizeLine; decide, fun ps ns => ?_⟩
    have ms := same_new (o := .tup [V.ref pb1, V.ref pb2, V.ref l77, V.ref pb3, V.ref pp, V.ref l99, V.ref l101, V.ref pc, V.int 0, V.ref pr]) ns
    replace T7 := L2.Dp.mono ms T7
    replace T9 := L2.Dp.mono ms T9
    replace T10 := L2.Dp.mono ms T10
    replace TR := L2.Dp.mono ms TR
    replace TA := L2.Dp.mono ms TA
    replace TB2 := L2.Dp.mono ms TB2
    replace TC := L2.Dp.mono ms TC
    replace TP := L2.Dp.mono ms TP
    replace TCC := L2.Dp.mono ms TCC
    have sHJ := sHI.trans ms
    have e7 : rowsT b.rights = .tuple (rds.map tupOf) := by rw [er]; rfl
    have e9 : (dl b.ports) = pds := by rw [edp]; rfl
    have e10 : (dInt0 b.locks).toNat = kn.toNat := by rw [ekn]; rfl
    have TS : Dp K (upd HI ps (.tup [V.ref pb1, V.ref pb2, V.ref l77, V.ref pb3, V.ref pp, V.ref l99, V.ref l101, V.ref pc, V.int 0, V.ref pr])) (.ref ps) (shapeOf (firstD b)) := by
      refine .tup (SqT.of upd_same) (.cons TA (.cons TB2 (.cons ?_ (.cons TC (.cons TP (.cons ?_ (.cons ?_ (.cons TCC (.cons (.int _) (.cons TR .nil))))))))))
      · show Dp K _ _ (rowsT b.rights)
        rw [e7]; exact T7
      · show Dp K _ _ (.tuple ((dl b.ports).map fun _ => .tuple []))
        rw [e9]; exact T9
      · show Dp K _ _ (.tuple (List.replicate (dInt0 b.locks).toNat (.tuple [.none, .tuple []])))
        rw [e10]; exact T10
    generalize upd HI ps (.tup [V.ref pb1, V.ref pb2, V.ref l77, V.ref pb3, V.ref pp, V.ref l99, V.ref l101, V.ref pc, V.int 0, V.ref pr]) = HJ at *
    intro m2 dx nm ndx nemd
    have mm : Same HJ (upd (upd HJ dx (.own m2)) m2 (.ins CM dx [])) := (same_new ndx).trans (same_new (by rw [upd_ne (Ne.symm nemd)]; exact nm))
    have hB4 := hB.mono sHJ
    have npm : p ≠ m2 := fun z => by
      subst z
      obtain ⟨_, dx5, fs5, r5, e5, _⟩ := hB4
      rw [nm] at e5; cases e5
    refine ⟨m2, p, dx, .ref ps, b, firstD b, rfl, upd_same, npm, nMR, hB4.mono mm, L2.Dp.mono mm TS, fun H6 b6 hm6 => ⟨rfl, ?_⟩⟩
    have s46 : Same HJ H6 := fun a o e => b6 _ _ (mm _ _ e) (ne_of_none e nm)
    exact q m2 _ (sHJ.trans s46) hm6))) only [↓Hk.hold_s]
end
end T
local macro_rules | `(tactic| walk_at "s1") => `(tactic| first | with_reducible refine q_sl ?_ | with_reducible refine q_np ?_ | with_reducible refine q_pt ?_)
namespace T
local macro_rules | `(tactic| walk_at "sm") => `(tactic| (repeat (first | (walk_at "s1"; try dsimp only [List.set_cons_zero, List.set_cons_succ, List.append_nil, List.cons_append, List.nil_append, cxOf]) | ((with_reducible refine iteT' ?hh ?_); (case hh => rfl)) | ((with_reducible refine iteF' ?hh ?_); (case hh => rfl)) | with_reducible refine q_eq rfl ?_)))
section
variable {P : Program} {w : World} {K : PySem.W.Frag} {mg : Str → Option Value} {base : Heap}
theorem hb_abs : bootBuiltins "abs" = some (.builtin "abs") := by with_unfolding_all rfl
theorem hb_sum : bootBuiltins "sum" = some (.builtin "sum") := by with_unfolding_all rfl
def rIxA (K : PySem.W.Frag) : R2 := fun x y H Q => rIxL K x y H Q ∨ rIxT K x y H Q
theorem ix_any {X : Cx} : IxR X (rIxA X.K) := fun value slice pins s σ H x y v u Q I rx ry h e => h.elim (fun h => ix_list value slice pins s σ H x y v u Q I rx ry h e) (fun h => ix_tup value slice pins s σ H x y v u Q I rx ry h e)
/-- a list or a tuple -/
def SqA (K : PySem.W.Frag) (H : Hp) (v : V) (xs : List V) : Prop := ∃ a, v = .ref a ∧ (SqL K H a xs ∨ SqT K H a xs)
theorem q_lenR {K : PySem.W.Frag} {H : Hp} {F : List V → Prop} {r : Addr} {xs : List V} (h : SqL K H r xs ∨ SqT K H r xs) (q : F xs) : ∃ p ys, [V.ref r] = [V.ref p] ∧ (SqL K H p ys ∨ SqT K H p ys) ∧ F ys := ⟨r, xs, rfl, h, q⟩
theorem q_ixA {K : PySem.W.Frag} {H : Hp} {Q : VK} {v z : V} {xs : List V} {i : Int} (h : SqA K H v xs) (e : atI xs i = some z) (q : Q z H) : rIxA K v (.int i) H Q := by
  obtain ⟨a, rfl, h | h⟩ := h
  · exact .inl ⟨a, xs, i, z, rfl, rfl, h, e, q⟩
  · exact .inr ⟨a, xs, i, z, rfl, rfl, h, e, q⟩
def leaf : PyData → Prop | .none => True | .bool _ => True | .int _ => True | .str _ => True | _ => False
def depN : Nat → PyData → Prop
  | 0, _ => False
  | k + 1, d => leaf d ∨ ∃ ds, (d = .list ds ∨ d = .tuple ds) ∧ ds.length ≤ 1000 ∧ ∀ e ∈ ds, depN k e
theorem seq_dropT {a b : TS} {D : Ends} {σ : L2.St} {H : Hp} (h : a { D with nx := b D } σ H) : tSeq a b D σ H := h
/-- the numbers of the script -/
def spCell (K : PySem.W.Frag) : Sp := fun vs H Q _ => ∃ (a : Addr) (ns : List Int) (k : Nat), vs = [.ref a, .int k] ∧ SqL K H a (ns.map V.int) ∧ ns.length ≤ 63 ∧ k ≤ 1000 ∧ ∀ (c : Int) H', 0 ≤ c → Same H H' → Q (.int c) H'
theorem ok_law_cell (B : Bl mg) (g_abs : mg "abs" = none) (g_sum : mg "sum" = none) (d : DefAt K mg "_law_cell" s__law_cell ["_law_script", "_law_k"]) : Cal P w K mg base 1 "_law_cell" ["_law_script", "_law_k"] (spCell K) := by
 refine Hk.hold ?_
 simp (disch := with_unfolding_all (
 exact Hk.disch (d.cal fun f fd F => by
  refine F.ok sc__law_cell (fun vs H Q E h => ?_) (fun cdv A outer s H vs Q E hr h => ?_)
  · obtain ⟨a, ns, k, rfl, _⟩ := h; rfl
  · obtain ⟨a, ns, k, rfl, hs, l63, lk, q⟩ := h
    refine ⟨_, (pss_cons (ps_if (pt_cmpR op_lt (pv 1) (pe_callB call_len_seq rfl B.len hb_len (pa_cons (pv 0) pa_nil)) (nomark _)) (pss_one (ps_ret (pe_callB call_abs rfl g_abs hb_abs (pa_cons (pe_ix ix_list (pv 0) (pv 1) (fun _ _ => rfl)) pa_nil)))) pss_nil)
      (pss_one (ps_ret (pe_op op_add (pe_op op_mulW (pe_op op_mod (pe_callTy call_int1 rfl B.int_ hb_int (pa_cons (pe_callB (cr_sum rfl) rfl g_sum hb_sum (pa_cons (pe_slice sl_list (pv 0) po_none (po_some pe_int)) pa_nil)) pa_nil)) pe_int) pe_int) (pe_op op_mulW pe_int (pe_op op_add (pv 1) pe_int)))))), ?_⟩
    walk_at "st0"
    refine ⟨a, _, rfl, .inl hs, ?_⟩
    walk_at "st"
    refine q_if (fun hc => ?_) (fun hc => ?_)
    · walk_at "st"
      have lt : k < ns.length := by simp at hc; omega
      refine q_ixL hs (atI_nat (v := .int ns[k]) (by rw [List.getElem?_map, List.getElem?_eq_getElem lt]; rfl)) ?_
      walk_at "st"
      refine ⟨_, rfl, ?_⟩
      exact q _ _ (by split <;> omega) (Same.refl _)
    · walk_at "st"
      refine ⟨1, rfl, ?_⟩
      refine ⟨a, _, rfl, hs, fun pl nl => ?_⟩
      have sl := same_new (o := .lst (cutV (ns.map V.int) none (some 1))) nl
      have ec : cutV (ns.map V.int) none (some 1) = (ns.take 1).map V.int := by
        unfold cutV
        rw [HT.sIx_none, show HT.sIx (ns.map V.int).length (ns.map V.int).length (some 1) = min 1 (ns.map V.int).length from HT.sIx_nat _ _ 1, List.drop_zero, List.map_take, List.take_eq_take_iff]
        simp
      rw [ec] at sl ⊢
      refine ⟨pl, _, rfl, SqL.of upd_same, ?_⟩
      walk_at "st"
      refine .inl ⟨_, rfl, ?_⟩
      walk_at "st"
      refine ⟨_, _, rfl, rfl, by omega, ?_⟩
      walk_at "st"
      have m0 := Int.emod_nonneg ((ns.take 1).sum) (show (1000003 : Int) ≠ 0 by decide)
      have m1 := Int.emod_lt_of_pos ((ns.take 1).sum) (show (0 : Int) < 1000003 by decide)
      generalize (ns.take 1).sum % 1000003 = y at m0 m1
      refine ⟨_, _, rfl, rfl, wide_mul (a := 20) (b := 13) (by omega) (by omega) (by omega) (by omega) (by omega), ?_⟩
      walk_at "st"
      refine ⟨_, _, rfl, rfl, wide_mul (a := 17) (b := 10) (by omega) (by omega) (by omega) (by omega) (by omega), ?_⟩
      walk_at "st"
      exact q _ _ (by omega) sl))) only [↓Hk.hold_s]
def spDigits (K : PySem.W.Frag) : Sp := fun vs H Q _ => ∃ (c : Int) (a : Addr) (zs : List Int), vs = [.int c, .ref a] ∧ 0 ≤ c ∧ SqL K H a (zs.map V.int) ∧ zs.length ≤ 20 ∧ (∀ z ∈ zs, 1 ≤ z ∧ z < 1000) ∧ ∀ (l : Addr) (ds : List Int) H', Same H H' → H l = none → H' l = some (.lst (ds.map V.int)) → ds.length = zs.length → (∀ (i : Nat) (d z : Int), ds[i]? = some d → zs[i]? = some z → 0 ≤ d ∧ d < z) → Q (.ref l) H'
theorem ok_law_digits (B : Bl mg) (d : DefAt K mg "_law_digits" s__law_digits ["_law_cell_here", "_law_sizes"]) : Cal P w K mg base 1 "_law_digits" ["_law_cell_here", "_law_sizes"] (spDigits K) := by
 refine Hk.hold ?_
 simp (disch := with_unfolding_all (
 exact Hk.disch (d.cal fun f fd F => by
  refine F.ok sc__law_digits (fun vs H Q E h => ?_) (fun cdv A outer s H vs Q E hr h => ?_)
  · obtain ⟨c, a, zs, rfl, _⟩ := h; rfl
  · obtain ⟨c, a, zs, rfl, c0, hs, lz, hz, q⟩ := h
    refine ⟨_, (pss_cons (ps_set (i := 2) sc__law_digits.nd rfl (Or.inl rfl) (pe_lst pa_nil))
      (pss_cons (ps_set (i := 3) sc__law_digits.nd rfl (Or.inl rfl) (pv 0))
      (pss_cons (ps_for PassesOwn.never rfl (pi_range1 rfl B.range (pa_cons (pe_callB call_len_seq rfl B.len hb_len (pa_cons (pv 1) pa_nil)) pa_nil)) (pg_name (i := 4) sc__law_digits.nd rfl (Or.inl rfl)) (pss_one (ps_if (pt_cmpR op_lt (pv 0) (pe_op op_pow pe_int pe_int) (nomark _)) (pss_cons (ps_set (i := 3) sc__law_digits.nd rfl (Or.inl rfl) (pe_op op_mod (pe_callTy call_int1 rfl B.int_ hb_int (pa_cons (pe_op op_add (pe_op op_mulW (pv 3) pe_int) (pe_op op_mulW pe_int (pe_op op_add (pv 4) pe_int))) pa_nil)) pe_int))
      (pss_cons (ps_set (i := 5) sc__law_digits.nd rfl (Or.inl rfl) (pe_op op_mod (pe_callTy call_int1 rfl B.int_ hb_int (pa_cons (pe_op op_mulW (pv 3) (pe_op op_add (pe_op op_fdivW (pv 3) pe_int) pe_int)) pa_nil)) pe_int))
      (pss_one (ps_expr (pe_bm PySem.F.plainAttrs_list PySem.F.slot_list_append PySem.F.type_list_append mt_append (pv 2) (pa_cons (pe_op op_mod (pe_callTy call_int1 rfl B.int_ hb_int (pa_cons (pe_op op_fdivW (pv 5) pe_int) pa_nil)) (pe_ix ix_list (pv 1) (pv 4) (fun _ _ => rfl))) pa_nil)))))) (pss_cons (ps_expr (pe_bm PySem.F.plainAttrs_list PySem.F.slot_list_append PySem.F.type_list_append mt_append (pv 2) (pa_cons (pe_op op_mod (pe_callTy call_int1 rfl B.int_ hb_int (pa_cons (pv 3) pa_nil)) (pe_ix ix_list (pv 1) (pv 4) (fun _ _ => rfl))) pa_nil)))
      (pss_one (ps_set (i := 3) sc__law_digits.nd rfl (Or.inl rfl) (pe_op op_fdivW (pv 3) (pe_ix ix_list (pv 1) (pv 4) (fun _ _ => rfl)))))))))
      (pss_one (ps_ret (pv 2)))))), ?_⟩
    walk_at "st0"
    refine ⟨by show 0 ≤ sizeLine; decide, fun D nD => ?_⟩
    have sD := same_new (o := .lst []) nD
    walk_at "st"
    refine q_forRA ?_
    walk_at "st"
    refine ⟨a, _, rfl, .inl (sD.seq hs), ?_⟩
    rw [List.length_map]
    let J : Nat → L2.St → Hp → Prop := fun j σ H3 => ∃ (num : Int) (o1 o2 : Option V), σ = [some (.int c), some (.ref a), some (.ref D), some (.int num), o1, o2] ∧ 0 ≤ num ∧ (c < 10 ^ 18 → num < 2 ^ 60) ∧ Same H H3 ∧ ∃ ds : List Int, H3 D = some (.lst (ds.map V.int)) ∧ ds.length = j ∧ ∀ (i : Nat) (d z : Int), ds[i]? = some d → zs[i]? = some z → 0 ≤ d ∧ d < z
    refine ⟨_, rfl, by omega, by omega, forR J ⟨c, _, _, rfl, c0, fun h => by omega, sD, [], upd_same, rfl, fun i d z e => by simp at e⟩ (fun j σ H3 lj hJ => ?_) (fun σ H3 hJ => ?_)⟩
    · obtain ⟨num, o1, o2, rfl, n0, nb, s3, ds, eD, ld, hd⟩ := hJ
      have ltz : j < zs.length := by omega
      obtain ⟨z1, z2⟩ := hz _ (List.getElem_mem ltz)
      have ez : (zs.map V.int)[j]? = some (.int zs[j]) := by rw [List.getElem?_map, List.getElem?_eq_getElem ltz]; rfl
      have az : atI (zs.map V.int) ((0 : Int) + (j : Int)) = some (.int zs[j]) := by rw [Int.zero_add]; exact atI_nat ez
      have ezz : zs[j]? = some zs[j] := List.getElem?_eq_getElem ltz
      generalize zs[j] = z at z1 z2 ez az ezz
      have nDa : ∀ H', Same H H' → SqL K H' a (zs.map V.int) := fun H' s => s.seq hs
      have fin : ∀ (y num2 : Int) (o3 o4 : Option V), 0 ≤ y → y < z → 0 ≤ num2 → (c < 10 ^ 18 → num2 < 2 ^ 60) → J (j + 1) [some (.int c), some (.ref a), some (.ref D), some (.int num2), o3, o4] (upd H3 D (.lst (ds.map V.int ++ [.int y]))) := fun y num2 o3 o4 y0 y1 h0 h1 => by
        refine ⟨num2, o3, o4, rfl, h0, h1, fun b o hb => ?_, ds ++ [y], by rw [upd_same, List.map_append]; rfl, by simp [ld], fun i d z' ei ez' => ?_⟩
        · rw [upd_ne (ne_of_none hb nD)]; exact s3 _ _ hb
        · rw [List.getElem?_append] at ei
          split at ei
          · exact hd i d z' ei ez'
          · rename_i hge
            have : i = j := by
              rcases Nat.lt_trichotomy i j with h | h | h
              · omega
              · exact h
              · rw [List.getElem?_eq_none (by simp; omega)] at ei; cases ei
            subst this
            rw [ezz] at ez'
            cases ez'
            simp [ld] at ei
            subst ei
            exact ⟨y0, y1⟩
      have few : (ds.map V.int).length < sizeLine := by rw [List.length_map]; exact sz1000 (by omega)
      refine q_gname ?_
      walk_at "st"
      refine ⟨10, 18, rfl, rfl, ⟨by decide, by decide, by decide⟩, ?_⟩
      walk_at "st"
      refine q_if (fun hc => ?_) (fun hc => ?_)
      · have hc' : c < 10 ^ 18 := by simpa using hc
        have nb' := nb hc'
        walk_at "st"
        refine ⟨_, _, rfl, rfl, wide_mul (a := 60) (b := 16) (by omega) (by omega) (by omega) (by omega) (by omega), ?_⟩
        walk_at "st"
        refine ⟨_, _, rfl, rfl, wide_mul (a := 15) (b := 7) (by omega) (by omega) (by omega) (by omega) (by omega), ?_⟩
        walk_at "st"
        refine .inl ⟨_, rfl, ?_⟩
        walk_at "st"
        refine ⟨_, _, rfl, rfl, by omega, ?_⟩
        have m0 := Int.emod_nonneg (num * 48271 + 30103 * ((0 : Int) + (j : Int) + 1)) (show (2147483629 : Int) ≠ 0 by decide)
        have m1 := Int.emod_lt_of_pos (num * 48271 + 30103 * ((0 : Int) + (j : Int) + 1)) (show (0 : Int) < 2147483629 by decide)
        walk_at "st"
        generalize (num * 48271 + 30103 * ((0 : Int) + (j : Int) + 1)) % 2147483629 = num2 at m0 m1 ⊢
        refine ⟨_, _, rfl, rfl, wide_div (b := 11) (by omega) (by decide) (by omega) (by omega), ?_⟩
        walk_at "st"
        refine ⟨_, _, rfl, rfl, wide_mul (a := 31) (b := 22) (by omega) (by omega) (by omega) (by omega) (by omega), ?_⟩
        walk_at "st"
        refine .inl ⟨_, rfl, ?_⟩
        walk_at "st"
        refine ⟨_, _, rfl, rfl, by omega, ?_⟩
        walk_at "st"
        refine ⟨.inl ⟨rfl, ds.map V.int, SqL.of eD⟩, ?_⟩
        walk_at "st"
        refine ⟨_, _, rfl, rfl, wide_div (b := 5) (by omega) (by decide) (by omega) (by omega), ?_⟩
        walk_at "st"
        refine .inl ⟨_, rfl, ?_⟩
        walk_at "st"
        refine q_ixL (nDa _ s3) az ?_
        refine ⟨_, _, rfl, rfl, by omega, ?_⟩
        refine ⟨D, _, _, rfl, rfl, eD, few, ?_⟩
        exact fin _ _ _ _ (Int.emod_nonneg _ (by omega)) (Int.emod_lt_of_pos _ (by omega)) m0 (fun _ => by omega)
      · have hc' : ¬ c < 10 ^ 18 := by simpa using hc
        refine seq_dropT ?_
        refine q_app rfl eD ?_
        walk_at "st"
        refine .inl ⟨_, rfl, ?_⟩
        walk_at "st"
        refine q_ixL (nDa _ s3) az ?_
        refine ⟨_, _, rfl, rfl, by omega, ?_⟩
        refine ⟨D, _, _, rfl, rfl, eD, few, ?_⟩
        walk_at "st"
        refine q_ixL (nDa _ fun b o hb => by rw [upd_ne (ne_of_none hb nD)]; exact s3 _ _ hb) az ?_
        refine ⟨_, _, rfl, rfl, wide_div (b := 10) (by omega) (by omega) (by omega) (by omega), ?_⟩
        exact fin _ _ _ _ (Int.emod_nonneg _ (by omega)) (Int.emod_lt_of_pos _ (by omega)) (Int.ediv_nonneg n0 (by omega)) (fun h => absurd h hc')
    · obtain ⟨num, o1, o2, rfl, n0, nb, s3, ds, eD, ld, hd⟩ := hJ
      walk_at "st"
      exact q D ds H3 s3 nD eD (by simpa using ld) hd))) only [↓Hk.hold_s]
end
end T
namespace T
local macro_rules | `(tactic| walk_at "sm") => `(tactic| (repeat (first | (walk_at "s1"; try dsimp only [List.set_cons_zero, List.set_cons_succ, List.append_nil, List.cons_append, List.nil_append, cxOf]) | ((with_reducible refine iteT' ?hh ?_); (case hh => rfl)) | ((with_reducible refine iteF' ?hh ?_); (case hh => rfl)) | with_reducible refine q_eq rfl ?_ | with_reducible refine q_ne rfl ?_)))
section
variable {P : Program} {w : World} {K : PySem.W.Frag} {mg : Str → Option Value} {base : Heap}
def spSameT (K : PySem.W.Frag) (k : Nat) : Sp := fun vs H Q _ => ∃ (v1 v2 : V) (d : PyData), vs = [v1, v2] ∧ Dp K H v1 d ∧ Dp K H v2 d ∧ depN k d ∧ Q (.bl true) H
theorem ok_law_same (B : Bl mg) (d : DefAt K mg "_law_same" s__law_same ["_law_told", "_law_due"]) : ∀ k, Cal P w K mg base k "_law_same" ["_law_told", "_law_due"] (spSameT K k)
  | 0 => by
    obtain ⟨f, fd, F, g, b⟩ := d.ex
    exact ⟨f, fd, g, F.kp, b, ⟨fun vs H Q E h => by obtain ⟨v, _, d, _, _, _, h, _⟩ := h; exact h.elim, fun A outer s H args us vs Q E _ _ _ _ h => by obtain ⟨v, _, d, _, _, _, h, _⟩ := h; exact h.elim⟩⟩
  | k + 1 => by
    have c__law_same := ok_law_same B d k
    refine d.cal fun f fd F => ?_
    refine F.ok sc__law_same (fun vs H Q E h => ?_) (fun cdv A outer s H vs Q E hr h => ?_)
    · obtain ⟨v1, v2, d, rfl, _⟩ := h; rfl
    obtain ⟨v1, v2, d, rfl, h1, h2, hk, q⟩ := h
    refine ⟨_, (pss_cons (ps_if (PW.pt (pw_or (pt_val (pe_callB call_isi rfl B.isinstance hb_isinstance (pa_cons (pv 1) (pa_cons (pe_bltn (v := .ty "tuple") rfl B.tuple_ hb_tuple rfl) pa_nil)))) (pw_or1 (pt_val (pe_callB call_isi rfl B.isinstance hb_isinstance (pa_cons (pv 1) (pa_cons (pe_bltn (v := .ty "list") rfl B.list_ hb_list rfl) pa_nil))))))) (pss_cons (ps_if (PW.pt (pw_or (pt_cmpR op_ne (pe_callB call_isi rfl B.isinstance hb_isinstance (pa_cons (pv 0) (pa_cons (pe_bltn (v := .ty "tuple") rfl B.tuple_ hb_tuple rfl) pa_nil))) (pe_callB call_isi rfl B.isinstance hb_isinstance (pa_cons (pv 1) (pa_cons (pe_bltn (v := .ty "tuple") rfl B.tuple_ hb_tuple rfl) pa_nil))) (nomark _)) (pw_or1 (pt_cmpR op_ne (pe_callB call_isi rfl B.isinstance hb_isinstance (pa_cons (pv 0) (pa_cons (pe_bltn (v := .ty "list") rfl B.list_ hb_list rfl) pa_nil))) (pe_callB call_isi rfl B.isinstance hb_isinstance (pa_cons (pv 1) (pa_cons (pe_bltn (v := .ty "list") rfl B.list_ hb_list rfl) pa_nil))) (nomark _))))) (pss_one (ps_ret pe_bl)) pss_nil)
      (pss_cons (ps_if (pt_cmpR op_ne (pe_callB call_len_seq rfl B.len hb_len (pa_cons (pv 0) pa_nil)) (pe_callB call_len_seq rfl B.len hb_len (pa_cons (pv 1) pa_nil)) (nomark _)) (pss_one (ps_ret pe_bl)) pss_nil)
      (pss_cons (ps_for PassesOwn.never rfl (pi_range1 rfl B.range (pa_cons (pe_callB call_len_seq rfl B.len hb_len (pa_cons (pv 1) pa_nil)) pa_nil)) (pg_name (i := 2) sc__law_same.nd rfl (Or.inl rfl)) (pss_one (ps_if (pt_not (pt_val (pe_cal c__law_same (hr.mono (by omega)) rfl (pa_cons (pe_ix ix_any (pv 0) (pv 2) (fun _ _ => rfl)) (pa_cons (pe_ix ix_any (pv 1) (pv 2) (fun _ _ => rfl)) pa_nil))))) (pss_one (ps_ret pe_bl)) pss_nil)))
      (pss_one (ps_ret pe_bl))))) pss_nil)
      (pss_cons (ps_if (pt_cmp (pc_isN (pv 1))) (pss_one (ps_ret (pe_cmp (pc_isN (pv 0))))) pss_nil)
      (pss_cons (ps_if (pt_val (pe_callB call_isi rfl B.isinstance hb_isinstance (pa_cons (pv 1) (pa_cons (pe_bltn (v := .ty "str") rfl B.str_ hb_str rfl) pa_nil)))) (pss_one (ps_ret (pe_and (pe_callB call_isi rfl B.isinstance hb_isinstance (pa_cons (pv 0) (pa_cons (pe_bltn (v := .ty "str") rfl B.str_ hb_str rfl) pa_nil))) (pe_one (pe_cmpR op_eq (pv 0) (pv 1) (nomark _)))))) pss_nil)
      (pss_cons (ps_if (PW.pt (pw_or (pt_val (pe_callB call_isi rfl B.isinstance hb_isinstance (pa_cons (pv 1) (pa_cons (pe_bltn (v := .ty "bool") rfl B.bool_ hb_bool rfl) pa_nil)))) (pw_or1 (pt_val (pe_callB call_isi rfl B.isinstance hb_isinstance (pa_cons (pv 0) (pa_cons (pe_bltn (v := .ty "bool") rfl B.bool_ hb_bool rfl) pa_nil))))))) (pss_one (ps_ret (pe_and (pe_callB call_isi rfl B.isinstance hb_isinstance (pa_cons (pv 1) (pa_cons (pe_bltn (v := .ty "bool") rfl B.bool_ hb_bool rfl) pa_nil))) (pe_and (pe_callB call_isi rfl B.isinstance hb_isinstance (pa_cons (pv 0) (pa_cons (pe_bltn (v := .ty "bool") rfl B.bool_ hb_bool rfl) pa_nil))) (pe_one (pe_cmpR op_eq (pv 0) (pv 1) (nomark _))))))) pss_nil)
      (pss_one (ps_ret (pe_and (pe_callB call_isi rfl B.isinstance hb_isinstance (pa_cons (pv 0) (pa_cons (pe_bltn (v := .ty "int") rfl B.int_ hb_int rfl) pa_nil))) (pe_one (pe_cmpR op_eq (pv 0) (pv 1) (nomark _)))))))))), ?_⟩
    walk_at "st0"
    have a1 := h1
    have a2 := h2
    cases h2 with
    | non => cases h1; walk_at "sm"; exact q
    | bl b => cases h1; walk_at "sm"; rw [decide_eq_true rfl]; exact q
    | int b => cases h1; walk_at "sm"; rw [decide_eq_true rfl]; exact q
    | str b => cases h1; walk_at "sm"; rw [decide_eq_true rfl]; exact q
    | @lst p ys es hs2 ha2 =>
      cases h1 with
      | @lst r xs ds hs1 ha1 =>
        walk_at "sm"
        have la := ha1.length
        have lb := ha2.length
        have few : es.length ≤ 1000 ∧ ∀ e ∈ es, depN k e := by
          rcases hk with h | ⟨ds', e, l, hall⟩
          · exact h.elim
          · rcases e with e | e
            all_goals first | (cases e; done) | (cases e; exact ⟨l, hall⟩)
        obtain ⟨l1000, hall⟩ := few
        refine q_lenR (.inl hs1) ?_
        walk_at "st"
        refine q_lenR (.inl hs2) ?_
        walk_at "st"
        refine q_ne rfl ?_
        walk_at "st"
        have e0 : (V.int (xs.length : Int)) = V.int (ys.length : Int) := by rw [la, lb]
        rw [decide_eq_true e0]
        refine iteF ?_
        walk_at "st"
        refine q_forRA ?_
        walk_at "st"
        refine q_lenR (.inl hs2) ?_
        walk_at "st"
        refine ⟨_, rfl, by omega, by omega, forR (fun i σ H2 => ∃ o, σ = [some (.ref r), some (.ref p), o] ∧ H2 = H) ⟨_, rfl, rfl⟩ (fun i σ H2 lt hI => ?_) (fun σ H2 hI => ?_)⟩
        · obtain ⟨o, rfl, rfl⟩ := hI
          replace lt : i < ys.length := by simpa using lt
          have ex : xs[i]? = some (xs[i]'(by omega)) := List.getElem?_eq_getElem (by omega)
          have ey : ys[i]? = some (ys[i]'(by omega)) := List.getElem?_eq_getElem (by omega)
          generalize xs[i]'(by omega) = x at ex
          generalize ys[i]'(by omega) = y at ey
          obtain ⟨dx, edx, hx⟩ := ha1.get' ex
          obtain ⟨dy, edy, hy⟩ := ha2.get' ey
          rw [edx] at edy
          cases edy
          have ax : atI xs ((0 : Int) + (i : Int)) = some x := by rw [Int.zero_add]; exact atI_nat ex
          have ay : atI ys ((0 : Int) + (i : Int)) = some y := by rw [Int.zero_add]; exact atI_nat ey
          refine q_gname ?_
          walk_at "st"
          refine q_ixA (xs := xs) ⟨r, rfl, .inl hs1⟩ ax ?_
          walk_at "st"
          refine q_ixA (xs := ys) ⟨p, rfl, .inl hs2⟩ ay ?_
          walk_at "st"
          refine ⟨x, y, dx, rfl, hx, hy, hall dx (List.mem_of_getElem? edx), ?_⟩
          walk_at "st"
          refine iteF ?_
          walk_at "st"
          exact ⟨_, rfl, rfl⟩
        · obtain ⟨o, rfl, rfl⟩ := hI
          walk_at "st"
          exact q
    | @tup p ys es hs2 ha2 =>
      cases h1 with
      | @tup r xs ds hs1 ha1 =>
        walk_at "sm"
        have la := ha1.length
        have lb := ha2.length
        have few : es.length ≤ 1000 ∧ ∀ e ∈ es, depN k e := by
          rcases hk with h | ⟨ds', e, l, hall⟩
          · exact h.elim
          · rcases e with e | e
            all_goals first | (cases e; done) | (cases e; exact ⟨l, hall⟩)
        obtain ⟨l1000, hall⟩ := few
        refine q_lenR (.inr hs1) ?_
        walk_at "st"
        refine q_lenR (.inr hs2) ?_
        walk_at "st"
        refine q_ne rfl ?_
        walk_at "st"
        have e0 : (V.int (xs.length : Int)) = V.int (ys.length : Int) := by rw [la, lb]
        rw [decide_eq_true e0]
        refine iteF ?_
        walk_at "st"
        refine q_forRA ?_
        walk_at "st"
        refine q_lenR (.inr hs2) ?_
        walk_at "st"
        refine ⟨_, rfl, by omega, by omega, forR (fun i σ H2 => ∃ o, σ = [some (.ref r), some (.ref p), o] ∧ H2 = H) ⟨_, rfl, rfl⟩ (fun i σ H2 lt hI => ?_) (fun σ H2 hI => ?_)⟩
        · obtain ⟨o, rfl, rfl⟩ := hI
          replace lt : i < ys.length := by simpa using lt
          have ex : xs[i]? = some (xs[i]'(by omega)) := List.getElem?_eq_getElem (by omega)
          have ey : ys[i]? = some (ys[i]'(by omega)) := List.getElem?_eq_getElem (by omega)
          generalize xs[i]'(by omega) = x at ex
          generalize ys[i]'(by omega) = y at ey
          obtain ⟨dx, edx, hx⟩ := ha1.get' ex
          obtain ⟨dy, edy, hy⟩ := ha2.get' ey
          rw [edx] at edy
          cases edy
          have ax : atI xs ((0 : Int) + (i : Int)) = some x := by rw [Int.zero_add]; exact atI_nat ex
          have ay : atI ys ((0 : Int) + (i : Int)) = some y := by rw [Int.zero_add]; exact atI_nat ey
          refine q_gname ?_
          walk_at "st"
          refine q_ixA (xs := xs) ⟨r, rfl, .inr hs1⟩ ax ?_
          walk_at "st"
          refine q_ixA (xs := ys) ⟨p, rfl, .inr hs2⟩ ay ?_
          walk_at "st"
          refine ⟨x, y, dx, rfl, hx, hy, hall dx (List.mem_of_getElem? edx), ?_⟩
          walk_at "st"
          refine iteF ?_
          walk_at "st"
          exact ⟨_, rfl, rfl⟩
        · obtain ⟨o, rfl, rfl⟩ := hI
          walk_at "st"
          exact q
end
end T
namespace T
section
variable {P : Program} {w : World} {K : PySem.W.Frag} {mg : Str → Option Value} {base : Heap} {C : Addr}
/-- a method called with defaults that fill up -/
structure MDCal (P : Program) (w : World) (K : PySem.W.Frag) (mg : Str → Option Value) (base : Heap) (k : Nat) (C : Addr) (m : Str) (ps : List Str) (dvs : List V) (sp : Sp) : Prop where
  cls : Cls K C
  ex : ∃ f fd ds, Meth K C m f ∧ Vals dvs ds ∧ Binds K fd ps ds ∧ FnOk P w K mg base CX0 k f fd ps sp
theorem pe_mdcal0 {X : Cx} {k : Nat} {m : Str} {ps : List Str} {dvs : List V} {sp : Sp} {pos apos : Pos} {o : Expr} {ta : TE} {C : Addr} {pl : Sem Bool} (c : MDCal X.prog X.w X.K X.mg X.base k C m ps dvs sp) (hr : Room k X.A) (ho : PE X o ta)
    (ht : eval (.Call (.Attribute o m apos) [] [] pos) X.env = (do
      let ov ← eval o X.env; standAt apos.atName
      let (f, first) ← holding [ov] (getMethod ov m pl); callWith pos f first (backTo pos (starEach [] X.env)) (backToKw pos (keywordEach [] X.env))) := by rfl) : PE X (.Call (.Attribute o m apos) [] [] pos) (tMeth C m sp dvs E0 ta tNil) := by
  obtain ⟨cl, f, fd, ds, mt, r, b, F⟩ := c
  exact pe_meth0 ho cl mt F hr b r pass0 ht
theorem q_methd {ta : TE} {t : TA} {C : Addr} {m : Str} {sp : Sp} {dvs : List V} {σ : L2.St} {H : Hp} {Q : VK} (h : ta σ H fun x H1 => ∃ a dx fs, x = .ref a ∧ H1 a = some (.ins C dx fs) ∧ fs.lookup m = none ∧ t σ H1 fun vs H2 => sp (x :: (vs ++ dvs)) H2 Q E0) : tMeth C m sp dvs E0 ta t σ H Q := h
end
end T
namespace T
def lvSt (m : Nat) (sts as : List PyData) (runs : PyData) (sp bz : Int) (turn : PyData) : KD
  | .statuses => .tuple sts
  | .answers => .tuple as
  | .owned => .tuple (List.replicate m (.tuple []))
  | .taken => .tuple ((List.replicate m (0 : Int)).map .int)
  | .values_now => .tuple []
  | .queues => .tuple []
  | .lock_rows => .tuple []
  | .cached => .tuple [.none, .none]
  | .place => .int 0
  | .runs => runs
  | .spent => .int sp
  | .busy => .int bz
  | .phase => .int 0
  | .turn => turn
  | .extra => .int 0
structure LevB (b : BD) (m : Nat) (lv : List Int) (c0 c1 c2 span : Int) (pd : Bool) : Prop where
  ok : BOk b
  tasks : (dl b.tasks).length = m
  m2 : 2 ≤ m
  m4 : m ≤ 4
  lev : (dl b.tasks).map levelD = lv
  pages : b.pages = .list []
  ports : b.ports = .list []
  lines : b.lines = .list []
  locks : b.locks = .int 0
  frames : b.frames = .int 0
  disk : b.disk = .int 0
  rights : b.rights = .list (List.replicate m (.list []))
  costs : b.costs = .tuple [.int c0, .int c1, .int c2]
  c0p : 1 ≤ c0
  c1p : 0 ≤ c1
  c2p : 0 ≤ c2
  plan : b.plan = .tuple [.str "levels", .int span]
  outside : b.outside = .none
  wipe : b.wipe = .bool false
  pad : b.pad = .bool pd
  lend : b.lend = .bool false
/-- how a task stands at a time -/
def stAt (t w : Int) : PyData := if t < w then asleepD (w - t) else readyD
def anAt (t w : Int) (a : PyData) : PyData := if w = t then yesD else a
theorem stAt_nap (t w : Int) : napOk (stAt t w) := by
  unfold stAt
  split
  · exact .inr ⟨_, rfl⟩
  · exact .inl ⟨"ready", [], rfl, by decide +kernel⟩
theorem isNap_asleep (n : Int) : isNap (asleepD n) = true := by
  show decide (("asleep" : Str) = "asleep") = true
  exact decide_eq_true rfl
theorem isNap_ready : isNap readyD = false := by decide +kernel
theorem slept_stAt (t w : Int) : sleptS (stAt t w) = stAt (t + 1) w := by
  unfold stAt sleptS
  by_cases h : t < w
  · rw [if_pos h, isNap_asleep, if_pos rfl]
    show (if 1 < w - t then asleepD (w - t - 1) else readyD) = _
    by_cases h2 : t + 1 < w
    · rw [if_pos h2, if_pos (by omega), show w - t - 1 = w - (t + 1) by omega]
    · rw [if_neg h2, if_neg (by omega)]
  · rw [if_neg h, isNap_ready, if_neg (by simp), if_neg (by omega)]
theorem sleptA_stAt (t w : Int) (a : PyData) (ha : t + 1 < w → a = .none) : sleptA (stAt t w) a = anAt (t + 1) w a := by
  unfold stAt sleptA anAt
  by_cases h : t < w
  · rw [if_pos h, isNap_asleep, if_pos rfl]
    show (if 1 < w - t then PyData.none else yesD) = _
    by_cases h2 : t + 1 < w
    · rw [if_pos (by omega), if_neg (by omega), ha h2]
    · rw [if_neg (by omega), if_pos (by omega)]
  · rw [if_neg h, isNap_ready, if_neg (by simp), if_neg (by omega)]
theorem stAt_shaped (t w : Int) : SeqAt.shaped (stAt t w) = true := by
  unfold stAt
  split
  · have h : SeqAt.shaped (asleepD 0) = true := by decide +kernel
    exact h
  · decide +kernel
theorem eqv_stAt (t w : Int) : PyData.eqv (stAt t w) readyD = decide (w ≤ t) := by
  unfold stAt
  by_cases h : t < w
  · rw [if_pos h, decide_eq_false (by omega)]; rfl
  · rw [if_neg h, decide_eq_true (by omega)]; decide +kernel
/-- the ready ones of the greatest level, by the times they wake -/
def rdyL (ws : List Int) (t : Int) : List Nat := (List.range ws.length).filter fun i => decide (ws.getD i 0 ≤ t)
def bestL (lv ws : List Int) (t : Int) : List Nat := (rdyL ws t).filter fun i => (rdyL ws t).all fun j => decide (lv.getD j 0 ≤ lv.getD i 0)
theorem ready_st (ws : List Int) (t : Int) : readyL (ws.map (stAt t)) = rdyL ws t := by
  unfold readyL rdyL
  rw [List.length_map]
  refine List.filter_congr fun i hi => ?_
  rw [List.mem_range] at hi
  rw [List.getD_eq_getElem?_getD, List.getElem?_map, List.getD_eq_getElem?_getD, List.getElem?_eq_getElem hi]
  exact eqv_stAt t _
theorem LevB.levelAt {b : BD} {m : Nat} {lv : List Int} {c0 c1 c2 span : Int} {pd : Bool} (h : LevB b m lv c0 c1 c2 span pd) (i : Nat) (hi : i < m) : T.levelAt b i = lv.getD i 0 := by
  unfold T.levelAt
  have hl : i < (dl b.tasks).length := by rw [h.tasks]; exact hi
  rw [← h.lev, List.getD_eq_getElem?_getD, List.getD_eq_getElem?_getD, List.getElem?_map, List.getElem?_eq_getElem hl]
  rfl
theorem rdy_lt {ws : List Int} {t : Int} {i : Nat} (h : i ∈ rdyL ws t) : i < ws.length := by
  unfold rdyL at h; rw [List.mem_filter, List.mem_range] at h; exact h.1
theorem LevB.cand {b : BD} {m : Nat} {lv : List Int} {c0 c1 c2 span : Int} {pd : Bool} (h : LevB b m lv c0 c1 c2 span pd) {ws : List Int} (lw : ws.length = m) (t : Int) : candL b (ws.map (stAt t)) = bestL lv ws t := by
  unfold candL bestL
  rw [ready_st]
  refine List.filter_congr fun i hi => ?_
  have hi' := rdy_lt hi
  rw [h.levelAt i (by omega), Bool.eq_iff_iff, List.all_eq_true, List.all_eq_true]
  constructor
  · intro q j hj
    have hj' := rdy_lt hj
    have z := q j hj
    rw [h.levelAt j (by omega)] at z
    exact z
  · intro q j hj
    have hj' := rdy_lt hj
    rw [h.levelAt j (by omega)]
    exact q j hj
section
variable {b : BD} {m : Nat} {lv : List Int} {c0 c1 c2 span : Int} {pd : Bool} {ws : List Int} {as : List PyData} {runs turn : PyData} {sp bz t : Int} {n : Nat}
theorem LevB.has (h : LevB b m lv c0 c1 c2 span pd) : planHas b.plan = false := by
  rw [h.plan]
  show decide (("levels" : Str) = "slots") = false
  exact decide_eq_false (by decide +kernel)
theorem LevB.spanE (h : LevB b m lv c0 c1 c2 span pd) : planSpan b.plan = span := by
  rw [h.plan]; rfl
theorem LevB.great (h : LevB b m lv c0 c1 c2 span pd) : greatOf b = c0 + c1 := by
  unfold greatOf
  have := h.c1p
  rw [h.costs, h.disk]
  show c0 + (if (0 : Int) - 1 > c1 then (0 : Int) - 1 else c1) = _
  rw [if_neg (by omega)]
theorem LevB.period (h : LevB b m lv c0 c1 c2 span pd) : periodOf b = 1 := by
  unfold periodOf
  have e : ticksOfB b = [] := by
    unfold ticksOfB
    rw [h.plan]
    rfl
  rw [e, h.outside]
  rfl
def decB (bz : Int) : Int := if bz > 0 then bz - 1 else bz
/-- the kernel's data behind sleep and one busy tick less -/
theorem sleep_lv (lw : ws.length = m) (la : as.length = m) (hn : ∀ (i : Nat) w a, ws[i]? = some w → as[i]? = some a → t + 1 < w → a = .none) :
    decBusy (sleepD (lvSt m (ws.map (stAt t)) as runs sp bz .none)) = lvSt m (ws.map (stAt (t + 1))) (List.zipWith (anAt (t + 1)) ws as) runs sp (decB bz) .none := by
 refine Hk.hold ?_
 simp (disch := with_unfolding_all (
 exact Hk.disch (by
  have e1 : (ws.map (stAt t)).map sleptS = ws.map (stAt (t + 1)) := by
    rw [List.map_map]
    exact List.map_congr_left fun w _ => slept_stAt t w
  have e2 : List.zipWith sleptA (ws.map (stAt t)) as = List.zipWith (anAt (t + 1)) ws as := by
    apply List.ext_getElem?
    intro i
    rw [List.getElem?_zipWith, List.getElem?_zipWith, List.getElem?_map]
    cases hw : ws[i]? with
    | none => rfl
    | some w =>
      cases ha : as[i]? with
      | none => rfl
      | some a =>
        show some (sleptA (stAt t w) a) = some _
        rw [sleptA_stAt t w a (hn i w a hw ha)]
  have e3 : sleepD (lvSt m (ws.map (stAt t)) as runs sp bz .none) = lvSt m (ws.map (stAt (t + 1))) (List.zipWith (anAt (t + 1)) ws as) runs sp bz .none := by
    unfold sleepD
    show fset (fset (lvSt m (ws.map (stAt t)) as runs sp bz .none) KF.statuses (.tuple ((ws.map (stAt t)).map sleptS))) KF.answers (.tuple (List.zipWith sleptA (ws.map (stAt t)) as)) = _
    rw [e1, e2]
    funext f
    cases f <;> rfl
  rw [e3]
  unfold decBusy decB
  show (if bz > 0 then _ else _) = _
  by_cases h : bz > 0
  · rw [if_pos h, if_pos h]
    funext f
    cases f <;> rfl
  · rw [if_neg h, if_neg h]))) only [↓Hk.hold_s]
/-- a turn: who runs behind it, what is spent, busy ticks, whose turn it is -/
structure TN where
  runs : PyData
  sp : Int
  bz : Int
  turn : PyData
def goP (l : List Nat) (runs : PyData) (sp span : Int) : Bool := inRun l runs && decide (sp < span)
def turnP (l : List Nat) (runs : PyData) (sp c2 span : Int) : TN :=
  if l = [] then ⟨.none, 0, 0, .none⟩
  else if goP l runs sp span then ⟨runs, sp, 0, runs⟩
  else if runOf runs = some (followN l runs : Int) then ⟨runs, 0, 0, .int (followN l runs)⟩
  else ⟨.int (followN l runs), 0, c2, if c2 = 0 then .int (followN l runs) else .none⟩
def opnP (l : List Nat) (runs : PyData) (sp bz c2 span : Int) : TN := if bz = 0 then turnP l runs sp c2 span else ⟨runs, sp, bz, .none⟩
theorem LevB.opened (h : LevB b m lv c0 c1 c2 span pd) (lw : ws.length = m) (la : as.length = m) (hn : ∀ (i : Nat) w a, ws[i]? = some w → as[i]? = some a → t + 1 < w → a = .none) :
    openD (lvSt m (ws.map (stAt t)) as runs sp bz .none) b n = lvSt m (ws.map (stAt (t + 1))) (List.zipWith (anAt (t + 1)) ws as) (opnP (bestL lv ws (t + 1)) runs sp (decB bz) c2 span).runs (opnP (bestL lv ws (t + 1)) runs sp (decB bz) c2 span).sp (opnP (bestL lv ws (t + 1)) runs sp (decB bz) c2 span).bz (opnP (bestL lv ws (t + 1)) runs sp (decB bz) c2 span).turn := by
 refine Hk.hold ?_
 simp (disch := with_unfolding_all (
 exact Hk.disch (by
  unfold openD
  rw [sleep_lv lw la hn]
  show (if decB bz = 0 then _ else _) = _
  unfold opnP
  by_cases h0 : decB bz = 0
  · rw [if_pos h0, if_pos h0, h0]
    have eL : levL (lvSt m (ws.map (stAt (t + 1))) (List.zipWith (anAt (t + 1)) ws as) runs sp 0 .none) b = bestL lv ws (t + 1) := h.cand lw _
    have ec : (cost3 b.costs).2.2 = c2 := by rw [h.costs]; rfl
    generalize bestL lv ws (t + 1) = L at eL
    have eg : levGo (lvSt m (ws.map (stAt (t + 1))) (List.zipWith (anAt (t + 1)) ws as) runs sp 0 .none) b = goP L runs sp span := by
      unfold levGo goP
      rw [eL, h.spanE]
      rfl
    have en : levNext (lvSt m (ws.map (stAt (t + 1))) (List.zipWith (anAt (t + 1)) ws as) runs sp 0 .none) b = followN L runs := by
      unfold levNext
      rw [eL]
      rfl
    unfold levStep turnP
    rw [eL, eg, en, ec]
    by_cases hl : L = []
    · rw [if_pos hl, if_pos hl]
      funext f
      cases f <;> rfl
    · rw [if_neg hl, if_neg hl]
      by_cases hg : goP L runs sp span = true
      · rw [if_pos hg, if_pos hg]
        funext f
        cases f <;> rfl
      · rw [if_neg hg, if_neg hg]
        by_cases hr : runOf runs = some (followN L runs : Int)
        · have hr' : runOf (lvSt m (ws.map (stAt (t + 1))) (List.zipWith (anAt (t + 1)) ws as) runs sp 0 .none .runs) = some (followN L runs : Int) := hr
          rw [if_pos hr, if_pos hr']
          funext f
          cases f <;> rfl
        · have hr' : ¬ runOf (lvSt m (ws.map (stAt (t + 1))) (List.zipWith (anAt (t + 1)) ws as) runs sp 0 .none .runs) = some (followN L runs : Int) := hr
          rw [if_neg hr, if_neg hr']
          funext f
          cases f <;> rfl
  · rw [if_neg h0, if_neg h0]))) only [↓Hk.hold_s]
end
end T
namespace T
section
variable {b : BD} {m : Nat} {lv : List Int} {c0 c1 c2 span : Int} {pd : Bool} {ws : List Int} {as : List PyData} {runs turn : PyData} {sp bz t : Int} {n : Nat}
variable {K : PySem.W.Frag} {CR CK dE fE : Addr} {S : Addr → Option Sp}
theorem followN_mem {l : List Nat} (h : l ≠ []) (runs : PyData) : followN l runs ∈ l := by
  obtain ⟨a, r, rfl⟩ : ∃ a r, l = a :: r := by cases l with | nil => exact absurd rfl h | cons a r => exact ⟨a, r, rfl⟩
  unfold followN
  split
  · rename_i i
    cases e : (a :: r).filter (fun (t : Nat) => decide (i < (t : Int))) with
    | nil => exact List.mem_cons_self
    | cons x y =>
      have : x ∈ (a :: r).filter (fun (t : Nat) => decide (i < (t : Int))) := by rw [e]; exact List.mem_cons_self
      exact (List.mem_filter.mp this).1
  · exact List.mem_cons_self
theorem turn_mem {l : List Nat} {bz : Int} (h : (opnP l runs sp bz c2 span).turn = .int n) : bz = 0 ∧ n ∈ l := by
 refine Hk.hold ?_
 simp (disch := with_unfolding_all (
 exact Hk.disch (by
  unfold opnP at h
  split at h
  · rename_i h0
    refine ⟨h0, ?_⟩
    unfold turnP at h
    split at h
    · cases h
    · rename_i hl
      split at h
      · rename_i hg
        unfold goP at hg
        rw [Bool.and_eq_true] at hg
        have hr : runs = .int n := h
        subst hr
        have z := hg.1
        unfold inRun at z
        rw [List.any_eq_true] at z
        obtain ⟨x, hx, e⟩ := z
        have := of_decide_eq_true e
        have : x = n := by omega
        subst this
        exact hx
      · split at h
        · have e : (PyData.int (followN l runs : Nat)) = .int n := h
          have e2 := followN_mem hl runs
          injection e with e
          have : followN l runs = n := by omega
          rw [← this]; exact e2
        · have e : (if c2 = 0 then PyData.int (followN l runs : Nat) else .none) = .int n := h
          split at e
          · have e2 := followN_mem hl runs
            injection e with e
            have : followN l runs = n := by omega
            rw [← this]; exact e2
          · cases e
  · cases h))) only [↓Hk.hold_s]
theorem opn_runs {l : List Nat} {bz : Int} (h : runs = .none ∨ ∃ i, runs = .int i) : (opnP l runs sp bz c2 span).runs = .none ∨ ∃ i, (opnP l runs sp bz c2 span).runs = .int i := by
  unfold opnP turnP
  split
  · split
    · exact .inl rfl
    · split
      · exact h
      · split
        · exact h
        · exact .inr ⟨_, rfl⟩
  · exact h
theorem best_rdy {i : Nat} (h : i ∈ bestL lv ws t) : ∃ w, ws[i]? = some w ∧ w ≤ t := by
  unfold bestL at h
  have h1 := (List.mem_filter.mp h).1
  have lt := rdy_lt h1
  unfold rdyL at h1
  rw [List.mem_filter] at h1
  have e := of_decide_eq_true h1.2
  rw [List.getD_eq_getElem?_getD, List.getElem?_eq_getElem lt] at e
  exact ⟨_, List.getElem?_eq_getElem lt, e⟩
theorem LevB.openOk (h : LevB b m lv c0 c1 c2 span pd) (lw : ws.length = m) (la : as.length = m) (hn : ∀ (i : Nat) w a, ws[i]? = some w → as[i]? = some a → t + 1 < w → a = .none) (hr : runs = .none ∨ ∃ i, runs = .int i) :
    OpenOk b (lvSt m (ws.map (stAt t)) as runs sp bz .none) 0 (ws.map (stAt t)) := by
 refine Hk.hold ?_
 simp (disch := with_unfolding_all (
 exact Hk.disch (by
  have h4 := h.m4
  refine ⟨⟨as, rfl, rfl, by rw [List.length_map]; omega, by rw [List.length_map]; omega, fun d hd => ?_⟩, ?_, rfl, ⟨bz, rfl⟩, rfl, rfl⟩
  · obtain ⟨w, _, rfl⟩ := List.mem_map.mp hd
    exact stAt_nap t w
  · rw [sleep_lv lw la hn]
    have e1 : (ws.map (stAt t)).map sleptS = ws.map (stAt (t + 1)) := by
      rw [List.map_map]
      exact List.map_congr_left fun w _ => slept_stAt t w
    rw [e1]
    refine ⟨h.wipe, h.has, rfl, ⟨h.lend, by rw [List.length_map, h.tasks]; exact lw, by rw [List.length_map]; omega, fun d hd => ?_⟩, hr, ⟨_, rfl⟩⟩
    obtain ⟨w, _, rfl⟩ := List.mem_map.mp hd
    exact stAt_shaped _ w))) only [↓Hk.hold_s]
theorem base_lv {sts : List PyData} : baseT (lvSt m sts as runs sp bz turn) = lvSt m sts as runs sp bz turn := by
  funext f
  cases f <;> rfl
theorem clear_lv {sts : List PyData} : clearAns (lvSt m sts as runs sp bz turn) n = lvSt m sts (as.set n .none) runs sp bz turn := by
  funext f
  cases f <;> rfl
def payI (c0 c1 : Int) (pd : Bool) : Int := if pd then c0 + c1 else c0
theorem LevB.after (h : LevB b m lv c0 c1 c2 span pd) {sts : List PyData} {a : PyData} (ha : a = .none ∨ ∃ z, a = .str z) (hna : as[n]? = some .none) : afterCall (lvSt m sts as runs sp bz turn) b n a = lvSt m sts (as.set n a) runs (sp + payI c0 c1 pd) (payI c0 c1 pd) turn := by
 refine Hk.hold ?_
 simp (disch := with_unfolding_all (
 exact Hk.disch (by
  unfold afterCall
  have eb : ∀ D : KD, D .extra = .int 0 → busyOf D b = payI c0 c1 pd := fun D e => by
    unfold busyOf payI
    rw [h.pad, h.great, h.costs, e]
    cases pd with
    | true => rfl
    | false => show c0 + 0 = c0; omega
  rw [if_neg (by rw [h.has]; decide), eb _ rfl]
  rcases ha with rfl | ⟨z, rfl⟩
  · funext f
    cases f with
    | answers =>
      show PyData.tuple as = .tuple (as.set n .none)
      have e : as.set n .none = as := by
        apply List.ext_getElem?
        intro i
        rw [List.getElem?_set]
        by_cases c : n = i
        · subst c; rw [if_pos rfl, hna, if_pos (List.getElem?_eq_some_iff.mp hna).1]
        · rw [if_neg c]
      rw [e]
    | _ => rfl
  · funext f
    cases f <;> rfl))) only [↓Hk.hold_s]
theorem LevB.next (h : LevB b m lv c0 c1 c2 span pd) {sts : List PyData} : base0 (nextPhase (lvSt m sts as runs sp bz turn) b 0) = lvSt m sts as runs sp bz .none := by
  unfold nextPhase
  rw [h.period]
  funext f
  cases f <;> rfl
theorem LevB.tick (h : LevB b m lv c0 c1 c2 span pd) (lw : ws.length = m) (la : as.length = m) (hn : ∀ (i : Nat) w a, ws[i]? = some w → as[i]? = some a → t + 1 < w → a = .none) (hr : runs = .none ∨ ∃ i, runs = .int i)
    {o : TN} (ho : opnP (bestL lv ws (t + 1)) runs sp (decB bz) c2 span = o) (ht : o.turn = .int n) (lt : n < m) {as1 sts2 : List PyData} (e1a : List.zipWith (anAt (t + 1)) ws as = as1) {a : PyData}
    {z : Str} {rest : List PyData} {ks : List Str} {pre : KD → BD → Nat → PyData → Prop} {post : KD → BD → Nat → PyData → KD} {ans : KD → BD → Nat → PyData → PyData}
    (e1 : PySem.W.nsIn K dE z = some (some (.ref fE))) (e2 : S fE = some (spEff K CR CK pre post ans)) (hc : dCall (cOf b) (.tuple (.str z :: rest)) = true) (hk : cTab.lookup z = some ks) (lk : ks.length ≤ 100) (gk : ∀ k ∈ ks, good1 (cOf b) k)
    (hpre : pre (lvSt m (ws.map (stAt (t + 1))) (as1.set n .none) o.runs o.sp o.bz (.int n)) b n (.tuple (.str z :: rest)))
    (hpost : post (lvSt m (ws.map (stAt (t + 1))) (as1.set n .none) o.runs o.sp o.bz (.int n)) b n (.tuple (.str z :: rest)) = lvSt m sts2 (as1.set n .none) o.runs o.sp o.bz (.int n))
    (hans : ans (lvSt m (ws.map (stAt (t + 1))) (as1.set n .none) o.runs o.sp o.bz (.int n)) b n (.tuple (.str z :: rest)) = a) (ac : a = .none ∨ ∃ z, a = .str z) :
    TickOk K CR CK dE S (lvSt m (ws.map (stAt t)) as runs sp bz .none) b n 0 (ws.map (stAt t)) (.tuple (.str z :: rest)) pre post ans ∧ behind (lvSt m (ws.map (stAt t)) as runs sp bz .none) b n 0 (.tuple (.str z :: rest)) post ans = lvSt m sts2 (as1.set n a) o.runs (o.sp + payI c0 c1 pd) (payI c0 c1 pd) .none := by
 refine Hk.hold ?_
 simp (disch := with_unfolding_all (
 exact Hk.disch (by
  have h4 := h.m4
  have l1 : as1.length = m := by rw [← e1a, List.length_zipWith]; omega
  have eo := h.opened (n := 0) (runs := runs) (sp := sp) (bz := bz) lw la hn
  rw [e1a, ho, ht] at eo
  have hna : (as1.set n .none)[n]? = some .none := by rw [List.getElem?_set, if_pos rfl, if_pos (by omega)]
  have l2 : (as1.set n PyData.none).length = m := by rw [List.length_set]; exact l1
  refine ⟨⟨h.openOk lw la hn hr, by rw [eo]; rfl, ⟨as1, by rw [eo]; rfl, by omega⟩, ⟨ks, ⟨_, rfl⟩, hk, lk, gk, hc⟩, ?_, ?_⟩, ?_⟩
  · rw [eo, base_lv]
    refine ⟨rfl, ⟨as1, rfl, by omega, by omega⟩, ⟨z, rest, fE, rfl, e1, e2⟩, ?_, ?_, ?_, ⟨pd, h.pad⟩⟩
    · rw [clear_lv]; exact hpre
    · rw [clear_lv, hpost]
      exact ⟨_, 0, _, rfl, by omega, by omega, rfl, rfl⟩
    · rw [clear_lv, hans]
      exact ac
  · rw [eo, base_lv, clear_lv, hpost, hans, h.after ac hna]
    rfl
  · unfold behind
    rw [eo, base_lv, clear_lv, hpost, hans, h.after ac hna, h.next, List.set_set]))) only [↓Hk.hold_s]
theorem LevB.idle (h : LevB b m lv c0 c1 c2 span pd) (lw : ws.length = m) (la : as.length = m) (hn : ∀ (i : Nat) w a, ws[i]? = some w → as[i]? = some a → t + 1 < w → a = .none)
    {o : TN} (ho : opnP (bestL lv ws (t + 1)) runs sp (decB bz) c2 span = o) (ht : o.turn = .none) {as1 : List PyData} (e1a : List.zipWith (anAt (t + 1)) ws as = as1) :
    openD (lvSt m (ws.map (stAt t)) as runs sp bz .none) b 0 .turn = .none ∧ openD (lvSt m (ws.map (stAt t)) as runs sp bz .none) b 0 .answers = .tuple as1 ∧ openD (lvSt m (ws.map (stAt t)) as runs sp bz .none) b 0 .phase = .int 0 ∧
      T.idle (lvSt m (ws.map (stAt t)) as runs sp bz .none) b 0 = lvSt m (ws.map (stAt (t + 1))) as1 o.runs o.sp o.bz .none := by
  have eo := h.opened (n := 0) (runs := runs) (sp := sp) (bz := bz) lw la hn
  rw [e1a, ho, ht] at eo
  unfold T.idle
  rw [eo, h.next]
  exact ⟨rfl, rfl, rfl, rfl⟩
theorem LevB.due (h : LevB b m lv c0 c1 c2 span pd) (lw : ws.length = m) (la : as.length = m) (hn : ∀ (i : Nat) w a, ws[i]? = some w → as[i]? = some a → t + 1 < w → a = .none)
    {o : TN} (ho : opnP (bestL lv ws (t + 1)) runs sp (decB bz) c2 span = o) : openD (lvSt m (ws.map (stAt t)) as runs sp bz .none) b 0 .turn = o.turn := by
  have eo := h.opened (n := 0) (runs := runs) (sp := sp) (bz := bz) lw la hn
  rw [ho] at eo
  rw [eo]
  rfl
end
end T
namespace T
section
variable {b : BD} {m : Nat} {lv : List Int} {c0 c1 c2 span : Int} {pd : Bool} {ws : List Int} {as : List PyData} {runs turn : PyData} {sp bz t : Int} {n : Nat}
variable {K : PySem.W.Frag} {CR CK dE fE : Addr} {S : Addr → Option Sp}
def wordD (z : Str) : PyData := .tuple [.str z]
theorem LevB.cnt (h : LevB b m lv c0 c1 c2 span pd) : cOf b = cntOf m 0 0 0 0 := by
  obtain ⟨tds, et, _⟩ := okTasksL h.ok.tasks
  have e := h.tasks
  rw [et] at e
  unfold cOf
  rw [et, h.pages, h.ports, h.locks, h.disk]
  have e' : tds.length = m := e
  show cntOf tds.length 0 0 0 0 = _
  rw [e']
theorem m_in4 (h2 : 2 ≤ m) (h4 : m ≤ 4) : m ∈ ([2, 3, 4] : List Nat) := by
  rcases (show m = 2 ∨ m = 3 ∨ m = 4 by omega) with rfl | rfl | rfl <;> simp
theorem calls_ok0 : ∀ m ∈ ([2, 3, 4] : List Nat), (dCall (cntOf m 0 0 0 0) (slpD 1) && dCall (cntOf m 0 0 0 0) (slpD 2) && dCall (cntOf m 0 0 0 0) (wordD "get") && dCall (cntOf m 0 0 0 0) (wordD "pass")) = true := by decide +kernel
theorem LevB.calls (h : LevB b m lv c0 c1 c2 span pd) : dCall (cOf b) (slpD 1) = true ∧ dCall (cOf b) (slpD 2) = true ∧ dCall (cOf b) (wordD "get") = true ∧ dCall (cOf b) (wordD "pass") = true := by
  have z := calls_ok0 m (m_in4 h.m2 h.m4)
  rw [h.cnt]
  simp only [Bool.and_eq_true] at z
  exact ⟨z.1.1.1, z.1.1.2, z.1.2, z.2⟩
theorem LevB.sleep (h : LevB b m lv c0 c1 c2 span pd) (lw : ws.length = m) (la : as.length = m) (hn : ∀ (i : Nat) w a, ws[i]? = some w → as[i]? = some a → t + 1 < w → a = .none) (hr : runs = .none ∨ ∃ i, runs = .int i)
    {o : TN} (ho : opnP (bestL lv ws (t + 1)) runs sp (decB bz) c2 span = o) (ht : o.turn = .int n) (lt : n < m) {as1 : List PyData} (e1a : List.zipWith (anAt (t + 1)) ws as = as1) {k : Int} (hk : k = 1 ∨ k = 2)
    (e1 : PySem.W.nsIn K dE "sleep" = some (some (.ref fE))) (e2 : S fE = some (spEff K CR CK sleepPre sleepPost noAns)) :
    TickOk K CR CK dE S (lvSt m (ws.map (stAt t)) as runs sp bz .none) b n 0 (ws.map (stAt t)) (slpD k) sleepPre sleepPost noAns ∧ behind (lvSt m (ws.map (stAt t)) as runs sp bz .none) b n 0 (slpD k) sleepPost noAns = lvSt m ((ws.set n (t + 1 + k)).map (stAt (t + 1))) (as1.set n .none) o.runs (o.sp + payI c0 c1 pd) (payI c0 c1 pd) .none := by
 refine Hk.hold ?_
 simp (disch := with_unfolding_all (
 exact Hk.disch (by
  have h4 := h.m4
  have hc : dCall (cOf b) (slpD k) = true := by rcases hk with rfl | rfl; exact h.calls.1; exact h.calls.2.1
  refine h.tick lw la hn hr ho ht lt e1a e1 e2 hc (ks := ["ticks"]) (by decide +kernel) (by decide) (fun x hx => ?_) ⟨k, _, rfl, rfl, by rw [List.length_map]; omega, by rw [List.length_map]; omega⟩ ?_ rfl (.inl rfl)
  · rw [List.mem_singleton] at hx; subst hx
    exact ⟨by decide +kernel, .inl rfl⟩
  · unfold sleepPost
    have es : (ws.map (stAt (t + 1))).set n (asleepD k) = (ws.set n (t + 1 + k)).map (stAt (t + 1)) := by
      rw [List.map_set]
      unfold stAt
      rw [if_pos (by omega), show t + 1 + k - (t + 1) = k by omega]
    funext f
    cases f with
    | statuses => show PyData.tuple ((ws.map (stAt (t + 1))).set n (asleepD k)) = _; rw [es]; rfl
    | _ => rfl))) only [↓Hk.hold_s]
theorem sum_rep0 : ∀ m : Nat, (List.replicate m (0 : Int)).sum = 0
  | 0 => rfl
  | m + 1 => by rw [List.replicate_succ, List.sum_cons, sum_rep0 m]; rfl
theorem LevB.get (h : LevB b m lv c0 c1 c2 span pd) (lw : ws.length = m) (la : as.length = m) (hn : ∀ (i : Nat) w a, ws[i]? = some w → as[i]? = some a → t + 1 < w → a = .none) (hr : runs = .none ∨ ∃ i, runs = .int i)
    {o : TN} (ho : opnP (bestL lv ws (t + 1)) runs sp (decB bz) c2 span = o) (ht : o.turn = .int n) (lt : n < m) {as1 : List PyData} (e1a : List.zipWith (anAt (t + 1)) ws as = as1)
    (e1 : PySem.W.nsIn K dE "get" = some (some (.ref fE))) (e2 : S fE = some (spEff K CR CK getPre keepPost noAnsw)) :
    TickOk K CR CK dE S (lvSt m (ws.map (stAt t)) as runs sp bz .none) b n 0 (ws.map (stAt t)) (wordD "get") getPre keepPost noAnsw ∧ behind (lvSt m (ws.map (stAt t)) as runs sp bz .none) b n 0 (wordD "get") keepPost noAnsw = lvSt m (ws.map (stAt (t + 1))) (as1.set n noD) o.runs (o.sp + payI c0 c1 pd) (payI c0 c1 pd) .none :=
  h.tick lw la hn hr ho ht lt e1a e1 e2 h.calls.2.2.1 (ks := []) (by decide +kernel) (by decide) (fun x hx => nomatch hx) ⟨h.frames, _, rfl, by rw [sum_rep0]; exact Int.le_refl 0⟩ rfl rfl (.inr ⟨_, rfl⟩)
theorem LevB.pass (h : LevB b m lv c0 c1 c2 span pd) (lw : ws.length = m) (la : as.length = m) (hn : ∀ (i : Nat) w a, ws[i]? = some w → as[i]? = some a → t + 1 < w → a = .none) (hr : runs = .none ∨ ∃ i, runs = .int i)
    {o : TN} (ho : opnP (bestL lv ws (t + 1)) runs sp (decB bz) c2 span = o) (ht : o.turn = .int n) (lt : n < m) {as1 : List PyData} (e1a : List.zipWith (anAt (t + 1)) ws as = as1)
    (e1 : PySem.W.nsIn K dE "pass" = some (some (.ref fE))) (e2 : S fE = some (spEff K CR CK (fun _ _ _ _ => True) keepPost yesAnsw)) :
    TickOk K CR CK dE S (lvSt m (ws.map (stAt t)) as runs sp bz .none) b n 0 (ws.map (stAt t)) (wordD "pass") (fun _ _ _ _ => True) keepPost yesAnsw ∧ behind (lvSt m (ws.map (stAt t)) as runs sp bz .none) b n 0 (wordD "pass") keepPost yesAnsw = lvSt m (ws.map (stAt (t + 1))) (as1.set n yesD) o.runs (o.sp + payI c0 c1 pd) (payI c0 c1 pd) .none :=
  h.tick lw la hn hr ho ht lt e1a e1 e2 h.calls.2.2.2 (ks := []) (by decide +kernel) (by decide) (fun x hx => nomatch hx) trivial rfl rfl (.inr ⟨_, rfl⟩)
end
end T
namespace T
section
variable {P : Program} {w : World} {K : PySem.W.Frag} {mg : Str → Option Value} {base : Heap} {C CR CK CM : Addr}
structure GS (mg : Str → Option Value) : Prop where
  statuses : ∃ t, mg "STATUSES" = some (.int 0 t)
def spStatus (K : PySem.W.Frag) (C CR CM : Addr) : Sp := fun vs H Q _ => ∃ (m p : Addr) (b : BD) (D : KD) (t : Nat) (as : List PyData) (a : PyData), vs = [.ref m, .int t] ∧ MAt K C CR CM H m p b D ∧ t < (dl b.tasks).length ∧ D .statuses = .tuple as ∧ as[t]? = some a ∧ ∀ v, Dp K H v a → Q v H
theorem ok_M_status (B : Bl mg) (T : MCls K CM) (GP : GS mg) (c_check_task : Cal P w K mg base 4 "check_task" ["build", "task"] (spCheck K C CR)) (d : MethAt K CM "status" "Moment.status" s_Moment_status ["self", "task"]) : MCal P w K mg base 5 CM "status" ["self", "task"] (spStatus K C CR CM) := by
 refine Hk.hold ?_
 simp (disch := with_unfolding_all (
 exact Hk.disch (d.cal fun f fd F => by
  refine F.ok sc_Moment_status (fun vs H Q E h => ?_) (fun cdv A outer s H vs Q E hr h => ?_)
  · obtain ⟨m, p, b, D, t, as, a, rfl, _⟩ := h; rfl
  · obtain ⟨m, p, b, D, t, as, an, rfl, hm, lt, ea, et, q⟩ := h
    refine ⟨_, (pss_cons (ps_expr (pe_cal c_check_task (hr.mono (by omega)) rfl (pa_cons (pe_fld (pv 0) rfl) (pa_cons (pv 1) pa_nil))))
      (pss_one (ps_ret (pe_ix ix_tup (pe_ix ix_tup (pe_fld (pv 0) rfl) (pe_globI GP.statuses) (fun _ _ => rfl)) (pv 1) (fun _ _ => rfl))))), ?_⟩
    walk_at "st0"
    refine hm.gb T ?_
    walk_at "st"
    obtain ⟨_, _, _, _, _, _, _, _, hB⟩ := id hm
    refine ⟨p, b, t, rfl, hB, lt, ?_⟩
    walk_at "st"
    refine hm.gs T fun v dv => ?_
    walk_at "st"
    obtain ⟨a, a2, x0, x1, x2, x3, x4, x5, x6, x7, x8, y0, y1, y2, y3, rfl, hs, hs2, h9, h0, h1, h2, h3, h4, h5, h6, h7, h8, g0, g1, g2, g3⟩ := shape_forms dv
    refine q_ixT hs (atI_nat (j := 0) rfl) ?_
    walk_at "st"
    rw [ea] at h0
    cases h0 with
    | @tup a4 ys _ hs4 hys =>
    have ly : t < ys.length := by rw [hys.length]; exact (List.getElem?_eq_some_iff.mp et).1
    refine q_ixT hs4 (atI_nat (List.getElem?_eq_getElem ly)) ?_
    obtain ⟨dd, e1, e2⟩ := hys.get' (List.getElem?_eq_getElem ly)
    rw [et] at e1
    cases e1
    exact q _ e2))) only [↓Hk.hold_s]
end
structure WD where
  m : Nat
  span : Int
  c0 : Int
  c1 : Int
  c2 : Int
  pd : Bool
  tc : Addr
  LT : Addr
  LW : Addr
  ts : List (Int × Int)
def wKV (d : WD) (run : V) (sp fr : Int) : List (Key × V) :=
  [(Sum.inr "many", .int d.m), (Sum.inr "span", .int d.span), (Sum.inr "costs", .ref d.tc), (Sum.inr "padded", .bl d.pd), (Sum.inr "pays", .int (payI d.c0 d.c1 d.pd)), (Sum.inr "tasks", .ref d.LT), (Sum.inr "wakes", .ref d.LW), (Sum.inr "run", run), (Sum.inr "spent", .int sp), (Sum.inr "free", .int fr)]
def runV : PyData → V | .int i => .int i | _ => .non
section
variable {P : Program} {w : World} {K : PySem.W.Frag} {mg : Str → Option Value} {base : Heap} {C CR CK CM : Addr} {d : WD} {W : Addr} {ws : List Int} {run : PyData} {sp fr : Int}
structure WAt (K : PySem.W.Frag) (H : Hp) (W : Addr) (d : WD) (ws : List Int) (run : PyData) (sp fr : Int) : Prop where
  w : H W = some (.dK (wKV d (runV run) sp fr))
  tc : SqT K H d.tc [.int d.c0, .int d.c1, .int d.c2]
  lt : ∃ ys : List V, H d.LT = some (.lst ys) ∧ ys.length = d.ts.length ∧ ∀ (i : Nat) y s, ys[i]? = some y → d.ts[i]? = some s → ∃ p, y = .ref p ∧ SqT K H p [.int s.1, .int s.2]
  lw : H d.LW = some (.lst (ws.map V.int))
structure WOk (d : WD) : Prop where
  ne : d.LT ≠ d.LW
  m2 : 2 ≤ d.m
  m4 : d.m ≤ 4
  lts : d.ts.length = d.m
  lev : ∀ s ∈ d.ts, 0 ≤ s.2
  c0p : 1 ≤ d.c0
  c1p : 0 ≤ d.c1
  c2p : 0 ≤ d.c2
theorem WAt.mono {H H' : Hp} (h : WAt K H W d ws run sp fr) (s : Same H H') : WAt K H' W d ws run sp fr := by
  obtain ⟨h1, h2, ⟨ys, h3, h4, h5⟩, h6⟩ := h
  exact ⟨s _ _ h1, Same.sqT s h2, ⟨ys, s _ _ h3, h4, fun i y x a b => by obtain ⟨p, e, q⟩ := h5 i y x a b; exact ⟨p, e, Same.sqT s q⟩⟩, s _ _ h6⟩
theorem WAt.get {H : Hp} (h : WAt K H W d ws run sp fr) {z : Str} {v : V} (e : valV (wKV d (runV run) sp fr) (Sum.inr z) = some v) {Q : V → Prop} (q : Q v) : ∃ a v, V.ref W = .ref a ∧ DGet H a (.str z) (some v) ∧ Q v :=
  ⟨W, v, rfl, by rw [← e]; exact DGet.k (k := Sum.inr z) h.w, q⟩
def WD.lv (d : WD) : List Int := d.ts.map (·.2)
def topI (lv : List Int) (l : List Nat) : Int := l.foldl (fun a i => if lv.getD i 0 > a then lv.getD i 0 else a) 0
theorem topI_le {lv : List Int} : ∀ (l : List Nat) (a : Int), a ≤ l.foldl (fun a i => if lv.getD i 0 > a then lv.getD i 0 else a) a ∧ ∀ i ∈ l, lv.getD i 0 ≤ l.foldl (fun a i => if lv.getD i 0 > a then lv.getD i 0 else a) a
  | [], a => ⟨Int.le_refl a, fun i h => nomatch h⟩
  | x :: l, a => by
    rw [List.foldl_cons]
    have z := topI_le (lv := lv) l (if lv.getD x 0 > a then lv.getD x 0 else a)
    have hx : a ≤ (if lv.getD x 0 > a then lv.getD x 0 else a) ∧ lv.getD x 0 ≤ (if lv.getD x 0 > a then lv.getD x 0 else a) := by split <;> omega
    refine ⟨Int.le_trans hx.1 z.1, fun i hi => ?_⟩
    rcases List.mem_cons.mp hi with rfl | hi
    · exact Int.le_trans hx.2 z.1
    · exact z.2 i hi
theorem topI_mem {lv : List Int} : ∀ (l : List Nat) (a : Int), l.foldl (fun a i => if lv.getD i 0 > a then lv.getD i 0 else a) a = a ∨ ∃ i ∈ l, l.foldl (fun a i => if lv.getD i 0 > a then lv.getD i 0 else a) a = lv.getD i 0
  | [], a => .inl rfl
  | x :: l, a => by
    rw [List.foldl_cons]
    rcases topI_mem (lv := lv) l (if lv.getD x 0 > a then lv.getD x 0 else a) with e | ⟨i, hi, e⟩
    · by_cases c : lv.getD x 0 > a
      · rw [if_pos c] at e ⊢
        exact .inr ⟨x, List.mem_cons_self, e⟩
      · rw [if_neg c] at e ⊢
        exact .inl e
    · exact .inr ⟨i, List.mem_cons_of_mem _ hi, e⟩
theorem best_top {lv ws : List Int} {t : Int} (h0 : ∀ i, 0 ≤ lv.getD i 0) : bestL lv ws t = (rdyL ws t).filter fun i => decide (lv.getD i 0 = topI lv (rdyL ws t)) := by
  unfold bestL
  refine List.filter_congr fun i hi => ?_
  obtain ⟨z1, z2⟩ := topI_le (lv := lv) (rdyL ws t) 0
  rw [Bool.eq_iff_iff, List.all_eq_true, decide_eq_true_iff]
  have z3 := z2 i hi
  constructor
  · intro q
    show _ = (rdyL ws t).foldl _ 0
    rcases topI_mem (lv := lv) (rdyL ws t) 0 with e | ⟨j, hj, e⟩
    · have := h0 i
      omega
    · have := of_decide_eq_true (q j hj)
      omega
  · intro e j hj
    have e' : lv.getD i 0 = (rdyL ws t).foldl (fun a i => if lv.getD i 0 > a then lv.getD i 0 else a) 0 := e
    rw [e']
    exact decide_eq_true (z2 j hj)
/-- [x for x in xs if ..], xs a list of numbers -/
theorem lc_nat {K : PySem.W.Frag} {L : List Nat} {a : Addr} {i0 : Nat} {tt : TT} {vs : List Nat} {σ : L2.St} {H1 : Hp} {D : Addr} {Qd : Hp → Prop} (p : Nat → Bool) (hx : SqL K H1 a (L.map fun (i : Nat) => V.int i)) (nD : H1 D = none) (few : L.length < 400)
    (hw : ∀ k : Nat, wipe ((wipe σ vs).set i0 (some (.int k))) vs = wipe σ vs) (hv : ∀ k : Nat, ((wipe σ vs).set i0 (some (V.int k)))[i0]? = some (some (V.int k)))
    (body : ∀ k, k ∈ L → ∀ H2, Same H1 H2 → ∀ Q' : Bool → Hp → Prop, Q' (p k) H2 → tt ((wipe σ vs).set i0 (some (.int (k : Nat)))) H2 Q')
    (done : ∀ H', Same H1 H' → H' D = some (.lst ((L.filter p).map fun (i : Nat) => V.int i)) → Qd H') :
    ∃ W : Nat → Nat → Hp → Prop, (∃ m, W 0 m (upd H1 D (.lst []))) ∧ ∀ i m H, W i m H →
      ((Itl K a).stop i H ∧ Qd H) ∨ ((Itl K a).go i H ∧ ∃ Nx : Hp → Prop, (∀ H', Nx H' → ∃ m', m' < m ∧ W (i + 1) m' H') ∧ ∀ x H', (Itl K a).yld i H x H' → gName i0 x (wipe σ vs) H' fun σ2 H2 => wipe σ2 vs = wipe σ vs ∧ tt σ2 H2 fun b H3 =>
        if b = true then tVar i0 σ2 H3 fun y H4 => ∃ acc, H4 D = some (.lst acc) ∧ acc.length < sizeLine ∧ Nx (upd H4 D (.lst (acc ++ [y]))) else Nx H3) := by
 refine Hk.hold ?_
 simp (disch := with_unfolding_all (
 exact Hk.disch (by
  refine lc_keep walk_list (fun i => p (L.getD i 0)) (fun i => .int (L.getD i 0 : Nat)) nD (sz1000 (by rw [List.length_map]; omega)) (fun H4 s4 => s4.seq hx) yat_same ?_ ?_
  · rintro i x H4 H5 lt s4 ⟨rfl, e⟩ Q' kk
    rw [List.length_map] at lt
    rw [List.getElem?_map, List.getElem?_eq_getElem lt] at e
    cases e
    have eg : L.getD i 0 = L[i] := by rw [List.getD_eq_getElem?_getD, List.getElem?_eq_getElem lt]; rfl
    rw [eg] at kk
    refine q_gname ?_
    refine ⟨hw _, ?_⟩
    exact body _ (List.getElem_mem lt) _ s4 (fun b H6 => Q' b _ H6) (kk _ _ (Same.refl _) (hw _) fun H6 Q2 s6 _ k3 => ⟨_, hv _, k3 _ (Same.refl _)⟩)
  · intro H' s' e
    rw [List.length_map, filter_at L p (fun t => V.int (t : Nat))] at e
    exact done H' s' e))) only [↓Hk.hold_s]
/-- the law's queue -/
def queueP (l : List Nat) (run : PyData) (sp span : Int) : List Int := match run with
  | .int r => if goP l run sp span then [r] else (l.filter fun (i : Nat) => decide (r < (i : Int))).map (fun (i : Nat) => (i : Int)) ++ (l.filter fun (i : Nat) => decide ((i : Int) ≤ r)).map (fun (i : Nat) => (i : Int))
  | _ => l.map fun (i : Nat) => (i : Int)
def spQueue (K : PySem.W.Frag) : Sp := fun vs H Q _ => ∃ (W : Addr) (d : WD) (ws : List Int) (run : PyData) (sp fr : Int) (t : Int), vs = [.ref W, .int t] ∧ WAt K H W d ws run sp fr ∧ WOk d ∧ ws.length = d.m ∧ (run = .none ∨ ∃ i, run = .int i) ∧ ∀ l H', Same H H' → H l = none → H' l = some (.lst ((queueP (bestL d.lv ws t) run sp d.span).map V.int)) → Q (.ref l) H'
theorem ok_law_queue (B : Bl mg) (dd : DefAt K mg "_law_queue" s__law_queue ["_law_world", "_law_time"]) : Cal P w K mg base 1 "_law_queue" ["_law_world", "_law_time"] (spQueue K) := by
 refine Hk.hold ?_
 simp (disch := with_unfolding_all (
 exact Hk.disch (dd.cal fun f fd F => by
  refine F.ok sc__law_queue (fun vs H Q E h => ?_) (fun cdv A outer s H vs Q E hr h => ?_)
  · obtain ⟨W, d, ws, run, sp, fr, t, rfl, _⟩ := h; rfl
  · obtain ⟨W, d, ws, run, sp, fr, t, rfl, hW, o, lw, hr2, q⟩ := h
    have hu := hu_of hr
    have m4 := o.m4
    refine ⟨_, (pss_cons (ps_setLc (i := 2) (own := [("_law_task", 4)]) rfl sc__law_queue.nd rfl rfl (sw_true rfl rfl rfl (by decide +kernel)) (pi_range1 rfl B.range (pa_cons (pe_dget hu (pv 0) pe_str (fun _ _ => rfl)) pa_nil)) (blkOk_by (N := ["_law_world", "_law_time", "_law_ready", "_law_top", "_law_task", "_law_best", "_law_run"]) (sc := defScope s__law_queue) (by decide +kernel)) (fun _ _ _ _ _ => (pg_name (i := 4) sc__law_queue.nd rfl (Or.inl rfl))) (fun _ _ _ _ _ => (pts_one (pt_cmpR op_le (pe_ix (show IxR _ (rIxL K) from ix_list) (pe_dget hu (pv 0) pe_str (fun _ _ => rfl)) (pv 4) (fun _ _ => rfl)) (pv 1) (nomark _)))) (fun _ _ _ _ _ => (pv 4)))
      (pss_cons (ps_set (i := 3) sc__law_queue.nd rfl (Or.inr rfl) pe_int)
      (pss_cons (ps_for PassesOwn.never rfl (pi_list (pv 2)) (pg_name (i := 4) sc__law_queue.nd rfl (Or.inl rfl)) (pss_one (ps_set (i := 3) sc__law_queue.nd rfl (Or.inr rfl) (pe_callB (call_max2 rfl) rfl B.max hb_max (pa_cons (pv 3) (pa_cons (pe_ix ix_tup (pe_ix ix_list (pe_dget hu (pv 0) pe_str (fun _ _ => rfl)) (pv 4) (fun _ _ => rfl)) pe_int (fun _ _ => rfl)) pa_nil))))))
      (pss_cons (ps_setLc (i := 5) (own := [("_law_task", 4)]) rfl sc__law_queue.nd rfl rfl (sw_true rfl rfl rfl (by decide +kernel)) (pi_list (pv 2)) (blkOk_by (N := ["_law_world", "_law_time", "_law_ready", "_law_top", "_law_task", "_law_best", "_law_run"]) (sc := defScope s__law_queue) (by decide +kernel)) (fun _ _ _ _ _ => (pg_name (i := 4) sc__law_queue.nd rfl (Or.inl rfl))) (fun _ _ _ _ _ => (pts_one (pt_cmpR op_eq (pe_ix (show IxR _ (rIxT K) from ix_tup) (pe_ix (show IxR _ (rIxL K) from ix_list) (pe_dget hu (pv 0) pe_str (fun _ _ => rfl)) (pv 4) (fun _ _ => rfl)) pe_int (fun _ _ => rfl)) (pv 3) (nomark _)))) (fun _ _ _ _ _ => (pv 4)))
      (pss_cons (ps_set (i := 6) sc__law_queue.nd rfl (Or.inr rfl) (pe_dget hu (pv 0) pe_str (fun _ _ => rfl)))
      (pss_cons (ps_if (pt_cmp (pc_isN (pv 6))) (pss_one (ps_ret (pv 5))) pss_nil)
      (pss_cons (ps_if (PW.pt (pw_and (pt_cmpR op_in_seq (pv 6) (pv 5) (by with_unfolding_all rfl)) (pw_and1 (pt_cmpR op_lt (pe_dget hu (pv 0) pe_str (fun _ _ => rfl)) (pe_dget hu (pv 0) pe_str (fun _ _ => rfl)) (nomark _))))) (pss_one (ps_ret (pe_lst (pa_cons (pv 6) pa_nil)))) pss_nil)
      (pss_one (ps_ret (pe_op op_cat (pe_lc (own := [("_law_task", 4)]) rfl sc__law_queue.nd (pi_list (pv 5)) (blkOk_by (N := ["_law_world", "_law_time", "_law_ready", "_law_top", "_law_task", "_law_best", "_law_run"]) (sc := defScope s__law_queue) (by decide +kernel)) (fun _ _ _ _ _ => (pg_name (i := 4) sc__law_queue.nd rfl (Or.inl rfl))) (fun _ _ _ _ _ => (pts_one (pt_cmpR op_gt (pv 4) (pv 6) (nomark _)))) (fun _ _ _ _ _ => (pv 4))) (pe_lc (own := [("_law_task", 4)]) rfl sc__law_queue.nd (pi_list (pv 5)) (blkOk_by (N := ["_law_world", "_law_time", "_law_ready", "_law_top", "_law_task", "_law_best", "_law_run"]) (sc := defScope s__law_queue) (by decide +kernel)) (fun _ _ _ _ _ => (pg_name (i := 4) sc__law_queue.nd rfl (Or.inl rfl))) (fun _ _ _ _ _ => (pts_one (pt_cmpR op_le (pv 4) (pv 6) (nomark _)))) (fun _ _ _ _ _ => (pv 4))))))))))))), ?_⟩
    walk_at "st0"
    refine q_lcR1 ?_
    walk_at "st"
    refine hW.get (by rfl) ?_
    walk_at "st"
    have lL : (rdyL ws t).length ≤ ws.length := by
      have := List.length_filter_le (fun i => decide (ws.getD i 0 ≤ t)) (List.range ws.length)
      rw [List.length_range] at this
      exact this
    refine ⟨(d.m : Int), rfl, by omega, by omega, ?_⟩
    rw [Int.toNat_natCast, ← lw]
    refine fun X nX => lc_keep walk_range (fun i => decide (ws.getD i 0 ≤ t)) (fun i => .int (i : Nat)) nX (sz1000 (by omega)) (fun H2 s => trivial) yfn_same ?_ ?_
    · rintro i x H1 H2 lt s1 ⟨rfl, rfl⟩ Q' kk
      have hW1 := hW.mono s1
      refine q_gname ?_
      refine ⟨rfl, ?_⟩
      simp only [Int.zero_add]
      show tTest _ [some (.ref W), some (.int t), none, none, some (.int (i : Nat)), none, none] _ _
      walk_at "st"
      refine hW1.get (by rfl) ?_
      walk_at "st"
      have ei : ws[i]? = some ws[i] := List.getElem?_eq_getElem lt
      have eg : ws.getD i 0 = ws[i] := by rw [List.getD_eq_getElem?_getD, ei]; rfl
      refine q_ixL (SqL.of hW1.lw) (atI_nat (v := .int ws[i]) (by rw [List.getElem?_map, ei]; rfl)) ?_
      walk_at "st"
      rw [eg] at kk
      refine kk _ _ (Same.refl _) rfl (fun H4 Q2 s4 e k2 => ?_)
      walk_at "st"
      exact k2 _ (Same.refl _)
    intro H1 s1 e1
    have e2 : H1 X = some (.lst ((rdyL ws t).map fun (i : Nat) => V.int i)) := e1
    clear e1
    have hW1 := hW.mono s1
    obtain ⟨ys, hys, lys, hyp⟩ := hW1.lt
    have lvl : ∀ i, i < ws.length → ∃ p s, ys[i]? = some (.ref p) ∧ SqT K H1 p [.int s, .int (d.lv.getD i 0)] := fun i hi => by
      have l1 : i < ys.length := by have := o.lts; omega
      have l2 : i < d.ts.length := by have := o.lts; omega
      obtain ⟨p, e, hp⟩ := hyp i ys[i] d.ts[i] (List.getElem?_eq_getElem l1) (List.getElem?_eq_getElem l2)
      refine ⟨p, d.ts[i].1, by rw [List.getElem?_eq_getElem l1, e], ?_⟩
      have : d.lv.getD i 0 = d.ts[i].2 := by
        unfold WD.lv
        rw [List.getD_eq_getElem?_getD, List.getElem?_map, List.getElem?_eq_getElem l2]; rfl
      rw [this]; exact hp
    walk_at "st"
    let J : Nat → L2.St → Hp → Prop := fun j σ H2 => ∃ o4, σ = [some (.ref W), some (.int t), some (.ref X), some (.int (((rdyL ws t).take j).foldl (fun a i => if d.lv.getD i 0 > a then d.lv.getD i 0 else a) 0)), o4, none, none] ∧ H2 = H1
    refine q_forV ((rdyL ws t).map fun (i : Nat) => V.int i) J rfl (SqL.of e2) ⟨_, rfl, rfl⟩ (fun i σ H2 _ I => ?_) (fun i x σ H2 ex I => ?_) (fun σ H2 I => ?_)
    · obtain ⟨o4, rfl, rfl⟩ := I
      exact SqL.of e2
    · obtain ⟨o4, rfl, rfl⟩ := I
      rw [List.getElem?_map] at ex
      obtain ⟨k, ek, rfl⟩ := Option.map_eq_some_iff.mp ex
      have kl := rdy_lt (List.mem_of_getElem? ek)
      obtain ⟨p, s, ep, hp⟩ := lvl k kl
      show tAsg _ _ _ [some (.ref W), some (.int t), some (.ref X), _, some (.int k), none, none] _
      walk_at "st"
      refine hW1.get (by rfl) ?_
      walk_at "st"
      refine q_ixL (SqL.of hys) (atI_nat ep) ?_
      walk_at "st"
      refine q_ixT hp (atI1 rfl) ?_
      refine ⟨_, _, rfl, ?_⟩
      refine ⟨some (.int k), ?_, rfl⟩
      rw [List.take_add_one, ek]
      simp only [Option.toList_some, List.foldl_append, List.foldl_cons, List.foldl_nil]
    obtain ⟨o4, rfl, rfl⟩ := I
    rw [List.length_map, List.take_length]
    have h0 : ∀ i, 0 ≤ d.lv.getD i 0 := fun i => by
      rw [List.getD_eq_getElem?_getD]
      cases e : d.lv[i]? with
      | none => exact Int.le_refl 0
      | some x =>
        unfold WD.lv at e
        rw [List.getElem?_map] at e
        obtain ⟨s, hs, rfl⟩ := Option.map_eq_some_iff.mp e
        exact o.lev s (List.mem_of_getElem? hs)
    have eB := best_top (lv := d.lv) (ws := ws) (t := t) h0
    have eT : (rdyL ws t).foldl (fun a i => if d.lv.getD i 0 > a then d.lv.getD i 0 else a) 0 = topI d.lv (rdyL ws t) := rfl
    rw [eT]
    generalize topI d.lv (rdyL ws t) = tp at eB ⊢
    walk_at "st"
    refine q_lcI1 ?_
    walk_at "st"
    refine ⟨X, rfl, ⟨_, SqL.of e2⟩, fun X3 nX3 => lc_nat (L := rdyL ws t) (fun i => decide (d.lv.getD i 0 = tp)) (SqL.of e2) nX3 (by omega) (fun _ => rfl) (fun _ => rfl) (fun k hk H5 s5 Q' kk => ?_) (fun H4 s4 e5 => ?_)⟩
    · show tTest _ [some (.ref W), some (.int t), some (.ref X), some (.int tp), some (.int k), none, none] _ _
      obtain ⟨p, s, ep, hp⟩ := lvl k (rdy_lt hk)
      walk_at "st"
      refine (hW1.mono s5).get (by rfl) ?_
      walk_at "st"
      refine q_ixL (SqL.of (s5 _ _ hys)) (atI_nat ep) ?_
      walk_at "st"
      refine q_ixT (Same.sqT s5 hp) (atI1 rfl) ?_
      walk_at "st"
      refine q_eqI ?_
      exact ⟨_, rfl, kk⟩
    rw [← eB] at e5
    have nX : H X = none := nX
    have hW4 := hW1.mono s4
    have lLs : (bestL d.lv ws t).length < 400 := by
      have : (bestL d.lv ws t).length ≤ (rdyL ws t).length := List.length_filter_le _ _
      omega
    generalize bestL d.lv ws t = L at e5 q lLs
    walk_at "st"
    refine hW4.get (by rfl) ?_
    walk_at "st"
    have nXH : H X3 = none := s1.free nX3
    rcases hr2 with rfl | ⟨r, rfl⟩
    · refine iteT ?_
      walk_at "st"
      refine q X3 H4 (s1.trans s4) nXH ?_
      rw [e5]
      show _ = some (HO.lst ((L.map fun (i : Nat) => (i : Int)).map V.int))
      rw [List.map_map]
      rfl
    · have ei := inRun_inV (K := K) (H := H4) (l := L) (.int r) (.inr ⟨r, rfl⟩)
      refine iteF ?_
      walk_at "st"
      refine ⟨X3, _, rfl, .inl (SqL.of e5), rfl, by rw [List.all_map]; exact List.all_eq_true.mpr fun _ _ => rfl, ?_⟩
      simp only [Bool.false_eq_true, if_false]
      rw [show runV (.int r) = V.int r from rfl, ei]
      suffices tail : goP L (.int r) sp d.span = false → tRet (tOp rCat (tLc (iList K (tVar 5)) (gName 4) (tTest (tOp (rI0 fun i j => V.bl (decide (j < i))) (tVar 4) (tVar 6))) (tVar 4) [4]) (tLc (iList K (tVar 5)) (gName 4) (tTest (tOp (rI0 fun i j => V.bl (decide (i ≤ j))) (tVar 4) (tVar 6))) (tVar 4) [4])) { nx := fun x H' => Q V.non H', rt := Q } [some (V.ref W), some (V.int t), some (V.ref X), some (V.int tp), o4, some (V.ref X3), some (.int r)] H4 by
        refine ⟨_, rfl, ?_⟩
        cases hin : inRun L (.int r) with
        | false =>
          refine iteF ?_
          exact tail (by unfold goP; rw [hin]; rfl)
        | true =>
          refine iteT ?_
          walk_at "st"
          refine hW4.get (by rfl) ?_
          walk_at "st"
          refine hW4.get (by rfl) ?_
          walk_at "st"
          have eg : goP L (.int r) sp d.span = decide (sp < d.span) := by unfold goP; rw [hin]; rfl
          rw [eg] at tail
          cases hsp : decide (sp < d.span) with
          | false =>
            refine iteF ?_
            exact tail hsp
          | true =>
            refine iteT ?_
            walk_at "st"
            refine ⟨by show 1 ≤ sizeLine; decide, fun l nl => ?_⟩
            refine q l _ ((s1.trans s4).trans (same_new nl)) ((s1.trans s4).free nl) ?_
            rw [upd_same]
            have : queueP L (.int r) sp d.span = [r] := by unfold queueP; simp only; rw [eg, hsp, if_pos rfl]
            rw [this]
            rfl
      intro hgo
      walk_at "st"
      refine q_lcI1 ?_
      walk_at "st"
      refine ⟨X3, rfl, ⟨_, SqL.of e5⟩, fun X5 nX5 => lc_nat (L := L) (fun (i : Nat) => decide (r < (i : Int))) (SqL.of e5) nX5 lLs (fun _ => rfl) (fun _ => rfl) (fun k hk H5 s5 Q' kk => ?_) (fun H5 s5 e6 => ?_)⟩
      · show tTest _ [some (.ref W), some (.int t), some (.ref X), some (.int tp), some (.int k), some (.ref X3), some (.int r)] _ _
        walk_at "st"
        exact kk
      walk_at "st"
      show tLc (iList K (tVar 5)) _ _ _ _ _ H5 _
      refine q_lcI1 ?_
      walk_at "st"
      refine ⟨X3, rfl, ⟨_, SqL.of (s5 _ _ e5)⟩, fun X6 nX6 => lc_nat (L := L) (fun (i : Nat) => decide ((i : Int) ≤ r)) (SqL.of (s5 _ _ e5)) nX6 lLs (fun _ => rfl) (fun _ => rfl) (fun k hk H6 s6 Q' kk => ?_) (fun H6 s6 e7 => ?_)⟩
      · show tTest _ [some (.ref W), some (.int t), some (.ref X), some (.int tp), some (.int k), some (.ref X3), some (.int r)] _ _
        walk_at "st"
        exact kk
      walk_at "st"
      refine ⟨X5, X6, _, _, rfl, rfl, s6 _ _ e6, e7, ?_, fun l nl => ?_⟩
      · have h1 := List.length_filter_le (fun (i : Nat) => decide (r < (i : Int))) L
        have h2 := List.length_filter_le (fun (i : Nat) => decide ((i : Int) ≤ r)) L
        rw [List.length_map, List.length_map]
        exact Nat.le_of_lt (sz1000 (by omega))
      have ss := ((s1.trans s4).trans s5).trans s6
      refine q l _ (ss.trans (same_new nl)) (ss.free nl) ?_
      rw [upd_same]
      have : queueP L (.int r) sp d.span = (L.filter fun (i : Nat) => decide (r < (i : Int))).map (fun (i : Nat) => (i : Int)) ++ (L.filter fun (i : Nat) => decide ((i : Int) ≤ r)).map (fun (i : Nat) => (i : Int)) := by unfold queueP; simp only; rw [hgo, if_neg (by simp)]
      rw [this, List.map_append, List.map_map, List.map_map]
      rfl))) only [↓Hk.hold_s]
end
end T
namespace T
theorem q_dputW {td ty tv : TE} {D : Ends} {σ : L2.St} {H : Hp} (h : tv σ H fun v H1 => td σ H1 fun x H2 => ty σ H2 fun y H3 => ∃ a H4, x = .ref a ∧ DPut H3 a y v H4 ∧ D.nx σ H4) : sDPut td ty tv D σ H := h
theorem q_putD {W : Addr} {H : Hp} {kv kv' : List (Key × V)} {z : Str} {v : V} {q : Hp → Prop} (e : H W = some (.dK kv)) (l : kv.length < sizeLine) (ek : putK kv (Sum.inr z) v = kv') (h : q (upd H W (.dK kv'))) : ∃ a H4, V.ref W = .ref a ∧ DPut H a (.str z) v H4 ∧ q H4 :=
  ⟨W, _, rfl, DPut.k (k := Sum.inr z) e l, by rw [ek]; exact h⟩
theorem intsI_lay : ∀ l : List Int, PyData.canLayAll0 (l.map PyData.int) = true
  | [] => by simp [PyData.canLayAll0]
  | i :: l => by
    have h := intsI_lay l
    simp only [List.map_cons, PyData.canLayAll0, PyData.canLay0, Bool.true_and]
    exact h
theorem intsI_depth : ∀ l : List Int, PyData.depthAll (l.map PyData.int) ≤ 1
  | [] => by simp [PyData.depthAll]
  | i :: l => by
    have h := intsI_depth l
    simp only [List.map_cons, PyData.depthAll, PyData.depth]
    omega
theorem intsI_shaped (l : List Int) : SeqAt.shaped (.list (l.map PyData.int)) = true := by
  have h1 := intsI_depth l
  have h2 : PyData.depth (.list (l.map PyData.int)) ≤ 64 := by
    simp only [PyData.depth]
    omega
  show (PyData.canLay0 (.list (l.map PyData.int)) && decide (PyData.depth (.list (l.map PyData.int)) ≤ 64)) = true
  rw [Bool.and_eq_true]
  exact ⟨by simp only [PyData.canLay0]; exact intsI_lay l, decide_eq_true h2⟩
def intOf : PyData → Int | .int i => i | _ => 0
theorem queue_nil {run : PyData} {sp span : Int} : queueP [] run sp span = [] := by
  unfold queueP goP inRun
  cases run <;> rfl
theorem queue_cons {L : List Nat} (h : L ≠ []) {run : PyData} (hr : run = .none ∨ ∃ i, run = .int i) {sp span : Int} : ∃ rest, queueP L run sp span = (if goP L run sp span then intOf run else (followN L run : Int)) :: rest := by
 refine Hk.hold ?_
 simp (disch := with_unfolding_all (
 exact Hk.disch (by
  obtain ⟨a, r, rfl⟩ : ∃ a r, L = a :: r := by cases L with | nil => exact absurd rfl h | cons a r => exact ⟨a, r, rfl⟩
  rcases hr with rfl | ⟨i, rfl⟩
  · exact ⟨_, rfl⟩
  · unfold queueP
    simp only
    by_cases hg : goP (a :: r) (.int i) sp span = true
    · rw [if_pos hg, if_pos hg]
      exact ⟨[], rfl⟩
    · rw [if_neg hg, if_neg hg]
      have ef : followN (a :: r) (.int i) = (((a :: r).filter fun (t : Nat) => decide (i < (t : Int))) ++ (a :: r)).headD 0 := rfl
      rw [ef]
      cases e : (a :: r).filter (fun (t : Nat) => decide (i < (t : Int))) with
      | cons x y => exact ⟨_, rfl⟩
      | nil =>
        have e2 : (a :: r).filter (fun (t : Nat) => decide ((t : Int) ≤ i)) = a :: r := by
          rw [List.filter_eq_self]
          intro x hx
          have z := List.filter_eq_nil_iff.mp e x hx
          have : ¬ (i < (x : Int)) := fun h => z (decide_eq_true h)
          exact decide_eq_true (by omega)
        rw [e2]
        exact ⟨_, rfl⟩))) only [↓Hk.hold_s]
theorem queue_len {L : List Nat} {run : PyData} {sp span : Int} (h : L.length ≤ 10) : (queueP L run sp span).length ≤ 20 := by
  unfold queueP
  split
  · split
    · simp
    · have h1 := List.length_filter_le (fun (i : Nat) => decide (‹Int› < (i : Int))) L
      have h2 := List.length_filter_le (fun (i : Nat) => decide ((i : Int) ≤ ‹Int›)) L
      rw [List.length_append, List.length_map, List.length_map]
      omega
  · rw [List.length_map]; omega
local macro_rules | `(tactic| walk_at "s1") => `(tactic| with_reducible refine q_dputW ?_)
section
variable {P : Program} {w : World} {K : PySem.W.Frag} {mg : Str → Option Value} {base : Heap} {d : WD} {W : Addr} {ws : List Int} {run : PyData} {sp fr : Int}
/-- run, spent, free are put -/
theorem WAt.put {H H' : Hp} (h : WAt K H W d ws run sp fr) (b : But W H H') {run' : PyData} {sp' fr' : Int} (e : H' W = some (.dK (wKV d (runV run') sp' fr'))) : WAt K H' W d ws run' sp' fr' := by
  obtain ⟨h1, h2, ⟨ys, h3, h4, h5⟩, h6⟩ := h
  have kt : ∀ {a : Addr} {xs : List V}, SqT K H a xs → SqT K H' a xs := fun {a xs} h => by
    rcases h with (h | ⟨o, h⟩) | h
    · exact .inl (.inl (b _ _ h (fun z => by subst z; rw [h1] at h; cases h)))
    · exact .inl (.inr ⟨o, b _ _ h (fun z => by subst z; rw [h1] at h; cases h)⟩)
    · exact .inr h
  exact ⟨e, kt h2, ⟨ys, b _ _ h3 (fun z => by rw [z, h1] at h3; cases h3), h4, fun i y x a c => by obtain ⟨p, e, q⟩ := h5 i y x a c; exact ⟨p, e, kt q⟩⟩, b _ _ h6 (fun z => by rw [z, h1] at h6; cases h6)⟩
theorem WAt.putRun {H : Hp} (h : WAt K H W d ws run sp fr) {v : V} (run' : PyData) (ev : v = runV run') {q : Hp → Prop} (k : ∀ H', But W H H' → WAt K H' W d ws run' sp fr → q H') : ∃ a H4, V.ref W = .ref a ∧ DPut H a (.str "run") v H4 ∧ q H4 := by
  subst ev
  exact q_putD (z := "run") h.w (sz1000 (by show 10 < 100000; decide)) (kv' := wKV d (runV run') sp fr) (by rfl) (k _ But.put (h.put But.put upd_same))
theorem WAt.putSpent {H : Hp} (h : WAt K H W d ws run sp fr) (sp' : Int) {q : Hp → Prop} (k : ∀ H', But W H H' → WAt K H' W d ws run sp' fr → q H') : ∃ a H4, V.ref W = .ref a ∧ DPut H a (.str "spent") (.int sp') H4 ∧ q H4 :=
  q_putD (z := "spent") h.w (sz1000 (by show 10 < 100000; decide)) (kv' := wKV d (runV run) sp' fr) (by rfl) (k _ But.put (h.put But.put upd_same))
theorem WAt.putFree {H : Hp} (h : WAt K H W d ws run sp fr) (fr' : Int) {q : Hp → Prop} (k : ∀ H', But W H H' → WAt K H' W d ws run sp fr' → q H') : ∃ a H4, V.ref W = .ref a ∧ DPut H a (.str "free") (.int fr') H4 ∧ q H4 :=
  q_putD (z := "free") h.w (sz1000 (by show 10 < 100000; decide)) (kv' := wKV d (runV run) sp fr') (by rfl) (k _ But.put (h.put But.put upd_same))
def spTurn (K : PySem.W.Frag) : Sp := fun vs H Q _ => ∃ (W : Addr) (d : WD) (ws : List Int) (run : PyData) (sp fr : Int) (t : Int), vs = [.ref W, .int t] ∧ WAt K H W d ws run sp fr ∧ WOk d ∧ ws.length = d.m ∧ (run = .none ∨ ∃ i, run = .int i) ∧
  ∀ fr' v H', But W H H' → WAt K H' W d ws (opnP (bestL d.lv ws t) run sp (max 0 (fr - t)) d.c2 d.span).runs (opnP (bestL d.lv ws t) run sp (max 0 (fr - t)) d.c2 d.span).sp fr' → (opnP (bestL d.lv ws t) run sp (max 0 (fr - t)) d.c2 d.span).bz = max 0 (fr' - t) → Dp K H' v (opnP (bestL d.lv ws t) run sp (max 0 (fr - t)) d.c2 d.span).turn → Q v H'
theorem ok_law_turn (B : Bl mg) (c__law_queue : Cal P w K mg base 1 "_law_queue" ["_law_world", "_law_time"] (spQueue K)) (dd : DefAt K mg "_law_turn" s__law_turn ["_law_world", "_law_time"]) : Cal P w K mg base 2 "_law_turn" ["_law_world", "_law_time"] (spTurn K) := by
 refine Hk.hold ?_
 simp (disch := with_unfolding_all (
 exact Hk.disch (dd.cal fun f fd F => by
  refine F.ok sc__law_turn (fun vs H Q E h => ?_) (fun cdv A outer s H vs Q E hr h => ?_)
  · obtain ⟨W, d, ws, run, sp, fr, t, rfl, _⟩ := h; rfl
  · obtain ⟨W, d, ws, run, sp, fr, t, rfl, hW, o, lw, hr2, q⟩ := h
    have hu := hu_of hr
    have m4 := o.m4
    have c2p := o.c2p
    have lL : (bestL d.lv ws t).length ≤ 10 := by
      have h1 : (bestL d.lv ws t).length ≤ (rdyL ws t).length := List.length_filter_le _ _
      have h2 : (rdyL ws t).length ≤ (List.range ws.length).length := List.length_filter_le _ _
      rw [List.length_range] at h2
      omega
    refine ⟨_, (pss_cons (ps_if (pt_cmpR op_lt (pv 1) (pe_dget hu (pv 0) pe_str (fun _ _ => rfl)) (nomark _)) (pss_one (ps_ret pe_non)) pss_nil)
      (pss_cons (ps_set (i := 2) sc__law_turn.nd rfl (Or.inl rfl) (pe_cal c__law_queue (hr.mono (by omega)) rfl (pa_cons (pv 0) (pa_cons (pv 1) pa_nil))))
      (pss_cons (ps_if (pt_cmpR ((op_eqD (hu64 hr))) (pv 2) (pe_lst pa_nil) (nomark _)) (pss_cons (ps_dput hu (pv 0) pe_str pe_non rfl)
      (pss_cons (ps_dput hu (pv 0) pe_str pe_int rfl)
      (pss_one (ps_ret pe_non)))) pss_nil)
      (pss_cons (ps_if (pt_cmpR op_eq (pe_ix ix_list (pv 2) pe_int (fun _ _ => rfl)) (pe_dget hu (pv 0) pe_str (fun _ _ => rfl)) (nomark _)) (pss_cons (ps_if (pt_cmpR op_ge (pe_dget hu (pv 0) pe_str (fun _ _ => rfl)) (pe_dget hu (pv 0) pe_str (fun _ _ => rfl)) (nomark _)) (pss_one (ps_dput hu (pv 0) pe_str pe_int rfl)) pss_nil)
      (pss_one (ps_ret (pe_ix ix_list (pv 2) pe_int (fun _ _ => rfl))))) pss_nil)
      (pss_cons (ps_dput hu (pv 0) pe_str (pe_ix ix_list (pv 2) pe_int (fun _ _ => rfl)) rfl)
      (pss_cons (ps_dput hu (pv 0) pe_str pe_int rfl)
      (pss_cons (ps_dput hu (pv 0) pe_str (pe_op op_add (pv 1) (pe_ix ix_tup (pe_dget hu (pv 0) pe_str (fun _ _ => rfl)) pe_int (fun _ _ => rfl))) rfl)
      (pss_cons (ps_if (pt_cmpR op_gt (pe_ix ix_tup (pe_dget hu (pv 0) pe_str (fun _ _ => rfl)) pe_int (fun _ _ => rfl)) pe_int (nomark _)) (pss_one (ps_ret pe_non)) pss_nil)
      (pss_one (ps_ret (pe_ix ix_list (pv 2) pe_int (fun _ _ => rfl)))))))))))), ?_⟩
    walk_at "st0"
    refine hW.get (by rfl) ?_
    walk_at "st"
    refine q_if (fun hc => ?_) (fun hc => ?_)
    · have hc' : t < fr := by simpa using hc
      walk_at "st"
      have eo : opnP (bestL d.lv ws t) run sp (max 0 (fr - t)) d.c2 d.span = ⟨run, sp, max 0 (fr - t), .none⟩ := by unfold opnP; rw [if_neg (by omega)]
      rw [eo] at q
      exact q fr _ H But.refl hW rfl .non
    have hc' : ¬ t < fr := by simpa using hc
    have eo : opnP (bestL d.lv ws t) run sp (max 0 (fr - t)) d.c2 d.span = turnP (bestL d.lv ws t) run sp d.c2 d.span := by unfold opnP; rw [if_pos (by omega)]
    rw [eo] at q
    walk_at "st"
    refine ⟨W, d, ws, run, sp, fr, t, rfl, hW, o, lw, hr2, fun l H1 s1 nl el => ?_⟩
    generalize bestL d.lv ws t = L at q el lL
    have lQ := queue_len (run := run) (sp := sp) (span := d.span) lL
    have hW1 := hW.mono s1
    have b1 : But W H H1 := But.same s1
    walk_at "st"
    refine ⟨by show 0 ≤ sizeLine; decide, fun l0 nl0 => ?_⟩
    have s0 := same_new (o := .lst []) nl0
    replace el := s0 _ _ el
    replace hW1 := hW1.mono s0
    replace b1 := b1.trans (But.same s0)
    have dE : Dp K (upd H1 l0 (.lst [])) (.ref l0) (.list []) := .lst (SqL.of upd_same) .nil
    have dW : ∀ H2 (l : List Int), DpAll K H2 (l.map V.int) (l.map PyData.int) := fun H2 l => by
      induction l with
      | nil => exact .nil
      | cons i l ih => exact .cons (.int _) ih
    refine ⟨.list ((queueP L run sp d.span).map PyData.int), .list [], .lst (SqL.of el) (dW _ _), dE, intsI_shaped _, by decide +kernel, ?_⟩
    generalize upd H1 l0 (.lst []) = H2 at *
    clear dE
    by_cases hL : L = []
    · subst hL
      rw [queue_nil]
      refine ⟨_, rfl, ?_⟩
      refine iteT ?_
      walk_at "st"
      refine hW1.putRun .none rfl fun H3 b3 hW3 => ?_
      walk_at "st"
      refine hW3.putSpent 0 fun H4 b4 hW4 => ?_
      walk_at "st"
      refine q fr _ _ (b1.trans (b3.trans b4)) hW4 ?_ .non
      show (0 : Int) = max 0 (fr - t)
      omega
    · obtain ⟨rest, eq⟩ := queue_cons hL hr2 (sp := sp) (span := d.span)
      rw [eq] at el ⊢
      refine ⟨_, rfl, ?_⟩
      refine iteF ?_
      walk_at "st"
      have nWl : l ≠ W := fun z => by rw [z, hW1.w] at el; cases el
      refine q_ixL (SqL.of el) (atI0 rfl) ?_
      walk_at "st"
      refine hW1.get (by rfl) ?_
      have ht0 : turnP L run sp d.c2 d.span = if goP L run sp d.span then ⟨run, sp, 0, run⟩ else if runOf run = some (followN L run : Int) then ⟨run, 0, 0, .int (followN L run)⟩ else ⟨.int (followN L run), 0, d.c2, if d.c2 = 0 then .int (followN L run) else .none⟩ := by
        unfold turnP
        rw [if_neg hL]
      have esc : scal (.int (if goP L run sp d.span then intOf run else (followN L run : Int))) (runV run) = true := by rcases hr2 with rfl | ⟨i, rfl⟩ <;> rfl
      refine ⟨esc, ?_⟩
      by_cases hg : goP L run sp d.span = true
      · rw [if_pos hg] at ht0 el ⊢
        have hgi : ∃ i, run = .int i := by
          rcases hr2 with rfl | h
          · unfold goP inRun at hg; simp at hg
          · exact h
        obtain ⟨i, rfl⟩ := hgi
        have hsp : sp < d.span := by
          unfold goP at hg
          rw [Bool.and_eq_true] at hg
          exact of_decide_eq_true hg.2
        rw [show intOf (.int i) = i from rfl] at el ⊢
        rw [decide_eq_true (show V.int i = runV (.int i) from rfl)]
        refine ⟨_, rfl, ?_⟩
        refine iteT ?_
        walk_at "st"
        refine hW1.get (by rfl) ?_
        walk_at "st"
        refine hW1.get (by rfl) ?_
        walk_at "st"
        rw [decide_eq_false (show ¬ d.span ≤ sp by omega)]
        refine iteF ?_
        walk_at "st"
        refine q_ixL (SqL.of el) (atI0 rfl) ?_
        rw [ht0] at q
        refine q fr _ _ b1 hW1 ?_ (.int i)
        show (0 : Int) = max 0 (fr - t)
        omega
      · rw [if_neg hg] at ht0 el ⊢
        by_cases hrn : runOf run = some (followN L run : Int)
        · rw [if_pos hrn] at ht0
          have hgi : run = .int (followN L run) := by
            rcases hr2 with e | ⟨i, e⟩
            · rw [e] at hrn; cases hrn
            · rw [e] at hrn ⊢
              have := Option.some.inj hrn
              rw [← this]
          have hsp : ¬ sp < d.span := fun h => hg (by
            unfold goP
            rw [Bool.and_eq_true]
            refine ⟨?_, decide_eq_true h⟩
            have e2 : inRun L run = inRun L (.int (followN L run)) := by rw [← hgi]
            rw [e2]
            unfold inRun
            exact List.any_eq_true.mpr ⟨_, followN_mem hL run, decide_eq_true rfl⟩)
          rw [decide_eq_true (show V.int (followN L run) = runV run by rw [show runV run = runV (.int (followN L run)) from by rw [← hgi]]; rfl)]
          refine ⟨_, rfl, ?_⟩
          refine iteT ?_
          walk_at "st"
          refine hW1.get (by rfl) ?_
          walk_at "st"
          refine hW1.get (by rfl) ?_
          walk_at "st"
          rw [decide_eq_true (show d.span ≤ sp by omega)]
          refine iteT ?_
          walk_at "st"
          refine hW1.putSpent 0 fun H3 b3 hW3 => ?_
          walk_at "st"
          refine q_ixL (SqL.of (b3 _ _ el nWl)) (atI0 rfl) ?_
          rw [ht0] at q
          refine q fr _ _ (b1.trans b3) hW3 ?_ (.int _)
          show (0 : Int) = max 0 (fr - t)
          omega
        · rw [if_neg hrn] at ht0
          have hne : ¬ V.int (followN L run) = runV run := fun h => hrn (by
            rcases hr2 with e | ⟨i, e⟩
            · rw [e] at h; cases h
            · rw [e] at h ⊢
              have h' : V.int (followN L (.int i)) = V.int i := h
              show some i = _
              rw [V.int.inj h'])
          rw [decide_eq_false hne]
          refine ⟨_, rfl, ?_⟩
          refine iteF ?_
          walk_at "st"
          refine q_ixL (SqL.of el) (atI0 rfl) ?_
          walk_at "st"
          refine hW1.putRun (.int (followN L run)) rfl fun H3 b3 hW3 => ?_
          have el3 := b3 _ _ el nWl
          walk_at "st"
          refine hW3.putSpent 0 fun H4 b4 hW4 => ?_
          have el4 := b4 _ _ el3 nWl
          walk_at "st"
          refine hW4.get (by rfl) ?_
          walk_at "st"
          refine q_ixT hW4.tc (atI_nat (j := 2) rfl) ?_
          walk_at "st"
          refine hW4.putFree (t + d.c2) fun H5 b5 hW5 => ?_
          have el5 := b5 _ _ el4 nWl
          walk_at "st"
          refine hW5.get (by rfl) ?_
          walk_at "st"
          refine q_ixT hW5.tc (atI_nat (j := 2) rfl) ?_
          walk_at "st"
          rw [ht0] at q
          have q5 := fun v => q (t + d.c2) v H5 (b1.trans (b3.trans (b4.trans b5))) hW5 (by show d.c2 = max 0 (t + d.c2 - t); omega)
          refine q_if (fun hc => ?_) (fun hc => ?_)
          · have hc' : 0 < d.c2 := by simpa using hc
            walk_at "st"
            simp only at q5
            rw [if_neg (by omega)] at q5
            exact q5 _ .non
          · have hc' : ¬ 0 < d.c2 := by simpa using hc
            walk_at "st"
            refine q_ixL (SqL.of el5) (atI0 rfl) ?_
            simp only at q5
            rw [if_pos (by omega)] at q5
            exact q5 _ (.int _)))) only [↓Hk.hold_s]
end
end T
namespace T
mutual
def noL : PyData → Bool
  | .none => true
  | .bool _ => true
  | .int _ => true
  | .str _ => true
  | .list _ => false
  | .tuple xs => noLs xs
  | .dict _ => false
def noLs : List PyData → Bool
  | [] => true
  | d :: ds => noL d && noLs ds
end
theorem noLs_all : ∀ ds, noLs ds = true ↔ ∀ d ∈ ds, noL d = true
  | [] => by simp [noLs]
  | d :: ds => by simp [noLs, noLs_all ds]
/-- all but lists is as it was -/
def KeepL (H H' : Hp) : Prop := ∀ b o, H b = some o → (∀ xs, o ≠ .lst xs) → H' b = some o
theorem KeepL.put {H : Hp} {a : Addr} {xs ys : List V} (e : H a = some (.lst xs)) : KeepL H (upd H a (.lst ys)) := fun b o h n => by
  have hb : b ≠ a := fun z => by subst z; rw [e] at h; cases h; exact n xs rfl
  rw [upd_ne hb]; exact h
section
variable {K : PySem.W.Frag} {C CR CM : Addr}
theorem KeepL.sqT {H H' : Hp} {a : Addr} {xs : List V} (s : KeepL H H') (h : SqT K H a xs) : SqT K H' a xs := by
  rcases h with (h | ⟨o, h⟩) | h
  · exact .inl (.inl (s _ _ h (by simp)))
  · exact .inl (.inr ⟨o, s _ _ h (by simp)⟩)
  · exact .inr h
theorem noL_list {ds : List PyData} (h : noL (.list ds) = true) : False := by
  rw [noL] at h; cases h
theorem noL_tup {ds : List PyData} (h : noL (.tuple ds) = true) : noLs ds = true := by
  rw [noL] at h; exact h
theorem noLs_cons {d : PyData} {ds : List PyData} (h : noLs (d :: ds) = true) : noL d = true ∧ noLs ds = true := by
  rw [noLs] at h; exact Bool.and_eq_true_iff.mp h
set_option maxHeartbeats 400000 in
mutual
theorem dpKeepL {H H' : Hp} (s : KeepL H H') : ∀ {v : V} {d : PyData}, Dp K H v d → noL d = true → Dp K H' v d
  | _, _, .non, _ => .non
  | _, _, .bl b, _ => .bl b
  | _, _, .int i, _ => .int i
  | _, _, .str x, _ => .str x
  | _, _, .lst _ _, h => (noL_list h).elim
  | _, _, .tup t a, h => .tup (KeepL.sqT s t) (dpAllKeepL s a (noL_tup h))
theorem dpAllKeepL {H H' : Hp} (s : KeepL H H') : ∀ {vs : List V} {ds : List PyData}, DpAll K H vs ds → noLs ds = true → DpAll K H' vs ds
  | _, _, .nil, _ => .nil
  | _, _, .cons a t, h => .cons (dpKeepL s a (noLs_cons h).1) (dpAllKeepL s t (noLs_cons h).2)
end
theorem pairedKV_keepL {H H' : Hp} (s : KeepL H H') : ∀ {kvs : List (Key × V)} {l : List (Str × PyData)}, (∀ p ∈ l, noL p.2 = true) → Paired (fun p q => p.1 = Sum.inr q.1 ∧ Dp K H p.2 q.2) kvs l → Paired (fun p q => p.1 = Sum.inr q.1 ∧ Dp K H' p.2 q.2) kvs l
  | [], [], _, .nil => .nil
  | _ :: _, q :: l, h, .cons a t => .cons ⟨a.1, dpKeepL s a.2 (h _ List.mem_cons_self)⟩ (pairedKV_keepL s (fun p hp => h p (List.mem_cons_of_mem _ hp)) t)
/-- all that a build holds is without lists -/
structure NoB (b : BD) : Prop where
  parts : ∀ p ∈ b.parts, noL p.2 = true
  rules : ∀ f, noL (rulesD b f) = true
theorem BuildAt.keepL {H H' : Hp} {p : Addr} {b : BD} (h : BuildAt K C CR H p b) (N : NoB b) (s : KeepL H H') : BuildAt K C CR H' p b := by
  obtain ⟨⟨ok, dx2, fs2, q, kvs, e1, e2, e3, e4, e5⟩, dx, fs, r, f1, f2, dxr, fsr, g1, g2, g3, c, g4, g5⟩ := h
  exact ⟨⟨ok, dx2, fs2, q, kvs, s _ _ e1 (by simp), e2, s _ _ e3 (by simp), pairedKV_keepL s N.parts e4, e5⟩, dx, fs, r, s _ _ f1 (by simp), f2, dxr, fsr, s _ _ g1 (by simp), g2, fun f hf => by
    obtain ⟨v, a1, a2⟩ := g3 f hf
    exact ⟨v, a1, dpKeepL s a2 (N.rules f)⟩, c, g4, s _ _ g5 (by simp)⟩
theorem MAt.keepL {H H' : Hp} {m p : Addr} {b : BD} {D : KD} (h : MAt K C CR CM H m p b D) (N : NoB b) (hD : noL (shapeOf D) = true) (s : KeepL H H') : MAt K C CR CM H' m p b D := by
  obtain ⟨dx, fs, v, e, o, e1, e2, d, B⟩ := h
  exact ⟨dx, fs, v, s _ _ e (by simp), o, e1, e2, dpKeepL s d hD, B.keepL N s⟩
end
theorem noL_ints {f : PyData → Int} (l : List PyData) : noLs (l.map fun d => PyData.int (f d)) = true := by
  rw [noLs_all]
  intro d hd
  obtain ⟨x, _, rfl⟩ := List.mem_map.mp hd
  rfl
theorem noL_rep {d : PyData} (h : noL d = true) (n : Nat) : noLs (List.replicate n d) = true := by
  rw [noLs_all]
  intro x hx
  rw [(List.mem_replicate.mp hx).2]; exact h
end T
namespace T
section
variable {P : Program} {w : World} {K : PySem.W.Frag} {mg : Str → Option Value} {base : Heap} {C CR CM : Addr} {d : WD} {W : Addr}
def lfOk (x : PyData) : Prop := x = .none ∨ ∃ s, x = .str s
theorem st_noL (t x : Int) : noL (stAt t x) = true := by unfold stAt; split <;> rfl
theorem lf_noL1 {x : PyData} (h : lfOk x) : noL x = true := by rcases h with rfl | ⟨_, rfl⟩ <;> rfl
theorem st_dep (t x : Int) (k : Nat) : depN (k + 2) (stAt t x) := by
  unfold stAt
  split
  · exact .inr ⟨_, .inr rfl, by show 2 ≤ 1000; decide, fun e he => by
      simp only [List.mem_cons, List.not_mem_nil, or_false] at he
      rcases he with rfl | rfl <;> exact .inl trivial⟩
  · exact .inr ⟨_, .inr rfl, by show 1 ≤ 1000; decide, fun e he => by simp only [List.mem_cons, List.not_mem_nil, or_false] at he; subst he; exact .inl trivial⟩
def spStands (K : PySem.W.Frag) (C CR CM : Addr) : Sp := fun vs H Q _ => ∃ (W mo p : Addr) (b : BD) (D : KD) (d : WD) (ws : List Int) (run : PyData) (sp fr t : Int) (as : List PyData) (v : V), vs = [.ref W, .ref mo, .int t, v] ∧ WAt K H W d ws run sp fr ∧ WOk d ∧ ws.length = d.m ∧ as.length = d.m ∧ (run = .none ∨ ∃ i, run = .int i) ∧ (∀ x ∈ as, lfOk x) ∧ MAt K C CR CM H mo p b D ∧ (dl b.tasks).length = d.m ∧
  D .statuses = .tuple (ws.map (stAt t)) ∧ D .answers = .tuple as ∧ Dp K H v (.list as) ∧ runD D = .tuple [run, .int sp, .int (max 0 (fr - t)), .int 0] ∧ ∀ H', Same H H' → Q (.bl true) H'
theorem ok_law_stands (B : Bl mg) (c__law_same : Cal P w K mg base 5 "_law_same" ["_law_told", "_law_due"] (spSameT K 5)) (m_status : MCal P w K mg base 5 CM "status" ["self", "task"] (spStatus K C CR CM)) (m_answer : MCal P w K mg base 5 CM "answer" ["self", "task"] (spAnswer K C CR CM)) (m_running : MCal P w K mg base 1 CM "running" ["self"] (spGetM K C CR CM fun b D p H v H' => Dp K H' v (runD D)))
    (cc : DefAt K mg "_law_stands" s__law_stands ["_law_world", "_law_moment", "_law_time", "_law_answers"]) : Cal P w K mg base 6 "_law_stands" ["_law_world", "_law_moment", "_law_time", "_law_answers"] (spStands K C CR CM) := by
 refine Hk.hold ?_
 simp (disch := with_unfolding_all (
 exact Hk.disch (cc.cal fun f fd F => by
  refine F.ok sc__law_stands (fun vs H Q E h => ?_) (fun cdv A outer s H vs Q E hr h => ?_)
  · obtain ⟨W, mo, p, b, D, d, ws, run, sp, fr, t, as, v, rfl, _⟩ := h; rfl
  · obtain ⟨W, mo, p, b, D, d, ws, run, sp, fr, t, as, v, rfl, hW, o, lw, la, hr2, al, hM, eT, eS, eA, dA, eR, q⟩ := h
    have hu := hu_of hr
    have m4 := o.m4
    refine ⟨_, (pss_cons (ps_set (i := 4) sc__law_stands.nd rfl (Or.inl rfl) (pe_lst pa_nil))
      (pss_cons (ps_for PassesOwn.never rfl (pi_list (pe_dget hu (pv 0) pe_str (fun _ _ => rfl))) (pg_name (i := 5) sc__law_stands.nd rfl (Or.inl rfl)) (pss_cons (ps_set (i := 6) sc__law_stands.nd rfl (Or.inl rfl) (pe_tup (pa_cons pe_str pa_nil)))
      (pss_cons (ps_if (pt_cmpR op_gt (pv 5) (pv 2) (nomark _)) (pss_one (ps_set (i := 6) sc__law_stands.nd rfl (Or.inl rfl) (pe_tup (pa_cons pe_str (pa_cons (pe_op op_sub (pv 5) (pv 2)) pa_nil))))) pss_nil)
      (pss_one (ps_expr (pe_bm PySem.F.plainAttrs_list PySem.F.slot_list_append PySem.F.type_list_append mt_append (pv 4) (pa_cons (pv 6) pa_nil)))))))
      (pss_cons (ps_if (pt_not (pt_val (pe_cal c__law_same (hr.mono (by omega)) rfl (pa_cons (pe_lc (own := [("_law_one", 7)]) (tt := tYes) rfl sc__law_stands.nd (pi_range1 rfl B.range (pa_cons (pe_dget hu (pv 0) pe_str (fun _ _ => rfl)) pa_nil)) (blkOk_by (N := ["_law_world", "_law_moment", "_law_time", "_law_answers", "_law_statuses", "_law_wake", "_law_status", "_law_one"]) (sc := defScope s__law_stands) (by decide +kernel)) (fun _ _ _ _ _ => (pg_name (i := 7) sc__law_stands.nd rfl (Or.inl rfl))) (fun _ _ _ _ _ => pts_nil) (fun _ _ _ _ _ => (pe_mcal m_status (hr.mono (by omega)) (pv 1) (pa_cons (pv 7) pa_nil)))) (pa_cons (pv 4) pa_nil))))) (pss_one (ps_ret pe_bl)) pss_nil)
      (pss_cons (ps_if (pt_not (pt_val (pe_cal c__law_same (hr.mono (by omega)) rfl (pa_cons (pe_lc (own := [("_law_one", 7)]) (tt := tYes) rfl sc__law_stands.nd (pi_range1 rfl B.range (pa_cons (pe_dget hu (pv 0) pe_str (fun _ _ => rfl)) pa_nil)) (blkOk_by (N := ["_law_world", "_law_moment", "_law_time", "_law_answers", "_law_statuses", "_law_wake", "_law_status", "_law_one"]) (sc := defScope s__law_stands) (by decide +kernel)) (fun _ _ _ _ _ => (pg_name (i := 7) sc__law_stands.nd rfl (Or.inl rfl))) (fun _ _ _ _ _ => pts_nil) (fun _ _ _ _ _ => (pe_mcal m_answer (hr.mono (by omega)) (pv 1) (pa_cons (pv 7) pa_nil)))) (pa_cons (pv 3) pa_nil))))) (pss_one (ps_ret pe_bl)) pss_nil)
      (pss_one (ps_ret (pe_cal c__law_same (hr.mono (by omega)) rfl (pa_cons (pe_mcal0 m_running (hr.mono (by omega)) (pv 1)) (pa_cons (pe_tup (pa_cons (pe_dget hu (pv 0) pe_str (fun _ _ => rfl)) (pa_cons (pe_dget hu (pv 0) pe_str (fun _ _ => rfl)) (pa_cons (pe_callB (call_max2 rfl) rfl B.max hb_max (pa_cons pe_int (pa_cons (pe_op op_sub (pe_dget hu (pv 0) pe_str (fun _ _ => rfl)) (pv 2)) pa_nil))) (pa_cons pe_int pa_nil))))) pa_nil))))))))), ?_⟩
    walk_at "st0"
    refine ⟨by show 0 ≤ sizeLine; decide, fun X nX => ?_⟩
    have sX := same_new (o := .lst []) nX
    have eX : upd H X (.lst []) X = some (.lst []) := upd_same
    have hW1 := hW.mono sX
    generalize upd H X (.lst []) = H1 at *
    walk_at "st"
    let J : Nat → L2.St → Hp → Prop := fun j σ H' => ∃ (o5 o6 o7 : Option V) (ys : List V), σ = [some (.ref W), some (.ref mo), some (.int t), some v, some (.ref X), o5, o6, o7] ∧ But X H1 H' ∧ H' X = some (.lst ys) ∧ ys.length = j ∧ ∀ (i : Nat) y w, ys[i]? = some y → ws[i]? = some w → Dp K H' y (stAt t w)
    have kW : ∀ H', But X H1 H' → WAt K H' W d ws run sp fr := fun H' b => hW.mono fun a o ha => b _ _ (sX _ _ ha) (ne_of_none ha nX)
    refine q_forL (ws.map V.int) J ⟨_, _, _, [], rfl, But.refl, eX, rfl, fun i y w h => by simp at h⟩ (fun i σ H2 _ I => ?_) (fun i x σ H2 ex I => ?_) (fun σ H2 I => ?_) (SqL.of hW1.lw) _ (fun Q q => by walk_at "st"; exact hW1.get (z := "wakes") (by rfl) q)
    · obtain ⟨o5, o6, o7, ys, rfl, b2, _⟩ := I
      exact SqL.of (kW _ b2).lw
    · obtain ⟨o5, o6, o7, ys, rfl, b2, eY, ly, hy⟩ := I
      rw [List.getElem?_map] at ex
      obtain ⟨x, ew, rfl⟩ := Option.map_eq_some_iff.mp ex
      have ix := (List.getElem?_eq_some_iff.mp ew).1
      show tSeq _ _ _ [some (.ref W), some (.ref mo), some (.int t), some v, some (.ref X), some (.int x), o6, o7] _
      walk_at "st"
      refine ⟨by show 1 ≤ sizeLine; decide, fun rt nrt => ?_⟩
      have sr := same_new (o := .tup [V.str "ready"]) nrt
      have dr : Dp K (upd H2 rt (.tup [V.str "ready"])) (.ref rt) readyD := .tup (SqT.of upd_same) (.cons (.str _) .nil)
      generalize upd H2 rt (.tup [V.str "ready"]) = H3 at *
      walk_at "st"
      have fin : ∀ H4 y, Same H2 H4 → Dp K H4 y (stAt t x) → J (i + 1) [some (.ref W), some (.ref mo), some (.int t), some v, some (.ref X), some (.int x), some y, o7] (upd H4 X (.lst (ys ++ [y]))) := fun H4 y s4 dy => by
        refine ⟨_, _, _, ys ++ [y], rfl, (b2.trans (But.same s4)).trans But.put, upd_same, by simp [ly], fun k z w0 hk hw => ?_⟩
        have kp : ∀ {u : V} {dd : PyData}, Dp K H4 u dd → noL dd = true → Dp K (upd H4 X (.lst (ys ++ [y]))) u dd := fun h1 h2 => dpKeepL (KeepL.put (s4 _ _ eY)) h1 h2
        rw [List.getElem?_append] at hk
        split at hk
        · exact kp (L2.Dp.mono s4 (hy k z w0 hk hw)) (st_noL _ _)
        · rename_i hge
          have : k = i := by
            rcases Nat.lt_trichotomy k i with h | h | h
            · omega
            · exact h
            · rw [List.getElem?_eq_none (by simp; omega)] at hk; cases hk
          subst this
          rw [ew] at hw
          cases hw
          simp [ly] at hk
          subst hk
          exact kp dy (st_noL _ _)
      refine q_if (fun hc => ?_) (fun hc => ?_)
      · have hc' : t < x := by simpa using hc
        walk_at "st"
        refine ⟨by show 2 ≤ sizeLine; decide, fun pt npt => ?_⟩
        have sp2 := same_new (o := .tup [V.str "asleep", V.int (x - t)]) npt
        have dn : Dp K (upd H3 pt (.tup [V.str "asleep", V.int (x - t)])) (.ref pt) (stAt t x) := by
          unfold stAt
          rw [if_pos hc']
          exact .tup (SqT.of upd_same) (.cons (.str _) (.cons (.int _) .nil))
        generalize upd H3 pt (.tup [V.str "asleep", V.int (x - t)]) = H4 at *
        walk_at "st"
        have e4 := (sr.trans sp2) _ _ eY
        refine ⟨.inl ⟨rfl, _, SqL.of e4⟩, ?_⟩
        walk_at "st"
        exact ⟨X, _, _, rfl, rfl, e4, sz1000 (by omega), fin _ _ (sr.trans sp2) dn⟩
      · have hc' : ¬ t < x := by simpa using hc
        have dn : Dp K H3 (.ref rt) (stAt t x) := by
          unfold stAt
          rw [if_neg hc']
          exact dr
        walk_at "st"
        have e4 := sr _ _ eY
        refine ⟨.inl ⟨rfl, _, SqL.of e4⟩, ?_⟩
        walk_at "st"
        exact ⟨X, _, _, rfl, rfl, e4, sz1000 (by omega), fin _ _ sr dn⟩
    obtain ⟨o5, o6, o7, ys, rfl, b2, eY, ly, hy⟩ := I
    rw [List.length_map] at ly
    have sH : Same H H2 := fun a o ha => b2 _ _ (sX _ _ ha) (ne_of_none ha nX)
    have dD : Dp K H2 (.ref X) (.list (ws.map (stAt t))) := .lst (SqL.of eY) (dpAll_of (by rw [List.length_map]; omega) fun i y dd hyy hdd => by
      rw [List.getElem?_map] at hdd
      obtain ⟨x, hx, rfl⟩ := Option.map_eq_some_iff.mp hdd
      exact hy i y x hyy hx)
    have hW4 := hW.mono sH
    have hM4 := hM.mono sH
    have dA4 := L2.Dp.mono sH dA
    clear b2 eY hy
    walk_at "st"
    refine q_lcR ?_
    walk_at "st"
    refine hW4.get (by rfl) ?_
    refine ⟨(d.m : Int), rfl, by omega, by omega, ?_⟩
    rw [Int.toNat_natCast]
    refine fun X2 nX2 => lc_rel walk_range (fun i y Hh => ∀ x, ws[i]? = some x → Dp K Hh y (stAt t x)) nX2 (sz1000 (by omega)) (fun H2 s => trivial) yfn_same ?_ ?_ ?_
    · rintro i y Ha Hb acc e bt h x hx
      exact dpKeepL (fun b o' hb nb => bt _ _ hb (fun z => by subst z; rw [e] at hb; cases hb; exact nb _ rfl)) (h x hx) (st_noL _ x)
    · rintro i x H6 H7 lt s ⟨rfl, rfl⟩ Q' k
      refine q_gname ?_
      refine ⟨rfl, ?_⟩
      walk_at "st"
      refine (hM4.mono s).meth (by decide +kernel) ?_
      walk_at "st"
      rw [Int.zero_add]
      obtain ⟨y, hy⟩ : ∃ y, ws[i]? = some y := ⟨_, List.getElem?_eq_getElem (by omega)⟩
      exact ⟨mo, p, b, D, i, _, stAt t y, rfl, hM4.mono s, by omega, eS, by rw [List.getElem?_map, hy]; rfl, fun v dv => k v _ (Same.refl _) fun x hx => by rw [hy] at hx; cases hx; exact dv⟩
    intro ys1 H5 s5 eX5 lX rX
    have dX : Dp K H5 (.ref X2) (.list (ws.map (stAt t))) := .lst (SqL.of eX5) (dpAll_of (by rw [List.length_map]; omega) fun i y dd hy hdd => by
      rw [List.getElem?_map] at hdd
      obtain ⟨x, hx, rfl⟩ := Option.map_eq_some_iff.mp hdd
      exact rX i y hy x hx)
    walk_at "st"
    refine ⟨.ref X2, .ref X, .list (ws.map (stAt t)), rfl, dX, L2.Dp.mono s5 dD, .inr ⟨_, .inl rfl, by rw [List.length_map]; omega, fun e he => by obtain ⟨x, _, rfl⟩ := List.mem_map.mp he; exact st_dep t x 2⟩, ?_⟩
    refine ⟨_, rfl, ?_⟩
    refine iteF ?_
    have hW5 := hW4.mono s5
    have hM5 := hM4.mono s5
    have sH5 := sH.trans s5
    have dA5 := L2.Dp.mono s5 dA4
    clear rX lX eX5 dX dD sH hW4 hM4 dA4 s5
    walk_at "st"
    refine q_lcR ?_
    walk_at "st"
    refine hW5.get (by rfl) ?_
    refine ⟨(d.m : Int), rfl, by omega, by omega, ?_⟩
    rw [Int.toNat_natCast]
    refine fun X3 nX3 => lc_rel walk_range (fun i y Hh => ∀ x, as[i]? = some x → Dp K Hh y x) nX3 (sz1000 (by omega)) (fun H2 s => trivial) yfn_same ?_ ?_ ?_
    · rintro i y Ha Hb acc e bt h x hx
      exact dpKeepL (fun b o' hb nb => bt _ _ hb (fun z => by subst z; rw [e] at hb; cases hb; exact nb _ rfl)) (h x hx) (lf_noL1 (al x (List.mem_of_getElem? hx)))
    · rintro i x H6 H7 lt s ⟨rfl, rfl⟩ Q' k
      refine q_gname ?_
      refine ⟨rfl, ?_⟩
      walk_at "st"
      refine (hM5.mono s).meth (by decide +kernel) ?_
      walk_at "st"
      rw [Int.zero_add]
      obtain ⟨y, hy⟩ : ∃ y, as[i]? = some y := ⟨_, List.getElem?_eq_getElem (by omega)⟩
      exact ⟨mo, p, b, D, i, _, y, rfl, hM5.mono s, by omega, eA, hy, fun v dv => k v _ (Same.refl _) fun x hx => by rw [hy] at hx; cases hx; exact dv⟩
    intro ys2 H6 s6 eX6 lX rX
    have dX : Dp K H6 (.ref X3) (.list as) := .lst (SqL.of eX6) (dpAll_of (by omega) fun i y dd hy hdd => rX i y hy dd hdd)
    have hW6 := hW5.mono s6
    have hM6 := hM5.mono s6
    have sH6 := sH5.trans s6
    have dA6 := L2.Dp.mono s6 dA5
    clear rX lX eX6 hW5 hM5 sH5 s6 dA5
    walk_at "st"
    refine ⟨.ref X3, v, .list as, rfl, dX, dA6, .inr ⟨_, .inl rfl, by omega, fun e he => by rcases al e he with rfl | ⟨_, rfl⟩ <;> exact .inl trivial⟩, ?_⟩
    refine ⟨_, rfl, ?_⟩
    refine iteF ?_
    walk_at "st"
    refine hM6.meth (by decide +kernel) ?_
    walk_at "st"
    refine ⟨mo, p, b, D, rfl, hM6, fun v7 H7 s7 d7 => ?_⟩
    have hW7 := hW6.mono s7
    walk_at "st"
    refine hW7.get (by rfl) ?_
    walk_at "st"
    refine hW7.get (by rfl) ?_
    walk_at "st"
    refine hW7.get (by rfl) ?_
    walk_at "st"
    refine ⟨_, _, rfl, ?_⟩
    refine ⟨by show 4 ≤ sizeLine; decide, fun pt npt => ?_⟩
    have em : (if fr - t > 0 then fr - t else 0) = max 0 (fr - t) := by split <;> omega
    rw [em]
    have sp3 := same_new (o := .tup [runV run, V.int sp, V.int (max 0 (fr - t)), V.int 0]) npt
    have dR : Dp K (upd H7 pt (.tup [runV run, V.int sp, V.int (max 0 (fr - t)), V.int 0])) (runV run) run := by
      rcases hr2 with rfl | ⟨i, rfl⟩
      · exact .non
      · exact .int i
    have dt : Dp K (upd H7 pt (.tup [runV run, V.int sp, V.int (max 0 (fr - t)), V.int 0])) (.ref pt) (runD D) := by
      rw [eR]
      exact .tup (SqT.of upd_same) (.cons dR (.cons (.int _) (.cons (.int _) (.cons (.int _) .nil))))
    walk_at "st"
    refine ⟨v7, .ref pt, runD D, rfl, L2.Dp.mono sp3 d7, dt, ?_, q _ (sH6.trans (s7.trans sp3))⟩
    rw [eR]
    exact .inr ⟨_, .inr rfl, by show 4 ≤ 1000; decide, fun e he => by
      simp only [List.mem_cons, List.not_mem_nil, or_false] at he
      rcases he with rfl | rfl | rfl | rfl
      · rcases hr2 with rfl | ⟨i, rfl⟩ <;> exact .inl trivial
      all_goals exact .inl trivial⟩))) only [↓Hk.hold_s]
end
end T
namespace T
section
variable {P : Program} {w : World} {K : PySem.W.Frag} {mg : Str → Option Value} {base : Heap}
local macro_rules | `(tactic| walk_at "s1") => `(tactic| with_reducible refine q_dputW ?_)
section
variable (m sp c0 c1 : Int) (ct : Addr) (pd : Bool) (py : Int) (LT LW : Addr)
def kv4 : List (Key × V) := [(Sum.inr "many", .int m), (Sum.inr "span", .int sp), (Sum.inr "costs", .ref ct), (Sum.inr "padded", .bl pd)]
def kv5 : List (Key × V) := [(Sum.inr "many", .int m), (Sum.inr "span", .int sp), (Sum.inr "costs", .ref ct), (Sum.inr "padded", .bl pd), (Sum.inr "pays", .int py)]
def kv6 : List (Key × V) := [(Sum.inr "many", .int m), (Sum.inr "span", .int sp), (Sum.inr "costs", .ref ct), (Sum.inr "padded", .bl pd), (Sum.inr "pays", .int py), (Sum.inr "tasks", .ref LT)]
def kv7 : List (Key × V) := [(Sum.inr "many", .int m), (Sum.inr "span", .int sp), (Sum.inr "costs", .ref ct), (Sum.inr "padded", .bl pd), (Sum.inr "pays", .int py), (Sum.inr "tasks", .ref LT), (Sum.inr "wakes", .ref LW)]
def kv8 : List (Key × V) := [(Sum.inr "many", .int m), (Sum.inr "span", .int sp), (Sum.inr "costs", .ref ct), (Sum.inr "padded", .bl pd), (Sum.inr "pays", .int py), (Sum.inr "tasks", .ref LT), (Sum.inr "wakes", .ref LW), (Sum.inr "run", .non)]
def kv9 : List (Key × V) := [(Sum.inr "many", .int m), (Sum.inr "span", .int sp), (Sum.inr "costs", .ref ct), (Sum.inr "padded", .bl pd), (Sum.inr "pays", .int py), (Sum.inr "tasks", .ref LT), (Sum.inr "wakes", .ref LW), (Sum.inr "run", .non), (Sum.inr "spent", .int 0)]
end
/-- what the tasks are -/
structure TsOk (d : WD) : Prop where
  s : ∀ x ∈ d.ts, 0 ≤ x.1 ∧ x.1 ≤ 3 ∧ 0 ≤ x.2 ∧ x.2 ≤ 2
  two : ∃ x ∈ d.ts, ∃ y ∈ d.ts, x.1 ≠ y.1
  sp1 : 1 ≤ d.span
  sp8 : d.span ≤ 8
  c0 : d.c0 ≤ 3
  c1 : d.c1 ≤ 3
  c2 : d.c2 ≤ 2
theorem mulW {i j : Int} (h1 : 0 ≤ i ∧ i < 4) (h2 : 0 ≤ j ∧ j < 2) : CMulW i j := by
  rcases (show i = 0 ∨ i = 1 ∨ i = 2 ∨ i = 3 by omega) with rfl | rfl | rfl | rfl <;> rcases (show j = 0 ∨ j = 1 by omega) with rfl | rfl <;> (unfold CMulW; decide +kernel)
theorem pay_eq {a b c : Int} (h : 0 ≤ c ∧ c < 2) : a + b * c = payI a b (decide (c = 1)) := by
  rcases (show c = 0 ∨ c = 1 by omega) with rfl | rfl
  · unfold payI; simp
  · unfold payI; simp
theorem mulW2 {i : Nat} (h1 : i < 4) : CMulW 2 (i : Int) := by
  rcases (show i = 0 ∨ i = 1 ∨ i = 2 ∨ i = 3 by omega) with rfl | rfl | rfl | rfl <;> (unfold CMulW; decide +kernel)
def tsOf (m : Nat) (es : List Int) : List (Int × Int) := (List.range m).map fun k => (es.getD (2 * k) 0, es.getD (2 * k + 1) 0)
theorem rep_flat (x : Int) : ∀ m : Nat, (List.replicate m [V.int x]).flatten = (List.replicate m x).map V.int
  | 0 => rfl
  | n + 1 => by rw [List.replicate_succ, List.flatten_cons, rep_flat x n, List.replicate_succ, List.map_cons]; rfl
theorem q_lsd {K : PySem.W.Frag} {ta : TE} {σ : L2.St} {H : Hp} {Q : VK} (h : ta σ H fun x H1 => ∃ (l : Addr) (ns : List Int), x = V.ref l ∧ SqL K H1 l (ns.map V.int) ∧ ns.length < 60 ∧ Q (.int (distinct ns)) H1) : tLenSetD K ta σ H Q := h
theorem q_getD {W : Addr} {H : Hp} {kv : List (Key × V)} {z : Str} {v : V} (h : H W = some (.dK kv)) (e : valV kv (Sum.inr z) = some v) {Q : V → Prop} (q : Q v) : ∃ a v, V.ref W = .ref a ∧ DGet H a (.str z) (some v) ∧ Q v :=
  ⟨W, v, rfl, by rw [← e]; exact DGet.k (k := Sum.inr z) h, q⟩
def spStarted (K : PySem.W.Frag) : Sp := fun vs H Q _ => ∃ (a : Addr) (ns : List Int), vs = [.ref a] ∧ SqL K H a (ns.map V.int) ∧ ns.length ≤ 63 ∧
  ∀ W d H', Same H H' → H W = none → H d.LW = none → WAt K H' W d (List.replicate d.m (-1)) .none 0 0 → WOk d → TsOk d → Q (.ref W) H'
theorem ok_law_started (B : Bl mg) (c__law_cell : Cal P w K mg base 1 "_law_cell" ["_law_script", "_law_k"] (spCell K)) (c__law_digits : Cal P w K mg base 1 "_law_digits" ["_law_cell_here", "_law_sizes"] (spDigits K))
    (cc : DefAt K mg "_law_started" s__law_started ["_law_script"]) : Cal P w K mg base 2 "_law_started" ["_law_script"] (spStarted K) := by
 refine Hk.hold ?_
 simp (disch := with_unfolding_all (
 exact Hk.disch (cc.cal fun f fd F => by
  refine F.ok sc__law_started (fun vs H Q E h => ?_) (fun cdv A outer s H vs Q E hr h => ?_)
  · obtain ⟨a, ns, rfl, _⟩ := h; rfl
  · obtain ⟨a, ns, rfl, hs, l63, q⟩ := h
    have hu := hu_of hr
    refine ⟨_, (pss_cons (ps_set (i := 1) sc__law_started.nd rfl (Or.inl rfl) (pe_cal c__law_digits (hr.mono (by omega)) rfl (pa_cons (pe_cal c__law_cell (hr.mono (by omega)) rfl (pa_cons (pv 0) (pa_cons pe_int pa_nil))) (pa_cons (pe_lst (pa_cons pe_int (pa_cons pe_int (pa_cons pe_int (pa_cons pe_int (pa_cons pe_int (pa_cons pe_int pa_nil))))))) pa_nil))))
      (pss_cons (ps_set (i := 2) sc__law_started.nd rfl (Or.inl rfl) (pe_op op_add pe_int (pe_ix ix_list (pv 1) pe_int (fun _ _ => rfl))))
      (pss_cons (ps_set (i := 3) sc__law_started.nd rfl (Or.inl rfl) (pe_disp (pps_cons pe_str (pv 2) (pps_cons pe_str (pe_op op_add pe_int (pe_ix ix_list (pv 1) pe_int (fun _ _ => rfl))) (pps_cons pe_str (pe_tup (pa_cons (pe_op op_add pe_int (pe_ix ix_list (pv 1) pe_int (fun _ _ => rfl))) (pa_cons (pe_ix ix_list (pv 1) pe_int (fun _ _ => rfl)) (pa_cons (pe_ix ix_list (pv 1) pe_int (fun _ _ => rfl)) pa_nil)))) (pps_cons pe_str (pe_cmpR op_eq (pe_ix ix_list (pv 1) pe_int (fun _ _ => rfl)) pe_int (nomark _)) pps_nil)))) rfl rfl (by simp) (by decide)))
      (pss_cons (ps_dput hu (pv 3) pe_str (pe_op op_add (pe_op op_add pe_int (pe_ix ix_list (pv 1) pe_int (fun _ _ => rfl))) (pe_op op_mulW (pe_ix ix_list (pv 1) pe_int (fun _ _ => rfl)) (pe_ix ix_list (pv 1) pe_int (fun _ _ => rfl)))) rfl)
      (pss_cons (ps_set (i := 4) sc__law_started.nd rfl (Or.inr rfl) (pe_cal c__law_digits (hr.mono (by omega)) rfl (pa_cons (pe_cal c__law_cell (hr.mono (by omega)) rfl (pa_cons (pv 0) (pa_cons pe_int pa_nil))) (pa_cons (pe_lst (pa_cons pe_int (pa_cons pe_int (pa_cons pe_int (pa_cons pe_int (pa_cons pe_int (pa_cons pe_int (pa_cons pe_int (pa_cons pe_int pa_nil))))))))) pa_nil))))
      (pss_cons (ps_dput hu (pv 3) pe_str (pe_lc (own := [("_law_k", 6)]) (tt := tYes) rfl sc__law_started.nd (pi_range1 rfl B.range (pa_cons (pv 2) pa_nil)) (blkOk_by (N := ["_law_script", "_law_d", "_law_many", "_law_world", "_law_rows", "_law_tasks", "_law_k", "_law_row"]) (sc := defScope s__law_started) (by decide +kernel)) (fun _ _ _ _ _ => (pg_name (i := 6) sc__law_started.nd rfl (Or.inl rfl))) (fun _ _ _ _ _ => pts_nil) (fun _ _ _ _ _ => (pe_tup (pa_cons (pe_ix (show IxR _ (rIxL K) from ix_list) (pv 4) (pe_op op_mulW pe_int (pv 6)) (fun _ _ => rfl)) (pa_cons (pe_ix (show IxR _ (rIxL K) from ix_list) (pv 4) (pe_op op_add (pe_op op_mulW pe_int (pv 6)) pe_int) (fun _ _ => rfl)) pa_nil))))) rfl)
      (pss_cons (ps_if (pt_cmpR op_eq (pe_lenSetD rfl rfl B.len rfl B.set_ (pe_lc (own := [("_law_row", 7)]) (tt := tYes) rfl sc__law_started.nd (pi_list (pe_dget hu (pv 3) pe_str (fun _ _ => rfl))) (blkOk_by (N := ["_law_script", "_law_d", "_law_many", "_law_world", "_law_rows", "_law_tasks", "_law_k", "_law_row"]) (sc := defScope s__law_started) (by decide +kernel)) (fun _ _ _ _ _ => (pg_name (i := 7) sc__law_started.nd rfl (Or.inl rfl))) (fun _ _ _ _ _ => pts_nil) (fun _ _ _ _ _ => (pe_ix (show IxR _ (rIxT K) from ix_tup) (pv 7) pe_int (fun _ _ => rfl))))) pe_int (nomark _)) (pss_cons (ps_set (i := 5) sc__law_started.nd rfl (Or.inl rfl) (pe_dget hu (pv 3) pe_str (fun _ _ => rfl)))
      (pss_one (ps_asg (pe_tup (pa_cons (pe_op op_mod (pe_callTy call_int1 rfl B.int_ hb_int (pa_cons (pe_op op_add (pe_ix ix_tup (pe_ix ix_list (pv 5) pe_int (fun _ _ => rfl)) pe_int (fun _ _ => rfl)) pe_int) pa_nil)) pe_int) (pa_cons (pe_ix ix_tup (pe_ix ix_list (pv 5) pe_int (fun _ _ => rfl)) pe_int (fun _ _ => rfl)) pa_nil))) (pg_sub (pv 5) pe_int set_list)))) pss_nil)
      (pss_cons (ps_dput hu (pv 3) pe_str (pe_op op_rep (pe_lst (pa_cons (pe_un un_neg pe_int) pa_nil)) (pv 2)) rfl)
      (pss_cons (ps_dput hu (pv 3) pe_str pe_non rfl)
      (pss_cons (ps_dput hu (pv 3) pe_str pe_int rfl)
      (pss_cons (ps_dput hu (pv 3) pe_str pe_int rfl)
      (pss_one (ps_ret (pv 3)))))))))))))), ?_⟩
    walk_at "st0"
    refine ⟨a, ns, 0, rfl, hs, l63, by omega, fun c0 H1 hc0 s1 => ?_⟩
    walk_at "st"
    refine ⟨by show 6 ≤ sizeLine; decide, fun p1 n1 => ?_⟩
    have sp1 := s1.trans (same_new (o := .lst [V.int 3, V.int 8, V.int 3, V.int 4, V.int 3, V.int 2]) n1)
    walk_at "st"
    refine ⟨c0, p1, [3, 8, 3, 4, 3, 2], rfl, hc0, SqL.of upd_same, by decide, by decide, fun dA ds H2 s2 nd eD ld hd => ?_⟩
    have sA : Same H H2 := sp1.trans s2
    clear sp1 s2 s1
    obtain ⟨d0, d1, d2, d3, d4, d5, rfl⟩ : ∃ d0 d1 d2 d3 d4 d5, ds = [d0, d1, d2, d3, d4, d5] := by
      match ds, ld with
      | [d0, d1, d2, d3, d4, d5], _ => exact ⟨d0, d1, d2, d3, d4, d5, rfl⟩
    have b0 := hd 0 d0 3 rfl rfl
    have b1 := hd 1 d1 8 rfl rfl
    have b2 := hd 2 d2 3 rfl rfl
    have b3 := hd 3 d3 4 rfl rfl
    have b4 := hd 4 d4 3 rfl rfl
    have b5 := hd 5 d5 2 rfl rfl
    clear hd ld
    have eD' : H2 dA = some (.lst [V.int d0, V.int d1, V.int d2, V.int d3, V.int d4, V.int d5]) := eD
    clear eD
    obtain ⟨m, em, m2, m4⟩ : ∃ m : Nat, 2 + d0 = (m : Int) ∧ 2 ≤ m ∧ m ≤ 4 := ⟨(2 + d0).toNat, by omega, by omega, by omega⟩
    walk_at "st"
    refine q_ixL (SqL.of eD') (atI_nat (j := 0) rfl) ?_
    walk_at "st"
    rw [em]
    intro W nW
    have sW := same_new (o := .dK []) nW
    have eW : upd H2 W (.dK []) W = some (.dK []) := upd_same
    have neW : dA ≠ W := ne_of_none eD' nW
    have nWH : H W = none := sA.free nW
    have eD3 := sW _ _ eD'
    have sB := sA.trans sW
    clear sW sA eD'
    generalize upd H2 W (.dK []) = H3 at *
    unfold tPairs
    walk_at "st"
    unfold tPairs
    walk_at "st"
    refine q_ixL (SqL.of eD3) (atI_nat (j := 1) rfl) ?_
    walk_at "st"
    unfold tPairs
    walk_at "st"
    refine q_ixL (SqL.of eD3) (atI_nat (j := 2) rfl) ?_
    walk_at "st"
    refine q_ixL (SqL.of eD3) (atI_nat (j := 3) rfl) ?_
    walk_at "st"
    refine q_ixL (SqL.of eD3) (atI_nat (j := 4) rfl) ?_
    walk_at "st"
    refine ⟨by show 3 ≤ sizeLine; decide, fun ct nct => ?_⟩
    have sct := same_new (o := .tup [V.int (1 + d2), V.int d3, V.int d4]) nct
    have ect : upd H3 ct (.tup [V.int (1 + d2), V.int d3, V.int d4]) ct = some (.tup [V.int (1 + d2), V.int d3, V.int d4]) := upd_same
    replace eW := sct _ _ eW
    replace eD3 := sct _ _ eD3
    replace sB := sB.trans sct
    clear sct nct
    generalize upd H3 ct (.tup [V.int (1 + d2), V.int d3, V.int d4]) = H4 at *
    unfold tPairs
    walk_at "st"
    refine q_ixL (SqL.of eD3) (atI_nat (j := 5) rfl) ?_
    walk_at "st"
    refine q_eqI ?_
    unfold tPairs
    walk_at "st"
    refine ⟨eW, [(Sum.inr "many", .int m), (Sum.inr "span", .int (1 + d1)), (Sum.inr "costs", .ref ct), (Sum.inr "padded", .bl (decide (d5 = 1)))], rfl, by simp, ?_⟩
    rw [show mergeK [] [(Sum.inr "many", V.int m), (Sum.inr "span", .int (1 + d1)), (Sum.inr "costs", .ref ct), (Sum.inr "padded", .bl (decide (d5 = 1)))] = kv4 m (1 + d1) ct (decide (d5 = 1)) from rfl]
    have nct : ct ≠ W := fun z => by rw [z, eW] at ect; cases ect
    have bt : But W H4 (upd H4 W (.dK (kv4 m (1 + d1) ct (decide (d5 = 1))))) := But.put
    replace eW : upd H4 W (.dK (kv4 m (1 + d1) ct (decide (d5 = 1)))) W = _ := upd_same
    generalize upd H4 W (.dK (kv4 m (1 + d1) ct (decide (d5 = 1)))) = H5 at *
    replace sB : Same H H5 := fun b o hb => bt _ _ (sB _ _ hb) (ne_of_none hb nWH)
    replace eD3 := bt _ _ eD3 neW
    replace ect := bt _ _ ect nct
    clear bt
    walk_at "st"
    refine q_ixL (SqL.of eD3) (atI_nat (j := 2) rfl) ?_
    walk_at "st"
    refine q_ixL (SqL.of eD3) (atI_nat (j := 3) rfl) ?_
    walk_at "st"
    refine q_ixL (SqL.of eD3) (atI_nat (j := 5) rfl) ?_
    refine ⟨_, _, rfl, rfl, mulW b3 b5, ?_⟩
    walk_at "st"
    rw [pay_eq b5]
    refine q_putD eW (sz1000 (by show 4 < 100000; decide)) (kv' := kv5 m (1 + d1) ct (decide (d5 = 1)) (payI (1 + d2) d3 (decide (d5 = 1)))) (by rfl) ?_
    have bt : But W H5 (upd H5 W (.dK (kv5 m (1 + d1) ct (decide (d5 = 1)) (payI (1 + d2) d3 (decide (d5 = 1)))))) := But.put
    replace eW : upd H5 W (.dK (kv5 m (1 + d1) ct (decide (d5 = 1)) (payI (1 + d2) d3 (decide (d5 = 1))))) W = _ := upd_same
    generalize upd H5 W (.dK (kv5 m (1 + d1) ct (decide (d5 = 1)) (payI (1 + d2) d3 (decide (d5 = 1))))) = H6 at *
    replace sB : Same H H6 := fun b o hb => bt _ _ (sB _ _ hb) (ne_of_none hb nWH)
    replace ect := bt _ _ ect nct
    clear bt eD3
    walk_at "st"
    refine ⟨a, ns, 1, rfl, sB.seq hs, l63, by omega, fun c1 H7 hc1 s7 => ?_⟩
    walk_at "st"
    refine ⟨by show 8 ≤ sizeLine; decide, fun p2 n2 => ?_⟩
    have sp2 := s7.trans (same_new (o := .lst [V.int 4, V.int 3, V.int 4, V.int 3, V.int 4, V.int 3, V.int 4, V.int 3]) n2)
    walk_at "st"
    refine ⟨c1, p2, [4, 3, 4, 3, 4, 3, 4, 3], rfl, hc1, SqL.of upd_same, by decide, by decide, fun dB es H8 s8 nd2 eE le he => ?_⟩
    have s68 := sp2.trans s8
    replace sB := sB.trans s68
    replace eW := s68 _ _ eW
    replace ect := s68 _ _ ect
    clear sp2 s8 s7 s68
    have he' : ∀ k, k < 4 → ∃ x y, es[2 * k]? = some x ∧ es[2 * k + 1]? = some y ∧ 0 ≤ x ∧ x ≤ 3 ∧ 0 ≤ y ∧ y ≤ 2 := fun k hk => by
      have l8 : es.length = 8 := le
      have g1 : es[2 * k]? = some es[2 * k] := List.getElem?_eq_getElem (by omega)
      have g2 : es[2 * k + 1]? = some es[2 * k + 1] := List.getElem?_eq_getElem (by omega)
      have z : ([4, 3, 4, 3, 4, 3, 4, 3] : List Int)[2 * k]? = some 4 ∧ ([4, 3, 4, 3, 4, 3, 4, 3] : List Int)[2 * k + 1]? = some 3 := by
        rcases (show k = 0 ∨ k = 1 ∨ k = 2 ∨ k = 3 by omega) with rfl | rfl | rfl | rfl <;> exact ⟨rfl, rfl⟩
      have h1 := he _ _ _ g1 z.1
      have h2 := he _ _ _ g2 z.2
      exact ⟨_, _, g1, g2, by omega, by omega, by omega, by omega⟩
    clear he
    walk_at "st"
    refine q_lcR ?_
    walk_at "st"
    refine ⟨(m : Int), rfl, by omega, by omega, ?_⟩
    rw [Int.toNat_natCast]
    refine fun LT nLT => lc_rel walk_range (fun i y Hh => ∃ t x1 x2, y = .ref t ∧ Hh t = some (.tup [.int x1, .int x2]) ∧ es[2 * i]? = some x1 ∧ es[2 * i + 1]? = some x2) nLT (sz1000 (by omega)) (fun H2 s => trivial) yfn_same ?_ ?_ ?_
    · rintro i y Ha Hb acc e bt ⟨t, x1, x2, rfl, h1, h2⟩
      exact ⟨t, x1, x2, rfl, bt _ _ h1 (fun z => by subst z; rw [h1] at e; cases e), h2⟩
    · rintro i x H9 H10 lt s ⟨rfl, rfl⟩ Q' k
      refine q_gname ?_
      refine ⟨rfl, ?_⟩
      walk_at "st"
      rw [Int.zero_add]
      obtain ⟨x1, x2, g1, g2, _⟩ := he' i (by omega)
      refine ⟨_, _, rfl, rfl, mulW2 (by omega), ?_⟩
      refine q_ixL (SqL.of (s _ _ eE)) (by rw [show (2 * (i : Int)) = ((2 * i : Nat) : Int) by omega]; exact atI_nat (v := .int x1) (by rw [List.getElem?_map, g1]; rfl)) ?_
      walk_at "st"
      refine ⟨_, _, rfl, rfl, mulW2 (by omega), ?_⟩
      walk_at "st"
      refine q_ixL (SqL.of (s _ _ eE)) (by rw [show (2 * (i : Int) + 1) = ((2 * i + 1 : Nat) : Int) by omega]; exact atI_nat (v := .int x2) (by rw [List.getElem?_map, g2]; rfl)) ?_
      walk_at "st"
      exact ⟨by show 2 ≤ sizeLine; decide, fun pt nt => k _ _ (same_new nt) ⟨pt, x1, x2, rfl, upd_same, g1, g2⟩⟩
    intro ysT HT sT eT lT rT
    have nLTH : H LT = none := sB.free nLT
    replace sB := sB.trans sT
    replace eW := sT _ _ eW
    replace ect := sT _ _ ect
    have lts : (tsOf m es).length = m := by unfold tsOf; rw [List.length_map, List.length_range]
    have rT' : ∀ (i : Nat) y s, ysT[i]? = some y → (tsOf m es)[i]? = some s → ∃ p, y = .ref p ∧ HT p = some (.tup [.int s.1, .int s.2]) := fun i y s hy hs2 => by
      obtain ⟨t, x1, x2, rfl, h1, g1, g2⟩ := rT i y hy
      refine ⟨t, rfl, ?_⟩
      unfold tsOf at hs2
      rw [List.getElem?_map] at hs2
      obtain ⟨j, hj, rfl⟩ := Option.map_eq_some_iff.mp hs2
      have lj : i < m := by have := (List.getElem?_eq_some_iff.mp hj).1; rw [List.length_range] at this; exact this
      rw [List.getElem?_range lj] at hj
      cases hj
      simp only [List.getD_eq_getElem?_getD, g1, g2, Option.getD_some]
      exact h1
    have tsb : ∀ x ∈ tsOf m es, 0 ≤ x.1 ∧ x.1 ≤ 3 ∧ 0 ≤ x.2 ∧ x.2 ≤ 2 := fun x hx => by
      unfold tsOf at hx
      obtain ⟨k, hk, rfl⟩ := List.mem_map.mp hx
      rw [List.mem_range] at hk
      obtain ⟨x1, x2, g1, g2, h⟩ := he' k (by omega)
      simp only [List.getD_eq_getElem?_getD, g1, g2, Option.getD_some]
      exact h
    clear rT he' eE
    generalize tsOf m es = ts at *
    have eWn : ∀ {o : List V}, HT W ≠ some (.tup o) := fun {o} h => by rw [eW] at h; cases h
    have nLW0 : LT ≠ W := fun z => by rw [z, eW] at eT; cases eT
    walk_at "st"
    refine q_putD eW (sz1000 (by show 5 < 100000; decide)) (kv' := kv6 m (1 + d1) ct (decide (d5 = 1)) (payI (1 + d2) d3 (decide (d5 = 1))) LT) (by rfl) ?_
    have bt : But W HT (upd HT W (.dK (kv6 m (1 + d1) ct (decide (d5 = 1)) (payI (1 + d2) d3 (decide (d5 = 1))) LT))) := But.put
    replace eW : upd HT W (.dK (kv6 m (1 + d1) ct (decide (d5 = 1)) (payI (1 + d2) d3 (decide (d5 = 1))) LT)) W = _ := upd_same
    generalize upd HT W (.dK (kv6 m (1 + d1) ct (decide (d5 = 1)) (payI (1 + d2) d3 (decide (d5 = 1))) LT)) = HU at *
    replace sB : Same H HU := fun b o hb => bt _ _ (sB _ _ hb) (ne_of_none hb nWH)
    replace ect := bt _ _ ect nct
    replace eT := bt _ _ eT nLW0
    have rU : ∀ (i : Nat) y s, ysT[i]? = some y → ts[i]? = some s → ∃ p, y = .ref p ∧ HU p = some (.tup [.int s.1, .int s.2]) := fun i y s hy hs2 => by
      obtain ⟨p, rfl, h1⟩ := rT' i y s hy hs2
      exact ⟨p, rfl, bt _ _ h1 (fun z => eWn (z ▸ h1))⟩
    clear bt rT'
    have rest : ∀ (o5 : Option V) (Hx : Hp) (ts2 : List (Int × Int)) (ysx : List V), Same H Hx → Hx W = some (.dK (kv6 m (1 + d1) ct (decide (d5 = 1)) (payI (1 + d2) d3 (decide (d5 = 1))) LT)) → Hx ct = some (.tup [V.int (1 + d2), V.int d3, V.int d4]) → Hx LT = some (.lst ysx) → ysx.length = m → ts2.length = m →
        (∀ (i : Nat) y s, ysx[i]? = some y → ts2[i]? = some s → ∃ p, y = .ref p ∧ Hx p = some (.tup [.int s.1, .int s.2])) → (∀ x ∈ ts2, 0 ≤ x.1 ∧ x.1 ≤ 3 ∧ 0 ≤ x.2 ∧ x.2 ≤ 2) → (∃ x ∈ ts2, ∃ y ∈ ts2, x.1 ≠ y.1) →
        tSeq (sDPut (tVar 3) (tC (V.str "wakes")) (tOp rRep (tLst (tCons (tUn (L2.rU fun i => V.int (-i)) (tC (V.int 1))) tNil)) (tVar 2))) (tSeq (sDPut (tVar 3) (tC (V.str "run")) (tC V.non)) (tSeq (sDPut (tVar 3) (tC (V.str "spent")) (tC (V.int 0))) (tSeq (sDPut (tVar 3) (tC (V.str "free")) (tC (V.int 0))) (tRet (tVar 3))))) { nx := fun x H' => Q V.non H', rt := Q } [some (V.ref a), some (V.ref dA), some (V.int ↑m), some (V.ref W), some (V.ref dB), o5, none, none] Hx := fun o5 Hx ts2 ysx sx eWx ectx eTx lyx ltx rx tb two => by
      walk_at "st"
      refine ⟨by show 1 ≤ sizeLine; decide, fun l0 nl0 => ?_⟩
      have s0 := same_new (o := .lst [V.int (-1)]) nl0
      have e0 : upd Hx l0 (.lst [V.int (-1)]) l0 = some (.lst [V.int (-1)]) := upd_same
      walk_at "st"
      refine ⟨l0, m, _, rfl, rfl, e0, by omega, by omega, by rw [Int.toNat_natCast]; exact Nat.le_of_lt (sz1000 (by simp; omega)), fun LW nLW => ?_⟩
      rw [Int.toNat_natCast]
      have s1 := s0.trans (same_new (o := .lst (List.replicate m [V.int (-1)]).flatten) nLW)
      have eLW : upd (upd Hx l0 (.lst [V.int (-1)])) LW (.lst (List.replicate m [V.int (-1)]).flatten) LW = some (.lst (List.replicate m [V.int (-1)]).flatten) := upd_same
      have er := rep_flat (-1) m
      rw [er] at eLW s1 ⊢
      generalize upd (upd Hx l0 (.lst [V.int (-1)])) LW (.lst ((List.replicate m (-1 : Int)).map V.int)) = HY at *
      have eWy := s1 _ _ eWx
      have nLWW : LW ≠ W := fun z => by rw [z, eWy] at eLW; cases eLW
      have nLTW : LT ≠ LW := ne_of_none eTx (s0.free nLW)
      walk_at "st"
      refine q_putD eWy (sz1000 (by show 6 < 100000; decide)) (kv' := kv7 m (1 + d1) ct (decide (d5 = 1)) (payI (1 + d2) d3 (decide (d5 = 1))) LT LW) (by rfl) ?_
      walk_at "st"
      refine q_putD upd_same (sz1000 (by show 7 < 100000; decide)) (kv' := kv8 m (1 + d1) ct (decide (d5 = 1)) (payI (1 + d2) d3 (decide (d5 = 1))) LT LW) (by rfl) ?_
      walk_at "st"
      refine q_putD upd_same (sz1000 (by show 8 < 100000; decide)) (kv' := kv9 m (1 + d1) ct (decide (d5 = 1)) (payI (1 + d2) d3 (decide (d5 = 1))) LT LW) (by rfl) ?_
      walk_at "st"
      refine q_putD upd_same (sz1000 (by show 9 < 100000; decide)) (kv' := wKV ⟨m, 1 + d1, 1 + d2, d3, d4, decide (d5 = 1), ct, LT, LW, ts2⟩ .non 0 0) (by rfl) ?_
      walk_at "st"
      have bt := ((But.put (H := HY) (r := W) (o := .dK (kv7 m (1 + d1) ct (decide (d5 = 1)) (payI (1 + d2) d3 (decide (d5 = 1))) LT LW))).trans (But.put (o := .dK (kv8 m (1 + d1) ct (decide (d5 = 1)) (payI (1 + d2) d3 (decide (d5 = 1))) LT LW)))).trans ((But.put (o := .dK (kv9 m (1 + d1) ct (decide (d5 = 1)) (payI (1 + d2) d3 (decide (d5 = 1))) LT LW))).trans (But.put (o := .dK (wKV ⟨m, 1 + d1, 1 + d2, d3, d4, decide (d5 = 1), ct, LT, LW, ts2⟩ .non 0 0))))
      have eZ : upd (upd (upd (upd HY W (.dK (kv7 m (1 + d1) ct (decide (d5 = 1)) (payI (1 + d2) d3 (decide (d5 = 1))) LT LW))) W (.dK (kv8 m (1 + d1) ct (decide (d5 = 1)) (payI (1 + d2) d3 (decide (d5 = 1))) LT LW))) W (.dK (kv9 m (1 + d1) ct (decide (d5 = 1)) (payI (1 + d2) d3 (decide (d5 = 1))) LT LW))) W (.dK (wKV ⟨m, 1 + d1, 1 + d2, d3, d4, decide (d5 = 1), ct, LT, LW, ts2⟩ .non 0 0)) W = some (.dK (wKV ⟨m, 1 + d1, 1 + d2, d3, d4, decide (d5 = 1), ct, LT, LW, ts2⟩ .non 0 0)) := upd_same
      generalize upd (upd (upd (upd HY W (.dK (kv7 m (1 + d1) ct (decide (d5 = 1)) (payI (1 + d2) d3 (decide (d5 = 1))) LT LW))) W (.dK (kv8 m (1 + d1) ct (decide (d5 = 1)) (payI (1 + d2) d3 (decide (d5 = 1))) LT LW))) W (.dK (kv9 m (1 + d1) ct (decide (d5 = 1)) (payI (1 + d2) d3 (decide (d5 = 1))) LT LW))) W (.dK (wKV ⟨m, 1 + d1, 1 + d2, d3, d4, decide (d5 = 1), ct, LT, LW, ts2⟩ .non 0 0)) = HZ at *
      have sZ : Same H HZ := fun b o hb => bt _ _ (s1 _ _ (sx _ _ hb)) (ne_of_none hb nWH)
      have eTy := bt _ _ (s1 _ _ eTx) nLW0
      have ectz := bt _ _ (s1 _ _ ectx) nct
      have eLWz := bt _ _ eLW nLWW
      refine q W ⟨m, 1 + d1, 1 + d2, d3, d4, decide (d5 = 1), ct, LT, LW, ts2⟩ HZ sZ nWH ((sx.trans s0).free nLW) ⟨eZ, SqT.of ectz, ⟨ysx, eTy, by show ysx.length = ts2.length; omega, fun i y s hy hs2 => ?_⟩, eLWz⟩ ⟨nLTW, m2, m4, ltx, fun x hx => (tb x hx).2.2.1, by show 1 ≤ 1 + d2; omega, b3.1, b4.1⟩ ⟨tb, two, by show 1 ≤ 1 + d1; omega, by show 1 + d1 ≤ 8; omega, by show 1 + d2 ≤ 3; omega, by show d3 ≤ 3; omega, by show d4 ≤ 2; omega⟩
      obtain ⟨p, rfl, hp⟩ := rx i y s hy hs2
      exact ⟨p, rfl, SqT.of (bt _ _ (s1 _ _ hp) (fun z => by rw [z, eWx] at hp; cases hp))⟩
    have gts : ∀ i, i < m → ∃ s p, ts[i]? = some s ∧ ysT[i]? = some (.ref p) ∧ HU p = some (.tup [.int s.1, .int s.2]) := fun i hi => by
      have g1 : ts[i]? = some ts[i] := List.getElem?_eq_getElem (by omega)
      have g2 : ysT[i]? = some ysT[i] := List.getElem?_eq_getElem (by omega)
      obtain ⟨p, e, hp⟩ := rU i _ _ g2 g1
      exact ⟨_, p, g1, by rw [g2, e], hp⟩
    walk_at "st"
    refine q_lsd ?_
    refine q_lcI ?_
    walk_at "st"
    refine q_getD eW (by rfl) ?_
    refine ⟨LT, rfl, ⟨_, SqL.of eT⟩, fun X nX => lc_val (n := ysT.length) walk_list (fun i => V.int (ts.getD i (0, 0)).1) nX (sz1000 (by omega)) (fun H2 s => s.seq (SqL.of eT)) yat_same ?_ ?_⟩
    · rintro i x H9 H10 lt s ⟨rfl, e⟩ Q2 k
      obtain ⟨s0, p, g1, g2, g3⟩ := gts i (by omega)
      rw [g2] at e
      cases e
      refine q_gname ?_
      refine ⟨rfl, ?_⟩
      walk_at "st"
      refine q_ixT (SqT.of (s _ _ g3)) (atI0 rfl) ?_
      have : ts.getD i (0, 0) = s0 := by rw [List.getD_eq_getElem?_getD, g1]; rfl
      rw [this] at k
      exact k _ (Same.refl _)
    intro HV sV eV
    have ens : (List.range ysT.length).map (fun i => V.int (ts.getD i (0, 0)).1) = (ts.map (·.1)).map V.int := by
      rw [List.map_map, lT]
      apply List.ext_getElem?
      intro i
      rw [List.getElem?_map, List.getElem?_map]
      by_cases c : i < m
      · rw [List.getElem?_range c, List.getElem?_eq_getElem (show i < ts.length by omega)]
        simp [List.getD_eq_getElem?_getD, List.getElem?_eq_getElem (show i < ts.length by omega)]
      · rw [List.getElem?_eq_none (by simp; omega), List.getElem?_eq_none (by omega)]; rfl
    rw [ens] at eV
    refine ⟨X, ts.map (·.1), rfl, SqL.of eV, by rw [List.length_map]; omega, ?_⟩
    have sBV := sB.trans sV
    replace eW := sV _ _ eW
    replace ect := sV _ _ ect
    replace eT := sV _ _ eT
    have rV : ∀ (i : Nat) y s, ysT[i]? = some y → ts[i]? = some s → ∃ p, y = .ref p ∧ HV p = some (.tup [.int s.1, .int s.2]) := fun i y s hy hs2 => by
      obtain ⟨p, e, hp⟩ := rU i y s hy hs2
      exact ⟨p, e, sV _ _ hp⟩
    walk_at "st"
    refine q_eqI ?_
    refine ⟨_, rfl, ?_⟩
    by_cases hd : ((distinct (ts.map (·.1)) : Nat) : Int) = 1
    · rw [decide_eq_true hd]
      refine iteT ?_
      have allEq : ∀ x ∈ ts, ∀ y ∈ ts, x.1 = y.1 := fun x hx y hy => by
        by_cases c : x.1 = y.1
        · exact c
        · have h3 : 1 < distinct (ts.map (·.1)) := distinct_gt.mpr ⟨x.1, List.mem_map_of_mem hx, y.1, List.mem_map_of_mem hy, c⟩
          omega
      obtain ⟨s0, p0, g1, g2, g3⟩ := gts 0 (by omega)
      obtain ⟨s1, p1', g4, _, _⟩ := gts 1 (by omega)
      have e01 := allEq s0 (List.mem_of_getElem? g1) s1 (List.mem_of_getElem? g4)
      have hb0 := tsb s0 (List.mem_of_getElem? g1)
      walk_at "st"
      refine q_getD eW (by rfl) ?_
      walk_at "st"
      refine q_ixL (SqL.of eT) (atI_nat (j := 0) g2) ?_
      walk_at "st"
      refine q_ixT (SqT.of (sV _ _ g3)) (atI0 rfl) ?_
      walk_at "st"
      refine .inl ⟨_, rfl, ?_⟩
      walk_at "st"
      refine ⟨_, _, rfl, rfl, (show (0 : Int) < 4 by decide), ?_⟩
      walk_at "st"
      refine q_ixL (SqL.of eT) (atI_nat (j := 0) g2) ?_
      walk_at "st"
      refine q_ixT (SqT.of (sV _ _ g3)) (atI1 rfl) ?_
      walk_at "st"
      refine ⟨by show 2 ≤ sizeLine; decide, fun pt npt => ?_⟩
      have spt := same_new (o := .tup [V.int ((s0.1 + 1) % 4), V.int s0.2]) npt
      have ept : upd HV pt (.tup [V.int ((s0.1 + 1) % 4), V.int s0.2]) pt = some (.tup [V.int ((s0.1 + 1) % 4), V.int s0.2]) := upd_same
      have eWp := spt _ _ eW
      have ectp := spt _ _ ect
      have eTp := spt _ _ eT
      have rP : ∀ (i : Nat) y s, ysT[i]? = some y → ts[i]? = some s → ∃ p, y = .ref p ∧ upd HV pt (.tup [V.int ((s0.1 + 1) % 4), V.int s0.2]) p = some (.tup [.int s.1, .int s.2]) := fun i y s hy hs2 => by
        obtain ⟨p, e, hp⟩ := rV i y s hy hs2
        exact ⟨p, e, spt _ _ hp⟩
      replace sBV := sBV.trans spt
      generalize upd HV pt (.tup [V.int ((s0.1 + 1) % 4), V.int s0.2]) = HP at *
      walk_at "st"
      have ix0 : ixN ysT.length (0 : Int) = some 0 := by
        unfold ixN
        rw [if_pos (by omega), if_pos (by omega)]
        rfl
      have nWp : W ≠ LT := Ne.symm nLW0
      have nLc : ct ≠ LT := fun z => by rw [z, eTp] at ectp; cases ectp
      have bL := But.put (H := HP) (r := LT) (o := .lst (ysT.set 0 (.ref pt)))
      have sL : Same H (upd HP LT (.lst (ysT.set 0 (.ref pt)))) := fun b o hb => bL _ _ (sBV _ _ hb) (ne_of_none hb nLTH)
      have lt0 : 0 < ts.length := by omega
      have ly0 : 0 < ysT.length := by omega
      refine ⟨LT, ysT, 0, 0, rfl, rfl, eTp, ix0, rest _ _ (ts.set 0 ((s0.1 + 1) % 4, s0.2)) (ysT.set 0 (.ref pt)) sL (bL _ _ eWp nWp) (bL _ _ ectp nLc) upd_same (by rw [List.length_set]; exact lT) (by rw [List.length_set]; exact lts) (fun i y s hy hs2 => ?_) (fun x hx => ?_) ?_⟩
      · by_cases c : i = 0
        · subst c
          rw [List.getElem?_set, if_pos rfl, if_pos ly0] at hy
          rw [List.getElem?_set, if_pos rfl, if_pos lt0] at hs2
          cases hy
          cases hs2
          exact ⟨pt, rfl, bL _ _ ept (fun z => by rw [z, eTp] at ept; cases ept)⟩
        · rw [List.getElem?_set_ne (Ne.symm c)] at hy hs2
          obtain ⟨p, e, hp⟩ := rP i y s hy hs2
          exact ⟨p, e, bL _ _ hp (fun z => by rw [z, eTp] at hp; cases hp)⟩
      · rcases List.mem_or_eq_of_mem_set hx with h | h
        · exact tsb x h
        · rw [h]
          exact ⟨by show 0 ≤ (s0.1 + 1) % 4; omega, by show (s0.1 + 1) % 4 ≤ 3; omega, hb0.2.2.1, hb0.2.2.2⟩
      · refine ⟨((s0.1 + 1) % 4, s0.2), List.mem_of_getElem? (i := 0) (by rw [List.getElem?_set, if_pos rfl, if_pos lt0]), s1, List.mem_of_getElem? (i := 1) (by rw [List.getElem?_set_ne (by decide)]; exact g4), ?_⟩
        show (s0.1 + 1) % 4 ≠ s1.1
        omega
    · rw [decide_eq_false hd]
      refine iteF ?_
      refine rest none HV ts ysT sBV eW ect eT lT lts rV tsb ?_
      have hgt : 1 < distinct (ts.map (·.1)) := by
        obtain ⟨s0, p0, g1, _⟩ := gts 0 (by omega)
        have hp : 0 < distinct (ts.map (·.1)) := by
          unfold distinct
          exact List.length_pos_of_mem (firstMet_mem.mpr (List.mem_map_of_mem (f := (·.1)) (List.mem_of_getElem? g1)))
        omega
      obtain ⟨x, hx, y, hy, ne⟩ := distinct_gt.mp hgt
      obtain ⟨x', hx', rfl⟩ := List.mem_map.mp hx
      obtain ⟨y', hy', rfl⟩ := List.mem_map.mp hy
      exact ⟨x', hx', y', hy', ne⟩))) only [↓Hk.hold_s]
end
end T
namespace T
theorem LevB.noB {b : BD} {m : Nat} {lv : List Int} {c0 c1 c2 span : Int} {pd : Bool} (h : LevB b m lv c0 c1 c2 span pd) (hs : b.share = .bool false) : NoB b := by
 refine Hk.hold ?_
 simp (disch := with_unfolding_all (
 exact Hk.disch (by
  have ok := h.ok
  obtain ⟨tds, et, t2, t4, tall⟩ := okTasksL ok.tasks
  obtain ⟨pds, ep, p3, pall⟩ := okList ok.pages
  have n1 : noL (tupOf b.tasks) = true := by
    rw [et]
    show noLs tds = true
    rw [noLs_all]
    intro d hd
    obtain ⟨sd, l, rfl, _⟩ := okTask_shape (tall d hd)
    rfl
  have n2 : noL (tupOf b.pages) = true := by
    rw [ep]
    show noLs pds = true
    rw [noLs_all]
    intro d hd
    obtain ⟨i, rfl, _⟩ := pall d hd
    rfl
  have n3 : noL (tupOf b.lines) = true := by rw [h.lines]; rfl
  have n5 : noL (tupOf b.ports) = true := by rw [h.ports]; rfl
  have hf := h.frames
  have hl := h.lend
  have hr : noL (rowsT b.rights) = true := by
    rw [h.rights]
    show noLs ((List.replicate m (PyData.list [])).map tupOf) = true
    rw [noLs_all]
    intro d hd
    obtain ⟨x, hx, rfl⟩ := List.mem_map.mp hd
    rw [(List.mem_replicate.mp hx).2]
    rfl
  have n4 : noL (planT b.plan) = true := by
    rw [h.plan]
    show noLs [PyData.str "levels", if ("levels" : Str) = "slots" then _ else _] = true
    rw [if_neg (by decide +kernel)]
    rfl
  refine ⟨fun p hp => ?_, fun f => ?_⟩
  · unfold BD.parts at hp
    simp only [List.mem_cons, List.not_mem_nil, or_false] at hp
    rcases hp with rfl | rfl | rfl | rfl | rfl | rfl | rfl | rfl | rfl | rfl | rfl | rfl | rfl | rfl | rfl
    · exact n1
    · exact n2
    · exact n5
    · show noL b.locks = true; rw [h.locks]; rfl
    · show noL b.frames = true; rw [hf]; rfl
    · show noL b.disk = true; rw [h.disk]; rfl
    · exact hr
    · exact n3
    · show noL b.costs = true; rw [h.costs]; rfl
    · exact n4
    · show noL b.outside = true; rw [h.outside]; rfl
    · show noL b.wipe = true; rw [h.wipe]; rfl
    · show noL b.pad = true; rw [h.pad]; rfl
    · show noL b.lend = true; rw [hl]; rfl
    · show noL b.share = true; rw [hs]; rfl
  · cases f with
    | levels => exact noL_ints _
    | side_of => exact noL_ints _
    | sizes => exact n5
    | line_of => exact n3
    | places => show noL b.disk = true; rw [h.disk]; rfl
    | wipes => show noL b.wipe = true; rw [h.wipe]; rfl
    | all_frames => show noL b.frames = true; rw [hf]; rfl
    | pads => show noL b.pad = true; rw [h.pad]; rfl
    | lends => show noL b.lend = true; rw [hl]; rfl
    | slots =>
      show noLs ((ticksOfB b).map stickD) = true
      rw [noLs_all]
      intro d hd
      obtain ⟨s, _, rfl⟩ := List.mem_map.mp hd
      rfl
    | letter_port => show noL (outD b.outside) = true; rw [h.outside]; rfl
    | _ => rfl))) only [↓Hk.hold_s]
def levBD (d : WD) : BD where
  tasks := .list (d.ts.map fun s => .tuple [.int s.1, .int s.2])
  pages := .list []
  ports := .list []
  locks := .int 0
  frames := .int 0
  disk := .int 0
  rights := .list (List.replicate d.m (.list []))
  lines := .list []
  costs := .tuple [.int d.c0, .int d.c1, .int d.c2]
  plan := .tuple [.str "levels", .int d.span]
  outside := .none
  wipe := .bool false
  pad := .bool d.pd
  lend := .bool false
  share := .bool false
theorem costs_ok : ∀ a ∈ ([1, 2, 3] : List Int), ∀ b ∈ ([0, 1, 2, 3] : List Int), ∀ c ∈ ([0, 1, 2] : List Int), okCosts (.tuple [.int a, .int b, .int c]) = true := by decide +kernel
theorem plan_ok : ∀ m ∈ ([2, 3, 4] : List Nat), ∀ s ∈ ([1, 2, 3, 4, 5, 6, 7, 8] : List Int), (okPlan (cntOf m 0 0 0 0) (.tuple [.str "levels", .int s]) && okRights (cntOf m 0 0 0 0) (.list (List.replicate m (.list []))) && okLines (cntOf m 0 0 0 0) (.list [])) = true := by decide +kernel
theorem levBD_law {d : WD} (o : WOk d) (t : TsOk d) : LevB (levBD d) d.m d.lv d.c0 d.c1 d.c2 d.span d.pd ∧ NoB (levBD d) := by
 refine Hk.hold ?_
 simp (disch := with_unfolding_all (
 exact Hk.disch (by
  have lts := o.lts
  have m2 := o.m2
  have m4 := o.m4
  have ec : cOf (levBD d) = cntOf d.m 0 0 0 0 := by
    show cntOf (d.ts.map fun s => PyData.tuple [.int s.1, .int s.2]).length ([] : List PyData).length ([] : List PyData).length 0 0 = _
    rw [List.length_map, lts]
    rfl
  have okc : okCosts (.tuple [.int d.c0, .int d.c1, .int d.c2]) = true := by
    have h1 := o.c0p
    have h2 := o.c1p
    have h3 := o.c2p
    have h4 := t.c0
    have h5 := t.c1
    have h6 := t.c2
    refine costs_ok d.c0 ?_ d.c1 ?_ d.c2 ?_
    · rcases (show d.c0 = 1 ∨ d.c0 = 2 ∨ d.c0 = 3 by omega) with e | e | e <;> rw [e] <;> simp
    · rcases (show d.c1 = 0 ∨ d.c1 = 1 ∨ d.c1 = 2 ∨ d.c1 = 3 by omega) with e | e | e | e <;> rw [e] <;> simp
    · rcases (show d.c2 = 0 ∨ d.c2 = 1 ∨ d.c2 = 2 by omega) with e | e | e <;> rw [e] <;> simp
  have okp := plan_ok d.m (m_in4 m2 m4) d.span (by
    have h1 := t.sp1
    have h2 := t.sp8
    rcases (show d.span = 1 ∨ d.span = 2 ∨ d.span = 3 ∨ d.span = 4 ∨ d.span = 5 ∨ d.span = 6 ∨ d.span = 7 ∨ d.span = 8 by omega) with e | e | e | e | e | e | e | e <;> rw [e] <;> simp)
  simp only [Bool.and_eq_true] at okp
  have okt : okTasks (levBD d).tasks = true := by
    show okTasks (.list (d.ts.map fun s => PyData.tuple [.int s.1, .int s.2])) = true
    unfold okTasks
    rw [Bool.and_eq_true]
    refine ⟨by simp [dListOf]; omega, ?_⟩
    show ((d.ts.map fun s => PyData.tuple [.int s.1, .int s.2]).all okTask && decide (1 < distinct ((d.ts.map fun s => PyData.tuple [.int s.1, .int s.2]).map sideD))) = true
    rw [Bool.and_eq_true]
    constructor
    · rw [List.all_eq_true]
      intro x hx
      obtain ⟨s, hs, rfl⟩ := List.mem_map.mp hx
      have := t.s s hs
      simp [okTask, dTupleOf, dBetween]
      omega
    · rw [List.map_map]
      obtain ⟨x, hx, y, hy, ne⟩ := t.two
      exact decide_eq_true (distinct_gt.mpr ⟨x.1, List.mem_map.mpr ⟨x, hx, rfl⟩, y.1, List.mem_map.mpr ⟨y, hy, rfl⟩, ne⟩)
  have ok : BOk (levBD d) := by
    refine ⟨okt, (by show okNumbers (.list []) 3 0 1 = true; decide +kernel), (by show okNumbers (.list []) 2 1 2 = true; decide +kernel), (by show dBetween (.int 0) 0 2 = true; decide +kernel), (by show dBetween (.int 0) 0 3 = true; decide +kernel), (by show okDisk (.int 0) = true; decide +kernel), ?_, ?_, okc, ?_, ?_, rfl, rfl, rfl, rfl⟩
    · rw [ec]; exact okp.1.2
    · rw [ec]; exact okp.2
    · rw [ec]; exact okp.1.1
    · rfl
  have L : LevB (levBD d) d.m d.lv d.c0 d.c1 d.c2 d.span d.pd := ⟨ok, by show (d.ts.map _).length = d.m; rw [List.length_map]; exact lts, m2, m4, by show (d.ts.map _).map levelD = d.ts.map _; rw [List.map_map]; rfl, rfl, rfl, rfl, rfl, rfl, rfl, rfl, rfl, o.c0p, o.c1p, o.c2p, rfl, rfl, rfl, rfl, rfl⟩
  exact ⟨L, L.noB rfl⟩))) only [↓Hk.hold_s]
theorem first_lv {d : WD} (o : WOk d) : firstD (levBD d) = lvSt d.m ((List.replicate d.m (-1)).map (stAt (-1))) (List.replicate d.m .none) .none 0 0 .none := by
 refine Hk.hold ?_
 simp (disch := with_unfolding_all (
 exact Hk.disch (by
  have e0 : (dl (levBD d).tasks).length = d.m := by
    show (d.ts.map _).length = d.m
    rw [List.length_map]; exact o.lts
  funext f
  cases f with
  | statuses =>
    show PyData.tuple (List.replicate (dl (levBD d).tasks).length readyD) = .tuple ((List.replicate d.m (-1)).map (stAt (-1)))
    rw [e0, List.map_replicate]
    rfl
  | answers => show PyData.tuple (List.replicate (dl (levBD d).tasks).length .none) = _; rw [e0]; rfl
  | owned =>
    show PyData.tuple ((List.replicate d.m (PyData.list [])).map tupOf) = .tuple (List.replicate d.m (.tuple []))
    rw [List.map_replicate]
    rfl
  | taken => show PyData.tuple (List.replicate (dl (levBD d).tasks).length (.int 0)) = .tuple ((List.replicate d.m (0 : Int)).map .int); rw [e0, List.map_replicate]
  | _ => rfl))) only [↓Hk.hold_s]
section
variable {P : Program} {w : World} {K : PySem.W.Frag} {mg : Str → Option Value} {base : Heap} {C CR : Addr}
/-- a class made with some of its keyword-only values; the others fill up -/
structure MkGCal (P : Program) (w : World) (K : PySem.W.Frag) (mg : Str → Option Value) (base : Heap) (k : Nat) (C : Addr) (x : Str) (ps : List Str) (n : Nat) (ks : List Str) (gV : List V → List V → List V) (sp : Sp) : Prop where
  g : mg x = some (.ref C)
  ex : ∃ f fd g, Mk K C f ∧ KBn K fd ps (n + 1) ks g gV ∧ FnOk P w K mg base CX0 k f fd ps sp
theorem pe_mkg {X : Cx} {k n : Nat} {x : Str} {ps ks : List Str} {gV : List V → List V → List V} {sp : Sp} {p pos : Pos} {e : Expr} {es : List Expr} {kws : List Keyword} {t tk : TA} {C : Addr} (c : MkGCal X.prog X.w X.K X.mg X.base k C x ps n ks gV sp) (hr : Room (k + 1) X.A) (hg : Gl X x) (ha : PA X (e :: es) t) (hkw : PK X kws tk)
    (hall : (backToKw pos (keywordEach kws X.env)).all (·.1.isSome) = true := by rfl) (hks : (backToKw pos (keywordEach kws X.env)).filterMap (·.1) = ks := by rfl) (hdb : (x == ("__debug__" : Str)) = false := by decide)
    (he : starEach (e :: es) X.env = (false, eval e X.env) :: starEach es X.env := by rfl) (hpl : ((backTo pos (starEach (e :: es) X.env)).any (·.1) || (backToKw pos (keywordEach kws X.env)).any (·.1.isNone)) = false := by rfl) :
    PE X (.Call (.Name x p) (e :: es) kws pos) (tMakeK C n ks.length sp gV E0 t tk) := by
  obtain ⟨g, f, fd, gg, M, b, F⟩ := c
  exact pe_makeK M F hr hg g b pass0 ha hkw hall hks hdb he hpl
theorem q_mkg {C : Addr} {n m : Nat} {sp : Sp} {gV : List V → List V → List V} {t tk : TA} {σ : L2.St} {H : Hp} {Q : VK} (h : t σ H fun vs H1 => tk σ H1 fun zs H2 => vs.length = n ∧ zs.length = m ∧ ∀ x dx, H2 x = none → H2 dx = none → dx ≠ x →
  sp (gV (.ref x :: vs) zs) (upd (upd H2 dx (.own x)) x (.ins C dx [])) (fun v H3 => v = .non ∧ Q (.ref x) H3) E0) : tMakeK C n m sp gV E0 t tk σ H Q := h
def padV (vs zs : List V) : List V := vs ++ (.bl false :: (zs ++ [.bl false, .bl false]))
end
end T
namespace T
def KeepM (W : Addr) (H H' : Hp) : Prop := ∀ a o, H a = some o → a ≠ W → (∀ xs, o ≠ .lst xs) → H' a = some o
theorem KeepM.of_but {W : Addr} {H H' : Hp} (b : But W H H') : KeepM W H H' := fun a o e n _ => b a o e n
theorem KeepM.trans {W : Addr} {H H' H2 : Hp} (b : KeepM W H H') (c : KeepM W H' H2) : KeepM W H H2 := fun a o e n l => c a o (b a o e n l) n l
section
variable {K : PySem.W.Frag} {C CR CM W : Addr} {kw : List (Key × V)}
theorem KeepM.sqT {H H' : Hp} {a : Addr} {xs : List V} (s : KeepM W H H') (eW : H W = some (.dK kw)) (h : SqT K H a xs) : SqT K H' a xs := by
  rcases h with (h | ⟨o, h⟩) | h
  · exact .inl (.inl (s _ _ h (fun z => by subst z; rw [eW] at h; cases h) (by simp)))
  · exact .inl (.inr ⟨o, s _ _ h (fun z => by subst z; rw [eW] at h; cases h) (by simp)⟩)
  · exact .inr h
set_option maxHeartbeats 400000 in
mutual
theorem dpKeepM {H H' : Hp} (s : KeepM W H H') (eW : H W = some (.dK kw)) : ∀ {v : V} {d : PyData}, Dp K H v d → noL d = true → Dp K H' v d
  | _, _, .non, _ => .non
  | _, _, .bl b, _ => .bl b
  | _, _, .int i, _ => .int i
  | _, _, .str x, _ => .str x
  | _, _, .lst _ _, h => (noL_list h).elim
  | _, _, .tup t a, h => .tup (KeepM.sqT s eW t) (dpAllKeepM s eW a (noL_tup h))
theorem dpAllKeepM {H H' : Hp} (s : KeepM W H H') (eW : H W = some (.dK kw)) : ∀ {vs : List V} {ds : List PyData}, DpAll K H vs ds → noLs ds = true → DpAll K H' vs ds
  | _, _, .nil, _ => .nil
  | _, _, .cons a t, h => .cons (dpKeepM s eW a (noLs_cons h).1) (dpAllKeepM s eW t (noLs_cons h).2)
end
theorem pairedKV_keepM {H H' : Hp} (s : KeepM W H H') (eW : H W = some (.dK kw)) : ∀ {kvs : List (Key × V)} {l : List (Str × PyData)}, (∀ p ∈ l, noL p.2 = true) → Paired (fun p q => p.1 = Sum.inr q.1 ∧ Dp K H p.2 q.2) kvs l → Paired (fun p q => p.1 = Sum.inr q.1 ∧ Dp K H' p.2 q.2) kvs l
  | [], [], _, .nil => .nil
  | _ :: _, q :: l, h, .cons a t => .cons ⟨a.1, dpKeepM s eW a.2 (h _ List.mem_cons_self)⟩ (pairedKV_keepM s eW (fun p hp => h p (List.mem_cons_of_mem _ hp)) t)
theorem BuildAt.keepM {H H' : Hp} {p : Addr} {b : BD} (h : BuildAt K C CR H p b) (N : NoB b) (s : KeepM W H H') (eW : H W = some (.dK kw)) (l10 : kw.length = 10) {m : Nat} (hc : cOf b = cntOf m 0 0 0 0) : BuildAt K C CR H' p b := by
 refine Hk.hold ?_
 simp (disch := with_unfolding_all (
 exact Hk.disch (by
  obtain ⟨⟨ok, dx2, fs2, q, kvs, e1, e2, e3, e4, e5⟩, dx, fs, r, f1, f2, dxr, fsr, g1, g2, g3, c, g4, g5⟩ := h
  have ni : ∀ {a : Addr} {C dx : Addr} {fs : List (Str × V)}, H a = some (.ins C dx fs) → a ≠ W := fun e z => by subst z; rw [eW] at e; cases e
  have nq : q ≠ W := fun z => by
    subst z
    rw [eW] at e3
    cases e3
    have := paired_len e4
    rw [l10] at this
    have e15 : b.parts.length = 15 := rfl
    omega
  have nc : c ≠ W := fun z => by
    subst z
    rw [eW] at g5
    cases g5
    rw [hc] at l10
    have e7 : (countKV (cntOf m 0 0 0 0)).length = 7 := rfl
    omega
  exact ⟨⟨ok, dx2, fs2, q, kvs, s _ _ e1 (ni e1) (by simp), e2, s _ _ e3 nq (by simp), pairedKV_keepM s eW N.parts e4, e5⟩, dx, fs, r, s _ _ f1 (ni f1) (by simp), f2, dxr, fsr, s _ _ g1 (ni g1) (by simp), g2, fun f hf => by
    obtain ⟨v, a1, a2⟩ := g3 f hf
    exact ⟨v, a1, dpKeepM s eW a2 (N.rules f)⟩, c, g4, s _ _ g5 nc (by simp)⟩))) only [↓Hk.hold_s]
theorem MAt.keepM {H H' : Hp} {mo p : Addr} {b : BD} {D : KD} (h : MAt K C CR CM H mo p b D) (N : NoB b) (hD : noL (shapeOf D) = true) (s : KeepM W H H') (eW : H W = some (.dK kw)) (l10 : kw.length = 10) {m : Nat} (hc : cOf b = cntOf m 0 0 0 0) : MAt K C CR CM H' mo p b D := by
  obtain ⟨dx, fs, v, e, o, e1, e2, d, B⟩ := h
  exact ⟨dx, fs, v, s _ _ e (fun z => by subst z; rw [eW] at e; cases e) (by simp), o, e1, e2, dpKeepM s eW d hD, B.keepM N s eW l10 hc⟩
end
theorem lv_noL {m : Nat} {ws : List Int} {t : Int} {as : List PyData} {runs : PyData} {sp bz : Int} (hr : runs = .none ∨ ∃ i, runs = .int i) (ha : ∀ x ∈ as, lfOk x) : noL (shapeOf (lvSt m (ws.map (stAt t)) as runs sp bz .none)) = true := by
 refine Hk.hold ?_
 simp (disch := with_unfolding_all (
 exact Hk.disch (by
  have h1 : noLs (ws.map (stAt t)) = true := by
    rw [noLs_all]
    intro d hd
    obtain ⟨w, _, rfl⟩ := List.mem_map.mp hd
    exact st_noL t w
  have h2 : noLs as = true := by
    rw [noLs_all]
    exact fun d hd => lf_noL1 (ha d hd)
  have h3 : noLs (List.replicate m (PyData.tuple [])) = true := noL_rep rfl m
  have h4 : noLs (List.replicate m (PyData.int 0)) = true := noL_rep rfl m
  have h5 : noL runs = true := by rcases hr with rfl | ⟨i, rfl⟩ <;> rfl
  show noL (.tuple [.tuple (ws.map (stAt t)), .tuple as, .tuple (List.replicate m (.tuple [])), .tuple ((List.replicate m (0 : Int)).map .int), .tuple [], .tuple [], .tuple [], .tuple [.none, .none], .int 0, .tuple [runs, .int sp, .int bz, .int 0]]) = true
  simp [noL, noLs, h1, h2, h3, h4, h5]))) only [↓Hk.hold_s]
/-- the answers, as the law puts them when tasks wake -/
def lnV : PyData → V | .int i => .int i | .str s => .str s | _ => .non
theorem lf_dp {K : PySem.W.Frag} {H : Hp} {x : PyData} (h : lfOk x) : Dp K H (lnV x) x := by
  rcases h with rfl | ⟨i, rfl⟩
  · exact .non
  · exact .str _
theorem lf_dps {K : PySem.W.Frag} {H : Hp} : ∀ {l : List PyData}, (∀ x ∈ l, lfOk x) → DpAll K H (l.map lnV) l
  | [], _ => .nil
  | x :: r, h => .cons (lf_dp (h x List.mem_cons_self)) (lf_dps fun y hy => h y (List.mem_cons_of_mem _ hy))
theorem an_lf {t w : Int} {a : PyData} (h : lfOk a) : lfOk (anAt t w a) := by
  unfold anAt
  split
  · exact .inr ⟨_, rfl⟩
  · exact h
theorem an_lfs {t : Int} : ∀ {ws : List Int} {as : List PyData}, (∀ x ∈ as, lfOk x) → ∀ x ∈ List.zipWith (anAt t) ws as, lfOk x
  | [], as, h, x, hx => by simp at hx
  | w :: ws, [], h, x, hx => by simp at hx
  | w :: ws, a :: as, h, x, hx => by
    rw [List.zipWith_cons_cons] at hx
    rcases List.mem_cons.mp hx with rfl | hx
    · exact an_lf (h a List.mem_cons_self)
    · exact an_lfs (fun y hy => h y (List.mem_cons_of_mem _ hy)) x hx
end T
namespace T
local macro_rules | `(tactic| walk_at "s1") => `(tactic| with_reducible refine q_dputW ?_)
section
variable {P : Program} {w : World} {K : PySem.W.Frag} {mg : Str → Option Value} {base : Heap} {C CR CK CM dE fS fG fP : Addr} {S : Addr → Option Sp}
structure LI (K : PySem.W.Frag) (C CR CM : Addr) (H : Hp) (W : Addr) (d : WD) (LA mo p : Addr) (ws : List Int) (run : PyData) (sp fr : Int) (as : List PyData) (bz tt : Int) : Prop where
  w : WAt K H W d ws run sp fr
  la : H LA = some (.lst (as.map lnV))
  m : MAt K C CR CM H mo p (levBD d) (lvSt d.m (ws.map (stAt (tt - 1))) as run sp bz .none)
  lw : ws.length = d.m
  las : as.length = d.m
  lf : ∀ x ∈ as, lfOk x
  hn : ∀ (i : Nat) w a, ws[i]? = some w → as[i]? = some a → tt - 1 + 1 < w → a = .none
  r : run = .none ∨ ∃ i, run = .int i
  bz : decB bz = max 0 (fr - tt)
  n1 : LA ≠ d.LT
  n2 : LA ≠ d.LW
theorem LI.mono {H H' : Hp} {W : Addr} {d : WD} {LA mo p : Addr} {ws : List Int} {run : PyData} {sp fr : Int} {as : List PyData} {bz tt : Int} (I : LI K C CR CM H W d LA mo p ws run sp fr as bz tt) (s : Same H H') : LI K C CR CM H' W d LA mo p ws run sp fr as bz tt :=
  ⟨I.w.mono s, s _ _ I.la, I.m.mono s, I.lw, I.las, I.lf, I.hn, I.r, I.bz, I.n1, I.n2⟩
def callD (x : Int) : PyData := if x = 1 then slpD 1 else if x = 2 then slpD 2 else if x = 3 then wordD "get" else wordD "pass"
theorem WAt.butL {H H' : Hp} {W a : Addr} {d : WD} {ws : List Int} {run : PyData} {sp fr : Int} {xs : List V} (h : WAt K H W d ws run sp fr) (ea : H a = some (.lst xs)) (b : But a H H') (n1 : a ≠ d.LT) (n2 : a ≠ d.LW) : WAt K H' W d ws run sp fr := by
  obtain ⟨h1, h2, ⟨ys, h3, h4, h5⟩, h6⟩ := h
  have kt : ∀ {c : Addr} {zs : List V}, SqT K H c zs → SqT K H' c zs := fun {c zs} h => by
    rcases h with (h | ⟨o, h⟩) | h
    · exact .inl (.inl (b _ _ h (fun z => by subst z; rw [ea] at h; cases h)))
    · exact .inl (.inr ⟨o, b _ _ h (fun z => by subst z; rw [ea] at h; cases h)⟩)
    · exact .inr h
  exact ⟨b _ _ h1 (fun z => by rw [z, ea] at h1; cases h1), kt h2, ⟨ys, b _ _ h3 (Ne.symm n1), h4, fun i y x p c => by obtain ⟨p, e, q⟩ := h5 i y x p c; exact ⟨p, e, kt q⟩⟩, b _ _ h6 (Ne.symm n2)⟩
theorem WAt.setW {H : Hp} {W : Addr} {d : WD} {ws ws' : List Int} {run : PyData} {sp fr : Int} {xs : List V} (h : WAt K H W d ws run sp fr) (n : d.LT ≠ d.LW) (e : xs = ws'.map V.int) : WAt K (upd H d.LW (.lst xs)) W d ws' run sp fr := by
 refine Hk.hold ?_
 simp (disch := with_unfolding_all (
 exact Hk.disch (by
  obtain ⟨h1, h2, ⟨ys, h3, h4, h5⟩, h6⟩ := h
  have b := But.put (H := H) (r := d.LW) (o := .lst xs)
  have kt : ∀ {c : Addr} {zs : List V}, SqT K H c zs → SqT K (upd H d.LW (.lst xs)) c zs := fun {c zs} h => by
    rcases h with (h | ⟨o, h⟩) | h
    · exact .inl (.inl (b _ _ h (fun z => by rw [z, h6] at h; cases h)))
    · exact .inl (.inr ⟨o, b _ _ h (fun z => by rw [z, h6] at h; cases h)⟩)
    · exact .inr h
  exact ⟨b _ _ h1 (fun z => by rw [z, h6] at h1; cases h1), kt h2, ⟨ys, b _ _ h3 n, h4, fun i y x p c => by obtain ⟨p, e, q⟩ := h5 i y x p c; exact ⟨p, e, kt q⟩⟩, by rw [upd_same, e]⟩))) only [↓Hk.hold_s]
theorem mix_set {α : Type} {l l1 : List α} {k : Nat} {x y : α} (h : l[k]? = some x) (h1 : l1[k]? = some y) (hl : k < l1.length) : (l1.take k ++ l.drop k).set k y = l1.take (k + 1) ++ l.drop (k + 1) := by
  have lk : (l1.take k).length = k := by rw [List.length_take]; omega
  have hd : l.drop k = x :: l.drop (k + 1) := by
    have := List.getElem?_eq_some_iff.mp h
    rw [List.drop_eq_getElem_cons this.1, this.2]
  rw [hd, List.set_append_right _ _ (by omega), lk, Nat.sub_self, List.set_cons_zero, List.take_add_one, h1]
  simp
theorem mix_same {α : Type} {l l1 : List α} {k : Nat} {x : α} (h : l[k]? = some x) (h1 : l1[k]? = some x) : l1.take k ++ l.drop k = l1.take (k + 1) ++ l.drop (k + 1) := by
  have hd : l.drop k = x :: l.drop (k + 1) := by
    have := List.getElem?_eq_some_iff.mp h
    rw [List.drop_eq_getElem_cons this.1, this.2]
  rw [hd, List.take_add_one, h1]
  simp
theorem opn_turn {l : List Nat} {runs : PyData} {sp bz c2 span : Int} (h : runs = .none ∨ ∃ i, runs = .int i) : (opnP l runs sp bz c2 span).turn = .none ∨ ∃ n : Nat, (opnP l runs sp bz c2 span).turn = .int n := by
 refine Hk.hold ?_
 simp (disch := with_unfolding_all (
 exact Hk.disch (by
  unfold opnP
  split
  · unfold turnP
    split
    · exact .inl rfl
    · split
      · rename_i hg
        unfold goP at hg
        rw [Bool.and_eq_true] at hg
        rcases h with rfl | ⟨i, rfl⟩
        · exact .inl rfl
        · have z := hg.1
          unfold inRun at z
          rw [List.any_eq_true] at z
          obtain ⟨x, hx, e⟩ := z
          have e' := of_decide_eq_true e
          exact .inr ⟨x, by rw [e']⟩
      · split
        · exact .inr ⟨_, rfl⟩
        · show (if c2 = 0 then PyData.int (followN l runs : Nat) else .none) = .none ∨ ∃ n : Nat, (if c2 = 0 then PyData.int (followN l runs : Nat) else .none) = .int n
          split
          · exact .inr ⟨_, rfl⟩
          · exact .inl rfl
  · exact .inl rfl))) only [↓Hk.hold_s]
def wsD (x : Int) (ws : List Int) (n : Nat) (j : Int) : List Int := if x = 1 then ws.set n (j + 1) else if x = 2 then ws.set n (j + 2) else ws
def ansD (x : Int) : PyData := if x = 1 then .none else if x = 2 then .none else if x = 3 then noD else yesD
theorem LevB.seenE {b : BD} {m : Nat} {lv : List Int} {c0 c1 c2 span : Int} {pd : Bool} {ws : List Int} {as : List PyData} {runs : PyData} {sp bz t : Int} {n : Nat} (h : LevB b m lv c0 c1 c2 span pd) (lw : ws.length = m) (la : as.length = m) (hn : ∀ (i : Nat) w a, ws[i]? = some w → as[i]? = some a → t + 1 < w → a = .none)
    {o : TN} (ho : opnP (bestL lv ws (t + 1)) runs sp (decB bz) c2 span = o) (ht : o.turn = .int n) {as1 : List PyData} (e1a : List.zipWith (anAt (t + 1)) ws as = as1) : seenD (openD (lvSt m (ws.map (stAt t)) as runs sp bz .none) b 0) = .tuple [.int n, as1.getD n .none] := by
  have eo := h.opened (n := 0) (runs := runs) (sp := sp) (bz := bz) lw la hn
  rw [e1a, ho, ht] at eo
  rw [eo]
  show PyData.tuple [.int n, as1.getD ((n : Int)).toNat .none] = _
  rw [Int.toNat_natCast]
theorem rep_flatV (x : V) : ∀ m : Nat, (List.replicate m [x]).flatten = List.replicate m x
  | 0 => rfl
  | n + 1 => by rw [List.replicate_succ, List.flatten_cons, rep_flatV x n, List.replicate_succ]; rfl
def spLaw (K : PySem.W.Frag) : Sp := fun vs H Q _ => ∃ (a : Addr) (ns : List Int), vs = [.ref a] ∧ SqL K H a (ns.map V.int) ∧ ns.length ≤ 63 ∧ ∀ H', Q (.bl true) H'
theorem ok_law (B : Bl mg) (nCC : CR ≠ CK) (nMR : CM ≠ CR)
    (e_sleep : PySem.W.nsIn K dE "sleep" = some (some (.ref fS))) (e_get : PySem.W.nsIn K dE "get" = some (some (.ref fG))) (e_pass : PySem.W.nsIn K dE "pass" = some (some (.ref fP)))
    (s_sleep : S fS = some (spEff K CR CK sleepPre sleepPost noAns)) (s_get : S fG = some (spEff K CR CK getPre keepPost noAnsw)) (s_pass : S fP = some (spEff K CR CK (fun _ _ _ _ => True) keepPost yesAnsw))
    (c__law_cell : Cal P w K mg base 1 "_law_cell" ["_law_script", "_law_k"] (spCell K)) (c__law_digits : Cal P w K mg base 1 "_law_digits" ["_law_cell_here", "_law_sizes"] (spDigits K))
    (c__law_started : Cal P w K mg base 2 "_law_started" ["_law_script"] (spStarted K)) (c__law_turn : Cal P w K mg base 2 "_law_turn" ["_law_world", "_law_time"] (spTurn K))
    (c__law_same : Cal P w K mg base 5 "_law_same" ["_law_told", "_law_due"] (spSameT K 5)) (c__law_stands : Cal P w K mg base 6 "_law_stands" ["_law_world", "_law_moment", "_law_time", "_law_answers"] (spStands K C CR CM))
    (c_Build : MkGCal P w K mg base 10 C "Build" ["self", "tasks", "pages", "ports", "locks", "frames", "disk", "rights", "lines", "costs", "plan", "outside", "wipe", "pad", "lend", "share"] 11 ["pad"] padV (spBuild K C CR))
    (c_first : Cal P w K mg base 3 "first" ["build"] (spFirst K C CR CM)) (m_due : MDCal P w K mg base 7 CM "due" ["self", "outside"] [.non] (spDue K C CR CK CM)) (m_tick : MDCal P w K mg base 7 CM "tick" ["self", "outside", "call"] [.non, .non] (spTk K C CR CK CM dE S)) (m_tick1 : MCal P w K mg base 7 CM "tick" ["self", "outside", "call"] (spTk K C CR CK CM dE S))
    : ∀ f fd, Fun K "law" "law" s_law f fd → FnOk P w K mg base CX0 12 f fd ["_law_script"] (spLaw K) := by
 refine Hk.hold ?_
 simp (disch := with_unfolding_all (
 exact Hk.disch (fun f fd F => by
  refine F.ok sc_law (fun vs H Q E h => ?_) (fun cdv A outer s H vs Q E hr h => ?_)
  · obtain ⟨a, ns, rfl, _⟩ := h; rfl
  · obtain ⟨a, ns, rfl, hs, l63, q⟩ := h
    have hu := hu_of hr
    refine ⟨_, (pss_cons (ps_set (i := 1) sc_law.nd rfl (Or.inl rfl) (pe_cal c__law_started (hr.mono (by omega)) rfl (pa_cons (pv 0) pa_nil)))
      (pss_cons (ps_set (i := 2) sc_law.nd rfl (Or.inl rfl) (pe_dget hu (pv 1) pe_str (fun _ _ => rfl)))
      (pss_cons (ps_set (i := 3) sc_law.nd rfl (Or.inl rfl) (pe_cal c_first (hr.mono (by omega)) rfl (pa_cons (pe_mkg c_Build (hr.mono (by omega)) rfl (pa_cons (pe_callTy call_list_of rfl B.list_ hb_list (pa_cons (pe_dget hu (pv 1) pe_str (fun _ _ => rfl)) pa_nil)) (pa_cons (pe_lst pa_nil) (pa_cons (pe_lst pa_nil) (pa_cons pe_int (pa_cons pe_int (pa_cons pe_int (pa_cons (pe_op op_rep (pe_lst (pa_cons (pe_lst pa_nil) pa_nil)) (pv 2)) (pa_cons (pe_lst pa_nil) (pa_cons (pe_dget hu (pv 1) pe_str (fun _ _ => rfl)) (pa_cons (pe_tup (pa_cons pe_str (pa_cons (pe_dget hu (pv 1) pe_str (fun _ _ => rfl)) pa_nil))) (pa_cons pe_non pa_nil))))))))))) (pk_cons (pe_dget hu (pv 1) pe_str (fun _ _ => rfl)) pk_nil)) pa_nil)))
      (pss_cons (ps_set (i := 4) sc_law.nd rfl (Or.inl rfl) (pe_op op_rep (pe_lst (pa_cons pe_non pa_nil)) (pv 2)))
      (pss_cons (ps_for PassesOwn.never rfl (pi_range1 rfl B.range (pa_cons (pe_op op_add (pe_callB (call_min2 rfl) rfl B.min hb_min (pa_cons pe_int (pa_cons (pe_callB call_len_seq rfl B.len hb_len (pa_cons (pv 0) pa_nil)) pa_nil))) pe_int) pa_nil)) (pg_name (i := 5) sc_law.nd rfl (Or.inl rfl)) (pss_cons (ps_set (i := 6) sc_law.nd rfl (Or.inl rfl) (pe_cal c__law_digits (hr.mono (by omega)) rfl (pa_cons (pe_cal c__law_cell (hr.mono (by omega)) rfl (pa_cons (pv 0) (pa_cons (pe_op op_add pe_int (pv 5)) pa_nil))) (pa_cons (pe_lst (pa_cons pe_int pa_nil)) pa_nil))))
      (pss_cons (ps_set (i := 7) sc_law.nd rfl (Or.inl rfl) (pe_ix ix_list (pe_lst (pa_cons (pe_tup (pa_cons pe_str pa_nil)) (pa_cons (pe_tup (pa_cons pe_str (pa_cons pe_int pa_nil))) (pa_cons (pe_tup (pa_cons pe_str (pa_cons pe_int pa_nil))) (pa_cons (pe_tup (pa_cons pe_str pa_nil)) (pa_cons (pe_tup (pa_cons pe_str pa_nil)) pa_nil)))))) (pe_ix ix_list (pv 6) pe_int (fun _ _ => rfl)) (fun _ _ => rfl)))
      (pss_cons (ps_for PassesOwn.never rfl (pi_range1 rfl B.range (pa_cons (pv 2) pa_nil)) (pg_name (i := 8) sc_law.nd rfl (Or.inl rfl)) (pss_one (ps_if (pt_cmpR op_eq (pe_ix ix_list (pe_dget hu (pv 1) pe_str (fun _ _ => rfl)) (pv 8) (fun _ _ => rfl)) (pv 5) (nomark _)) (pss_one (ps_asg pe_str (pg_sub (pv 4) (pv 8) set_list))) pss_nil)))
      (pss_cons (ps_set (i := 8) sc_law.nd rfl (Or.inl rfl) (pe_cal c__law_turn (hr.mono (by omega)) rfl (pa_cons (pv 1) (pa_cons (pv 5) pa_nil))))
      (pss_cons (ps_if (pt_not (pt_val (pe_cal c__law_same (hr.mono (by omega)) rfl (pa_cons (pe_mdcal0 m_due (hr.mono (by omega)) (pv 3)) (pa_cons (pv 8) pa_nil))))) (pss_one (ps_ret pe_bl)) pss_nil)
      (pss_cons (ps_if (pt_cmp (pc_isN (pv 8))) (pss_cons (ps_asg (pe_mdcal0 m_tick (hr.mono (by omega)) (pv 3)) (pg_tup rfl (pgs_cons (pg_name (i := 9) sc_law.nd rfl (Or.inl rfl)) (pgs_cons (pg_name (i := 3) sc_law.nd rfl (Or.inl rfl)) pgs_nil))))
      (pss_one (ps_if (pt_cmp (pc_notN (pv 9))) (pss_one (ps_ret pe_bl)) pss_nil))) (pss_cons (ps_asg (pe_mcal m_tick1 (hr.mono (by omega)) (pv 3) (pa_cons pe_non (pa_cons (pv 7) pa_nil))) (pg_tup rfl (pgs_cons (pg_name (i := 9) sc_law.nd rfl (Or.inl rfl)) (pgs_cons (pg_name (i := 3) sc_law.nd rfl (Or.inl rfl)) pgs_nil))))
      (pss_cons (ps_if (pt_not (pt_val (pe_cal c__law_same (hr.mono (by omega)) rfl (pa_cons (pv 9) (pa_cons (pe_tup (pa_cons (pv 8) (pa_cons (pe_ix ix_list (pv 4) (pv 8) (fun _ _ => rfl)) pa_nil))) pa_nil))))) (pss_one (ps_ret pe_bl)) pss_nil)
      (pss_cons (ps_dput hu (pv 1) pe_str (pe_op op_add (pv 5) (pe_dget hu (pv 1) pe_str (fun _ _ => rfl))) rfl)
      (pss_cons (ps_dput hu (pv 1) pe_str (pe_op op_add (pe_dget hu (pv 1) pe_str (fun _ _ => rfl)) (pe_dget hu (pv 1) pe_str (fun _ _ => rfl))) rfl)
      (pss_cons (ps_asg (pe_ix ix_list (pe_lst (pa_cons pe_str (pa_cons pe_non (pa_cons pe_non (pa_cons pe_str (pa_cons pe_str pa_nil)))))) (pe_ix ix_list (pv 6) pe_int (fun _ _ => rfl)) (fun _ _ => rfl)) (pg_sub (pv 4) (pv 8) set_list))
      (pss_one (ps_if (pt_cmpR op_eq (pe_ix ix_tup (pv 7) pe_int (fun _ _ => rfl)) pe_str (nomark _)) (pss_cons (ps_set (i := 10) sc_law.nd rfl (Or.inl rfl) (pe_dget hu (pv 1) pe_str (fun _ _ => rfl)))
      (pss_one (ps_asg (pe_op op_add (pv 5) (pe_ix ix_tup (pv 7) pe_int (fun _ _ => rfl))) (pg_sub (pv 10) (pv 8) set_list)))) pss_nil))))))))
      (pss_one (ps_if (pt_not (pt_val (pe_cal c__law_stands (hr.mono (by omega)) rfl (pa_cons (pv 1) (pa_cons (pv 3) (pa_cons (pv 5) (pa_cons (pv 4) pa_nil))))))) (pss_one (ps_ret pe_bl)) pss_nil)))))))))
      (pss_one (ps_ret pe_bl))))))), ?_⟩
    walk_at "st0"
    refine ⟨a, ns, rfl, hs, l63, fun W d H1 s1 nW nLWH hW o ts => ?_⟩
    have hs1 := s1.seq hs
    have m2 := o.m2
    have m4 := o.m4
    walk_at "st"
    refine hW.get (by rfl) ?_
    walk_at "st"
    refine q_mkg ?_
    walk_at "st"
    refine hW.get (by rfl) ?_
    obtain ⟨ys, eT, lT, hT⟩ := id hW.lt
    refine ⟨d.LT, ys, rfl, .inl (SqL.of eT), fun l1 nl1 => ?_⟩
    have m1 := same_new (o := .lst ys) nl1
    have TT : Dp K (upd H1 l1 (.lst ys)) (.ref l1) (levBD d).tasks := by
      refine .lst (SqL.of upd_same) (dpAll_of (by rw [List.length_map]; exact lT) fun i x dd ex ed => ?_)
      rw [List.getElem?_map] at ed
      obtain ⟨s0, hs0, rfl⟩ := Option.map_eq_some_iff.mp ed
      obtain ⟨p, rfl, hp⟩ := hT i x s0 ex hs0
      exact .tup (Same.sqT m1 hp) (.cons (.int _) (.cons (.int _) .nil))
    replace hW := hW.mono m1
    have sA : Same H1 (upd H1 l1 (.lst ys)) := m1
    generalize upd H1 l1 (.lst ys) = H2 at *
    walk_at "st"
    refine ⟨by show 0 ≤ sizeLine; decide, fun l2 nl2 => ?_⟩
    have m2' := same_new (o := .lst []) nl2
    have TG : Dp K (upd H2 l2 (.lst [])) (.ref l2) (levBD d).pages := .lst (SqL.of upd_same) .nil
    replace TT := L2.Dp.mono m2' TT
    replace hW := hW.mono m2'
    replace sA := sA.trans m2'
    generalize upd H2 l2 (.lst []) = H3 at *
    walk_at "st"
    refine ⟨by show 0 ≤ sizeLine; decide, fun l3 nl3 => ?_⟩
    have m3' := same_new (o := .lst []) nl3
    have TO : Dp K (upd H3 l3 (.lst [])) (.ref l3) (levBD d).ports := .lst (SqL.of upd_same) .nil
    replace TT := L2.Dp.mono m3' TT
    replace TG := L2.Dp.mono m3' TG
    replace hW := hW.mono m3'
    replace sA := sA.trans m3'
    generalize upd H3 l3 (.lst []) = H4 at *
    walk_at "st"
    refine ⟨by show 0 ≤ sizeLine; decide, fun l4 nl4 => ?_⟩
    have m4' := same_new (o := .lst []) nl4
    have e4 : upd H4 l4 (.lst []) l4 = some (.lst []) := upd_same
    replace TT := L2.Dp.mono m4' TT
    replace TG := L2.Dp.mono m4' TG
    replace TO := L2.Dp.mono m4' TO
    replace hW := hW.mono m4'
    replace sA := sA.trans m4'
    generalize upd H4 l4 (.lst []) = H5 at *
    refine ⟨by show 1 ≤ sizeLine; decide, fun l5 nl5 => ?_⟩
    have m5' := same_new (o := .lst [V.ref l4]) nl5
    have e5 : upd H5 l5 (.lst [V.ref l4]) l5 = some (.lst [V.ref l4]) := upd_same
    replace e4 := m5' _ _ e4
    replace TT := L2.Dp.mono m5' TT
    replace TG := L2.Dp.mono m5' TG
    replace TO := L2.Dp.mono m5' TO
    replace hW := hW.mono m5'
    replace sA := sA.trans m5'
    generalize upd H5 l5 (.lst [V.ref l4]) = H6 at *
    walk_at "st"
    refine ⟨l5, d.m, _, rfl, rfl, e5, by omega, by omega, by rw [Int.toNat_natCast]; exact Nat.le_of_lt (sz1000 (by simp; omega)), fun l6 nl6 => ?_⟩
    rw [Int.toNat_natCast]
    have m6' := same_new (o := .lst (List.replicate d.m [V.ref l4]).flatten) nl6
    have TR : Dp K (upd H6 l6 (.lst (List.replicate d.m [V.ref l4]).flatten)) (.ref l6) (levBD d).rights := .lst (SqL.of upd_same) (rep_dp (.lst (SqL.of (m6' _ _ e4)) .nil) d.m)
    replace TT := L2.Dp.mono m6' TT
    replace TG := L2.Dp.mono m6' TG
    replace TO := L2.Dp.mono m6' TO
    replace hW := hW.mono m6'
    replace sA := sA.trans m6'
    generalize upd H6 l6 (.lst (List.replicate d.m [V.ref l4]).flatten) = H7 at *
    walk_at "st"
    refine ⟨by show 0 ≤ sizeLine; decide, fun l7 nl7 => ?_⟩
    have m7' := same_new (o := .lst []) nl7
    have TL : Dp K (upd H7 l7 (.lst [])) (.ref l7) (levBD d).lines := .lst (SqL.of upd_same) .nil
    replace TT := L2.Dp.mono m7' TT
    replace TG := L2.Dp.mono m7' TG
    replace TO := L2.Dp.mono m7' TO
    replace TR := L2.Dp.mono m7' TR
    replace hW := hW.mono m7'
    replace sA := sA.trans m7'
    generalize upd H7 l7 (.lst []) = H8 at *
    walk_at "st"
    refine hW.get (by rfl) ?_
    walk_at "st"
    refine hW.get (by rfl) ?_
    walk_at "st"
    refine ⟨by show 2 ≤ sizeLine; decide, fun pp npp => ?_⟩
    have m8' := same_new (o := .tup [V.str "levels", V.int d.span]) npp
    have TP : Dp K (upd H8 pp (.tup [V.str "levels", V.int d.span])) (.ref pp) (levBD d).plan := .tup (SqT.of upd_same) (.cons (.str _) (.cons (.int _) .nil))
    replace TT := L2.Dp.mono m8' TT
    replace TG := L2.Dp.mono m8' TG
    replace TO := L2.Dp.mono m8' TO
    replace TR := L2.Dp.mono m8' TR
    replace TL := L2.Dp.mono m8' TL
    replace hW := hW.mono m8'
    replace sA := sA.trans m8'
    generalize upd H8 pp (.tup [V.str "levels", V.int d.span]) = H9 at *
    have TC : Dp K H9 (.ref d.tc) (levBD d).costs := .tup hW.tc (.cons (.int _) (.cons (.int _) (.cons (.int _) .nil)))
    walk_at "st"
    refine hW.get (by rfl) ?_
    walk_at "st"
    refine ⟨rfl, rfl, fun bx dx nbx ndx nex => ?_⟩
    have mm : Same H9 (upd (upd H9 dx (.own bx)) bx (.ins C dx [])) := (same_new ndx).trans (same_new (by rw [upd_ne (Ne.symm nex)]; exact nbx))
    obtain ⟨LB, NB⟩ := levBD_law o ts
    refine ⟨bx, dx, .ref l1, .ref l2, .ref l3, .int 0, .int 0, .int 0, .ref l6, .ref l7, .ref d.tc, .ref pp, .non, .bl false, .bl d.pd, .bl false, .bl false, levBD d, rfl, upd_same, LB.ok, L2.Dp.mono mm TT, L2.Dp.mono mm TG, L2.Dp.mono mm TO, .int _, .int _, .int _, L2.Dp.mono mm TR, L2.Dp.mono mm TL, L2.Dp.mono mm TC, L2.Dp.mono mm TP, .non, .bl _, .bl _, .bl _, .bl _, fun HT2 bt BA => ⟨rfl, ?_⟩⟩
    have sBx : Same H9 HT2 := fun y o hy => bt _ _ (mm _ _ hy) (ne_of_none hy nbx)
    replace hW := hW.mono sBx
    replace sA := sA.trans sBx
    clear TT TG TO TR TL TC TP e4 e5 mm bt
    walk_at "st"
    refine ⟨bx, levBD d, rfl, BA, nMR, fun mo H10 s10 hM => ?_⟩
    rw [first_lv o] at hM
    replace hW := hW.mono s10
    replace sA := sA.trans s10
    walk_at "st"
    refine ⟨by show 1 ≤ sizeLine; decide, fun l8 nl8 => ?_⟩
    have m9 := same_new (o := .lst [V.non]) nl8
    have e8 : upd H10 l8 (.lst [V.non]) l8 = some (.lst [V.non]) := upd_same
    replace hW := hW.mono m9
    replace hM := hM.mono m9
    replace sA := sA.trans m9
    generalize upd H10 l8 (.lst [V.non]) = H11 at *
    walk_at "st"
    refine ⟨l8, d.m, _, rfl, rfl, e8, by omega, by omega, by rw [Int.toNat_natCast]; exact Nat.le_of_lt (sz1000 (by simp; omega)), fun LA nLA => ?_⟩
    rw [Int.toNat_natCast]
    have n1 : d.LT ≠ LA := by obtain ⟨ys2, e, _⟩ := hW.lt; exact ne_of_none e nLA
    have n2 : d.LW ≠ LA := ne_of_none hW.lw nLA
    have m10 := same_new (o := .lst (List.replicate d.m [V.non]).flatten) nLA
    have eLA : upd H11 LA (.lst (List.replicate d.m [V.non]).flatten) LA = some (.lst ((List.replicate d.m PyData.none).map lnV)) := by
      rw [upd_same, rep_flatV, List.map_replicate]
      rfl
    replace hW := hW.mono m10
    replace hM := hM.mono m10
    have nLAH : H LA = none := s1.free (sA.free nLA)
    replace sA := sA.trans m10
    generalize upd H11 LA (.lst (List.replicate d.m [V.non]).flatten) = H12 at *
    have I0 : LI K C CR CM H12 W d LA mo bx (List.replicate d.m (-1)) .none 0 0 (List.replicate d.m .none) 0 0 := by
      refine ⟨hW, eLA, hM, List.length_replicate, List.length_replicate, fun x hx => .inl (List.mem_replicate.mp hx).2, fun i w a _ ha _ => (List.mem_replicate.mp (List.mem_of_getElem? ha)).2, .inl rfl, rfl, Ne.symm n1, Ne.symm n2⟩
    have sH := s1.trans sA
    let J : Nat → L2.St → Hp → Prop := fun j σ H' => ∃ (o5 o6 o7 o8 o9 o10 : Option V) (mo : Addr) (ws : List Int) (run : PyData) (sp fr : Int) (as : List PyData) (bz : Int), σ = [some (.ref a), some (.ref W), some (.int d.m), some (.ref mo), some (.ref LA), o5, o6, o7, o8, o9, o10] ∧ Same H H' ∧ LI K C CR CM H' W d LA mo bx ws run sp fr as bz j
    clear hM hW eLA m10
    walk_at "st"
    refine q_forRA ?_
    walk_at "st"
    refine ⟨a, _, rfl, .inl (sH.seq hs), ?_⟩
    rw [List.length_map]
    walk_at "st"
    refine ⟨_, _, rfl, ?_⟩
    walk_at "st"
    have nj : ∃ N : Nat, (if (ns.length : Int) < 54 then (ns.length : Int) else 54) + 12 = (N : Int) ∧ N ≤ 66 := ⟨((if (ns.length : Int) < 54 then (ns.length : Int) else 54) + 12).toNat, by split <;> omega, by split <;> omega⟩
    obtain ⟨N, eN, lN⟩ := nj
    rw [eN]
    refine ⟨_, rfl, by omega, by omega, forR J ⟨_, _, _, _, _, _, _, _, _, _, _, _, _, rfl, sH, I0⟩ (fun j σ H20 lj hJ => ?_) (fun σ H20 hJ => ?_)⟩
    · obtain ⟨o5, o6, o7, o8, o9, o10, mo, ws, run, sp, fr, as, bz, rfl, s20, I⟩ := hJ
      clear I0 sH sA hs1
      rw [Int.toNat_natCast] at lj
      refine q_gname ?_
      rw [Int.zero_add]
      walk_at "st"
      refine ⟨a, ns, 2 + j, by rw [Int.natCast_add]; rfl, s20.seq hs, l63, by omega, fun c1 H21 hc1 s21 => ?_⟩
      walk_at "st"
      refine ⟨by show 1 ≤ sizeLine; decide, fun p2 np2 => ?_⟩
      have sp2 := s21.trans (same_new (o := .lst [V.int 5]) np2)
      walk_at "st"
      refine ⟨c1, p2, [5], rfl, hc1, SqL.of upd_same, by decide, by decide, fun dE1 es H22 s22 nde eE le he => ?_⟩
      obtain ⟨x, rfl⟩ : ∃ x, es = [x] := by
        match es, le with
        | [x], _ => exact ⟨x, rfl⟩
      have hx := he 0 x 5 rfl rfl
      have nEL : LA ≠ dE1 := ne_of_none (sp2 _ _ I.la) nde
      have s2022 := sp2.trans s22
      replace I := I.mono s2022
      replace s20 := s20.trans s2022
      have eE' : H22 dE1 = some (.lst [V.int x]) := eE
      clear s22 sp2 s21 he le s2022 eE
      walk_at "st"
      refine ⟨by show 1 ≤ sizeLine; decide, fun q0 nq0 => ?_⟩
      have t0 := same_new (o := .tup [V.str "pass"]) nq0
      have g0 : Dp K (upd H22 q0 (.tup [V.str "pass"])) (.ref q0) (wordD "pass") := .tup (SqT.of upd_same) (.cons (.str _) .nil)
      replace I := I.mono t0
      replace s20 := s20.trans t0
      replace eE' := t0 _ _ eE'
      generalize upd H22 q0 (.tup [V.str "pass"]) = H23 at *
      walk_at "st"
      refine ⟨by show 2 ≤ sizeLine; decide, fun q1 nq1 => ?_⟩
      have t1 := same_new (o := .tup [V.str "sleep", V.int 1]) nq1
      have g1 : Dp K (upd H23 q1 (.tup [V.str "sleep", V.int 1])) (.ref q1) (slpD 1) := .tup (SqT.of upd_same) (.cons (.str _) (.cons (.int _) .nil))
      replace I := I.mono t1
      replace s20 := s20.trans t1
      replace eE' := t1 _ _ eE'
      replace g0 := L2.Dp.mono t1 g0
      generalize upd H23 q1 (.tup [V.str "sleep", V.int 1]) = H24 at *
      walk_at "st"
      refine ⟨by show 2 ≤ sizeLine; decide, fun q2 nq2 => ?_⟩
      have t2 := same_new (o := .tup [V.str "sleep", V.int 2]) nq2
      have g2 : Dp K (upd H24 q2 (.tup [V.str "sleep", V.int 2])) (.ref q2) (slpD 2) := .tup (SqT.of upd_same) (.cons (.str _) (.cons (.int _) .nil))
      replace I := I.mono t2
      replace s20 := s20.trans t2
      replace eE' := t2 _ _ eE'
      replace g0 := L2.Dp.mono t2 g0
      replace g1 := L2.Dp.mono t2 g1
      generalize upd H24 q2 (.tup [V.str "sleep", V.int 2]) = H25 at *
      walk_at "st"
      refine ⟨by show 1 ≤ sizeLine; decide, fun q3 nq3 => ?_⟩
      have t3 := same_new (o := .tup [V.str "get"]) nq3
      have g3 : Dp K (upd H25 q3 (.tup [V.str "get"])) (.ref q3) (wordD "get") := .tup (SqT.of upd_same) (.cons (.str _) .nil)
      replace I := I.mono t3
      replace s20 := s20.trans t3
      replace eE' := t3 _ _ eE'
      replace g0 := L2.Dp.mono t3 g0
      replace g1 := L2.Dp.mono t3 g1
      replace g2 := L2.Dp.mono t3 g2
      generalize upd H25 q3 (.tup [V.str "get"]) = H26 at *
      walk_at "st"
      refine ⟨by show 1 ≤ sizeLine; decide, fun q4 nq4 => ?_⟩
      have t4 := same_new (o := .tup [V.str "pass"]) nq4
      have g4 : Dp K (upd H26 q4 (.tup [V.str "pass"])) (.ref q4) (wordD "pass") := .tup (SqT.of upd_same) (.cons (.str _) .nil)
      replace I := I.mono t4
      replace s20 := s20.trans t4
      replace eE' := t4 _ _ eE'
      replace g0 := L2.Dp.mono t4 g0
      replace g1 := L2.Dp.mono t4 g1
      replace g2 := L2.Dp.mono t4 g2
      replace g3 := L2.Dp.mono t4 g3
      generalize upd H26 q4 (.tup [V.str "pass"]) = H27 at *
      walk_at "st"
      refine ⟨by show 5 ≤ sizeLine; decide, fun q5 nq5 => ?_⟩
      have t5 := same_new (o := .lst [V.ref q0, V.ref q1, V.ref q2, V.ref q3, V.ref q4]) nq5
      have e5 : upd H27 q5 (.lst [V.ref q0, V.ref q1, V.ref q2, V.ref q3, V.ref q4]) q5 = some (.lst [V.ref q0, V.ref q1, V.ref q2, V.ref q3, V.ref q4]) := upd_same
      have cv : ∃ v, atI [V.ref q0, V.ref q1, V.ref q2, V.ref q3, V.ref q4] x = some v ∧ Dp K (upd H27 q5 (.lst [V.ref q0, V.ref q1, V.ref q2, V.ref q3, V.ref q4])) v (callD x) := by
        rcases (show x = 0 ∨ x = 1 ∨ x = 2 ∨ x = 3 ∨ x = 4 by omega) with rfl | rfl | rfl | rfl | rfl
        · exact ⟨_, rfl, L2.Dp.mono t5 g0⟩
        · exact ⟨_, rfl, L2.Dp.mono t5 g1⟩
        · exact ⟨_, rfl, L2.Dp.mono t5 g2⟩
        · exact ⟨_, rfl, L2.Dp.mono t5 g3⟩
        · exact ⟨_, rfl, L2.Dp.mono t5 g4⟩
      obtain ⟨cv, ecv, dcv⟩ := cv
      replace I := I.mono t5
      replace s20 := s20.trans t5
      replace eE' := t5 _ _ eE'
      clear g0 g1 g2 g3 g4 t0 t1 t2 t3 t4 t5 nq0 nq1 nq2 nq3 nq4 nq5
      generalize upd H27 q5 (.lst [V.ref q0, V.ref q1, V.ref q2, V.ref q3, V.ref q4]) = H28 at *
      walk_at "st"
      refine q_ixL (SqL.of eE') (atI0 rfl) ?_
      walk_at "st"
      refine q_ixL (SqL.of e5) ecv ?_
      clear ecv e5
      walk_at "st"
      have lw := I.lw
      have las := I.las
      obtain ⟨as1, eas1⟩ : ∃ l, List.zipWith (anAt (j : Int)) ws as = l := ⟨_, rfl⟩
      have la1 : as1.length = d.m := by rw [← eas1, List.length_zipWith]; omega
      have at1 : ∀ k, k < d.m → ∃ w0 x0, ws[k]? = some w0 ∧ as[k]? = some x0 ∧ as1[k]? = some (anAt (j : Int) w0 x0) := fun k hk => by
        have h1 : ws[k]? = some ws[k] := List.getElem?_eq_getElem (by omega)
        have h2 : as[k]? = some as[k] := List.getElem?_eq_getElem (by omega)
        refine ⟨_, _, h1, h2, ?_⟩
        have z : (List.zipWith (anAt (j : Int)) ws as)[k]? = some (anAt (j : Int) ws[k] as[k]) := by rw [List.getElem?_zipWith, h1, h2]
        rw [eas1] at z
        exact z
      let Ji : Nat → L2.St → Hp → Prop := fun k σ H' => ∃ o8, σ = [some (.ref a), some (.ref W), some (.int d.m), some (.ref mo), some (.ref LA), some (.int j), some (.ref dE1), some cv, o8, o9, o10] ∧ But LA H28 H' ∧ H' LA = some (.lst ((as1.take k ++ as.drop k).map lnV))
      refine q_forR Ji rfl (by omega) (by omega) ⟨_, rfl, But.refl, by rw [List.take_zero, List.nil_append, List.drop_zero]; exact I.la⟩ (fun k σ H29 lk hJ => ?_) (fun σ H29 hJ => ?_)
      · obtain ⟨o8, rfl, bI, eLA⟩ := hJ
        rw [Int.toNat_natCast] at lk
        refine q_gname ?_
        rw [Int.zero_add]
        obtain ⟨w0, x0, h1, h2, h3⟩ := at1 k lk
        have hW29 := I.w.butL I.la bI I.n1 I.n2
        walk_at "st"
        refine hW29.get (by rfl) ?_
        walk_at "st"
        refine q_ixL (SqL.of hW29.lw) (atI_nat (v := .int w0) (by rw [List.getElem?_map, h1]; rfl)) ?_
        walk_at "st"
        refine q_eqI ?_
        refine ⟨_, rfl, ?_⟩
        have lmix : ((as1.take k ++ as.drop k).map lnV).length = d.m := by rw [List.length_map, List.length_append, List.length_take, List.length_drop]; omega
        by_cases hw : w0 = (j : Int)
        · rw [decide_eq_true hw]
          refine iteT ?_
          walk_at "st"
          have ix : ixN ((as1.take k ++ as.drop k).map lnV).length (k : Int) = some k := by
            rw [lmix]
            unfold ixN
            rw [if_pos (by omega), if_pos (by omega), Int.toNat_natCast]
          refine ⟨LA, _, k, k, rfl, rfl, eLA, ix, ?_⟩
          refine ⟨_, rfl, bI.trans But.put, ?_⟩
          rw [upd_same]
          have e1 : anAt (j : Int) w0 x0 = yesD := by unfold anAt; rw [if_pos hw]
          rw [e1] at h3
          rw [← mix_set h2 h3 (by omega), List.map_set]
          rfl
        · rw [decide_eq_false hw]
          refine iteF ?_
          have e1 : anAt (j : Int) w0 x0 = x0 := by unfold anAt; rw [if_neg hw]
          rw [e1] at h3
          refine ⟨_, rfl, bI, ?_⟩
          rw [← mix_same h2 h3]
          exact eLA
      obtain ⟨o8, rfl, bI, eLA⟩ := hJ
      rw [Int.toNat_natCast, List.take_of_length_le (by omega), List.drop_of_length_le (by omega), List.append_nil] at eLA
      have hW29 := I.w.butL I.la bI I.n1 I.n2
      have nlv := lv_noL (m := d.m) (ws := ws) (t := (j : Int) - 1) (sp := sp) (bz := bz) I.r I.lf
      have hM29 := I.m.keepL NB nlv (fun b o' e n => bI _ _ e (fun z => n _ (by rw [z, I.la] at e; exact (Option.some.inj e).symm)))
      have s29 : Same H H29 := fun b o hb => bI _ _ (s20 _ _ hb) (ne_of_none hb nLAH)
      have al1 : ∀ x ∈ as1, lfOk x := by rw [← eas1]; exact an_lfs I.lf
      walk_at "st"
      refine ⟨W, d, ws, run, sp, fr, j, rfl, hW29, o, lw, I.r, fun fr' v8 H30 b30 hW30 hbz d8 => ?_⟩
      have hM30 := hM29.keepM NB nlv (KeepM.of_but b30) hW29.w rfl LB.cnt
      have nLAW : LA ≠ W := fun z => by rw [z, hW29.w] at eLA; cases eLA
      have eLA30 := b30 _ _ eLA nLAW
      have s30 : Same H H30 := fun b o hb => b30 _ _ (s29 _ _ hb) (ne_of_none hb nW)
      have ej : (j : Int) - 1 + 1 = j := by omega
      have ho : opnP (bestL d.lv ws ((j : Int) - 1 + 1)) run sp (decB bz) d.c2 d.span = opnP (bestL d.lv ws j) run sp (max 0 (fr - j)) d.c2 d.span := by rw [ej, I.bz]
      have tmem := fun n => turn_mem (c2 := d.c2) (span := d.span) (sp := sp) (runs := run) (n := n) (l := bestL d.lv ws j) (bz := max 0 (fr - j))
      have tform := opn_turn (c2 := d.c2) (span := d.span) (sp := sp) (l := bestL d.lv ws j) (bz := max 0 (fr - j)) I.r
      have rform := opn_runs (c2 := d.c2) (span := d.span) (sp := sp) (l := bestL d.lv ws j) (bz := max 0 (fr - j)) I.r
      have brdy := fun (n : Nat) (h : n ∈ bestL d.lv ws j) => best_rdy h
      generalize opnP (bestL d.lv ws j) run sp (max 0 (fr - j)) d.c2 d.span = oT at *
      have eas1' : List.zipWith (anAt ((j : Int) - 1 + 1)) ws as = as1 := by rw [ej]; exact eas1
      have OO := LB.openOk (t := (j : Int) - 1) (sp := sp) (bz := bz) lw las I.hn I.r
      walk_at "st"
      refine q_methd ?_
      walk_at "st"
      refine hM30.meth (by decide +kernel) ?_
      walk_at "st"
      refine ⟨mo, bx, levBD d, _, 0, _, rfl, hM30, nCC, OO, fun v9 H31 s31 d9 => ?_⟩
      rw [LB.due lw las I.hn ho] at d9
      walk_at "st"
      have dep5 : depN 5 oT.turn := by rcases tform with e | ⟨n, e⟩ <;> rw [e] <;> exact .inl trivial
      refine ⟨v9, v8, oT.turn, rfl, d9, L2.Dp.mono s31 d8, dep5, ?_⟩
      refine ⟨_, rfl, ?_⟩
      refine iteF ?_
      have hM31 := hM30.mono s31
      have hW31 := hW30.mono s31
      have eLA31 := s31 _ _ eLA30
      have s31' := s30.trans s31
      walk_at "st"
      have stands : ∀ (o8 o9 o10 : Option V) (mo2 : Addr) (Hx : Hp) (ws2 : List Int) (run2 : PyData) (sp2 fr2 : Int) (as2 : List PyData) (bz2 : Int), Same H Hx → WAt K Hx W d ws2 run2 sp2 fr2 → Hx LA = some (.lst (as2.map lnV)) → MAt K C CR CM Hx mo2 bx (levBD d) (lvSt d.m (ws2.map (stAt (j : Int))) as2 run2 sp2 bz2 .none) → ws2.length = d.m → as2.length = d.m → (∀ x ∈ as2, lfOk x) →
          (∀ (i : Nat) w a, ws2[i]? = some w → as2[i]? = some a → (j : Int) + 1 < w → a = .none) → (run2 = .none ∨ ∃ i, run2 = .int i) → bz2 = max 0 (fr2 - j) →
          tIfS (tNot (tB (tCall (spStands K C CR CM) [] E0 (tCons (tVar 1) (tCons (tVar 3) (tCons (tVar 5) (tCons (tVar 4) tNil))))))) (tRet (tC (V.bl false))) tNext { nx := J (j + 1), rt := Q, bk := tRet (tC (V.bl true)) { nx := fun x H' => Q V.non H', rt := Q }, ct := J (j + 1) } [some (V.ref a), some (V.ref W), some (V.int ↑d.m), some (V.ref mo2), some (V.ref LA), some (V.int ↑j), some (V.ref dE1), some cv, o8, o9, o10] Hx := fun o8 o9 o10 mo2 Hx ws2 run2 sp2 fr2 as2 bz2 sx hWx eLx hMx lw2 la2 lf2 hn2 r2 hbz2 => by
        walk_at "st"
        refine ⟨W, mo2, bx, levBD d, _, d, ws2, run2, sp2, fr2, j, as2, .ref LA, rfl, hWx, o, lw2, la2, r2, lf2, hMx, LB.tasks, rfl, rfl, .lst (SqL.of eLx) (lf_dps lf2), by rw [← hbz2]; rfl, fun H40 s40 => ?_⟩
        refine ⟨_, rfl, ?_⟩
        refine iteF ?_
        have ej1 : (((j + 1 : Nat) : Int)) - 1 = j := by omega
        refine ⟨_, _, _, _, _, _, mo2, ws2, run2, sp2, fr2, as2, bz2, rfl, sx.trans s40, hWx.mono s40, s40 _ _ eLx, by rw [ej1]; exact hMx.mono s40, lw2, la2, lf2, fun i w a h1 h2 h3 => hn2 i w a h1 h2 (by omega), r2, ?_, I.n1, I.n2⟩
        unfold decB
        rw [hbz2]
        split <;> omega
      have hn1 : ∀ (i : Nat) w a, ws[i]? = some w → as1[i]? = some a → (j : Int) + 1 < w → a = .none := fun i w a h1 h2 h3 => by
        have hi : i < d.m := by have := (List.getElem?_eq_some_iff.mp h1).1; omega
        obtain ⟨w0, x0, g1, g2, g3⟩ := at1 i hi
        rw [h1] at g1
        cases g1
        rw [h2] at g3
        cases g3
        have hx0 := I.hn i w x0 h1 g2 (by omega)
        unfold anAt
        rw [if_neg (by omega)]
        exact hx0
      rcases tform with eT | ⟨n, eT⟩
      · rw [eT] at d8
        cases d8
        refine iteT ?_
        walk_at "st"
        refine q_methd ?_
        walk_at "st"
        refine hM31.meth (by decide +kernel) ?_
        walk_at "st"
        obtain ⟨i1, i2, i3, i4⟩ := LB.idle lw las I.hn ho eT eas1'
        refine .inr ⟨mo, bx, levBD d, _, 0, _, as1, rfl, hM31, nCC, nMR, OO, i1, i2, i3, fun tv m' H32 s32 etv hM32 => ?_⟩
        rw [i4, ej] at hM32
        refine ⟨tv, _, rfl, SqT.of etv, rfl, _, _, rfl, _, _, rfl, rfl, ?_⟩
        walk_at "st"
        refine iteF ?_
        exact stands _ _ _ m' H32 ws oT.runs oT.sp fr' as1 oT.bz (s31'.trans s32) (hW31.mono s32) (s32 _ _ eLA31) hM32 lw la1 al1 hn1 rform hbz
      · rw [eT] at d8
        cases d8
        refine iteF ?_
        walk_at "st"
        refine hM31.meth (by decide +kernel) ?_
        walk_at "st"
        obtain ⟨_, nL⟩ := tmem n eT
        obtain ⟨w0, hw0, hw0j⟩ := brdy n nL
        have ln : n < d.m := by have := (List.getElem?_eq_some_iff.mp hw0).1; omega
        have TK : ∃ pre post ans, TickOk K CR CK dE S (lvSt d.m (ws.map (stAt ((j : Int) - 1))) as run sp bz .none) (levBD d) n 0 (ws.map (stAt ((j : Int) - 1))) (callD x) pre post ans ∧ behind (lvSt d.m (ws.map (stAt ((j : Int) - 1))) as run sp bz .none) (levBD d) n 0 (callD x) post ans = lvSt d.m ((wsD x ws n j).map (stAt (j : Int))) (as1.set n (ansD x)) oT.runs (oT.sp + payI d.c0 d.c1 d.pd) (payI d.c0 d.c1 d.pd) .none := by
          rcases (show x = 0 ∨ x = 1 ∨ x = 2 ∨ x = 3 ∨ x = 4 by omega) with rfl | rfl | rfl | rfl | rfl
          · have z := LB.pass lw las I.hn I.r ho eT ln eas1' e_pass s_pass
            rw [ej] at z
            exact ⟨_, _, _, z⟩
          · have z := LB.sleep lw las I.hn I.r ho eT ln eas1' (k := 1) (.inl rfl) e_sleep s_sleep
            rw [ej] at z
            exact ⟨_, _, _, z⟩
          · have z := LB.sleep lw las I.hn I.r ho eT ln eas1' (k := 2) (.inr rfl) e_sleep s_sleep
            rw [ej] at z
            exact ⟨_, _, _, z⟩
          · have z := LB.get lw las I.hn I.r ho eT ln eas1' e_get s_get
            rw [ej] at z
            exact ⟨_, _, _, z⟩
          · have z := LB.pass lw las I.hn I.r ho eT ln eas1' e_pass s_pass
            rw [ej] at z
            exact ⟨_, _, _, z⟩
        obtain ⟨pre, post, ans, TO, TB⟩ := TK
        have dcv31 : Dp K H31 cv (callD x) := by
          have ncl : noL (callD x) = true := by unfold callD; split; rfl; split; rfl; split <;> rfl
          have d1 : Dp K H29 cv (callD x) := dpKeepL (fun b o' e n => bI _ _ e (fun z => n _ (by rw [z, I.la] at e; exact (Option.some.inj e).symm))) dcv ncl
          exact L2.Dp.mono s31 (dpKeepM (KeepM.of_but b30) hW29.w d1 ncl)
        have eE29 := bI _ _ eE' (Ne.symm nEL)
        have nEW : dE1 ≠ W := fun z => by rw [z, hW29.w] at eE29; cases eE29
        have eE31 := s31 _ _ (b30 _ _ eE29 nEW)
        refine .inl ⟨mo, bx, levBD d, _, n, 0, _, cv, callD x, pre, post, ans, rfl, hM31, nCC, nMR, dcv31, TO, fun tv sv m' H32 s32 etv dsv hM32 => ?_⟩
        rw [TB] at hM32
        refine ⟨tv, _, rfl, SqT.of etv, rfl, _, _, rfl, _, _, rfl, rfl, ?_⟩
        walk_at "st"
        have eA : as1[n]? = some as1[n] := List.getElem?_eq_getElem (by omega)
        have eLA32 := s32 _ _ eLA31
        refine q_ixL (SqL.of eLA32) (atI_nat (v := lnV as1[n]) (by rw [List.getElem?_map, eA]; rfl)) ?_
        walk_at "st"
        refine ⟨by show 2 ≤ sizeLine; decide, fun pt npt => ?_⟩
        have spt := same_new (o := .tup [V.int n, lnV as1[n]]) npt
        have dpt : Dp K (upd H32 pt (.tup [V.int n, lnV as1[n]])) (.ref pt) (.tuple [.int n, as1[n]]) := .tup (SqT.of upd_same) (.cons (.int _) (.cons (lf_dp (al1 _ (List.getElem_mem (by omega)))) .nil))
        rw [LB.seenE lw las I.hn ho eT eas1', show as1.getD n .none = as1[n] from by rw [List.getD_eq_getElem?_getD, eA]; rfl] at dsv
        walk_at "st"
        have hlf := al1 _ (List.getElem_mem (show n < as1.length by omega))
        refine ⟨sv, .ref pt, .tuple [.int n, as1[n]], rfl, L2.Dp.mono spt dsv, dpt, .inr ⟨_, .inr rfl, by show 2 ≤ 1000; decide, fun e he => by
          simp only [List.mem_cons, List.not_mem_nil, or_false] at he
          rcases he with rfl | rfl
          · exact .inl trivial
          · rcases hlf with h | ⟨_, h⟩ <;> rw [h] <;> exact .inl trivial⟩, ?_⟩
        refine ⟨_, rfl, ?_⟩
        refine iteF ?_
        have s3133 := s32.trans spt
        have hW33 := hW31.mono s3133
        have hM33 := hM32.mono spt
        have eLA33 := spt _ _ eLA32
        have eE33 := s3133 _ _ eE31
        have s33 := s31'.trans s3133
        clear dsv dpt hM32 hM31 hW31 eLA32 TO OO
        generalize upd H32 pt (.tup [V.int n, lnV as1[n]]) = H33 at *
        walk_at "st"
        refine hW33.get (by rfl) ?_
        walk_at "st"
        refine hW33.putFree (j + payI d.c0 d.c1 d.pd) fun H34 b34 hW34 => ?_
        walk_at "st"
        refine hW34.get (by rfl) ?_
        walk_at "st"
        refine hW34.get (by rfl) ?_
        walk_at "st"
        refine hW34.putSpent (oT.sp + payI d.c0 d.c1 d.pd) fun H35 b35 hW35 => ?_
        walk_at "st"
        have lf2 : ∀ y ∈ as1.set n (ansD x), lfOk y := fun y hy => by
          rcases List.mem_or_eq_of_mem_set hy with h | h
          · exact al1 y h
          · rw [h]
            unfold ansD
            split
            · exact .inl rfl
            · split
              · exact .inl rfl
              · split <;> exact .inr ⟨_, rfl⟩
        have la2 : (as1.set n (ansD x)).length = d.m := by rw [List.length_set]; exact la1
        have nl2 := fun (ws2 : List Int) => lv_noL (m := d.m) (ws := ws2) (t := (j : Int)) (sp := oT.sp + payI d.c0 d.c1 d.pd) (bz := payI d.c0 d.c1 d.pd) rform lf2
        have hM34 := hM33.keepM NB (nl2 _) (KeepM.of_but b34) hW33.w rfl LB.cnt
        have hM35 := hM34.keepM NB (nl2 _) (KeepM.of_but b35) hW34.w rfl LB.cnt
        have eLA35 := b35 _ _ (b34 _ _ eLA33 nLAW) nLAW
        have eE35 := b35 _ _ (b34 _ _ eE33 nEW) nEW
        have ncl : noL (callD x) = true := by unfold callD; split; rfl; split; rfl; split <;> rfl
        have dc35 : Dp K H35 cv (callD x) := dpKeepM (KeepM.of_but b35) hW34.w (dpKeepM (KeepM.of_but b34) hW33.w (L2.Dp.mono s3133 dcv31) ncl) ncl
        have s35 : Same H H35 := fun b o hb => b35 _ _ (b34 _ _ (s33 _ _ hb) (ne_of_none hb nW)) (ne_of_none hb nW)
        have p0 : 0 ≤ payI d.c0 d.c1 d.pd := by
          have := o.c0p
          have := o.c1p
          unfold payI
          split <;> omega
        refine ⟨by show 5 ≤ sizeLine; decide, fun pl npl => ?_⟩
        have sl := same_new (o := .lst [V.str "yes", V.non, V.non, V.str "no", V.str "yes"]) npl
        have epl : upd H35 pl (.lst [V.str "yes", V.non, V.non, V.str "no", V.str "yes"]) pl = some (.lst [V.str "yes", V.non, V.non, V.str "no", V.str "yes"]) := upd_same
        have hW36 := hW35.mono sl
        have hM36 := hM35.mono sl
        have eLA36 := sl _ _ eLA35
        have eE36 := sl _ _ eE35
        have dc36 := L2.Dp.mono sl dc35
        have s36 := s35.trans sl
        generalize upd H35 pl (.lst [V.str "yes", V.non, V.non, V.str "no", V.str "yes"]) = H36 at *
        clear hM33 hM34 hM35 hW33 hW34 hW35 eLA33 eLA35 eE33 eE35 dc35 sl npl
        walk_at "st"
        refine q_ixL (SqL.of eE36) (atI0 rfl) ?_
        have eav : atI [V.str "yes", V.non, V.non, V.str "no", V.str "yes"] x = some (lnV (ansD x)) := by
          rcases (show x = 0 ∨ x = 1 ∨ x = 2 ∨ x = 3 ∨ x = 4 by omega) with rfl | rfl | rfl | rfl | rfl <;> rfl
        refine q_ixL (SqL.of epl) eav ?_
        walk_at "st"
        have ixn : ∀ {α : Type} {l : List α}, l.length = d.m → ixN l.length (n : Int) = some n := fun {α l} hl => by
          unfold ixN
          rw [if_pos (by omega), if_pos (by omega), Int.toNat_natCast]
        refine ⟨LA, _, n, n, rfl, rfl, eLA36, ixn (by rw [List.length_map]; exact la1), ?_⟩
        have eLA37 : upd H36 LA (.lst ((as1.map lnV).set n (lnV (ansD x)))) LA = some (.lst ((as1.set n (ansD x)).map lnV)) := by rw [upd_same, List.map_set]
        have kl37 : KeepL H36 (upd H36 LA (.lst ((as1.map lnV).set n (lnV (ansD x))))) := KeepL.put eLA36
        have hW37 := hW36.butL eLA36 (But.put (o := .lst ((as1.map lnV).set n (lnV (ansD x))))) I.n1 I.n2
        have hM37 := hM36.keepL NB (nl2 _) kl37
        have dc37 := dpKeepL kl37 dc36 ncl
        have s37 : Same H (upd H36 LA (.lst ((as1.map lnV).set n (lnV (ansD x))))) := fun b o hb => But.put _ _ (s36 _ _ hb) (ne_of_none hb nLAH)
        generalize upd H36 LA (.lst ((as1.map lnV).set n (lnV (ansD x)))) = H37 at *
        clear hM36 hW36 eLA36 eE36 dc36 kl37 epl
        have hn2 : ∀ (ws2 : List Int), (∀ i, i ≠ n → ws2[i]? = ws[i]?) → (∀ w, ws2[n]? = some w → (j : Int) + 1 < w → ansD x = .none) → ∀ (i : Nat) w a, ws2[i]? = some w → (as1.set n (ansD x))[i]? = some a → (j : Int) + 1 < w → a = .none := fun ws2 h1 h2 i w a g1 g2 g3 => by
          by_cases c : i = n
          · subst c
            rw [List.getElem?_set, if_pos rfl, if_pos (by omega)] at g2
            cases g2
            exact h2 w g1 g3
          · rw [h1 i c] at g1
            rw [List.getElem?_set_ne (Ne.symm c)] at g2
            exact hn1 i w a g1 g2 g3
        have plain : ∀ z : Str, z ≠ "sleep" → callD x = wordD z → wsD x ws n j = ws → tIfS (tTest (tOp rEq (tOp (rIxT K) (tVar 7) (tC (V.int 0))) (tC (V.str "sleep")))) (tSeq (tAsg (tDGet (tVar 1) (tC (V.str "wakes"))) (gName 10)) (tAsg (tOp (rI0 fun i j => V.int (i + j)) (tVar 5) (tOp (rIxT K) (tVar 7) (tC (V.int 1)))) (gSub (tVar 10) (tVar 8) rSetL))) tNext { nx := tIfS (tNot (tB (tCall (spStands K C CR CM) [] E0 (tCons (tVar 1) (tCons (tVar 3) (tCons (tVar 5) (tCons (tVar 4) tNil))))))) (tRet (tC (V.bl false))) tNext { nx := J (j + 1), rt := Q, bk := tRet (tC (V.bl true)) { nx := fun x H' => Q V.non H', rt := Q }, ct := J (j + 1) }, rt := Q, bk := tRet (tC (V.bl true)) { nx := fun x H' => Q V.non H', rt := Q }, ct := J (j + 1) } [some (V.ref a), some (V.ref W), some (V.int ↑d.m), some (V.ref m'), some (V.ref LA), some (V.int ↑j), some (V.ref dE1), some cv, some (V.int ↑n), some sv, o10] H37 := fun z hz ec ew => by
          rw [ec] at dc37
          rw [ew] at hM37
          cases dc37 with
          | @tup ta tx _ ht htx =>
          cases htx with
          | @cons y0 r0 _ _ a0 htx =>
          cases htx
          cases a0
          walk_at "st"
          refine q_ixT ht (atI0 rfl) ?_
          walk_at "st"
          refine q_eq rfl ?_
          refine ⟨_, rfl, ?_⟩
          rw [decide_eq_false (fun e => hz (V.str.inj e))]
          refine iteF ?_
          exact stands _ _ _ m' H37 ws oT.runs (oT.sp + payI d.c0 d.c1 d.pd) (j + payI d.c0 d.c1 d.pd) _ (payI d.c0 d.c1 d.pd) s37 hW37 eLA37 hM37 lw la2 lf2 (hn2 ws (fun _ _ => rfl) (fun w g1 g2 => by rw [hw0] at g1; cases g1; omega)) rform (by omega)
        have slept : ∀ k : Int, (k = 1 ∨ k = 2) → callD x = slpD k → wsD x ws n j = ws.set n (j + k) → ansD x = .none → tIfS (tTest (tOp rEq (tOp (rIxT K) (tVar 7) (tC (V.int 0))) (tC (V.str "sleep")))) (tSeq (tAsg (tDGet (tVar 1) (tC (V.str "wakes"))) (gName 10)) (tAsg (tOp (rI0 fun i j => V.int (i + j)) (tVar 5) (tOp (rIxT K) (tVar 7) (tC (V.int 1)))) (gSub (tVar 10) (tVar 8) rSetL))) tNext { nx := tIfS (tNot (tB (tCall (spStands K C CR CM) [] E0 (tCons (tVar 1) (tCons (tVar 3) (tCons (tVar 5) (tCons (tVar 4) tNil))))))) (tRet (tC (V.bl false))) tNext { nx := J (j + 1), rt := Q, bk := tRet (tC (V.bl true)) { nx := fun x H' => Q V.non H', rt := Q }, ct := J (j + 1) }, rt := Q, bk := tRet (tC (V.bl true)) { nx := fun x H' => Q V.non H', rt := Q }, ct := J (j + 1) } [some (V.ref a), some (V.ref W), some (V.int ↑d.m), some (V.ref m'), some (V.ref LA), some (V.int ↑j), some (V.ref dE1), some cv, some (V.int ↑n), some sv, o10] H37 := fun k hk ec ew ea => by
          rw [ec] at dc37
          rw [ew] at hM37
          cases dc37 with
          | @tup ta tx _ ht htx =>
          cases htx with
          | @cons y0 r0 _ _ a0 htx =>
          cases htx with
          | @cons y1 r1 _ _ a1 htx =>
          cases htx
          cases a0; cases a1
          walk_at "st"
          refine q_ixT ht (atI0 rfl) ?_
          walk_at "st"
          refine q_eq rfl ?_
          refine ⟨_, rfl, ?_⟩
          rw [decide_eq_true rfl]
          refine iteT ?_
          walk_at "st"
          refine hW37.get (by rfl) ?_
          walk_at "st"
          refine q_ixT ht (atI1 rfl) ?_
          walk_at "st"
          have ewk := hW37.lw
          refine ⟨d.LW, _, n, n, rfl, rfl, ewk, ixn (by rw [List.length_map]; exact lw), ?_⟩
          have bL := But.put (H := H37) (r := d.LW) (o := .lst ((ws.map V.int).set n (.int (j + k))))
          have hW38 : WAt K (upd H37 d.LW (.lst ((ws.map V.int).set n (.int (j + k))))) W d (ws.set n (j + k)) oT.runs (oT.sp + payI d.c0 d.c1 d.pd) (j + payI d.c0 d.c1 d.pd) := hW37.setW o.ne (by rw [List.map_set])
          exact stands _ _ _ m' _ (ws.set n (j + k)) oT.runs (oT.sp + payI d.c0 d.c1 d.pd) (j + payI d.c0 d.c1 d.pd) _ (payI d.c0 d.c1 d.pd) (fun b o hb => bL _ _ (s37 _ _ hb) (ne_of_none hb nLWH)) hW38 (bL _ _ eLA37 I.n2) (hM37.keepL NB (nl2 _) (KeepL.put ewk)) (by rw [List.length_set]; exact lw) la2 lf2 (hn2 _ (fun i hi => List.getElem?_set_ne (Ne.symm hi)) (fun _ _ _ => ea)) rform (by omega)
        rcases (show x = 0 ∨ x = 1 ∨ x = 2 ∨ x = 3 ∨ x = 4 by omega) with h | h | h | h | h
        · exact plain "pass" (by decide +kernel) (by rw [h]; rfl) (by rw [h]; rfl)
        · exact slept 1 (.inl rfl) (by rw [h]; rfl) (by rw [h]; rfl) (by rw [h]; rfl)
        · exact slept 2 (.inr rfl) (by rw [h]; rfl) (by rw [h]; rfl) (by rw [h]; rfl)
        · exact plain "get" (by decide +kernel) (by rw [h]; rfl) (by rw [h]; rfl)
        · exact plain "pass" (by decide +kernel) (by rw [h]; rfl) (by rw [h]; rfl)
    · obtain ⟨o5, o6, o7, o8, o9, o10, mo, ws, run, sp, fr, as, bz, rfl, s20, I⟩ := hJ
      walk_at "st"
      exact q _))) only [↓Hk.hold_s]
end
end T
namespace T
/-- the effects that the law reaches -/
def effS (K : PySem.W.Frag) (CR CK fS fG fP : Addr) : Addr → Option Sp := fun f => if f = fS then some (spEff K CR CK sleepPre sleepPost noAns) else if f = fG then some (spEff K CR CK getPre keepPost noAnsw) else if f = fP then some (spEff K CR CK (fun _ _ _ _ => True) keepPost yesAnsw) else none
theorem cal_held {P : Program} {w : World} {K : PySem.W.Frag} {mg : Str → Option Value} {base : Heap} {k : Nat} {x : Str} {ps : List Str} {sp : Sp} {f : Addr} (c : Cal P w K mg base k x ps sp) (h : mg x = some (.ref f)) : Held P w K mg base k f sp := by
  obtain ⟨f', fd, g, kp, b, F⟩ := c.ex
  rw [g] at h
  cases h
  exact ⟨fd, ps, F, kp, b⟩
theorem all_ok {P : Program} {w : World} {K : PySem.W.Frag} {mg : Str → Option Value} {base : Heap} {C CR CK CM dF dC dE tR fR fK fM fB fD fT fSl fGe fPa : Addr} {fdR fdK fdM fdB fdD fdT : FuncData} {dsD dsT : List Value} {gB2 : List Value → List Value → List Value}
    (B : Bl mg) (g_enum : mg "enumerate" = none) (g_abs : mg "abs" = none) (g_sum : mg "sum" = none) (LL : LG mg) (TB : BCls K C) (R : RCls K CR) (TK : KCls K CK) (TM : MCls K CM) (RF : RForms K w mg dF) (CF : CForms K w mg dC) (GR : GK K mg tR) (GMM : GM mg) (GSS : GS mg) (nCC : CR ≠ CK) (nMR : CM ≠ CR)
    (gE : mg "EFFECTS" = some (.ref dE)) (kE : ∃ es n, KDict K w dE es n) (es : PySem.W.nsIn K dE "sleep" = some (some (.ref fSl))) (eg : PySem.W.nsIn K dE "get" = some (some (.ref fGe))) (ep : PySem.W.nsIn K dE "pass" = some (some (.ref fPa))) (gSl : mg "fall_asleep" = some (.ref fSl)) (gGe : mg "get_frame" = some (.ref fGe)) (gPa : mg "do_nothing" = some (.ref fPa)) (nSG : fGe ≠ fSl) (nSP : fPa ≠ fSl) (nGP : fPa ≠ fGe)
    (d_is_integer : DefAt K mg "is_integer" s_is_integer ["thing"])
    (d_is_between : DefAt K mg "is_between" s_is_between ["thing", "low", "high"])
    (d_is_index : DefAt K mg "is_index" s_is_index ["thing", "many"])
    (d_is_tuple : DefAt K mg "is_tuple" s_is_tuple ["thing", "many"])
    (d_is_list : DefAt K mg "is_list" s_is_list ["thing", "low", "high"])
    (d_is_ascending : DefAt K mg "is_ascending" s_is_ascending ["items"])
    (d_counted : DefAt K mg "counted" s_counted ["tasks", "pages", "ports", "locks", "disk"])
    (d_word_of : DefAt K mg "word_of" s_word_of ["thing"])
    (d_is_formed : DefAt K mg "is_formed" s_is_formed ["counts", "kinds", "thing"])
    (d_is_of_kind : DefAt K mg "is_of_kind" s_is_of_kind ["counts", "kind", "item"])
    (d_is_right : DefAt K mg "is_right" s_is_right ["counts", "thing"])
    (d_is_call : DefAt K mg "is_call" s_is_call ["counts", "thing"])
    (d_fit_as_numbers : DefAt K mg "fit_as_numbers" s_fit_as_numbers ["numbers", "most", "low", "high"])
    (d_fit_as_row : DefAt K mg "fit_as_row" s_fit_as_row ["counts", "row"])
    (d_fit_as_rights : DefAt K mg "fit_as_rights" s_fit_as_rights ["counts", "rights"])
    (d_fit_as_lines : DefAt K mg "fit_as_lines" s_fit_as_lines ["counts", "lines"])
    (d_fit_as_costs : DefAt K mg "fit_as_costs" s_fit_as_costs ["costs"])
    (d_fits_as_slot : DefAt K mg "fits_as_slot" s_fits_as_slot ["counts", "row"])
    (d_fits_as_outside : DefAt K mg "fits_as_outside" s_fits_as_outside ["counts", "outside"])
    (d_fit_as_plan : DefAt K mg "fit_as_plan" s_fit_as_plan ["counts", "plan"])
    (d_fit_as_tasks : DefAt K mg "fit_as_tasks" s_fit_as_tasks ["tasks"])
    (d_things_fault : DefAt K mg "things_fault" s_things_fault ["tasks", "pages", "ports", "locks", "frames", "disk"])
    (d_ways_fault : DefAt K mg "ways_fault" s_ways_fault ["counts", "rights", "lines", "costs", "plan", "outside"])
    (d_flags_fault : DefAt K mg "flags_fault" s_flags_fault ["flags"])
    (d_put : DefAt K mg "put" s_put ["row", "at", "item"])
    (d_make_call : DefAt K mg "make_call" s_make_call ["kernel", "call"])
    (d_fall_asleep : DefAt K mg "fall_asleep" s_fall_asleep ["kernel", "task", "call"])
    (d_get_frame : DefAt K mg "get_frame" s_get_frame ["kernel", "task", "call"])
    (d_do_nothing : DefAt K mg "do_nothing" s_do_nothing ["kernel", "task", "call"])
    (d_turn_now : DefAt K mg "turn_now" s_turn_now ["kernel"])
    (d_turn_by_levels : DefAt K mg "turn_by_levels" s_turn_by_levels ["kernel"])
    (d_following : DefAt K mg "following" s_following ["tasks", "runs"])
    (d_candidates : DefAt K mg "candidates" s_candidates ["kernel"])
    (d_levels_now : DefAt K mg "levels_now" s_levels_now ["kernel"])
    (d_change : DefAt K mg "change" s_change ["kernel", "task"])
    (d_opened : DefAt K mg "opened" s_opened ["rules", "shape", "letter"])
    (d_finished : DefAt K mg "finished" s_finished ["kernel", "call"])
    (d_letters_now : DefAt K mg "letters_now" s_letters_now ["rules", "shape"])
    (d_check_task : DefAt K mg "check_task" s_check_task ["build", "task"])
    (d_opened_with : DefAt K mg "opened_with" s_opened_with ["moment", "outside"])
    (d_is_letter_now : DefAt K mg "is_letter_now" s_is_letter_now ["letters", "outside"])
    (d_first : DefAt K mg "first" s_first ["build"])
    (d__law_cell : DefAt K mg "_law_cell" s__law_cell ["_law_script", "_law_k"])
    (d__law_digits : DefAt K mg "_law_digits" s__law_digits ["_law_cell_here", "_law_sizes"])
    (d__law_same : DefAt K mg "_law_same" s__law_same ["_law_told", "_law_due"])
    (d__law_started : DefAt K mg "_law_started" s__law_started ["_law_script"])
    (d__law_queue : DefAt K mg "_law_queue" s__law_queue ["_law_world", "_law_time"])
    (d__law_turn : DefAt K mg "_law_turn" s__law_turn ["_law_world", "_law_time"])
    (d__law_stands : DefAt K mg "_law_stands" s__law_stands ["_law_world", "_law_moment", "_law_time", "_law_answers"])
    (b_tasks : MethAt K C "tasks" "Build.tasks" s_Build_tasks ["self"])
    (b_pages : MethAt K C "pages" "Build.pages" s_Build_pages ["self"])
    (b_ports : MethAt K C "ports" "Build.ports" s_Build_ports ["self"])
    (b_lines : MethAt K C "lines" "Build.lines" s_Build_lines ["self"])
    (b_locks : MethAt K C "locks" "Build.locks" s_Build_locks ["self"])
    (b_frames : MethAt K C "frames" "Build.frames" s_Build_frames ["self"])
    (b_disk : MethAt K C "disk" "Build.disk" s_Build_disk ["self"])
    (b_costs : MethAt K C "costs" "Build.costs" s_Build_costs ["self"])
    (b_outside : MethAt K C "outside" "Build.outside" s_Build_outside ["self"])
    (b_wipe : MethAt K C "wipe" "Build.wipe" s_Build_wipe ["self"])
    (b_pad : MethAt K C "pad" "Build.pad" s_Build_pad ["self"])
    (b_lend : MethAt K C "lend" "Build.lend" s_Build_lend ["self"])
    (b_share : MethAt K C "share" "Build.share" s_Build_share ["self"])
    (b_plan : MethAt K C "plan" "Build.plan" s_Build_plan ["self"])
    (b_sides : MethAt K C "sides" "Build.sides" s_Build_sides ["self"])
    (b_rights : MethAt K C "rights" "Build.rights" s_Build_rights ["self"])
    (r_set_costs : MethAt K CR "set_costs" "Rules.set_costs" s_Rules_set_costs ["self", "costs"])
    (r_set_frames : MethAt K CR "set_frames" "Rules.set_frames" s_Rules_set_frames ["self", "build"])
    (r_slot_ticks : MethAt K CR "slot_ticks" "Rules.slot_ticks" s_Rules_slot_ticks ["self", "rows"])
    (r_set_plan : MethAt K CR "set_plan" "Rules.set_plan" s_Rules_set_plan ["self", "plan"])
    (r_set_letters : MethAt K CR "set_letters" "Rules.set_letters" s_Rules_set_letters ["self", "outside"])
    (r_may_come : MethAt K CR "may_come" "Rules.may_come" s_Rules_may_come ["self", "phase"])
    (k_shape : MethAt K CK "shape" "Kernel.shape" s_Kernel_shape ["self"])
    (k_seen : MethAt K CK "seen" "Kernel.seen" s_Kernel_seen ["self"])
    (k_is_ready : MethAt K CK "is_ready" "Kernel.is_ready" s_Kernel_is_ready ["self", "task"])
    (k_settle : MethAt K CK "settle" "Kernel.settle" s_Kernel_settle ["self", "task", "status", "answer"])
    (k_sleep_on : MethAt K CK "sleep_on" "Kernel.sleep_on" s_Kernel_sleep_on ["self"])
    (o_build : MethAt K CM "build" "Moment.build" s_Moment_build ["self"])
    (o_shape : MethAt K CM "shape" "Moment.shape" s_Moment_shape ["self"])
    (o_status : MethAt K CM "status" "Moment.status" s_Moment_status ["self", "task"])
    (o_answer : MethAt K CM "answer" "Moment.answer" s_Moment_answer ["self", "task"])
    (o_running : MethAt K CM "running" "Moment.running" s_Moment_running ["self"])
    (gR : mg "Rules" = some (.ref CR)) (MR : Mk K CR fR) (FR : Fun K "__init__" "Rules.__init__" s_Rules___init__ fR fdR) (bR : Binds K fdR ["self", "build"] [])
    (gK : mg "Kernel" = some (.ref CK)) (MK : Mk K CK fK) (FK : Fun K "__init__" "Kernel.__init__" s_Kernel___init__ fK fdK) (bK : Binds K fdK ["self", "rules", "shape"] [])
    (gM : mg "Moment" = some (.ref CM)) (MM : Mk K CM fM) (FM : Fun K "__init__" "Moment.__init__" s_Moment___init__ fM fdM) (bM : Binds K fdM ["self", "build", "shape"] [])
    (gB : mg "Build" = some (.ref C)) (MB : Mk K C fB) (FB : Fun K "__init__" "Build.__init__" s_Build___init__ fB fdB) (bB : KBn K fdB ["self", "tasks", "pages", "ports", "locks", "frames", "disk", "rights", "lines", "costs", "plan", "outside", "wipe", "pad", "lend", "share"] 12 ["pad"] gB2 padV)
    (eD : Meth K CM "due" fD) (FD : FunD K "due" "Moment.due" (defArgs s_Moment_due) (defBody s_Moment_due) (defScope s_Moment_due) [.non] [] fD fdD) (rD : Vals [.non] dsD) (bD : Binds K fdD ["self", "outside"] dsD)
    (eT : Meth K CM "tick" fT) (FT : FunD K "tick" "Moment.tick" (defArgs s_Moment_tick) (defBody s_Moment_tick) (defScope s_Moment_tick) [.non, .non] [] fT fdT) (bT : Binds K fdT ["self", "outside", "call"] [])
    (rT : Vals [.non, .non] dsT) (bTd : Binds K fdT ["self", "outside", "call"] dsT) :
    ∀ f fd, Fun K "law" "law" s_law f fd → FnOk P w K mg base CX0 12 f fd ["_law_script"] (spLaw K) := by
 refine Hk.hold ?_
 simp (disch := with_unfolding_all (
 exact Hk.disch (by
  have c_is_integer := ok_is_integer (P := P) (w := w) (base := base) B d_is_integer 
  have c_is_between := ok_is_between (P := P) (w := w) (base := base) B d_is_between c_is_integer
  have c_is_index := ok_is_index (P := P) (w := w) (base := base) B d_is_index c_is_between
  have c_is_tuple := ok_is_tuple (P := P) (w := w) (base := base) B d_is_tuple 
  have c_is_list := ok_is_list (P := P) (w := w) (base := base) B d_is_list 
  have c_is_ascending := ok_is_ascending (P := P) (w := w) (base := base) B d_is_ascending 
  have c_counted := ok_counted (P := P) (w := w) (base := base) B d_counted 
  have c_word_of := ok_word_of (P := P) (w := w) (base := base) B d_word_of 
  have c_is_of_kind := ok_is_of_kind1 (P := P) (w := w) (base := base) B d_is_of_kind c_is_between c_is_index
  have c_is_formed := ok_is_formed (P := P) (w := w) (base := base) B d_is_formed c_is_of_kind
  have c_is_right := ok_is_right (P := P) (base := base) B RF d_is_right c_word_of c_is_formed
  have c_is_call := ok_is_call (P := P) (base := base) B CF d_is_call c_word_of c_is_formed
  have c_fit_as_numbers := ok_fit_as_numbers (P := P) (w := w) (base := base) B d_fit_as_numbers c_is_list c_is_between
  have c_fit_as_row := ok_fit_as_row (P := P) (w := w) (base := base) B d_fit_as_row c_is_list c_is_right c_is_ascending
  have c_fit_as_rights := ok_fit_as_rights (P := P) (w := w) (base := base) B d_fit_as_rights c_is_list c_fit_as_row
  have c_fit_as_lines := ok_fit_as_lines (P := P) (w := w) (base := base) B d_fit_as_lines c_is_list c_is_between
  have c_fit_as_costs := ok_fit_as_costs (P := P) (w := w) (base := base) B d_fit_as_costs c_is_tuple c_is_between
  have c_fits_as_slot := ok_fits_as_slot (P := P) (w := w) (base := base) B d_fits_as_slot c_is_tuple c_is_between c_is_index
  have c_fits_as_outside := ok_fits_as_outside (P := P) (w := w) (base := base) B d_fits_as_outside c_is_tuple c_is_between c_is_index
  have c_fit_as_plan := ok_fit_as_plan (P := P) (w := w) (base := base) B d_fit_as_plan c_is_tuple c_is_between c_is_list c_fits_as_slot
  have c_fit_as_tasks := ok_fit_as_tasks (P := P) (w := w) (base := base) B d_fit_as_tasks c_is_list c_is_tuple c_is_between
  have c_things_fault := ok_things_fault (P := P) (w := w) (base := base) B d_things_fault c_fit_as_tasks c_fit_as_numbers c_is_between
  have c_ways_fault := ok_ways_fault (P := P) (w := w) (base := base) B d_ways_fault c_fit_as_rights c_fit_as_lines c_fit_as_costs c_fit_as_plan c_fits_as_outside
  have c_flags_fault := ok_flags_fault (P := P) (w := w) (base := base) B d_flags_fault 
  have m_tasks := ok_Build_tasks (P := P) (w := w) (base := base) B TB b_tasks
  have m_pages := ok_Build_pages (P := P) (w := w) (base := base) B TB b_pages
  have m_ports := ok_Build_ports (P := P) (w := w) (base := base) B TB b_ports
  have m_lines := ok_Build_lines (P := P) (w := w) (base := base) B TB b_lines
  have m_locks := ok_Build_locks (P := P) (w := w) (base := base) B TB b_locks
  have m_frames := ok_Build_frames (P := P) (w := w) (base := base) B TB b_frames
  have m_disk := ok_Build_disk (P := P) (w := w) (base := base) B TB b_disk
  have m_costs := ok_Build_costs (P := P) (w := w) (base := base) B TB b_costs
  have m_outside := ok_Build_outside (P := P) (w := w) (base := base) B TB b_outside
  have m_wipe := ok_Build_wipe (P := P) (w := w) (base := base) B TB b_wipe
  have m_pad := ok_Build_pad (P := P) (w := w) (base := base) B TB b_pad
  have m_lend := ok_Build_lend (P := P) (w := w) (base := base) B TB b_lend
  have m_share := ok_Build_share (P := P) (w := w) (base := base) B TB b_share
  have m_plan := ok_Build_plan (P := P) (w := w) (base := base) B TB b_plan
  have m_sides := ok_Build_sides (P := P) (w := w) (base := base) B TB b_sides
  have m_rights := ok_Build_rights (P := P) (w := w) (base := base) B TB b_rights
  have m_set_costs := ok_set_costs (P := P) (w := w) (base := base) B R r_set_costs
  have m_set_frames := ok_set_frames (P := P) (w := w) (base := base) B R m_frames m_share m_sides r_set_frames
  have m_slot_ticks := ok_slot_ticks (P := P) (w := w) (base := base) B R r_slot_ticks
  have m_set_plan := ok_set_plan (P := P) (w := w) (base := base) B R m_slot_ticks r_set_plan
  have m_set_letters := ok_set_letters (P := P) (w := w) (base := base) B LL R r_set_letters
  have i_Rules := ok_Rules (P := P) (w := w) (base := base) B R c_counted m_tasks m_pages m_ports m_lines m_locks m_disk m_costs m_plan m_outside m_wipe m_pad m_lend m_set_costs m_set_frames m_set_plan m_set_letters fR fdR FR
  have c_Rules : MkCal P w K mg base 3 CR "Rules" ["self", "build"] (spRules K C CR) := ⟨gR, fR, fdR, MR, bR, i_Rules⟩
  have i_Build := ok_Build (P := P) (w := w) (base := base) B TB c_counted c_things_fault c_ways_fault c_flags_fault c_Rules fB fdB FB
  have c_BuildG : MkGCal P w K mg base 10 C "Build" ["self", "tasks", "pages", "ports", "locks", "frames", "disk", "rights", "lines", "costs", "plan", "outside", "wipe", "pad", "lend", "share"] 11 ["pad"] padV (spBuild K C CR) := ⟨gB, fB, fdB, _, MB, bB, i_Build⟩
  have c_put := ok_put (P := P) (w := w) (base := base) B d_put
  have c_Kernel : MkCal P w K mg base 1 CK "Kernel" ["self", "rules", "shape"] (spKernel K CK) := ⟨gK, fK, fdK, MK, bK, ok_Kernel B TK fK fdK FK⟩
  have k_shape' := ok_shape (P := P) (w := w) (base := base) B TK k_shape
  have k_seen' := ok_seen (P := P) (w := w) (base := base) B TK k_seen
  have k_is_ready' := ok_is_ready (P := P) (w := w) (base := base) B TK GR k_is_ready
  have k_settle' := ok_settle (P := P) (w := w) (base := base) B TK c_put k_settle
  have k_sleep' := ok_sleep_on (P := P) (w := w) (base := base) B TK GR g_enum k_settle' k_sleep_on
  have r_may_come' := ok_may_come (P := P) (w := w) (base := base) B R r_may_come
  have c_change := ok_change (P := P) (w := w) (base := base) (C := C) B TK R d_change
  have c_levels_now := ok_levels_now (P := P) (w := w) (base := base) B TK R d_levels_now
  have c_candidates := ok_candidates (P := P) (w := w) (base := base) B TK R k_is_ready' c_levels_now d_candidates
  have c_following := ok_following (P := P) (w := w) (base := base) (K := K) B d_following
  have c_tbl := ok_turn_by_levels (P := P) (w := w) (base := base) B TK R c_candidates c_following c_change d_turn_by_levels
  have c_turn_now := ok_turn_now (P := P) (w := w) (base := base) B TK R c_tbl d_turn_now
  have c_sleep := ok_fall_asleep (P := P) (w := w) (base := base) (CR := CR) B TK c_put d_fall_asleep
  have c_get := ok_get_frame (P := P) (w := w) (base := base) B g_sum TK R d_get_frame
  have c_pass := ok_do_nothing (P := P) (w := w) (base := base) (K := K) (CR := CR) (CK := CK) B d_do_nothing
  have EF : EffAt P w K mg base dE (effS K CR CK fSl fGe fPa) := ⟨gE, kE, fun f sp h => by
    unfold effS at h
    split at h
    · rename_i e; subst e; cases h; exact cal_held c_sleep gSl
    · split at h
      · rename_i e; subst e; cases h; exact cal_held c_get gGe
      · split at h
        · rename_i e; subst e; cases h; exact cal_held c_pass gPa
        · cases h⟩
  have c_make_call := ok_make_call (P := P) (w := w) (base := base) B TK R EF c_put d_make_call
  have c_opened := ok_opened (P := P) (w := w) (base := base) B TK c_Kernel k_sleep' c_turn_now d_opened
  have c_letters_now := ok_letters_now (P := P) (w := w) (base := base) B r_may_come' d_letters_now
  have c_finished := ok_finished (P := P) (w := w) (base := base) B TK R c_Kernel k_shape' c_make_call d_finished
  have c_Moment : MkCal P w K mg base 1 CM "Moment" ["self", "build", "shape"] (spMoment K C CR CM) := ⟨gM, fM, fdM, MM, bM, ok_Moment B TM fM fdM FM⟩
  have o_build' := ok_M_build (P := P) (w := w) (base := base) (C := C) (CR := CR) B TM o_build
  have o_shape' := ok_M_shape (P := P) (w := w) (base := base) (C := C) (CR := CR) B TM o_shape
  have o_running' := ok_M_running (P := P) (w := w) (base := base) (C := C) (CR := CR) B TM GMM o_running
  have c_check_task := ok_check_task (P := P) (w := w) (base := base) B TB R c_is_index d_check_task
  have o_answer' := ok_M_answer (P := P) (w := w) (base := base) B TM GMM c_check_task o_answer
  have o_status' := ok_M_status (P := P) (w := w) (base := base) B TM GSS c_check_task o_status
  have c_is_letter_now := ok_is_letter_now (P := P) (w := w) (base := base) B c_is_index d_is_letter_now
  have c_opened_with := ok_opened_with (P := P) (w := w) (base := base) B TB TM o_build' o_shape' c_letters_now c_is_letter_now c_opened d_opened_with
  have m_due : MDCal P w K mg base 7 CM "due" ["self", "outside"] [.non] (spDue K C CR CK CM) := ⟨TM.cls, fD, fdD, dsD, eD, rD, bD, ok_due B TK c_opened_with fD fdD FD⟩
  have m_tick : MDCal P w K mg base 7 CM "tick" ["self", "outside", "call"] [.non, .non] (spTk K C CR CK CM dE (effS K CR CK fSl fGe fPa)) := ⟨TM.cls, fT, fdT, dsT, eT, rT, bTd, ok_tick B TB TK TM R c_opened_with c_is_call k_seen' c_finished c_Moment fT fdT FT⟩
  have m_tick1 : MCal P w K mg base 7 CM "tick" ["self", "outside", "call"] (spTk K C CR CK CM dE (effS K CR CK fSl fGe fPa)) := ⟨TM.cls, fT, fdT, eT, bT, ok_tick B TB TK TM R c_opened_with c_is_call k_seen' c_finished c_Moment fT fdT FT⟩
  have c_first := ok_first (P := P) (w := w) (base := base) B TB R GR m_rights m_ports m_locks m_pages c_Moment d_first
  have c__law_cell := ok_law_cell (P := P) (w := w) (base := base) B g_abs g_sum d__law_cell
  have c__law_digits := ok_law_digits (P := P) (w := w) (base := base) B d__law_digits
  have c__law_same := ok_law_same (P := P) (w := w) (base := base) B d__law_same 5
  have c__law_started := ok_law_started (P := P) (w := w) (base := base) B c__law_cell c__law_digits d__law_started
  have c__law_queue := ok_law_queue (P := P) (w := w) (base := base) B d__law_queue
  have c__law_turn := ok_law_turn (P := P) (w := w) (base := base) B c__law_queue d__law_turn
  have c__law_stands := ok_law_stands (P := P) (w := w) (base := base) B c__law_same o_status' o_answer' o_running' d__law_stands
  exact ok_law B nCC nMR es eg ep (if_pos rfl) ((if_neg nSG).trans (if_pos rfl)) ((if_neg nSP).trans ((if_neg nGP).trans (if_pos rfl))) c__law_cell c__law_digits c__law_started c__law_turn c__law_same c__law_stands c_BuildG c_first m_due m_tick m_tick1))) only [↓Hk.hold_s]
end T
namespace T
/-- what the top has written of a def -/
structure DefF (K : PySem.W.Frag) (x qual : Str) (st : Stmt) (f : Addr) : Prop where
  ex : ∃ (oc : Value) (od : Option Addr) (kV doc pm : Value) (an : Option Addr) (cd ct : Value) (sl : Array (Option Value)), K.lookup f = some ⟨oc, od, .func (PySem.W.fnOf x qual (defArgs st) (defBody st) (defScope st) .none kV doc pm an cd ct), sl⟩ ∧ PySem.W.codeIn K cd qual = true
  kp : PySem.W.keepIn K (.ref f) = true
theorem DefF.mk' {K : PySem.W.Frag} {x qual : Str} {st : Stmt} {f : Addr} {oc : Value} {od : Option Addr} {kV doc pm : Value} {an : Option Addr} {cd ct : Value} {sl : Array (Option Value)} (l : K.lookup f = some ⟨oc, od, .func (PySem.W.fnOf x qual (defArgs st) (defBody st) (defScope st) .none kV doc pm an cd ct), sl⟩) (c : PySem.W.codeIn K cd qual = true) (k : PySem.W.keepIn K (.ref f) = true) : DefF K x qual st f := ⟨⟨oc, od, kV, doc, pm, an, cd, ct, sl, l, c⟩, k⟩
theorem DefF.fn {K : PySem.W.Frag} {x qual : Str} {st : Stmt} {f : Addr} (d : DefF K x qual st f) : ∃ fd, Fun K x qual st f fd := by
  obtain ⟨⟨oc, od, kV, doc, pm, an, cd, ct, sl, l, c⟩, k⟩ := d
  exact ⟨_, fun_mk l c k⟩
theorem DefF.at {K : PySem.W.Frag} {mg : Str → Option Value} {h : Heap} {x : Str} {st : Stmt} {f : Addr} {ps : List Str} (X : K.In h) (G : h.Ns mainGlobals mg) (a : PySem.W.nsIn K mainGlobals x = some (some (.ref f))) (d : DefF K x x st f)
    (b : ∀ fd, Fun K x x st f fd → Binds K fd ps []) : DefAt K mg x st ps := by
  obtain ⟨fd, F⟩ := d.fn
  exact ⟨f, fd, F, PySem.W.mg_of X G a, b fd F⟩
theorem DefF.meth {K : PySem.W.Frag} {m qual : Str} {st : Stmt} {f C : Addr} {ps : List Str} (cl : Cls K C) (a : PySem.W.findIn K (.ref C) m = some (some (.ref f))) (i : PySem.W.isFn K (.ref f) = true) (d : DefF K m qual st f)
    (b : ∀ fd, Fun K m qual st f fd → Binds K fd ps []) : MethAt K C m qual st ps := by
  obtain ⟨fd, F⟩ := d.fn
  exact ⟨cl, f, fd, F, ⟨a, i, F.kp⟩, b fd F⟩
/-- RIGHT_FORMS as it stands -/
theorem find_forms {K : PySem.W.Frag} {tab : List (Str × List Str)} : ∀ {l : List DictEntry} {tab : List (Str × List Str)}, Paired (fun (e : DictEntry) (p : Str × List Str) => ∃ t r, e.key = .str p.1 t ∧ e.val = .ref r ∧ ∀ H, SqT K H r (p.2.map V.str)) l tab → ∀ z,
    (∃ ks t e, tab.lookup z = some ks ∧ l.find? (·.key.isStr z) = some e ∧ e.val = .ref t ∧ ∀ H, SqT K H t (ks.map V.str)) ∨ (tab.lookup z = none ∧ l.find? (·.key.isStr z) = none)
  | [], [], .nil, z => .inr ⟨rfl, rfl⟩
  | e :: l, p :: tab, .cons h t, z => by
    obtain ⟨tk, r, e1, e2, e3⟩ := h
    by_cases hz : z = p.1
    · left
      refine ⟨p.2, r, e, by rw [List.lookup_cons, hz]; simp, by rw [List.find?_cons, e1, hz]; simp [Value.isStr], e2, e3⟩
    · have n1 : (z == p.1) = false := by simpa using hz
      have n2 : e.key.isStr z = false := by rw [e1]; simp [Value.isStr]; exact fun q => hz q.symm
      rw [List.lookup_cons, n1, List.find?_cons, n2]
      exact find_forms (tab := tab) (l := l) t z
theorem forms_mk {K : PySem.W.Frag} {w : World} {d : Addr} {tab : List (Str × List Str)} {es : Array DictEntry} {n : Nat} (hl : K.lookup d = some ⟨.type "dict", none, .dict es n, #[]⟩) (hk : PySem.W.KeysLit w.params es.toList) (low : (d == sysModules) = false)
    (hp : Paired (fun (e : DictEntry) (p : Str × List Str) => ∃ t r, e.key = .str p.1 t ∧ e.val = .ref r ∧ ∀ H, SqT K H r (p.2.map V.str)) es.toList tab) : FormsAt K w d tab := by
  refine ⟨⟨es, n, hl, hk⟩, low, fun z => ?_⟩
  rcases find_forms (K := K) (tab := tab) hp z with ⟨ks, t, e, h1, h2, h3, h4⟩ | ⟨h1, h2⟩
  · left
    refine ⟨ks, t, h1, ?_, h4⟩
    unfold PySem.W.nsIn
    rw [hl]
    simp only [h2, h3]
  · right
    refine ⟨h1, ?_⟩
    unfold PySem.W.nsIn
    rw [hl]
    have nr : es.toList.any (·.refKey) = false := by
      rw [List.any_eq_false]
      intro e he
      obtain ⟨x, t, e1, _⟩ := hk.all e he
      simp [DictEntry.refKey, e1]
    simp only [h2, nr]
    rfl
theorem tupK {K : PySem.W.Frag} {r : Addr} {oc : Value} {od : Option Addr} {its : Array Value} {n : Nat} {sl : Array (Option Value)} {xs : List V} (l : K.lookup r = some ⟨oc, od, .seq its n, sl⟩) (hc : oc = .type "tuple") (hs : its.size ≤ 100) (v : Vals xs its.toList) : ∀ H, SqT K H r xs :=
  fun _ => .inr ⟨_, its, n, l, hc, rfl, Nat.le_trans hs (by decide), v⟩
/-- Build's __init__ with its keyword-only defaults -/
structure DefK (K : PySem.W.Frag) (x qual : Str) (st : Stmt) (f D : Addr) : Prop where
  ex : ∃ (oc : Value) (od : Option Addr) (doc pm : Value) (an : Option Addr) (cd ct : Value) (sl : Array (Option Value)), K.lookup f = some ⟨oc, od, .func (PySem.W.fnOf x qual (defArgs st) (defBody st) (defScope st) .none (.ref D) doc pm an cd ct), sl⟩ ∧ PySem.W.codeIn K cd qual = true
  kp : PySem.W.keepIn K (.ref f) = true
theorem DefK.mk' {K : PySem.W.Frag} {x qual : Str} {st : Stmt} {f D : Addr} {oc : Value} {od : Option Addr} {doc pm : Value} {an : Option Addr} {cd ct : Value} {sl : Array (Option Value)} (l : K.lookup f = some ⟨oc, od, .func (PySem.W.fnOf x qual (defArgs st) (defBody st) (defScope st) .none (.ref D) doc pm an cd ct), sl⟩) (c : PySem.W.codeIn K cd qual = true) (k : PySem.W.keepIn K (.ref f) = true) : DefK K x qual st f D := ⟨⟨oc, od, doc, pm, an, cd, ct, sl, l, c⟩, k⟩
theorem DefK.fn {K : PySem.W.Frag} {x qual : Str} {st : Stmt} {f D : Addr} {kws : List (Str × V)} (d : DefK K x qual st f D) (hk : ∀ q ∈ kws, ∃ u, PySem.W.nsIn K D q.1 = some (some u) ∧ RelV q.2 u) : ∃ fd, Fun K x qual st f fd ∧ FunD K x qual (defArgs st) (defBody st) (defScope st) [] kws f fd := by
  obtain ⟨⟨oc, od, doc, pm, an, cd, ct, sl, l, c⟩, k⟩ := d
  exact ⟨_, fun_mk l c k, ⟨⟨oc, od, .none, .ref D, doc, pm, an, cd, ct, sl, rfl, l, c, .inl ⟨rfl, rfl⟩, .inr ⟨D, rfl, hk⟩⟩, k⟩⟩
def kwB : List (Str × V) := [("wipe", .bl false), ("pad", .bl false), ("lend", .bl false), ("share", .bl false)]
/-- a method with defaults that stand in a tuple -/
structure DefP (K : PySem.W.Frag) (x qual : Str) (st : Stmt) (f : Addr) (dvs : List V) : Prop where
  ex : ∃ (oc : Value) (od : Option Addr) (T : Addr) (kV doc pm : Value) (an : Option Addr) (cd ct : Value) (sl : Array (Option Value)), K.lookup f = some ⟨oc, od, .func (PySem.W.fnOf x qual (defArgs st) (defBody st) (defScope st) (.ref T) kV doc pm an cd ct), sl⟩ ∧ PySem.W.codeIn K cd qual = true ∧ DflV K (.ref T) dvs
  kp : PySem.W.keepIn K (.ref f) = true
theorem DefP.mk' {K : PySem.W.Frag} {x qual : Str} {st : Stmt} {f T : Addr} {dvs : List V} {oc : Value} {od : Option Addr} {kV doc pm : Value} {an : Option Addr} {cd ct : Value} {sl : Array (Option Value)} (l : K.lookup f = some ⟨oc, od, .func (PySem.W.fnOf x qual (defArgs st) (defBody st) (defScope st) (.ref T) kV doc pm an cd ct), sl⟩) (c : PySem.W.codeIn K cd qual = true) (k : PySem.W.keepIn K (.ref f) = true) (d : DflV K (.ref T) dvs) : DefP K x qual st f dvs := ⟨⟨oc, od, T, kV, doc, pm, an, cd, ct, sl, l, c, d⟩, k⟩
theorem DefP.fn {K : PySem.W.Frag} {x qual : Str} {st : Stmt} {f : Addr} {dvs : List V} (d : DefP K x qual st f dvs) : ∃ fd, FunD K x qual (defArgs st) (defBody st) (defScope st) dvs [] f fd := by
  obtain ⟨⟨oc, od, T, kV, doc, pm, an, cd, ct, sl, l, c, dd⟩, k⟩ := d
  exact ⟨_, ⟨⟨oc, od, .ref T, kV, doc, pm, an, cd, ct, sl, rfl, l, c, dd, .inl rfl⟩, k⟩⟩
theorem due_binds {K : PySem.W.Frag} {f : Addr} {fd : FuncData} (F : FunD K "due" "Moment.due" (defArgs s_Moment_due) (defBody s_Moment_due) (defScope s_Moment_due) [.non] [] f fd) : ∃ ds, Vals [.non] ds ∧ Binds K fd ["self", "outside"] ds :=
  F.binds1 1 0 (by simp) rfl fun T kV doc pm an cdv ct us its h1 h2 => by
    match us, h1, its, h2 with
    | [u0], _, [i0], _ => exact ⟨_, rfl, rfl⟩
theorem tick_binds {K : PySem.W.Frag} {f : Addr} {fd : FuncData} (F : FunD K "tick" "Moment.tick" (defArgs s_Moment_tick) (defBody s_Moment_tick) (defScope s_Moment_tick) [.non, .non] [] f fd) : Binds K fd ["self", "outside", "call"] [] := by
  obtain ⟨ds, r, b⟩ := F.binds1 (ps := ["self", "outside", "call"]) 3 2 (by simp) rfl fun T kV doc pm an cdv ct us its h1 h2 => by
    match us, h1, its, h2 with
    | [u0, u1, u2], _, [i0, i1], _ => exact ⟨_, rfl, rfl⟩
  cases r
  exact b
theorem pad_binds {K : PySem.W.Frag} {f : Addr} {fd : FuncData} (F : FunD K "__init__" "Build.__init__" (defArgs s_Build___init__) (defBody s_Build___init__) (defScope s_Build___init__) [] kwB f fd) :
    ∃ g, KBn K fd ["self", "tasks", "pages", "ports", "locks", "frames", "disk", "rights", "lines", "costs", "plan", "outside", "wipe", "pad", "lend", "share"] 12 ["pad"] g padV := by
 refine Hk.hold ?_
 simp (disch := with_unfolding_all (
 exact Hk.disch (by
  obtain ⟨mv, h⟩ := F.kbinds0 (ps := ["self", "tasks", "pages", "ports", "locks", "frames", "disk", "rights", "lines", "costs", "plan", "outside", "wipe", "pad", "lend", "share"]) 12 ["pad"] [("wipe", .bl false), ("lend", .bl false), ("share", .bl false)] (fun us mv ws => us ++ (mv.take 1 ++ (ws ++ mv.drop 1))) (by simp [kwB]) (fun q hq => by
      simp only [List.mem_cons, List.not_mem_nil, or_false] at hq
      rcases hq with rfl | rfl | rfl
      · exact List.mem_of_getElem? (i := 0) rfl
      · exact List.mem_of_getElem? (i := 2) rfl
      · exact List.mem_of_getElem? (i := 3) rfl)
    (fun r1 r2 r3 => r1.append ((r2.take 1).append (r3.append (r2.drop 1)))) fun D doc pm an cdv ct us mv ws h1 h2 h3 => by
      match us, h1, mv, h2, ws, h3 with
      | [a0, a1, a2, a3, a4, a5, a6, a7, a8, a9, a10, a11], _, [w0, w1, w2], _, [k0], _ =>
        exact ⟨_, _, _, _, _, _, rfl, rfl, _, _, _, _, _, _, rfl, rfl, _, _, _, _, _, _, rfl, rfl, rfl⟩
  exact ⟨_, h⟩))) only [↓Hk.hold_s]
theorem tick_binds0 {K : PySem.W.Frag} {f : Addr} {fd : FuncData} (F : FunD K "tick" "Moment.tick" (defArgs s_Moment_tick) (defBody s_Moment_tick) (defScope s_Moment_tick) [.non, .non] [] f fd) : ∃ ds, Vals [.non, .non] ds ∧ Binds K fd ["self", "outside", "call"] ds :=
  F.binds1 (ps := ["self", "outside", "call"]) 1 0 (by simp) rfl fun T kV doc pm an cdv ct us its h1 h2 => by
    match us, h1, its, h2 with
    | [u0], _, [i0, i1], _ => exact ⟨_, rfl, rfl⟩
end T
namespace T
theorem all_mk {l : PySem.W.OpenLaw} {w : World} {K : PySem.W.Frag} {h : Heap} {mg : Str → Option Value} {fa C CR CK CM dF dC dE tR kD f_is_integer f_is_between f_is_index f_is_tuple f_is_list f_is_ascending f_counted f_word_of f_is_formed f_is_of_kind f_is_right f_is_call f_fit_as_numbers f_fit_as_row f_fit_as_rights f_fit_as_lines f_fit_as_costs f_fits_as_slot f_fits_as_outside f_fit_as_plan f_fit_as_tasks f_things_fault f_ways_fault f_flags_fault f_put f_make_call f_fall_asleep f_get_frame f_do_nothing f_turn_now f_turn_by_levels f_following f_candidates f_levels_now f_change f_opened f_finished f_letters_now f_check_task f_opened_with f_is_letter_now f_first f__law_cell f__law_digits f__law_same f__law_started f__law_queue f__law_turn f__law_stands f_law f_Build___init__ f_Build_tasks f_Build_pages f_Build_ports f_Build_lines f_Build_locks f_Build_frames f_Build_disk f_Build_costs f_Build_outside f_Build_wipe f_Build_pad f_Build_lend f_Build_share f_Build_plan f_Build_sides f_Build_rights f_Rules___init__ f_Rules_set_costs f_Rules_set_frames f_Rules_slot_ticks f_Rules_set_plan f_Rules_set_letters f_Rules_may_come f_Kernel___init__ f_Kernel_shape f_Kernel_seen f_Kernel_is_ready f_Kernel_settle f_Kernel_sleep_on f_Moment___init__ f_Moment_build f_Moment_shape f_Moment_status f_Moment_answer f_Moment_running f_Moment_due f_Moment_tick : Addr} {t_ANSWERS t_PAGES t_RUNNING t_STATUSES : Tok} (X : K.In h) (G : h.Ns mainGlobals mg) (hfa : mg "law" = some (.ref fa))
    (z_int : PySem.W.nsIn K mainGlobals "int" = some none)
    (z_str : PySem.W.nsIn K mainGlobals "str" = some none)
    (z_bool : PySem.W.nsIn K mainGlobals "bool" = some none)
    (z_list : PySem.W.nsIn K mainGlobals "list" = some none)
    (z_tuple : PySem.W.nsIn K mainGlobals "tuple" = some none)
    (z_dict : PySem.W.nsIn K mainGlobals "dict" = some none)
    (z_set : PySem.W.nsIn K mainGlobals "set" = some none)
    (z_len : PySem.W.nsIn K mainGlobals "len" = some none)
    (z_isinstance : PySem.W.nsIn K mainGlobals "isinstance" = some none)
    (z_all : PySem.W.nsIn K mainGlobals "all" = some none)
    (z_any : PySem.W.nsIn K mainGlobals "any" = some none)
    (z_min : PySem.W.nsIn K mainGlobals "min" = some none)
    (z_max : PySem.W.nsIn K mainGlobals "max" = some none)
    (z_sorted : PySem.W.nsIn K mainGlobals "sorted" = some none)
    (z_range : PySem.W.nsIn K mainGlobals "range" = some none)
    (z_zip : PySem.W.nsIn K mainGlobals "zip" = some none)
    (z_enumerate : PySem.W.nsIn K mainGlobals "enumerate" = some none)
    (z_abs : PySem.W.nsIn K mainGlobals "abs" = some none)
    (z_sum : PySem.W.nsIn K mainGlobals "sum" = some none)
    (a_lcm : PySem.W.nsIn K mainGlobals "lcm" = some (some (.builtin "math.lcm")))
    (a_RF : PySem.W.nsIn K mainGlobals "RIGHT_FORMS" = some (some (.ref dF)))
    (RFF : FormsAt K w dF rTab)
    (a_CF : PySem.W.nsIn K mainGlobals "CALL_FORMS" = some (some (.ref dC)))
    (CFF : FormsAt K w dC cTab)
    (a_READY : PySem.W.nsIn K mainGlobals "READY" = some (some (.ref tR)))
    (RDY : ∀ H, SqT K H tR [V.str "ready"])
    (a_EFF : PySem.W.nsIn K mainGlobals "EFFECTS" = some (some (.ref dE)))
    (kE : ∃ es n, KDict K w dE es n)
    (e_sleep : PySem.W.nsIn K dE "sleep" = some (some (.ref f_fall_asleep)))
    (e_get : PySem.W.nsIn K dE "get" = some (some (.ref f_get_frame)))
    (e_pass : PySem.W.nsIn K dE "pass" = some (some (.ref f_do_nothing)))
    (nSG : f_get_frame ≠ f_fall_asleep)
    (nSP : f_do_nothing ≠ f_fall_asleep)
    (nGP : f_do_nothing ≠ f_get_frame)
    (n_ANSWERS : PySem.W.nsIn K mainGlobals "ANSWERS" = some (some (.int 1 t_ANSWERS)))
    (n_PAGES : PySem.W.nsIn K mainGlobals "PAGES" = some (some (.int 4 t_PAGES)))
    (n_RUNNING : PySem.W.nsIn K mainGlobals "RUNNING" = some (some (.int 9 t_RUNNING)))
    (n_STATUSES : PySem.W.nsIn K mainGlobals "STATUSES" = some (some (.int 0 t_STATUSES)))
    (a_Build : PySem.W.nsIn K mainGlobals "Build" = some (some (.ref C)))
    (pg_Build : PySem.W.plainGet K C Str.empty = true)
    (hd_Build : PySem.W.hasDictIn K C = true)
    (po_Build : PySem.W.plainOver K C = true)
    (sa_Build : PySem.W.findIn K (.ref C) "__setattr__" = some (some (.builtin "object.__setattr__")))
    (mk_Build : PySem.W.makesIn K C = true)
    (kc_Build : PySem.W.keepIn K (.ref C) = true)
    (a_Rules : PySem.W.nsIn K mainGlobals "Rules" = some (some (.ref CR)))
    (pg_Rules : PySem.W.plainGet K CR Str.empty = true)
    (hd_Rules : PySem.W.hasDictIn K CR = true)
    (po_Rules : PySem.W.plainOver K CR = true)
    (sa_Rules : PySem.W.findIn K (.ref CR) "__setattr__" = some (some (.builtin "object.__setattr__")))
    (mk_Rules : PySem.W.makesIn K CR = true)
    (kc_Rules : PySem.W.keepIn K (.ref CR) = true)
    (a_Kernel : PySem.W.nsIn K mainGlobals "Kernel" = some (some (.ref CK)))
    (pg_Kernel : PySem.W.plainGet K CK Str.empty = true)
    (hd_Kernel : PySem.W.hasDictIn K CK = true)
    (po_Kernel : PySem.W.plainOver K CK = true)
    (sa_Kernel : PySem.W.findIn K (.ref CK) "__setattr__" = some (some (.builtin "object.__setattr__")))
    (mk_Kernel : PySem.W.makesIn K CK = true)
    (kc_Kernel : PySem.W.keepIn K (.ref CK) = true)
    (a_Moment : PySem.W.nsIn K mainGlobals "Moment" = some (some (.ref CM)))
    (pg_Moment : PySem.W.plainGet K CM Str.empty = true)
    (hd_Moment : PySem.W.hasDictIn K CM = true)
    (po_Moment : PySem.W.plainOver K CM = true)
    (sa_Moment : PySem.W.findIn K (.ref CM) "__setattr__" = some (some (.builtin "object.__setattr__")))
    (mk_Moment : PySem.W.makesIn K CM = true)
    (kc_Moment : PySem.W.keepIn K (.ref CM) = true)
    (nCC : CR ≠ CK)
    (nMR : CM ≠ CR)
    (nB__parts : PySem.W.findIn K (.ref C) "_parts" = some none)
    (nB_rules : PySem.W.findIn K (.ref C) "rules" = some none)
    (nR_task_count : PySem.W.findIn K (.ref CR) "task_count" = some none)
    (nR_levels : PySem.W.findIn K (.ref CR) "levels" = some none)
    (nR_side_of : PySem.W.findIn K (.ref CR) "side_of" = some none)
    (nR_sizes : PySem.W.findIn K (.ref CR) "sizes" = some none)
    (nR_line_of : PySem.W.findIn K (.ref CR) "line_of" = some none)
    (nR_places : PySem.W.findIn K (.ref CR) "places" = some none)
    (nR_counts : PySem.W.findIn K (.ref CR) "counts" = some none)
    (nR_wipes : PySem.W.findIn K (.ref CR) "wipes" = some none)
    (nR_pads : PySem.W.findIn K (.ref CR) "pads" = some none)
    (nR_lends : PySem.W.findIn K (.ref CR) "lends" = some none)
    (nR_plain : PySem.W.findIn K (.ref CR) "plain" = some none)
    (nR_miss : PySem.W.findIn K (.ref CR) "miss" = some none)
    (nR_switch : PySem.W.findIn K (.ref CR) "switch" = some none)
    (nR_greatest : PySem.W.findIn K (.ref CR) "greatest" = some none)
    (nR_all_frames : PySem.W.findIn K (.ref CR) "all_frames" = some none)
    (nR_side_frames : PySem.W.findIn K (.ref CR) "side_frames" = some none)
    (nR_has_slots : PySem.W.findIn K (.ref CR) "has_slots" = some none)
    (nR_span : PySem.W.findIn K (.ref CR) "span" = some none)
    (nR_slots : PySem.W.findIn K (.ref CR) "slots" = some none)
    (nR_letter_port : PySem.W.findIn K (.ref CR) "letter_port" = some none)
    (nR_every : PySem.W.findIn K (.ref CR) "every" = some none)
    (nR_period : PySem.W.findIn K (.ref CR) "period" = some none)
    (nK_rules : PySem.W.findIn K (.ref CK) "rules" = some none)
    (nK_statuses : PySem.W.findIn K (.ref CK) "statuses" = some none)
    (nK_answers : PySem.W.findIn K (.ref CK) "answers" = some none)
    (nK_owned : PySem.W.findIn K (.ref CK) "owned" = some none)
    (nK_taken : PySem.W.findIn K (.ref CK) "taken" = some none)
    (nK_values_now : PySem.W.findIn K (.ref CK) "values_now" = some none)
    (nK_queues : PySem.W.findIn K (.ref CK) "queues" = some none)
    (nK_lock_rows : PySem.W.findIn K (.ref CK) "lock_rows" = some none)
    (nK_cached : PySem.W.findIn K (.ref CK) "cached" = some none)
    (nK_place : PySem.W.findIn K (.ref CK) "place" = some none)
    (nK_runs : PySem.W.findIn K (.ref CK) "runs" = some none)
    (nK_spent : PySem.W.findIn K (.ref CK) "spent" = some none)
    (nK_busy : PySem.W.findIn K (.ref CK) "busy" = some none)
    (nK_phase : PySem.W.findIn K (.ref CK) "phase" = some none)
    (nK_turn : PySem.W.findIn K (.ref CK) "turn" = some none)
    (nK_extra : PySem.W.findIn K (.ref CK) "extra" = some none)
    (nM__build : PySem.W.findIn K (.ref CM) "_build" = some none)
    (nM__shape : PySem.W.findIn K (.ref CM) "_shape" = some none)
    (a_is_integer : PySem.W.nsIn K mainGlobals "is_integer" = some (some (.ref f_is_integer)))
    (d_is_integer : DefF K "is_integer" "is_integer" s_is_integer f_is_integer)
    (a_is_between : PySem.W.nsIn K mainGlobals "is_between" = some (some (.ref f_is_between)))
    (d_is_between : DefF K "is_between" "is_between" s_is_between f_is_between)
    (a_is_index : PySem.W.nsIn K mainGlobals "is_index" = some (some (.ref f_is_index)))
    (d_is_index : DefF K "is_index" "is_index" s_is_index f_is_index)
    (a_is_tuple : PySem.W.nsIn K mainGlobals "is_tuple" = some (some (.ref f_is_tuple)))
    (d_is_tuple : DefF K "is_tuple" "is_tuple" s_is_tuple f_is_tuple)
    (a_is_list : PySem.W.nsIn K mainGlobals "is_list" = some (some (.ref f_is_list)))
    (d_is_list : DefF K "is_list" "is_list" s_is_list f_is_list)
    (a_is_ascending : PySem.W.nsIn K mainGlobals "is_ascending" = some (some (.ref f_is_ascending)))
    (d_is_ascending : DefF K "is_ascending" "is_ascending" s_is_ascending f_is_ascending)
    (a_counted : PySem.W.nsIn K mainGlobals "counted" = some (some (.ref f_counted)))
    (d_counted : DefF K "counted" "counted" s_counted f_counted)
    (a_word_of : PySem.W.nsIn K mainGlobals "word_of" = some (some (.ref f_word_of)))
    (d_word_of : DefF K "word_of" "word_of" s_word_of f_word_of)
    (a_is_formed : PySem.W.nsIn K mainGlobals "is_formed" = some (some (.ref f_is_formed)))
    (d_is_formed : DefF K "is_formed" "is_formed" s_is_formed f_is_formed)
    (a_is_of_kind : PySem.W.nsIn K mainGlobals "is_of_kind" = some (some (.ref f_is_of_kind)))
    (d_is_of_kind : DefF K "is_of_kind" "is_of_kind" s_is_of_kind f_is_of_kind)
    (a_is_right : PySem.W.nsIn K mainGlobals "is_right" = some (some (.ref f_is_right)))
    (d_is_right : DefF K "is_right" "is_right" s_is_right f_is_right)
    (a_is_call : PySem.W.nsIn K mainGlobals "is_call" = some (some (.ref f_is_call)))
    (d_is_call : DefF K "is_call" "is_call" s_is_call f_is_call)
    (a_fit_as_numbers : PySem.W.nsIn K mainGlobals "fit_as_numbers" = some (some (.ref f_fit_as_numbers)))
    (d_fit_as_numbers : DefF K "fit_as_numbers" "fit_as_numbers" s_fit_as_numbers f_fit_as_numbers)
    (a_fit_as_row : PySem.W.nsIn K mainGlobals "fit_as_row" = some (some (.ref f_fit_as_row)))
    (d_fit_as_row : DefF K "fit_as_row" "fit_as_row" s_fit_as_row f_fit_as_row)
    (a_fit_as_rights : PySem.W.nsIn K mainGlobals "fit_as_rights" = some (some (.ref f_fit_as_rights)))
    (d_fit_as_rights : DefF K "fit_as_rights" "fit_as_rights" s_fit_as_rights f_fit_as_rights)
    (a_fit_as_lines : PySem.W.nsIn K mainGlobals "fit_as_lines" = some (some (.ref f_fit_as_lines)))
    (d_fit_as_lines : DefF K "fit_as_lines" "fit_as_lines" s_fit_as_lines f_fit_as_lines)
    (a_fit_as_costs : PySem.W.nsIn K mainGlobals "fit_as_costs" = some (some (.ref f_fit_as_costs)))
    (d_fit_as_costs : DefF K "fit_as_costs" "fit_as_costs" s_fit_as_costs f_fit_as_costs)
    (a_fits_as_slot : PySem.W.nsIn K mainGlobals "fits_as_slot" = some (some (.ref f_fits_as_slot)))
    (d_fits_as_slot : DefF K "fits_as_slot" "fits_as_slot" s_fits_as_slot f_fits_as_slot)
    (a_fits_as_outside : PySem.W.nsIn K mainGlobals "fits_as_outside" = some (some (.ref f_fits_as_outside)))
    (d_fits_as_outside : DefF K "fits_as_outside" "fits_as_outside" s_fits_as_outside f_fits_as_outside)
    (a_fit_as_plan : PySem.W.nsIn K mainGlobals "fit_as_plan" = some (some (.ref f_fit_as_plan)))
    (d_fit_as_plan : DefF K "fit_as_plan" "fit_as_plan" s_fit_as_plan f_fit_as_plan)
    (a_fit_as_tasks : PySem.W.nsIn K mainGlobals "fit_as_tasks" = some (some (.ref f_fit_as_tasks)))
    (d_fit_as_tasks : DefF K "fit_as_tasks" "fit_as_tasks" s_fit_as_tasks f_fit_as_tasks)
    (a_things_fault : PySem.W.nsIn K mainGlobals "things_fault" = some (some (.ref f_things_fault)))
    (d_things_fault : DefF K "things_fault" "things_fault" s_things_fault f_things_fault)
    (a_ways_fault : PySem.W.nsIn K mainGlobals "ways_fault" = some (some (.ref f_ways_fault)))
    (d_ways_fault : DefF K "ways_fault" "ways_fault" s_ways_fault f_ways_fault)
    (a_flags_fault : PySem.W.nsIn K mainGlobals "flags_fault" = some (some (.ref f_flags_fault)))
    (d_flags_fault : DefF K "flags_fault" "flags_fault" s_flags_fault f_flags_fault)
    (a_put : PySem.W.nsIn K mainGlobals "put" = some (some (.ref f_put)))
    (d_put : DefF K "put" "put" s_put f_put)
    (a_make_call : PySem.W.nsIn K mainGlobals "make_call" = some (some (.ref f_make_call)))
    (d_make_call : DefF K "make_call" "make_call" s_make_call f_make_call)
    (a_fall_asleep : PySem.W.nsIn K mainGlobals "fall_asleep" = some (some (.ref f_fall_asleep)))
    (d_fall_asleep : DefF K "fall_asleep" "fall_asleep" s_fall_asleep f_fall_asleep)
    (a_get_frame : PySem.W.nsIn K mainGlobals "get_frame" = some (some (.ref f_get_frame)))
    (d_get_frame : DefF K "get_frame" "get_frame" s_get_frame f_get_frame)
    (a_do_nothing : PySem.W.nsIn K mainGlobals "do_nothing" = some (some (.ref f_do_nothing)))
    (d_do_nothing : DefF K "do_nothing" "do_nothing" s_do_nothing f_do_nothing)
    (a_turn_now : PySem.W.nsIn K mainGlobals "turn_now" = some (some (.ref f_turn_now)))
    (d_turn_now : DefF K "turn_now" "turn_now" s_turn_now f_turn_now)
    (a_turn_by_levels : PySem.W.nsIn K mainGlobals "turn_by_levels" = some (some (.ref f_turn_by_levels)))
    (d_turn_by_levels : DefF K "turn_by_levels" "turn_by_levels" s_turn_by_levels f_turn_by_levels)
    (a_following : PySem.W.nsIn K mainGlobals "following" = some (some (.ref f_following)))
    (d_following : DefF K "following" "following" s_following f_following)
    (a_candidates : PySem.W.nsIn K mainGlobals "candidates" = some (some (.ref f_candidates)))
    (d_candidates : DefF K "candidates" "candidates" s_candidates f_candidates)
    (a_levels_now : PySem.W.nsIn K mainGlobals "levels_now" = some (some (.ref f_levels_now)))
    (d_levels_now : DefF K "levels_now" "levels_now" s_levels_now f_levels_now)
    (a_change : PySem.W.nsIn K mainGlobals "change" = some (some (.ref f_change)))
    (d_change : DefF K "change" "change" s_change f_change)
    (a_opened : PySem.W.nsIn K mainGlobals "opened" = some (some (.ref f_opened)))
    (d_opened : DefF K "opened" "opened" s_opened f_opened)
    (a_finished : PySem.W.nsIn K mainGlobals "finished" = some (some (.ref f_finished)))
    (d_finished : DefF K "finished" "finished" s_finished f_finished)
    (a_letters_now : PySem.W.nsIn K mainGlobals "letters_now" = some (some (.ref f_letters_now)))
    (d_letters_now : DefF K "letters_now" "letters_now" s_letters_now f_letters_now)
    (a_check_task : PySem.W.nsIn K mainGlobals "check_task" = some (some (.ref f_check_task)))
    (d_check_task : DefF K "check_task" "check_task" s_check_task f_check_task)
    (a_opened_with : PySem.W.nsIn K mainGlobals "opened_with" = some (some (.ref f_opened_with)))
    (d_opened_with : DefF K "opened_with" "opened_with" s_opened_with f_opened_with)
    (a_is_letter_now : PySem.W.nsIn K mainGlobals "is_letter_now" = some (some (.ref f_is_letter_now)))
    (d_is_letter_now : DefF K "is_letter_now" "is_letter_now" s_is_letter_now f_is_letter_now)
    (a_first : PySem.W.nsIn K mainGlobals "first" = some (some (.ref f_first)))
    (d_first : DefF K "first" "first" s_first f_first)
    (a__law_cell : PySem.W.nsIn K mainGlobals "_law_cell" = some (some (.ref f__law_cell)))
    (d__law_cell : DefF K "_law_cell" "_law_cell" s__law_cell f__law_cell)
    (a__law_digits : PySem.W.nsIn K mainGlobals "_law_digits" = some (some (.ref f__law_digits)))
    (d__law_digits : DefF K "_law_digits" "_law_digits" s__law_digits f__law_digits)
    (a__law_same : PySem.W.nsIn K mainGlobals "_law_same" = some (some (.ref f__law_same)))
    (d__law_same : DefF K "_law_same" "_law_same" s__law_same f__law_same)
    (a__law_started : PySem.W.nsIn K mainGlobals "_law_started" = some (some (.ref f__law_started)))
    (d__law_started : DefF K "_law_started" "_law_started" s__law_started f__law_started)
    (a__law_queue : PySem.W.nsIn K mainGlobals "_law_queue" = some (some (.ref f__law_queue)))
    (d__law_queue : DefF K "_law_queue" "_law_queue" s__law_queue f__law_queue)
    (a__law_turn : PySem.W.nsIn K mainGlobals "_law_turn" = some (some (.ref f__law_turn)))
    (d__law_turn : DefF K "_law_turn" "_law_turn" s__law_turn f__law_turn)
    (a__law_stands : PySem.W.nsIn K mainGlobals "_law_stands" = some (some (.ref f__law_stands)))
    (d__law_stands : DefF K "_law_stands" "_law_stands" s__law_stands f__law_stands)
    (a_law : PySem.W.nsIn K mainGlobals "law" = some (some (.ref f_law)))
    (d_law : DefF K "law" "law" s_law f_law)
    (a_Build___init__ : PySem.W.findIn K (.ref C) "__init__" = some (some (.ref f_Build___init__)))
    (i_Build___init__ : PySem.W.isFn K (.ref f_Build___init__) = true)
    (d_Build___init__ : DefK K "__init__" "Build.__init__" s_Build___init__ f_Build___init__ kD)
    (kd_wipe : PySem.W.nsIn K kD "wipe" = some (some (.bool false)))
    (kd_pad : PySem.W.nsIn K kD "pad" = some (some (.bool false)))
    (kd_lend : PySem.W.nsIn K kD "lend" = some (some (.bool false)))
    (kd_share : PySem.W.nsIn K kD "share" = some (some (.bool false)))
    (a_Build_tasks : PySem.W.findIn K (.ref C) "tasks" = some (some (.ref f_Build_tasks)))
    (i_Build_tasks : PySem.W.isFn K (.ref f_Build_tasks) = true)
    (d_Build_tasks : DefF K "tasks" "Build.tasks" s_Build_tasks f_Build_tasks)
    (a_Build_pages : PySem.W.findIn K (.ref C) "pages" = some (some (.ref f_Build_pages)))
    (i_Build_pages : PySem.W.isFn K (.ref f_Build_pages) = true)
    (d_Build_pages : DefF K "pages" "Build.pages" s_Build_pages f_Build_pages)
    (a_Build_ports : PySem.W.findIn K (.ref C) "ports" = some (some (.ref f_Build_ports)))
    (i_Build_ports : PySem.W.isFn K (.ref f_Build_ports) = true)
    (d_Build_ports : DefF K "ports" "Build.ports" s_Build_ports f_Build_ports)
    (a_Build_lines : PySem.W.findIn K (.ref C) "lines" = some (some (.ref f_Build_lines)))
    (i_Build_lines : PySem.W.isFn K (.ref f_Build_lines) = true)
    (d_Build_lines : DefF K "lines" "Build.lines" s_Build_lines f_Build_lines)
    (a_Build_locks : PySem.W.findIn K (.ref C) "locks" = some (some (.ref f_Build_locks)))
    (i_Build_locks : PySem.W.isFn K (.ref f_Build_locks) = true)
    (d_Build_locks : DefF K "locks" "Build.locks" s_Build_locks f_Build_locks)
    (a_Build_frames : PySem.W.findIn K (.ref C) "frames" = some (some (.ref f_Build_frames)))
    (i_Build_frames : PySem.W.isFn K (.ref f_Build_frames) = true)
    (d_Build_frames : DefF K "frames" "Build.frames" s_Build_frames f_Build_frames)
    (a_Build_disk : PySem.W.findIn K (.ref C) "disk" = some (some (.ref f_Build_disk)))
    (i_Build_disk : PySem.W.isFn K (.ref f_Build_disk) = true)
    (d_Build_disk : DefF K "disk" "Build.disk" s_Build_disk f_Build_disk)
    (a_Build_costs : PySem.W.findIn K (.ref C) "costs" = some (some (.ref f_Build_costs)))
    (i_Build_costs : PySem.W.isFn K (.ref f_Build_costs) = true)
    (d_Build_costs : DefF K "costs" "Build.costs" s_Build_costs f_Build_costs)
    (a_Build_outside : PySem.W.findIn K (.ref C) "outside" = some (some (.ref f_Build_outside)))
    (i_Build_outside : PySem.W.isFn K (.ref f_Build_outside) = true)
    (d_Build_outside : DefF K "outside" "Build.outside" s_Build_outside f_Build_outside)
    (a_Build_wipe : PySem.W.findIn K (.ref C) "wipe" = some (some (.ref f_Build_wipe)))
    (i_Build_wipe : PySem.W.isFn K (.ref f_Build_wipe) = true)
    (d_Build_wipe : DefF K "wipe" "Build.wipe" s_Build_wipe f_Build_wipe)
    (a_Build_pad : PySem.W.findIn K (.ref C) "pad" = some (some (.ref f_Build_pad)))
    (i_Build_pad : PySem.W.isFn K (.ref f_Build_pad) = true)
    (d_Build_pad : DefF K "pad" "Build.pad" s_Build_pad f_Build_pad)
    (a_Build_lend : PySem.W.findIn K (.ref C) "lend" = some (some (.ref f_Build_lend)))
    (i_Build_lend : PySem.W.isFn K (.ref f_Build_lend) = true)
    (d_Build_lend : DefF K "lend" "Build.lend" s_Build_lend f_Build_lend)
    (a_Build_share : PySem.W.findIn K (.ref C) "share" = some (some (.ref f_Build_share)))
    (i_Build_share : PySem.W.isFn K (.ref f_Build_share) = true)
    (d_Build_share : DefF K "share" "Build.share" s_Build_share f_Build_share)
    (a_Build_plan : PySem.W.findIn K (.ref C) "plan" = some (some (.ref f_Build_plan)))
    (i_Build_plan : PySem.W.isFn K (.ref f_Build_plan) = true)
    (d_Build_plan : DefF K "plan" "Build.plan" s_Build_plan f_Build_plan)
    (a_Build_sides : PySem.W.findIn K (.ref C) "sides" = some (some (.ref f_Build_sides)))
    (i_Build_sides : PySem.W.isFn K (.ref f_Build_sides) = true)
    (d_Build_sides : DefF K "sides" "Build.sides" s_Build_sides f_Build_sides)
    (a_Build_rights : PySem.W.findIn K (.ref C) "rights" = some (some (.ref f_Build_rights)))
    (i_Build_rights : PySem.W.isFn K (.ref f_Build_rights) = true)
    (d_Build_rights : DefF K "rights" "Build.rights" s_Build_rights f_Build_rights)
    (a_Rules___init__ : PySem.W.findIn K (.ref CR) "__init__" = some (some (.ref f_Rules___init__)))
    (i_Rules___init__ : PySem.W.isFn K (.ref f_Rules___init__) = true)
    (d_Rules___init__ : DefF K "__init__" "Rules.__init__" s_Rules___init__ f_Rules___init__)
    (a_Rules_set_costs : PySem.W.findIn K (.ref CR) "set_costs" = some (some (.ref f_Rules_set_costs)))
    (i_Rules_set_costs : PySem.W.isFn K (.ref f_Rules_set_costs) = true)
    (d_Rules_set_costs : DefF K "set_costs" "Rules.set_costs" s_Rules_set_costs f_Rules_set_costs)
    (a_Rules_set_frames : PySem.W.findIn K (.ref CR) "set_frames" = some (some (.ref f_Rules_set_frames)))
    (i_Rules_set_frames : PySem.W.isFn K (.ref f_Rules_set_frames) = true)
    (d_Rules_set_frames : DefF K "set_frames" "Rules.set_frames" s_Rules_set_frames f_Rules_set_frames)
    (a_Rules_slot_ticks : PySem.W.findIn K (.ref CR) "slot_ticks" = some (some (.ref f_Rules_slot_ticks)))
    (i_Rules_slot_ticks : PySem.W.isFn K (.ref f_Rules_slot_ticks) = true)
    (d_Rules_slot_ticks : DefF K "slot_ticks" "Rules.slot_ticks" s_Rules_slot_ticks f_Rules_slot_ticks)
    (a_Rules_set_plan : PySem.W.findIn K (.ref CR) "set_plan" = some (some (.ref f_Rules_set_plan)))
    (i_Rules_set_plan : PySem.W.isFn K (.ref f_Rules_set_plan) = true)
    (d_Rules_set_plan : DefF K "set_plan" "Rules.set_plan" s_Rules_set_plan f_Rules_set_plan)
    (a_Rules_set_letters : PySem.W.findIn K (.ref CR) "set_letters" = some (some (.ref f_Rules_set_letters)))
    (i_Rules_set_letters : PySem.W.isFn K (.ref f_Rules_set_letters) = true)
    (d_Rules_set_letters : DefF K "set_letters" "Rules.set_letters" s_Rules_set_letters f_Rules_set_letters)
    (a_Rules_may_come : PySem.W.findIn K (.ref CR) "may_come" = some (some (.ref f_Rules_may_come)))
    (i_Rules_may_come : PySem.W.isFn K (.ref f_Rules_may_come) = true)
    (d_Rules_may_come : DefF K "may_come" "Rules.may_come" s_Rules_may_come f_Rules_may_come)
    (a_Kernel___init__ : PySem.W.findIn K (.ref CK) "__init__" = some (some (.ref f_Kernel___init__)))
    (i_Kernel___init__ : PySem.W.isFn K (.ref f_Kernel___init__) = true)
    (d_Kernel___init__ : DefF K "__init__" "Kernel.__init__" s_Kernel___init__ f_Kernel___init__)
    (a_Kernel_shape : PySem.W.findIn K (.ref CK) "shape" = some (some (.ref f_Kernel_shape)))
    (i_Kernel_shape : PySem.W.isFn K (.ref f_Kernel_shape) = true)
    (d_Kernel_shape : DefF K "shape" "Kernel.shape" s_Kernel_shape f_Kernel_shape)
    (a_Kernel_seen : PySem.W.findIn K (.ref CK) "seen" = some (some (.ref f_Kernel_seen)))
    (i_Kernel_seen : PySem.W.isFn K (.ref f_Kernel_seen) = true)
    (d_Kernel_seen : DefF K "seen" "Kernel.seen" s_Kernel_seen f_Kernel_seen)
    (a_Kernel_is_ready : PySem.W.findIn K (.ref CK) "is_ready" = some (some (.ref f_Kernel_is_ready)))
    (i_Kernel_is_ready : PySem.W.isFn K (.ref f_Kernel_is_ready) = true)
    (d_Kernel_is_ready : DefF K "is_ready" "Kernel.is_ready" s_Kernel_is_ready f_Kernel_is_ready)
    (a_Kernel_settle : PySem.W.findIn K (.ref CK) "settle" = some (some (.ref f_Kernel_settle)))
    (i_Kernel_settle : PySem.W.isFn K (.ref f_Kernel_settle) = true)
    (d_Kernel_settle : DefF K "settle" "Kernel.settle" s_Kernel_settle f_Kernel_settle)
    (a_Kernel_sleep_on : PySem.W.findIn K (.ref CK) "sleep_on" = some (some (.ref f_Kernel_sleep_on)))
    (i_Kernel_sleep_on : PySem.W.isFn K (.ref f_Kernel_sleep_on) = true)
    (d_Kernel_sleep_on : DefF K "sleep_on" "Kernel.sleep_on" s_Kernel_sleep_on f_Kernel_sleep_on)
    (a_Moment___init__ : PySem.W.findIn K (.ref CM) "__init__" = some (some (.ref f_Moment___init__)))
    (i_Moment___init__ : PySem.W.isFn K (.ref f_Moment___init__) = true)
    (d_Moment___init__ : DefF K "__init__" "Moment.__init__" s_Moment___init__ f_Moment___init__)
    (a_Moment_build : PySem.W.findIn K (.ref CM) "build" = some (some (.ref f_Moment_build)))
    (i_Moment_build : PySem.W.isFn K (.ref f_Moment_build) = true)
    (d_Moment_build : DefF K "build" "Moment.build" s_Moment_build f_Moment_build)
    (a_Moment_shape : PySem.W.findIn K (.ref CM) "shape" = some (some (.ref f_Moment_shape)))
    (i_Moment_shape : PySem.W.isFn K (.ref f_Moment_shape) = true)
    (d_Moment_shape : DefF K "shape" "Moment.shape" s_Moment_shape f_Moment_shape)
    (a_Moment_status : PySem.W.findIn K (.ref CM) "status" = some (some (.ref f_Moment_status)))
    (i_Moment_status : PySem.W.isFn K (.ref f_Moment_status) = true)
    (d_Moment_status : DefF K "status" "Moment.status" s_Moment_status f_Moment_status)
    (a_Moment_answer : PySem.W.findIn K (.ref CM) "answer" = some (some (.ref f_Moment_answer)))
    (i_Moment_answer : PySem.W.isFn K (.ref f_Moment_answer) = true)
    (d_Moment_answer : DefF K "answer" "Moment.answer" s_Moment_answer f_Moment_answer)
    (a_Moment_running : PySem.W.findIn K (.ref CM) "running" = some (some (.ref f_Moment_running)))
    (i_Moment_running : PySem.W.isFn K (.ref f_Moment_running) = true)
    (d_Moment_running : DefF K "running" "Moment.running" s_Moment_running f_Moment_running)
    (a_Moment_due : PySem.W.findIn K (.ref CM) "due" = some (some (.ref f_Moment_due)))
    (i_Moment_due : PySem.W.isFn K (.ref f_Moment_due) = true)
    (d_Moment_due : DefP K "due" "Moment.due" s_Moment_due f_Moment_due [.non])
    (a_Moment_tick : PySem.W.findIn K (.ref CM) "tick" = some (some (.ref f_Moment_tick)))
    (i_Moment_tick : PySem.W.isFn K (.ref f_Moment_tick) = true)
    (d_Moment_tick : DefP K "tick" "Moment.tick" s_Moment_tick f_Moment_tick [.non, .non]) :
    ∃ fd : FuncData, (∀ (s : Shared) (v : Value), BindsTo s fd ⟨[v], []⟩ [("_law_script", v)]) ∧ ∀ base : Heap, K.In base → base.Ns mainGlobals mg → FnOk l.prog w K mg base CX0 12 fa fd ["_law_script"] (spLaw K) := by
 refine Hk.hold ?_
 simp (disch := with_unfolding_all (
 exact Hk.disch (by
  have e := hfa.symm.trans (PySem.W.mg_of X G a_law)
  cases e
  have B : Bl mg := ⟨PySem.W.mg_none_of X G z_int, PySem.W.mg_none_of X G z_str, PySem.W.mg_none_of X G z_bool, PySem.W.mg_none_of X G z_list, PySem.W.mg_none_of X G z_tuple, PySem.W.mg_none_of X G z_dict, PySem.W.mg_none_of X G z_set, PySem.W.mg_none_of X G z_len, PySem.W.mg_none_of X G z_isinstance, PySem.W.mg_none_of X G z_all, PySem.W.mg_none_of X G z_any, PySem.W.mg_none_of X G z_min, PySem.W.mg_none_of X G z_max, PySem.W.mg_none_of X G z_sorted, PySem.W.mg_none_of X G z_range, PySem.W.mg_none_of X G z_zip⟩
  have cBuild : Cls K C := ⟨pg_Build, hd_Build, po_Build, sa_Build⟩
  have cRules : Cls K CR := ⟨pg_Rules, hd_Rules, po_Rules, sa_Rules⟩
  have cKernel : Cls K CK := ⟨pg_Kernel, hd_Kernel, po_Kernel, sa_Kernel⟩
  have cMoment : Cls K CM := ⟨pg_Moment, hd_Moment, po_Moment, sa_Moment⟩
  have R : RCls K CR := ⟨cRules, fun f hf => by
    simp only [RN, List.mem_cons, List.not_mem_nil, or_false] at hf
    rcases hf with rfl | rfl | rfl | rfl | rfl | rfl | rfl | rfl | rfl | rfl | rfl | rfl | rfl | rfl | rfl | rfl | rfl | rfl | rfl | rfl | rfl | rfl
    · exact nR_task_count
    · exact nR_levels
    · exact nR_side_of
    · exact nR_sizes
    · exact nR_line_of
    · exact nR_places
    · exact nR_counts
    · exact nR_wipes
    · exact nR_pads
    · exact nR_lends
    · exact nR_plain
    · exact nR_miss
    · exact nR_switch
    · exact nR_greatest
    · exact nR_all_frames
    · exact nR_side_frames
    · exact nR_has_slots
    · exact nR_span
    · exact nR_slots
    · exact nR_letter_port
    · exact nR_every
    · exact nR_period⟩
  have TK : KCls K CK := ⟨cKernel, fun f hf => by
    simp only [KN, List.mem_cons, List.not_mem_nil, or_false] at hf
    rcases hf with rfl | rfl | rfl | rfl | rfl | rfl | rfl | rfl | rfl | rfl | rfl | rfl | rfl | rfl | rfl | rfl
    · exact nK_rules
    · exact nK_statuses
    · exact nK_answers
    · exact nK_owned
    · exact nK_taken
    · exact nK_values_now
    · exact nK_queues
    · exact nK_lock_rows
    · exact nK_cached
    · exact nK_place
    · exact nK_runs
    · exact nK_spent
    · exact nK_busy
    · exact nK_phase
    · exact nK_turn
    · exact nK_extra⟩
  obtain ⟨⟨oc, od, kV, doc, pm, an, cd, ct, sl, ll, lc⟩, lk⟩ := d_law
  have hkw : ∀ q ∈ kwB, ∃ u, PySem.W.nsIn K kD q.1 = some (some u) ∧ RelV q.2 u := fun q hq => by
    simp only [kwB, List.mem_cons, List.not_mem_nil, or_false] at hq
    rcases hq with rfl | rfl | rfl | rfl
    · exact ⟨_, kd_wipe, rfl⟩
    · exact ⟨_, kd_pad, rfl⟩
    · exact ⟨_, kd_lend, rfl⟩
    · exact ⟨_, kd_share, rfl⟩
  obtain ⟨fdR, FR⟩ := d_Rules___init__.fn
  obtain ⟨fdB, FB, FDB⟩ := d_Build___init__.fn hkw
  obtain ⟨fdK, FK⟩ := d_Kernel___init__.fn
  obtain ⟨fdM, FM⟩ := d_Moment___init__.fn
  obtain ⟨fdD, FD⟩ := d_Moment_due.fn
  obtain ⟨fdT, FT⟩ := d_Moment_tick.fn
  obtain ⟨dsT, rT, bTd⟩ := tick_binds0 FT
  obtain ⟨gB2, bB⟩ := pad_binds FDB
  obtain ⟨dsD, rD, bD⟩ := due_binds FD
  have bT := tick_binds FT
  have bR : Binds K fdR ["self", "build"] [] := FR.bindsP rfl rfl (by decide +kernel)
  have bK : Binds K fdK ["self", "rules", "shape"] [] := FK.bindsP rfl rfl (by decide +kernel)
  have bM : Binds K fdM ["self", "build", "shape"] [] := FM.bindsP rfl rfl (by decide +kernel)
  have D_is_integer : DefAt K mg "is_integer" s_is_integer ["thing"] := d_is_integer.at X G a_is_integer (fun fd F => F.bindsP rfl rfl (by decide +kernel))
  have D_is_between : DefAt K mg "is_between" s_is_between ["thing", "low", "high"] := d_is_between.at X G a_is_between (fun fd F => F.bindsP rfl rfl (by decide +kernel))
  have D_is_index : DefAt K mg "is_index" s_is_index ["thing", "many"] := d_is_index.at X G a_is_index (fun fd F => F.bindsP rfl rfl (by decide +kernel))
  have D_is_tuple : DefAt K mg "is_tuple" s_is_tuple ["thing", "many"] := d_is_tuple.at X G a_is_tuple (fun fd F => F.bindsP rfl rfl (by decide +kernel))
  have D_is_list : DefAt K mg "is_list" s_is_list ["thing", "low", "high"] := d_is_list.at X G a_is_list (fun fd F => F.bindsP rfl rfl (by decide +kernel))
  have D_is_ascending : DefAt K mg "is_ascending" s_is_ascending ["items"] := d_is_ascending.at X G a_is_ascending (fun fd F => F.bindsP rfl rfl (by decide +kernel))
  have D_counted : DefAt K mg "counted" s_counted ["tasks", "pages", "ports", "locks", "disk"] := d_counted.at X G a_counted (fun fd F => F.bindsP rfl rfl (by decide +kernel))
  have D_word_of : DefAt K mg "word_of" s_word_of ["thing"] := d_word_of.at X G a_word_of (fun fd F => F.bindsP rfl rfl (by decide +kernel))
  have D_is_formed : DefAt K mg "is_formed" s_is_formed ["counts", "kinds", "thing"] := d_is_formed.at X G a_is_formed (fun fd F => F.bindsP rfl rfl (by decide +kernel))
  have D_is_of_kind : DefAt K mg "is_of_kind" s_is_of_kind ["counts", "kind", "item"] := d_is_of_kind.at X G a_is_of_kind (fun fd F => F.bindsP rfl rfl (by decide +kernel))
  have D_is_right : DefAt K mg "is_right" s_is_right ["counts", "thing"] := d_is_right.at X G a_is_right (fun fd F => F.bindsP rfl rfl (by decide +kernel))
  have D_is_call : DefAt K mg "is_call" s_is_call ["counts", "thing"] := d_is_call.at X G a_is_call (fun fd F => F.bindsP rfl rfl (by decide +kernel))
  have D_fit_as_numbers : DefAt K mg "fit_as_numbers" s_fit_as_numbers ["numbers", "most", "low", "high"] := d_fit_as_numbers.at X G a_fit_as_numbers (fun fd F => F.bindsP rfl rfl (by decide +kernel))
  have D_fit_as_row : DefAt K mg "fit_as_row" s_fit_as_row ["counts", "row"] := d_fit_as_row.at X G a_fit_as_row (fun fd F => F.bindsP rfl rfl (by decide +kernel))
  have D_fit_as_rights : DefAt K mg "fit_as_rights" s_fit_as_rights ["counts", "rights"] := d_fit_as_rights.at X G a_fit_as_rights (fun fd F => F.bindsP rfl rfl (by decide +kernel))
  have D_fit_as_lines : DefAt K mg "fit_as_lines" s_fit_as_lines ["counts", "lines"] := d_fit_as_lines.at X G a_fit_as_lines (fun fd F => F.bindsP rfl rfl (by decide +kernel))
  have D_fit_as_costs : DefAt K mg "fit_as_costs" s_fit_as_costs ["costs"] := d_fit_as_costs.at X G a_fit_as_costs (fun fd F => F.bindsP rfl rfl (by decide +kernel))
  have D_fits_as_slot : DefAt K mg "fits_as_slot" s_fits_as_slot ["counts", "row"] := d_fits_as_slot.at X G a_fits_as_slot (fun fd F => F.bindsP rfl rfl (by decide +kernel))
  have D_fits_as_outside : DefAt K mg "fits_as_outside" s_fits_as_outside ["counts", "outside"] := d_fits_as_outside.at X G a_fits_as_outside (fun fd F => F.bindsP rfl rfl (by decide +kernel))
  have D_fit_as_plan : DefAt K mg "fit_as_plan" s_fit_as_plan ["counts", "plan"] := d_fit_as_plan.at X G a_fit_as_plan (fun fd F => F.bindsP rfl rfl (by decide +kernel))
  have D_fit_as_tasks : DefAt K mg "fit_as_tasks" s_fit_as_tasks ["tasks"] := d_fit_as_tasks.at X G a_fit_as_tasks (fun fd F => F.bindsP rfl rfl (by decide +kernel))
  have D_things_fault : DefAt K mg "things_fault" s_things_fault ["tasks", "pages", "ports", "locks", "frames", "disk"] := d_things_fault.at X G a_things_fault (fun fd F => F.bindsP rfl rfl (by decide +kernel))
  have D_ways_fault : DefAt K mg "ways_fault" s_ways_fault ["counts", "rights", "lines", "costs", "plan", "outside"] := d_ways_fault.at X G a_ways_fault (fun fd F => F.bindsP rfl rfl (by decide +kernel))
  have D_flags_fault : DefAt K mg "flags_fault" s_flags_fault ["flags"] := d_flags_fault.at X G a_flags_fault (fun fd F => F.bindsP rfl rfl (by decide +kernel))
  have D_put : DefAt K mg "put" s_put ["row", "at", "item"] := d_put.at X G a_put (fun fd F => F.bindsP rfl rfl (by decide +kernel))
  have D_make_call : DefAt K mg "make_call" s_make_call ["kernel", "call"] := d_make_call.at X G a_make_call (fun fd F => F.bindsP rfl rfl (by decide +kernel))
  have D_fall_asleep : DefAt K mg "fall_asleep" s_fall_asleep ["kernel", "task", "call"] := d_fall_asleep.at X G a_fall_asleep (fun fd F => F.bindsP rfl rfl (by decide +kernel))
  have D_get_frame : DefAt K mg "get_frame" s_get_frame ["kernel", "task", "call"] := d_get_frame.at X G a_get_frame (fun fd F => F.bindsP rfl rfl (by decide +kernel))
  have D_do_nothing : DefAt K mg "do_nothing" s_do_nothing ["kernel", "task", "call"] := d_do_nothing.at X G a_do_nothing (fun fd F => F.bindsP rfl rfl (by decide +kernel))
  have D_turn_now : DefAt K mg "turn_now" s_turn_now ["kernel"] := d_turn_now.at X G a_turn_now (fun fd F => F.bindsP rfl rfl (by decide +kernel))
  have D_turn_by_levels : DefAt K mg "turn_by_levels" s_turn_by_levels ["kernel"] := d_turn_by_levels.at X G a_turn_by_levels (fun fd F => F.bindsP rfl rfl (by decide +kernel))
  have D_following : DefAt K mg "following" s_following ["tasks", "runs"] := d_following.at X G a_following (fun fd F => F.bindsP rfl rfl (by decide +kernel))
  have D_candidates : DefAt K mg "candidates" s_candidates ["kernel"] := d_candidates.at X G a_candidates (fun fd F => F.bindsP rfl rfl (by decide +kernel))
  have D_levels_now : DefAt K mg "levels_now" s_levels_now ["kernel"] := d_levels_now.at X G a_levels_now (fun fd F => F.bindsP rfl rfl (by decide +kernel))
  have D_change : DefAt K mg "change" s_change ["kernel", "task"] := d_change.at X G a_change (fun fd F => F.bindsP rfl rfl (by decide +kernel))
  have D_opened : DefAt K mg "opened" s_opened ["rules", "shape", "letter"] := d_opened.at X G a_opened (fun fd F => F.bindsP rfl rfl (by decide +kernel))
  have D_finished : DefAt K mg "finished" s_finished ["kernel", "call"] := d_finished.at X G a_finished (fun fd F => F.bindsP rfl rfl (by decide +kernel))
  have D_letters_now : DefAt K mg "letters_now" s_letters_now ["rules", "shape"] := d_letters_now.at X G a_letters_now (fun fd F => F.bindsP rfl rfl (by decide +kernel))
  have D_check_task : DefAt K mg "check_task" s_check_task ["build", "task"] := d_check_task.at X G a_check_task (fun fd F => F.bindsP rfl rfl (by decide +kernel))
  have D_opened_with : DefAt K mg "opened_with" s_opened_with ["moment", "outside"] := d_opened_with.at X G a_opened_with (fun fd F => F.bindsP rfl rfl (by decide +kernel))
  have D_is_letter_now : DefAt K mg "is_letter_now" s_is_letter_now ["letters", "outside"] := d_is_letter_now.at X G a_is_letter_now (fun fd F => F.bindsP rfl rfl (by decide +kernel))
  have D_first : DefAt K mg "first" s_first ["build"] := d_first.at X G a_first (fun fd F => F.bindsP rfl rfl (by decide +kernel))
  have D__law_cell : DefAt K mg "_law_cell" s__law_cell ["_law_script", "_law_k"] := d__law_cell.at X G a__law_cell (fun fd F => F.bindsP rfl rfl (by decide +kernel))
  have D__law_digits : DefAt K mg "_law_digits" s__law_digits ["_law_cell_here", "_law_sizes"] := d__law_digits.at X G a__law_digits (fun fd F => F.bindsP rfl rfl (by decide +kernel))
  have D__law_same : DefAt K mg "_law_same" s__law_same ["_law_told", "_law_due"] := d__law_same.at X G a__law_same (fun fd F => F.bindsP rfl rfl (by decide +kernel))
  have D__law_started : DefAt K mg "_law_started" s__law_started ["_law_script"] := d__law_started.at X G a__law_started (fun fd F => F.bindsP rfl rfl (by decide +kernel))
  have D__law_queue : DefAt K mg "_law_queue" s__law_queue ["_law_world", "_law_time"] := d__law_queue.at X G a__law_queue (fun fd F => F.bindsP rfl rfl (by decide +kernel))
  have D__law_turn : DefAt K mg "_law_turn" s__law_turn ["_law_world", "_law_time"] := d__law_turn.at X G a__law_turn (fun fd F => F.bindsP rfl rfl (by decide +kernel))
  have D__law_stands : DefAt K mg "_law_stands" s__law_stands ["_law_world", "_law_moment", "_law_time", "_law_answers"] := d__law_stands.at X G a__law_stands (fun fd F => F.bindsP rfl rfl (by decide +kernel))
  have M_Build_tasks : MethAt K C "tasks" "Build.tasks" s_Build_tasks ["self"] := d_Build_tasks.meth cBuild a_Build_tasks i_Build_tasks (fun fd F => F.bindsP rfl rfl (by decide +kernel))
  have M_Build_pages : MethAt K C "pages" "Build.pages" s_Build_pages ["self"] := d_Build_pages.meth cBuild a_Build_pages i_Build_pages (fun fd F => F.bindsP rfl rfl (by decide +kernel))
  have M_Build_ports : MethAt K C "ports" "Build.ports" s_Build_ports ["self"] := d_Build_ports.meth cBuild a_Build_ports i_Build_ports (fun fd F => F.bindsP rfl rfl (by decide +kernel))
  have M_Build_lines : MethAt K C "lines" "Build.lines" s_Build_lines ["self"] := d_Build_lines.meth cBuild a_Build_lines i_Build_lines (fun fd F => F.bindsP rfl rfl (by decide +kernel))
  have M_Build_locks : MethAt K C "locks" "Build.locks" s_Build_locks ["self"] := d_Build_locks.meth cBuild a_Build_locks i_Build_locks (fun fd F => F.bindsP rfl rfl (by decide +kernel))
  have M_Build_frames : MethAt K C "frames" "Build.frames" s_Build_frames ["self"] := d_Build_frames.meth cBuild a_Build_frames i_Build_frames (fun fd F => F.bindsP rfl rfl (by decide +kernel))
  have M_Build_disk : MethAt K C "disk" "Build.disk" s_Build_disk ["self"] := d_Build_disk.meth cBuild a_Build_disk i_Build_disk (fun fd F => F.bindsP rfl rfl (by decide +kernel))
  have M_Build_costs : MethAt K C "costs" "Build.costs" s_Build_costs ["self"] := d_Build_costs.meth cBuild a_Build_costs i_Build_costs (fun fd F => F.bindsP rfl rfl (by decide +kernel))
  have M_Build_outside : MethAt K C "outside" "Build.outside" s_Build_outside ["self"] := d_Build_outside.meth cBuild a_Build_outside i_Build_outside (fun fd F => F.bindsP rfl rfl (by decide +kernel))
  have M_Build_wipe : MethAt K C "wipe" "Build.wipe" s_Build_wipe ["self"] := d_Build_wipe.meth cBuild a_Build_wipe i_Build_wipe (fun fd F => F.bindsP rfl rfl (by decide +kernel))
  have M_Build_pad : MethAt K C "pad" "Build.pad" s_Build_pad ["self"] := d_Build_pad.meth cBuild a_Build_pad i_Build_pad (fun fd F => F.bindsP rfl rfl (by decide +kernel))
  have M_Build_lend : MethAt K C "lend" "Build.lend" s_Build_lend ["self"] := d_Build_lend.meth cBuild a_Build_lend i_Build_lend (fun fd F => F.bindsP rfl rfl (by decide +kernel))
  have M_Build_share : MethAt K C "share" "Build.share" s_Build_share ["self"] := d_Build_share.meth cBuild a_Build_share i_Build_share (fun fd F => F.bindsP rfl rfl (by decide +kernel))
  have M_Build_plan : MethAt K C "plan" "Build.plan" s_Build_plan ["self"] := d_Build_plan.meth cBuild a_Build_plan i_Build_plan (fun fd F => F.bindsP rfl rfl (by decide +kernel))
  have M_Build_sides : MethAt K C "sides" "Build.sides" s_Build_sides ["self"] := d_Build_sides.meth cBuild a_Build_sides i_Build_sides (fun fd F => F.bindsP rfl rfl (by decide +kernel))
  have M_Build_rights : MethAt K C "rights" "Build.rights" s_Build_rights ["self"] := d_Build_rights.meth cBuild a_Build_rights i_Build_rights (fun fd F => F.bindsP rfl rfl (by decide +kernel))
  have M_Rules_set_costs : MethAt K CR "set_costs" "Rules.set_costs" s_Rules_set_costs ["self", "costs"] := d_Rules_set_costs.meth cRules a_Rules_set_costs i_Rules_set_costs (fun fd F => F.bindsP rfl rfl (by decide +kernel))
  have M_Rules_set_frames : MethAt K CR "set_frames" "Rules.set_frames" s_Rules_set_frames ["self", "build"] := d_Rules_set_frames.meth cRules a_Rules_set_frames i_Rules_set_frames (fun fd F => F.bindsP rfl rfl (by decide +kernel))
  have M_Rules_slot_ticks : MethAt K CR "slot_ticks" "Rules.slot_ticks" s_Rules_slot_ticks ["self", "rows"] := d_Rules_slot_ticks.meth cRules a_Rules_slot_ticks i_Rules_slot_ticks (fun fd F => F.bindsP rfl rfl (by decide +kernel))
  have M_Rules_set_plan : MethAt K CR "set_plan" "Rules.set_plan" s_Rules_set_plan ["self", "plan"] := d_Rules_set_plan.meth cRules a_Rules_set_plan i_Rules_set_plan (fun fd F => F.bindsP rfl rfl (by decide +kernel))
  have M_Rules_set_letters : MethAt K CR "set_letters" "Rules.set_letters" s_Rules_set_letters ["self", "outside"] := d_Rules_set_letters.meth cRules a_Rules_set_letters i_Rules_set_letters (fun fd F => F.bindsP rfl rfl (by decide +kernel))
  have M_Rules_may_come : MethAt K CR "may_come" "Rules.may_come" s_Rules_may_come ["self", "phase"] := d_Rules_may_come.meth cRules a_Rules_may_come i_Rules_may_come (fun fd F => F.bindsP rfl rfl (by decide +kernel))
  have M_Kernel_shape : MethAt K CK "shape" "Kernel.shape" s_Kernel_shape ["self"] := d_Kernel_shape.meth cKernel a_Kernel_shape i_Kernel_shape (fun fd F => F.bindsP rfl rfl (by decide +kernel))
  have M_Kernel_seen : MethAt K CK "seen" "Kernel.seen" s_Kernel_seen ["self"] := d_Kernel_seen.meth cKernel a_Kernel_seen i_Kernel_seen (fun fd F => F.bindsP rfl rfl (by decide +kernel))
  have M_Kernel_is_ready : MethAt K CK "is_ready" "Kernel.is_ready" s_Kernel_is_ready ["self", "task"] := d_Kernel_is_ready.meth cKernel a_Kernel_is_ready i_Kernel_is_ready (fun fd F => F.bindsP rfl rfl (by decide +kernel))
  have M_Kernel_settle : MethAt K CK "settle" "Kernel.settle" s_Kernel_settle ["self", "task", "status", "answer"] := d_Kernel_settle.meth cKernel a_Kernel_settle i_Kernel_settle (fun fd F => F.bindsP rfl rfl (by decide +kernel))
  have M_Kernel_sleep_on : MethAt K CK "sleep_on" "Kernel.sleep_on" s_Kernel_sleep_on ["self"] := d_Kernel_sleep_on.meth cKernel a_Kernel_sleep_on i_Kernel_sleep_on (fun fd F => F.bindsP rfl rfl (by decide +kernel))
  have M_Moment_build : MethAt K CM "build" "Moment.build" s_Moment_build ["self"] := d_Moment_build.meth cMoment a_Moment_build i_Moment_build (fun fd F => F.bindsP rfl rfl (by decide +kernel))
  have M_Moment_shape : MethAt K CM "shape" "Moment.shape" s_Moment_shape ["self"] := d_Moment_shape.meth cMoment a_Moment_shape i_Moment_shape (fun fd F => F.bindsP rfl rfl (by decide +kernel))
  have M_Moment_status : MethAt K CM "status" "Moment.status" s_Moment_status ["self", "task"] := d_Moment_status.meth cMoment a_Moment_status i_Moment_status (fun fd F => F.bindsP rfl rfl (by decide +kernel))
  have M_Moment_answer : MethAt K CM "answer" "Moment.answer" s_Moment_answer ["self", "task"] := d_Moment_answer.meth cMoment a_Moment_answer i_Moment_answer (fun fd F => F.bindsP rfl rfl (by decide +kernel))
  have M_Moment_running : MethAt K CM "running" "Moment.running" s_Moment_running ["self"] := d_Moment_running.meth cMoment a_Moment_running i_Moment_running (fun fd F => F.bindsP rfl rfl (by decide +kernel))
  refine ⟨PySem.W.fnOf "law" "law" (defArgs s_law) (defBody s_law) (defScope s_law) .none kV doc pm an cd ct, fun s v => .of_eq rfl, fun base _ _ => ?_⟩
  exact all_ok (P := l.prog) (w := w) (base := base) B (PySem.W.mg_none_of X G z_enumerate) (PySem.W.mg_none_of X G z_abs) (PySem.W.mg_none_of X G z_sum) ⟨(PySem.W.mg_of X G a_lcm)⟩ ⟨cBuild, nB__parts, nB_rules⟩ R TK ⟨cMoment, nM__build, nM__shape⟩ ⟨(PySem.W.mg_of X G a_RF), RFF⟩ ⟨(PySem.W.mg_of X G a_CF), CFF⟩ ⟨(PySem.W.mg_of X G a_READY), fun H => .tup (RDY H) (.cons (.str _) .nil)⟩ ⟨⟨_, (PySem.W.mg_of X G n_ANSWERS)⟩, ⟨_, (PySem.W.mg_of X G n_PAGES)⟩, ⟨_, (PySem.W.mg_of X G n_RUNNING)⟩⟩ ⟨⟨_, (PySem.W.mg_of X G n_STATUSES)⟩⟩ nCC nMR (PySem.W.mg_of X G a_EFF) kE e_sleep e_get e_pass (PySem.W.mg_of X G a_fall_asleep) (PySem.W.mg_of X G a_get_frame) (PySem.W.mg_of X G a_do_nothing) nSG nSP nGP D_is_integer D_is_between D_is_index D_is_tuple D_is_list D_is_ascending D_counted D_word_of D_is_formed D_is_of_kind D_is_right D_is_call D_fit_as_numbers D_fit_as_row D_fit_as_rights D_fit_as_lines D_fit_as_costs D_fits_as_slot D_fits_as_outside D_fit_as_plan D_fit_as_tasks D_things_fault D_ways_fault D_flags_fault D_put D_make_call D_fall_asleep D_get_frame D_do_nothing D_turn_now D_turn_by_levels D_following D_candidates D_levels_now D_change D_opened D_finished D_letters_now D_check_task D_opened_with D_is_letter_now D_first D__law_cell D__law_digits D__law_same D__law_started D__law_queue D__law_turn D__law_stands M_Build_tasks M_Build_pages M_Build_ports M_Build_lines M_Build_locks M_Build_frames M_Build_disk M_Build_costs M_Build_outside M_Build_wipe M_Build_pad M_Build_lend M_Build_share M_Build_plan M_Build_sides M_Build_rights M_Rules_set_costs M_Rules_set_frames M_Rules_slot_ticks M_Rules_set_plan M_Rules_set_letters M_Rules_may_come M_Kernel_shape M_Kernel_seen M_Kernel_is_ready M_Kernel_settle M_Kernel_sleep_on M_Moment_build M_Moment_shape M_Moment_status M_Moment_answer M_Moment_running (PySem.W.mg_of X G a_Rules) ⟨mk_Rules, a_Rules___init__, i_Rules___init__, kc_Rules⟩ FR bR (PySem.W.mg_of X G a_Kernel) ⟨mk_Kernel, a_Kernel___init__, i_Kernel___init__, kc_Kernel⟩ FK bK (PySem.W.mg_of X G a_Moment) ⟨mk_Moment, a_Moment___init__, i_Moment___init__, kc_Moment⟩ FM bM (PySem.W.mg_of X G a_Build) ⟨mk_Build, a_Build___init__, i_Build___init__, kc_Build⟩ FB bB ⟨a_Moment_due, i_Moment_due, d_Moment_due.kp⟩ FD rD bD ⟨a_Moment_tick, i_Moment_tick, d_Moment_tick.kp⟩ FT bT rT bTd _ _ (fun_mk (st := s_law) ll lc lk)))) only [↓Hk.hold_s]
theorem walk {l : PySem.W.OpenLaw} {q : Program} {loose : List Str} {XP : (Str → Option Value) → Heap → Prop} {YP : World → Heap → Prop} {d : DefRec} {K : Params → PySem.W.Frag} (hn : l.most = some 63) (hdf : d.params.defaults = [])
    (hY : ∀ (w : World) (h : Heap), YP w h → (K w.params).In h)
    (F : ∀ (w : World) (mg : Str → Option Value) (fa : Addr) (h : Heap), (K w.params).In h → h.Ns mainGlobals mg → mg d.name = some (.ref fa) →
      ∃ fd : FuncData, (∀ (s : Shared) (u : Value), BindsTo s fd ⟨[u], []⟩ [("_law_script", u)]) ∧ ∀ base : Heap, (K w.params).In base → base.Ns mainGlobals mg → FnOk l.prog w (K w.params) mg base CX0 12 fa fd ["_law_script"] (spLaw (K w.params))) :
    PySem.W.WalkO q loose XP YP l.row.toRowW d [] (fun f vs => PySem.call f vs) :=
  L2.walk_of (n := 63) (k := 12) (x := "_law_script") (CX := fun _ => CX0) (sp := fun w => spLaw (K w.params)) hn (by decide) hdf ⟨rfl, by decide, by decide⟩ hY F (fun _ _ a ns hl _ hS => ⟨a, ns, rfl, hS, hl, fun _ => rfl⟩) fun _ _ _ _ _ z => z
end T
def PySem.W.Fast.tw4951956995848601504 : Unit := ()
def PySem.W.Fast.tw6990072611787755265 : Unit := ()
def PySem.W.Fast.tw2025735711989701346 : Unit := ()
def PySem.W.Fast.tw13942894371827628866 : Unit := ()
def PySem.W.Fast.tw6324445803209506339 : Unit := ()
def PySem.W.Fast.tw9549854596512076196 : Unit := ()
def PySem.W.Fast.tw2081264593564737988 : Unit := ()
def PySem.W.Fast.tw11234134423417691716 : Unit := ()
def PySem.W.Fast.tw13567475558973236036 : Unit := ()
def PySem.W.Fast.tw16087454573251051910 : Unit := ()
def PySem.W.Fast.tw15461359314168013478 : Unit := ()
def PySem.W.Fast.tw7625051162279280234 : Unit := ()
def PySem.W.Fast.tw5492365830261062507 : Unit := ()
def PySem.W.Fast.tw16043247842222432684 : Unit := ()
def PySem.W.Fast.tw1532536362326746764 : Unit := ()
def PySem.W.Fast.tw3079220202953578509 : Unit := ()
def PySem.W.Fast.tw11330650867815456942 : Unit := ()
def PySem.W.Fast.tw10670262717266174318 : Unit := ()
def PySem.W.Fast.tw8577229149702908015 : Unit := ()
def PySem.W.Fast.tw11762177089352089967 : Unit := ()
def PySem.W.Fast.tw19608561412849359 : Unit := ()
def PySem.W.Fast.tw10860766709566683664 : Unit := ()
def PySem.W.Fast.tw336396993705446320 : Unit := ()
def PySem.W.Fast.tw10291997013618726673 : Unit := ()
def PySem.W.Fast.tw11022354213292538737 : Unit := ()
def PySem.W.Fast.tw11981984663450869778 : Unit := ()
def PySem.W.Fast.tw13263902521679413362 : Unit := ()
def PySem.W.Fast.tw9303649725242692307 : Unit := ()
def PySem.W.Fast.tw11823568698369617620 : Unit := ()
def PySem.W.Fast.tw16950174181034558292 : Unit := ()
def PySem.W.Fast.tw6865429653269602485 : Unit := ()
def PySem.W.Fast.tw5940166734419580277 : Unit := ()
def PySem.W.Fast.tw10385613982286348054 : Unit := ()
def PySem.W.Fast.tw7263430774021407638 : Unit := ()
def PySem.W.Fast.tw1667362091501944023 : Unit := ()
def PySem.W.Fast.tw391919027571756695 : Unit := ()
def PySem.W.Fast.tw552950777577078968 : Unit := ()
def PySem.W.Fast.tw221260581335120184 : Unit := ()
def PySem.W.Fast.tw7154336233980348952 : Unit := ()
def PySem.W.Fast.tw10808560226402966136 : Unit := ()
def PySem.W.Fast.tw9395848226717087576 : Unit := ()
def PySem.W.Fast.tw2264393004349043576 : Unit := ()
def PySem.W.Fast.tw8720774897717028154 : Unit := ()
def PySem.W.Fast.tw17192595439191863259 : Unit := ()
def PySem.W.Fast.tw14788859057161495612 : Unit := ()
def PySem.W.Fast.tw15886747502498663132 : Unit := ()
def PySem.W.Fast.tw16097346114625439708 : Unit := ()
def PySem.W.Fast.tw9970219366000084988 : Unit := ()
def PySem.W.Fast.tw626367283332110525 : Unit := ()
def PySem.W.Fast.tw10827411862052722909 : Unit := ()
def PySem.W.Fast.tw5954452253618638109 : Unit := ()
def PySem.W.Fast.tw2934376201390576157 : Unit := ()
def PySem.W.Fast.tw8654704641871734270 : Unit := ()
def PySem.W.Fast.tw363487107779673694 : Unit := ()
def PySem.W.Fast.tw9050444964592399519 : Unit := ()

open PySem PySem.W PyProof.Rows
set_option maxRecDepth 100000 in
set_option maxHeartbeats 0 in
theorem PySem.Challenge.cw_hushkernel_k23_levels_in_turn_holds : PySem.Challenge.rw_hushkernel_k23_levels_in_turn.Holds := by
  w_on; o_law; k_head; (case hw => w_witness2)
  k_fill
  refine T.walk (l := PySem.Challenge.rw_hushkernel_k23_levels_in_turn) rfl rfl (fun w h Y => PySem.W.kIn_of Y) ?F
  case F =>
    intro w mg fa h KX G hmg
    refine' T.all_mk KX G hmg ?z_int ?z_str ?z_bool ?z_list ?z_tuple ?z_dict ?z_set ?z_len ?z_isinstance ?z_all ?z_any ?z_min ?z_max ?z_sorted ?z_range ?z_zip ?z_enumerate ?z_abs ?z_sum ?a_lcm ?a_RF ?RFF ?a_CF ?CFF ?a_READY ?RDY ?a_EFF ?kE ?e_sleep ?e_get ?e_pass ?nSG ?nSP ?nGP ?n_ANSWERS ?n_PAGES ?n_RUNNING ?n_STATUSES ?a_Build ?pg_Build ?hd_Build ?po_Build ?sa_Build ?mk_Build ?kc_Build ?a_Rules ?pg_Rules ?hd_Rules ?po_Rules ?sa_Rules ?mk_Rules ?kc_Rules ?a_Kernel ?pg_Kernel ?hd_Kernel ?po_Kernel ?sa_Kernel ?mk_Kernel ?kc_Kernel ?a_Moment ?pg_Moment ?hd_Moment ?po_Moment ?sa_Moment ?mk_Moment ?kc_Moment ?nCC ?nMR ?nB__parts ?nB_rules ?nR_task_count ?nR_levels ?nR_side_of ?nR_sizes ?nR_line_of ?nR_places ?nR_counts ?nR_wipes ?nR_pads ?nR_lends ?nR_plain ?nR_miss ?nR_switch ?nR_greatest ?nR_all_frames ?nR_side_frames ?nR_has_slots ?nR_span ?nR_slots ?nR_letter_port ?nR_every ?nR_period ?nK_rules ?nK_statuses ?nK_answers ?nK_owned ?nK_taken ?nK_values_now ?nK_queues ?nK_lock_rows ?nK_cached ?nK_place ?nK_runs ?nK_spent ?nK_busy ?nK_phase ?nK_turn ?nK_extra ?nM__build ?nM__shape ?a_is_integer ?d_is_integer ?a_is_between ?d_is_between ?a_is_index ?d_is_index ?a_is_tuple ?d_is_tuple ?a_is_list ?d_is_list ?a_is_ascending ?d_is_ascending ?a_counted ?d_counted ?a_word_of ?d_word_of ?a_is_formed ?d_is_formed ?a_is_of_kind ?d_is_of_kind ?a_is_right ?d_is_right ?a_is_call ?d_is_call ?a_fit_as_numbers ?d_fit_as_numbers ?a_fit_as_row ?d_fit_as_row ?a_fit_as_rights ?d_fit_as_rights ?a_fit_as_lines ?d_fit_as_lines ?a_fit_as_costs ?d_fit_as_costs ?a_fits_as_slot ?d_fits_as_slot ?a_fits_as_outside ?d_fits_as_outside ?a_fit_as_plan ?d_fit_as_plan ?a_fit_as_tasks ?d_fit_as_tasks ?a_things_fault ?d_things_fault ?a_ways_fault ?d_ways_fault ?a_flags_fault ?d_flags_fault ?a_put ?d_put ?a_make_call ?d_make_call ?a_fall_asleep ?d_fall_asleep ?a_get_frame ?d_get_frame ?a_do_nothing ?d_do_nothing ?a_turn_now ?d_turn_now ?a_turn_by_levels ?d_turn_by_levels ?a_following ?d_following ?a_candidates ?d_candidates ?a_levels_now ?d_levels_now ?a_change ?d_change ?a_opened ?d_opened ?a_finished ?d_finished ?a_letters_now ?d_letters_now ?a_check_task ?d_check_task ?a_opened_with ?d_opened_with ?a_is_letter_now ?d_is_letter_now ?a_first ?d_first ?a__law_cell ?d__law_cell ?a__law_digits ?d__law_digits ?a__law_same ?d__law_same ?a__law_started ?d__law_started ?a__law_queue ?d__law_queue ?a__law_turn ?d__law_turn ?a__law_stands ?d__law_stands ?a_law ?d_law ?a_Build___init__ ?i_Build___init__ ?d_Build___init__ ?kd_wipe ?kd_pad ?kd_lend ?kd_share ?a_Build_tasks ?i_Build_tasks ?d_Build_tasks ?a_Build_pages ?i_Build_pages ?d_Build_pages ?a_Build_ports ?i_Build_ports ?d_Build_ports ?a_Build_lines ?i_Build_lines ?d_Build_lines ?a_Build_locks ?i_Build_locks ?d_Build_locks ?a_Build_frames ?i_Build_frames ?d_Build_frames ?a_Build_disk ?i_Build_disk ?d_Build_disk ?a_Build_costs ?i_Build_costs ?d_Build_costs ?a_Build_outside ?i_Build_outside ?d_Build_outside ?a_Build_wipe ?i_Build_wipe ?d_Build_wipe ?a_Build_pad ?i_Build_pad ?d_Build_pad ?a_Build_lend ?i_Build_lend ?d_Build_lend ?a_Build_share ?i_Build_share ?d_Build_share ?a_Build_plan ?i_Build_plan ?d_Build_plan ?a_Build_sides ?i_Build_sides ?d_Build_sides ?a_Build_rights ?i_Build_rights ?d_Build_rights ?a_Rules___init__ ?i_Rules___init__ ?d_Rules___init__ ?a_Rules_set_costs ?i_Rules_set_costs ?d_Rules_set_costs ?a_Rules_set_frames ?i_Rules_set_frames ?d_Rules_set_frames ?a_Rules_slot_ticks ?i_Rules_slot_ticks ?d_Rules_slot_ticks ?a_Rules_set_plan ?i_Rules_set_plan ?d_Rules_set_plan ?a_Rules_set_letters ?i_Rules_set_letters ?d_Rules_set_letters ?a_Rules_may_come ?i_Rules_may_come ?d_Rules_may_come ?a_Kernel___init__ ?i_Kernel___init__ ?d_Kernel___init__ ?a_Kernel_shape ?i_Kernel_shape ?d_Kernel_shape ?a_Kernel_seen ?i_Kernel_seen ?d_Kernel_seen ?a_Kernel_is_ready ?i_Kernel_is_ready ?d_Kernel_is_ready ?a_Kernel_settle ?i_Kernel_settle ?d_Kernel_settle ?a_Kernel_sleep_on ?i_Kernel_sleep_on ?d_Kernel_sleep_on ?a_Moment___init__ ?i_Moment___init__ ?d_Moment___init__ ?a_Moment_build ?i_Moment_build ?d_Moment_build ?a_Moment_shape ?i_Moment_shape ?d_Moment_shape ?a_Moment_status ?i_Moment_status ?d_Moment_status ?a_Moment_answer ?i_Moment_answer ?d_Moment_answer ?a_Moment_running ?i_Moment_running ?d_Moment_running ?a_Moment_due ?i_Moment_due ?d_Moment_due ?a_Moment_tick ?i_Moment_tick ?d_Moment_tick
    (case z_int => k_is)
    (case z_str => k_is)
    (case z_bool => k_is)
    (case z_list => k_is)
    (case z_tuple => k_is)
    (case z_dict => k_is)
    (case z_set => k_is)
    (case z_len => k_is)
    (case z_isinstance => k_is)
    (case z_all => k_is)
    (case z_any => k_is)
    (case z_min => k_is)
    (case z_max => k_is)
    (case z_sorted => k_is)
    (case z_range => k_is)
    (case z_zip => k_is)
    (case z_enumerate => k_is)
    (case z_abs => k_is)
    (case z_sum => k_is)
    (case a_lcm => k_is)
    (case a_RF => k_is)
    (case RFF =>
      refine' T.forms_mk ?ffA ?ffB ?ffC ?ffD
      (case ffA => rfl)
      (case ffC => rfl)
      (case ffB => exact ⟨⟨_, _, rfl, rfl⟩, ⟨_, _, rfl, rfl⟩, ⟨_, _, rfl, rfl⟩, ⟨_, _, rfl, rfl⟩, ⟨_, _, rfl, rfl⟩, ⟨_, _, rfl, rfl⟩, ⟨_, _, rfl, rfl⟩, ⟨_, _, rfl, rfl⟩, trivial⟩)
      (case ffD => exact Paired.cons ⟨_, _, rfl, rfl, T.tupK (K := _) rfl rfl (show (1 : Nat) ≤ 100 by decide) (.cons ⟨_, rfl⟩ .nil)⟩ (Paired.cons ⟨_, _, rfl, rfl, T.tupK (K := _) rfl rfl (show (1 : Nat) ≤ 100 by decide) (.cons ⟨_, rfl⟩ .nil)⟩ (Paired.cons ⟨_, _, rfl, rfl, T.tupK (K := _) rfl rfl (show (1 : Nat) ≤ 100 by decide) (.cons ⟨_, rfl⟩ .nil)⟩ (Paired.cons ⟨_, _, rfl, rfl, T.tupK (K := _) rfl rfl (show (1 : Nat) ≤ 100 by decide) (.cons ⟨_, rfl⟩ .nil)⟩ (Paired.cons ⟨_, _, rfl, rfl, T.tupK (K := _) rfl rfl (show (1 : Nat) ≤ 100 by decide) (.cons ⟨_, rfl⟩ .nil)⟩ (Paired.cons ⟨_, _, rfl, rfl, T.tupK (K := _) rfl rfl (show (1 : Nat) ≤ 100 by decide) (.cons ⟨_, rfl⟩ .nil)⟩ (Paired.cons ⟨_, _, rfl, rfl, T.tupK (K := _) rfl rfl (show (1 : Nat) ≤ 100 by decide) (.cons ⟨_, rfl⟩ .nil)⟩ (Paired.cons ⟨_, _, rfl, rfl, T.tupK (K := _) rfl rfl (show (1 : Nat) ≤ 100 by decide) (.cons ⟨_, rfl⟩ .nil)⟩ (.nil))))))))))
    (case a_CF => k_is)
    (case CFF =>
      refine' T.forms_mk ?ffA ?ffB ?ffC ?ffD
      (case ffA => rfl)
      (case ffC => rfl)
      (case ffB => exact ⟨⟨_, _, rfl, rfl⟩, ⟨_, _, rfl, rfl⟩, ⟨_, _, rfl, rfl⟩, ⟨_, _, rfl, rfl⟩, ⟨_, _, rfl, rfl⟩, ⟨_, _, rfl, rfl⟩, ⟨_, _, rfl, rfl⟩, ⟨_, _, rfl, rfl⟩, ⟨_, _, rfl, rfl⟩, ⟨_, _, rfl, rfl⟩, ⟨_, _, rfl, rfl⟩, ⟨_, _, rfl, rfl⟩, ⟨_, _, rfl, rfl⟩, ⟨_, _, rfl, rfl⟩, trivial⟩)
      (case ffD => exact (Paired.cons ⟨_, _, rfl, rfl, T.tupK (K := _) rfl rfl (show (1 : Nat) ≤ 100 by decide) (.cons ⟨_, rfl⟩ .nil)⟩ (Paired.cons ⟨_, _, rfl, rfl, T.tupK (K := _) rfl rfl (show (2 : Nat) ≤ 100 by decide) (.cons ⟨_, rfl⟩ (.cons ⟨_, rfl⟩ .nil))⟩ (Paired.cons ⟨_, _, rfl, rfl, T.tupK (K := _) rfl rfl (show (2 : Nat) ≤ 100 by decide) (.cons ⟨_, rfl⟩ (.cons ⟨_, rfl⟩ .nil))⟩ (Paired.cons ⟨_, _, rfl, rfl, T.tupK (K := _) rfl rfl (show (1 : Nat) ≤ 100 by decide) (.cons ⟨_, rfl⟩ .nil)⟩ (Paired.cons ⟨_, _, rfl, rfl, T.tupK (K := _) rfl rfl (show (1 : Nat) ≤ 100 by decide) (.cons ⟨_, rfl⟩ .nil)⟩ (Paired.cons ⟨_, _, rfl, rfl, T.tupK (K := _) rfl rfl (show (1 : Nat) ≤ 100 by decide) (.cons ⟨_, rfl⟩ .nil)⟩ (Paired.cons ⟨_, _, rfl, rfl, T.tupK (K := _) rfl rfl (show (1 : Nat) ≤ 100 by decide) (.cons ⟨_, rfl⟩ .nil)⟩ (Paired.cons ⟨_, _, rfl, rfl, T.tupK (K := _) rfl rfl (show (2 : Nat) ≤ 100 by decide) (.cons ⟨_, rfl⟩ (.cons ⟨_, rfl⟩ .nil))⟩ (Paired.cons ⟨_, _, rfl, rfl, T.tupK (K := _) rfl rfl (show (2 : Nat) ≤ 100 by decide) (.cons ⟨_, rfl⟩ (.cons ⟨_, rfl⟩ .nil))⟩ (Paired.cons ⟨_, _, rfl, rfl, T.tupK (K := _) rfl rfl (show (1 : Nat) ≤ 100 by decide) (.cons ⟨_, rfl⟩ .nil)⟩ (Paired.cons ⟨_, _, rfl, rfl, T.tupK (K := _) rfl rfl (show (1 : Nat) ≤ 100 by decide) (.cons ⟨_, rfl⟩ .nil)⟩ (Paired.cons ⟨_, _, rfl, rfl, T.tupK (K := _) rfl rfl (show (0 : Nat) ≤ 100 by decide) .nil⟩ (Paired.cons ⟨_, _, rfl, rfl, T.tupK (K := _) rfl rfl (show (0 : Nat) ≤ 100 by decide) .nil⟩ (Paired.cons ⟨_, _, rfl, rfl, T.tupK (K := _) rfl rfl (show (0 : Nat) ≤ 100 by decide) .nil⟩ (.nil)))))))))))))))))
    (case a_READY => k_is)
    (case RDY => exact T.tupK (K := _) rfl rfl (show (1 : Nat) ≤ 100 by decide) (.cons ⟨_, rfl⟩ .nil))
    (case a_EFF => k_is)
    (case kE => exact ⟨_, _, rfl, ⟨⟨_, _, rfl, rfl⟩, ⟨_, _, rfl, rfl⟩, ⟨_, _, rfl, rfl⟩, ⟨_, _, rfl, rfl⟩, ⟨_, _, rfl, rfl⟩, ⟨_, _, rfl, rfl⟩, ⟨_, _, rfl, rfl⟩, ⟨_, _, rfl, rfl⟩, ⟨_, _, rfl, rfl⟩, ⟨_, _, rfl, rfl⟩, ⟨_, _, rfl, rfl⟩, ⟨_, _, rfl, rfl⟩, ⟨_, _, rfl, rfl⟩, ⟨_, _, rfl, rfl⟩, trivial⟩, rfl⟩)
    (case e_sleep => k_is)
    (case e_get => k_is)
    (case e_pass => k_is)
    (case n_ANSWERS => k_is)
    (case n_PAGES => k_is)
    (case n_RUNNING => k_is)
    (case n_STATUSES => k_is)
    (case a_Build => k_is)
    (case pg_Build => k_is)
    (case hd_Build => k_is)
    (case po_Build => k_is)
    (case sa_Build => k_is)
    (case mk_Build => k_is)
    (case kc_Build => k_is)
    (case a_Rules => k_is)
    (case pg_Rules => k_is)
    (case hd_Rules => k_is)
    (case po_Rules => k_is)
    (case sa_Rules => k_is)
    (case mk_Rules => k_is)
    (case kc_Rules => k_is)
    (case a_Kernel => k_is)
    (case pg_Kernel => k_is)
    (case hd_Kernel => k_is)
    (case po_Kernel => k_is)
    (case sa_Kernel => k_is)
    (case mk_Kernel => k_is)
    (case kc_Kernel => k_is)
    (case a_Moment => k_is)
    (case pg_Moment => k_is)
    (case hd_Moment => k_is)
    (case po_Moment => k_is)
    (case sa_Moment => k_is)
    (case mk_Moment => k_is)
    (case kc_Moment => k_is)
    (case nB__parts => k_is)
    (case nB_rules => k_is)
    (case nR_task_count => k_is)
    (case nR_levels => k_is)
    (case nR_side_of => k_is)
    (case nR_sizes => k_is)
    (case nR_line_of => k_is)
    (case nR_places => k_is)
    (case nR_counts => k_is)
    (case nR_wipes => k_is)
    (case nR_pads => k_is)
    (case nR_lends => k_is)
    (case nR_plain => k_is)
    (case nR_miss => k_is)
    (case nR_switch => k_is)
    (case nR_greatest => k_is)
    (case nR_all_frames => k_is)
    (case nR_side_frames => k_is)
    (case nR_has_slots => k_is)
    (case nR_span => k_is)
    (case nR_slots => k_is)
    (case nR_letter_port => k_is)
    (case nR_every => k_is)
    (case nR_period => k_is)
    (case nK_rules => k_is)
    (case nK_statuses => k_is)
    (case nK_answers => k_is)
    (case nK_owned => k_is)
    (case nK_taken => k_is)
    (case nK_values_now => k_is)
    (case nK_queues => k_is)
    (case nK_lock_rows => k_is)
    (case nK_cached => k_is)
    (case nK_place => k_is)
    (case nK_runs => k_is)
    (case nK_spent => k_is)
    (case nK_busy => k_is)
    (case nK_phase => k_is)
    (case nK_turn => k_is)
    (case nK_extra => k_is)
    (case nM__build => k_is)
    (case nM__shape => k_is)
    (case a_is_integer => k_is)
    (case d_is_integer => refine' T.DefF.mk' ?l ?c ?k; (case l => k_is); (case c => k_is); (case k => k_is))
    (case a_is_between => k_is)
    (case d_is_between => refine' T.DefF.mk' ?l ?c ?k; (case l => k_is); (case c => k_is); (case k => k_is))
    (case a_is_index => k_is)
    (case d_is_index => refine' T.DefF.mk' ?l ?c ?k; (case l => k_is); (case c => k_is); (case k => k_is))
    (case a_is_tuple => k_is)
    (case d_is_tuple => refine' T.DefF.mk' ?l ?c ?k; (case l => k_is); (case c => k_is); (case k => k_is))
    (case a_is_list => k_is)
    (case d_is_list => refine' T.DefF.mk' ?l ?c ?k; (case l => k_is); (case c => k_is); (case k => k_is))
    (case a_is_ascending => k_is)
    (case d_is_ascending => refine' T.DefF.mk' ?l ?c ?k; (case l => k_is); (case c => k_is); (case k => k_is))
    (case a_counted => k_is)
    (case d_counted => refine' T.DefF.mk' ?l ?c ?k; (case l => k_is); (case c => k_is); (case k => k_is))
    (case a_word_of => k_is)
    (case d_word_of => refine' T.DefF.mk' ?l ?c ?k; (case l => k_is); (case c => k_is); (case k => k_is))
    (case a_is_formed => k_is)
    (case d_is_formed => refine' T.DefF.mk' ?l ?c ?k; (case l => k_is); (case c => k_is); (case k => k_is))
    (case a_is_of_kind => k_is)
    (case d_is_of_kind => refine' T.DefF.mk' ?l ?c ?k; (case l => k_is); (case c => k_is); (case k => k_is))
    (case a_is_right => k_is)
    (case d_is_right => refine' T.DefF.mk' ?l ?c ?k; (case l => k_is); (case c => k_is); (case k => k_is))
    (case a_is_call => k_is)
    (case d_is_call => refine' T.DefF.mk' ?l ?c ?k; (case l => k_is); (case c => k_is); (case k => k_is))
    (case a_fit_as_numbers => k_is)
    (case d_fit_as_numbers => refine' T.DefF.mk' ?l ?c ?k; (case l => k_is); (case c => k_is); (case k => k_is))
    (case a_fit_as_row => k_is)
    (case d_fit_as_row => refine' T.DefF.mk' ?l ?c ?k; (case l => k_is); (case c => k_is); (case k => k_is))
    (case a_fit_as_rights => k_is)
    (case d_fit_as_rights => refine' T.DefF.mk' ?l ?c ?k; (case l => k_is); (case c => k_is); (case k => k_is))
    (case a_fit_as_lines => k_is)
    (case d_fit_as_lines => refine' T.DefF.mk' ?l ?c ?k; (case l => k_is); (case c => k_is); (case k => k_is))
    (case a_fit_as_costs => k_is)
    (case d_fit_as_costs => refine' T.DefF.mk' ?l ?c ?k; (case l => k_is); (case c => k_is); (case k => k_is))
    (case a_fits_as_slot => k_is)
    (case d_fits_as_slot => refine' T.DefF.mk' ?l ?c ?k; (case l => k_is); (case c => k_is); (case k => k_is))
    (case a_fits_as_outside => k_is)
    (case d_fits_as_outside => refine' T.DefF.mk' ?l ?c ?k; (case l => k_is); (case c => k_is); (case k => k_is))
    (case a_fit_as_plan => k_is)
    (case d_fit_as_plan => refine' T.DefF.mk' ?l ?c ?k; (case l => k_is); (case c => k_is); (case k => k_is))
    (case a_fit_as_tasks => k_is)
    (case d_fit_as_tasks => refine' T.DefF.mk' ?l ?c ?k; (case l => k_is); (case c => k_is); (case k => k_is))
    (case a_things_fault => k_is)
    (case d_things_fault => refine' T.DefF.mk' ?l ?c ?k; (case l => k_is); (case c => k_is); (case k => k_is))
    (case a_ways_fault => k_is)
    (case d_ways_fault => refine' T.DefF.mk' ?l ?c ?k; (case l => k_is); (case c => k_is); (case k => k_is))
    (case a_flags_fault => k_is)
    (case d_flags_fault => refine' T.DefF.mk' ?l ?c ?k; (case l => k_is); (case c => k_is); (case k => k_is))
    (case a_put => k_is)
    (case d_put => refine' T.DefF.mk' ?l ?c ?k; (case l => k_is); (case c => k_is); (case k => k_is))
    (case a_make_call => k_is)
    (case d_make_call => refine' T.DefF.mk' ?l ?c ?k; (case l => k_is); (case c => k_is); (case k => k_is))
    (case a_fall_asleep => k_is)
    (case d_fall_asleep => refine' T.DefF.mk' ?l ?c ?k; (case l => k_is); (case c => k_is); (case k => k_is))
    (case a_get_frame => k_is)
    (case d_get_frame => refine' T.DefF.mk' ?l ?c ?k; (case l => k_is); (case c => k_is); (case k => k_is))
    (case a_do_nothing => k_is)
    (case d_do_nothing => refine' T.DefF.mk' ?l ?c ?k; (case l => k_is); (case c => k_is); (case k => k_is))
    (case a_turn_now => k_is)
    (case d_turn_now => refine' T.DefF.mk' ?l ?c ?k; (case l => k_is); (case c => k_is); (case k => k_is))
    (case a_turn_by_levels => k_is)
    (case d_turn_by_levels => refine' T.DefF.mk' ?l ?c ?k; (case l => k_is); (case c => k_is); (case k => k_is))
    (case a_following => k_is)
    (case d_following => refine' T.DefF.mk' ?l ?c ?k; (case l => k_is); (case c => k_is); (case k => k_is))
    (case a_candidates => k_is)
    (case d_candidates => refine' T.DefF.mk' ?l ?c ?k; (case l => k_is); (case c => k_is); (case k => k_is))
    (case a_levels_now => k_is)
    (case d_levels_now => refine' T.DefF.mk' ?l ?c ?k; (case l => k_is); (case c => k_is); (case k => k_is))
    (case a_change => k_is)
    (case d_change => refine' T.DefF.mk' ?l ?c ?k; (case l => k_is); (case c => k_is); (case k => k_is))
    (case a_opened => k_is)
    (case d_opened => refine' T.DefF.mk' ?l ?c ?k; (case l => k_is); (case c => k_is); (case k => k_is))
    (case a_finished => k_is)
    (case d_finished => refine' T.DefF.mk' ?l ?c ?k; (case l => k_is); (case c => k_is); (case k => k_is))
    (case a_letters_now => k_is)
    (case d_letters_now => refine' T.DefF.mk' ?l ?c ?k; (case l => k_is); (case c => k_is); (case k => k_is))
    (case a_check_task => k_is)
    (case d_check_task => refine' T.DefF.mk' ?l ?c ?k; (case l => k_is); (case c => k_is); (case k => k_is))
    (case a_opened_with => k_is)
    (case d_opened_with => refine' T.DefF.mk' ?l ?c ?k; (case l => k_is); (case c => k_is); (case k => k_is))
    (case a_is_letter_now => k_is)
    (case d_is_letter_now => refine' T.DefF.mk' ?l ?c ?k; (case l => k_is); (case c => k_is); (case k => k_is))
    (case a_first => k_is)
    (case d_first => refine' T.DefF.mk' ?l ?c ?k; (case l => k_is); (case c => k_is); (case k => k_is))
    (case a__law_cell => k_is)
    (case d__law_cell => refine' T.DefF.mk' ?l ?c ?k; (case l => k_is); (case c => k_is); (case k => k_is))
    (case a__law_digits => k_is)
    (case d__law_digits => refine' T.DefF.mk' ?l ?c ?k; (case l => k_is); (case c => k_is); (case k => k_is))
    (case a__law_same => k_is)
    (case d__law_same => refine' T.DefF.mk' ?l ?c ?k; (case l => k_is); (case c => k_is); (case k => k_is))
    (case a__law_started => k_is)
    (case d__law_started => refine' T.DefF.mk' ?l ?c ?k; (case l => k_is); (case c => k_is); (case k => k_is))
    (case a__law_queue => k_is)
    (case d__law_queue => refine' T.DefF.mk' ?l ?c ?k; (case l => k_is); (case c => k_is); (case k => k_is))
    (case a__law_turn => k_is)
    (case d__law_turn => refine' T.DefF.mk' ?l ?c ?k; (case l => k_is); (case c => k_is); (case k => k_is))
    (case a__law_stands => k_is)
    (case d__law_stands => refine' T.DefF.mk' ?l ?c ?k; (case l => k_is); (case c => k_is); (case k => k_is))
    (case a_law => k_is)
    (case d_law => refine' T.DefF.mk' ?l ?c ?k; (case l => k_is); (case c => k_is); (case k => k_is))
    (case a_Build___init__ => k_is)
    (case i_Build___init__ => k_is)
    (case d_Build___init__ => refine' T.DefK.mk' ?l ?c ?k; (case l => k_is); (case c => k_is); (case k => k_is))
    (case kd_wipe => k_is)
    (case kd_pad => k_is)
    (case kd_lend => k_is)
    (case kd_share => k_is)
    (case a_Build_tasks => k_is)
    (case i_Build_tasks => k_is)
    (case d_Build_tasks => refine' T.DefF.mk' ?l ?c ?k; (case l => k_is); (case c => k_is); (case k => k_is))
    (case a_Build_pages => k_is)
    (case i_Build_pages => k_is)
    (case d_Build_pages => refine' T.DefF.mk' ?l ?c ?k; (case l => k_is); (case c => k_is); (case k => k_is))
    (case a_Build_ports => k_is)
    (case i_Build_ports => k_is)
    (case d_Build_ports => refine' T.DefF.mk' ?l ?c ?k; (case l => k_is); (case c => k_is); (case k => k_is))
    (case a_Build_lines => k_is)
    (case i_Build_lines => k_is)
    (case d_Build_lines => refine' T.DefF.mk' ?l ?c ?k; (case l => k_is); (case c => k_is); (case k => k_is))
    (case a_Build_locks => k_is)
    (case i_Build_locks => k_is)
    (case d_Build_locks => refine' T.DefF.mk' ?l ?c ?k; (case l => k_is); (case c => k_is); (case k => k_is))
    (case a_Build_frames => k_is)
    (case i_Build_frames => k_is)
    (case d_Build_frames => refine' T.DefF.mk' ?l ?c ?k; (case l => k_is); (case c => k_is); (case k => k_is))
    (case a_Build_disk => k_is)
    (case i_Build_disk => k_is)
    (case d_Build_disk => refine' T.DefF.mk' ?l ?c ?k; (case l => k_is); (case c => k_is); (case k => k_is))
    (case a_Build_costs => k_is)
    (case i_Build_costs => k_is)
    (case d_Build_costs => refine' T.DefF.mk' ?l ?c ?k; (case l => k_is); (case c => k_is); (case k => k_is))
    (case a_Build_outside => k_is)
    (case i_Build_outside => k_is)
    (case d_Build_outside => refine' T.DefF.mk' ?l ?c ?k; (case l => k_is); (case c => k_is); (case k => k_is))
    (case a_Build_wipe => k_is)
    (case i_Build_wipe => k_is)
    (case d_Build_wipe => refine' T.DefF.mk' ?l ?c ?k; (case l => k_is); (case c => k_is); (case k => k_is))
    (case a_Build_pad => k_is)
    (case i_Build_pad => k_is)
    (case d_Build_pad => refine' T.DefF.mk' ?l ?c ?k; (case l => k_is); (case c => k_is); (case k => k_is))
    (case a_Build_lend => k_is)
    (case i_Build_lend => k_is)
    (case d_Build_lend => refine' T.DefF.mk' ?l ?c ?k; (case l => k_is); (case c => k_is); (case k => k_is))
    (case a_Build_share => k_is)
    (case i_Build_share => k_is)
    (case d_Build_share => refine' T.DefF.mk' ?l ?c ?k; (case l => k_is); (case c => k_is); (case k => k_is))
    (case a_Build_plan => k_is)
    (case i_Build_plan => k_is)
    (case d_Build_plan => refine' T.DefF.mk' ?l ?c ?k; (case l => k_is); (case c => k_is); (case k => k_is))
    (case a_Build_sides => k_is)
    (case i_Build_sides => k_is)
    (case d_Build_sides => refine' T.DefF.mk' ?l ?c ?k; (case l => k_is); (case c => k_is); (case k => k_is))
    (case a_Build_rights => k_is)
    (case i_Build_rights => k_is)
    (case d_Build_rights => refine' T.DefF.mk' ?l ?c ?k; (case l => k_is); (case c => k_is); (case k => k_is))
    (case a_Rules___init__ => k_is)
    (case i_Rules___init__ => k_is)
    (case d_Rules___init__ => refine' T.DefF.mk' ?l ?c ?k; (case l => k_is); (case c => k_is); (case k => k_is))
    (case a_Rules_set_costs => k_is)
    (case i_Rules_set_costs => k_is)
    (case d_Rules_set_costs => refine' T.DefF.mk' ?l ?c ?k; (case l => k_is); (case c => k_is); (case k => k_is))
    (case a_Rules_set_frames => k_is)
    (case i_Rules_set_frames => k_is)
    (case d_Rules_set_frames => refine' T.DefF.mk' ?l ?c ?k; (case l => k_is); (case c => k_is); (case k => k_is))
    (case a_Rules_slot_ticks => k_is)
    (case i_Rules_slot_ticks => k_is)
    (case d_Rules_slot_ticks => refine' T.DefF.mk' ?l ?c ?k; (case l => k_is); (case c => k_is); (case k => k_is))
    (case a_Rules_set_plan => k_is)
    (case i_Rules_set_plan => k_is)
    (case d_Rules_set_plan => refine' T.DefF.mk' ?l ?c ?k; (case l => k_is); (case c => k_is); (case k => k_is))
    (case a_Rules_set_letters => k_is)
    (case i_Rules_set_letters => k_is)
    (case d_Rules_set_letters => refine' T.DefF.mk' ?l ?c ?k; (case l => k_is); (case c => k_is); (case k => k_is))
    (case a_Rules_may_come => k_is)
    (case i_Rules_may_come => k_is)
    (case d_Rules_may_come => refine' T.DefF.mk' ?l ?c ?k; (case l => k_is); (case c => k_is); (case k => k_is))
    (case a_Kernel___init__ => k_is)
    (case i_Kernel___init__ => k_is)
    (case d_Kernel___init__ => refine' T.DefF.mk' ?l ?c ?k; (case l => k_is); (case c => k_is); (case k => k_is))
    (case a_Kernel_shape => k_is)
    (case i_Kernel_shape => k_is)
    (case d_Kernel_shape => refine' T.DefF.mk' ?l ?c ?k; (case l => k_is); (case c => k_is); (case k => k_is))
    (case a_Kernel_seen => k_is)
    (case i_Kernel_seen => k_is)
    (case d_Kernel_seen => refine' T.DefF.mk' ?l ?c ?k; (case l => k_is); (case c => k_is); (case k => k_is))
    (case a_Kernel_is_ready => k_is)
    (case i_Kernel_is_ready => k_is)
    (case d_Kernel_is_ready => refine' T.DefF.mk' ?l ?c ?k; (case l => k_is); (case c => k_is); (case k => k_is))
    (case a_Kernel_settle => k_is)
    (case i_Kernel_settle => k_is)
    (case d_Kernel_settle => refine' T.DefF.mk' ?l ?c ?k; (case l => k_is); (case c => k_is); (case k => k_is))
    (case a_Kernel_sleep_on => k_is)
    (case i_Kernel_sleep_on => k_is)
    (case d_Kernel_sleep_on => refine' T.DefF.mk' ?l ?c ?k; (case l => k_is); (case c => k_is); (case k => k_is))
    (case a_Moment___init__ => k_is)
    (case i_Moment___init__ => k_is)
    (case d_Moment___init__ => refine' T.DefF.mk' ?l ?c ?k; (case l => k_is); (case c => k_is); (case k => k_is))
    (case a_Moment_build => k_is)
    (case i_Moment_build => k_is)
    (case d_Moment_build => refine' T.DefF.mk' ?l ?c ?k; (case l => k_is); (case c => k_is); (case k => k_is))
    (case a_Moment_shape => k_is)
    (case i_Moment_shape => k_is)
    (case d_Moment_shape => refine' T.DefF.mk' ?l ?c ?k; (case l => k_is); (case c => k_is); (case k => k_is))
    (case a_Moment_status => k_is)
    (case i_Moment_status => k_is)
    (case d_Moment_status => refine' T.DefF.mk' ?l ?c ?k; (case l => k_is); (case c => k_is); (case k => k_is))
    (case a_Moment_answer => k_is)
    (case i_Moment_answer => k_is)
    (case d_Moment_answer => refine' T.DefF.mk' ?l ?c ?k; (case l => k_is); (case c => k_is); (case k => k_is))
    (case a_Moment_running => k_is)
    (case i_Moment_running => k_is)
    (case d_Moment_running => refine' T.DefF.mk' ?l ?c ?k; (case l => k_is); (case c => k_is); (case k => k_is))
    (case a_Moment_due => k_is)
    (case i_Moment_due => k_is)
    (case d_Moment_due => refine' T.DefP.mk' ?l ?c ?k ?dd; (case l => k_is); (case c => k_is); (case k => k_is); (case dd => exact Or.inr ⟨by simp, _, _, _, _, rfl, rfl, rfl, (.cons rfl .nil)⟩))
    (case a_Moment_tick => k_is)
    (case i_Moment_tick => k_is)
    (case d_Moment_tick => refine' T.DefP.mk' ?l ?c ?k ?dd; (case l => k_is); (case c => k_is); (case k => k_is); (case dd => exact Or.inr ⟨by simp, _, _, _, _, rfl, rfl, rfl, (.cons rfl (.cons rfl .nil))⟩))
    (case nSG => decide)
    (case nSP => decide)
    (case nGP => decide)
    (case nCC => decide)
    (case nMR => decide)
