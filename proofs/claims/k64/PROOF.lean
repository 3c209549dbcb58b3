import PyProof.Rows.All
import Wide.All
import OpenK.AllK
import Wide.FinOn
import PyProof.EqAt
import PyProof.EqKinds
import PyProof.TupleCall
import HandS.Base
import HandS.Call
import HandS.List
import HandS.Dict
import HandS.Set
import HandS.SetFor
import HandS.TupLe
import HandS.Words
import HandS.Strs
import KE.KMathG
import PyProof.Rows.SetFrom
import HandS.Comp
import HandS.Iter
import HandS.Zip
import HandS.Wide
import HandS.Conv
import HandS.IsInst
import HandS.Ends
import HandS.Walk
import HandS.Evl
import HandS.WordsList
import HandS.WordsDict
import HandS.Gcd
import HandS.MakeKwOnly
import HandS.TupAny
import HandS.More
import PySem.Challenge.RW_hushkernel_k64_cures_together
import HandS.HotCalls
import HandS.ExcInit
import HandS.ExcIs
import HandS.ExcField
import HandS.Exc
import KE.KExcIs
import HandS.ExcOwn
import HandS.WordsExc
import PyProof.FString5
import HandS.DeepEq
import HandS.OwnEq
import KE.DataEq
import HandS.NoneIn
import KE.GoesMore
import KE.GoesEnum
import HandS.SortOrd
import HandS.ExcValue
import PyProof.TupleOfSeq
import KE.KSortTupAny
import HandS.Deep
import KE.DataFind
import KE.DataMinMax
import KE.KTupSum
import PyProof.Rows.CallKwBuiltin
import PyProof.ReprRoads
import HandS.Codes
import HandS.Small
import HandS.TryOnly
import HandS.TryMany
import HandS.CallSlots
theorem Hk.disch {P : Prop} (h : P) : P := h
def Hk.Hold (P : Prop) : Prop := P
theorem Hk.hold {P : Prop} (h : Hk.Hold P) : P := h
theorem Hk.hold_s {P : Prop} (h : P) : Hk.Hold P = True := eq_true h
set_option Elab.async false
set_option linter.all false
set_option maxRecDepth 100000
set_option maxHeartbeats 4000000
namespace Hk
open PySem PySem.Spec PyProof.Rows L2
section
variable {X : Cx}
def rLcm : List V → Hp → VK → Prop := fun vs H Q => ∃ a b : Int, vs = [.int a, .int b] ∧ 0 < a ∧ a < 1000 ∧ 0 < b ∧ b < 1000 ∧ Q (.int ((Nat.lcm a.natAbs b.natAbs : Nat) : Int)) H
theorem lcm_small {n : Nat} (h : n < 1000000) : ((n : Nat) : Int).natAbs.log2 < bitsLine := by
  show n.log2 < bitsLine
  by_cases h0 : n = 0
  · subst h0; decide
  · have : n.log2 < 20 := (Nat.log2_lt h0).2 (by omega)
    exact Nat.lt_trans this (by decide)
theorem cr_lcm : CallR X (.builtin "math.lcm") rLcm := by
 refine Hk.hold ?_
 simp (disch := with_unfolding_all (
 exact Hk.disch (by
  rintro pins s σ H vs us Q I r ⟨a, b, rfl, a0, a1, b0, b1, q⟩
  obtain ⟨t, u, rfl⟩ := Vals.int2 r
  have e : (Nat.lcm 1 a.natAbs).lcm b.natAbs = a.natAbs.lcm b.natAbs := by rw [Nat.lcm_one_left]
  have hb : a.natAbs.lcm b.natAbs < 1000000 := by
    have h1 : a.natAbs.lcm b.natAbs ≤ a.natAbs * b.natAbs := by
      unfold Nat.lcm; exact Nat.div_le_self _ _
    have h2 : a.natAbs * b.natAbs ≤ 999 * 999 := Nat.mul_le_mul (by omega) (by omega)
    omega
  refine PySem.W.mg_lcm_v (c := ((Nat.lcm a.natAbs b.natAbs : Nat) : Int)) (by omega) (by omega) (by rw [e]) (lcm_small hb) ⟨.int _, H, I.tok _, ⟨_, rfl⟩, q⟩))) only [↓Hk.hold_s]
def gFld (K : PySem.W.Frag) (ta : TE) (f : Str) : TG := fun v σ H Q => ta σ H fun x H2 => ∃ a C dx fs, x = .ref a ∧ H2 a = some (.ins C dx fs) ∧ Cls K C ∧ NoAttr K C f ∧ fs.length < 1000 ∧ Q σ (upd H2 a (.ins C dx (putF f v fs)))
theorem pg_fld {o : Expr} {f : Str} {pos : Pos} {ta : TE} (ho : PE X o ta) : PG X (.Attribute o f pos) (gFld X.K ta f) := by
  refine ⟨fun pins s σ H v u Q I r h => ?_⟩
  rw [arm_assign_Attribute]
  refine wpAny_bind (wpAny_holding (thn (ho.run pins s σ H _ I h) fun ov s1 hh => ?_))
  obtain ⟨x, H1, I1, rx, a, C, dx, fs, ex, ea, c, n, l, q⟩ := hh
  subst ex
  obtain rfl : ov = Value.ref a := rx
  refine wpAny_bind (wpAny_standAt (wpAny_bind (wpAny_holding ?_)))
  exact setattr_ok I1 ea c n l r fun s3 I3 => wpAny_release ⟨σ, _, I3, q⟩
def ltWI (a b : Str × Int) : Bool := if a.1 = b.1 then decide (a.2 < b.2) else decide (a.1.cps.toList < b.1.cps.toList)
def rLtWI (K : PySem.W.Frag) : R2 := fun x y H Q => ∃ (a b : Addr) (p q : Str × Int), x = .ref a ∧ y = .ref b ∧ SqT K H a [.str p.1, .int p.2] ∧ SqT K H b [.str q.1, .int q.2] ∧ Q (.bl (ltWI p q)) H
theorem op_ltWI (hu : X.A.units < cLine) : OpR X (compareOp .Lt) (rLtWI X.K) := by
 refine Hk.hold ?_
 simp (disch := with_unfolding_all (
 exact Hk.disch (by
  intro pins s σ H x y v u Q I rx ry h
  obtain ⟨a, b, ⟨w1, i1⟩, ⟨w2, i2⟩, rfl, rfl, ha, hb, q⟩ := h
  cases rx
  cases ry
  obtain ⟨its, r1, p1, _⟩ := I.tuple ha
  obtain ⟨its2, r2, p2, _⟩ := I.tuple hb
  cases r1 with
  | cons c1 r1 => cases r1 with
    | cons c2 r1 => cases r1; cases r2 with
      | cons c3 r2 => cases r2 with
        | cons c4 r2 =>
          cases r2
          obtain ⟨t1, rfl⟩ := c1
          obtain ⟨t2, rfl⟩ := c2
          obtain ⟨t3, rfl⟩ := c3
          obtain ⟨t4, rfl⟩ := c4
          have key := Ob.RcOp.tuples_lt (A := X.A) (s := s) (e := fun j => if j = 0 then (w1 == w2) else (i1 == i2))
            (r := fun j => if j = 0 then decide (w1.cps.toList < w2.cps.toList) else decide (i1 < i2)) p1 p2 hu ?_ ?_
          · have e : Ob.lexAt (fun j => if j = 0 then (w1 == w2) else (i1 == i2)) (fun j => if j = 0 then decide (w1.cps.toList < w2.cps.toList) else decide (i1 < i2)) (decide (2 < 2)) 0 2 = ltWI (w1, i1) (w2, i2) := by
              unfold ltWI
              rw [Ob.lexAt_succ, Ob.lexAt_succ, Ob.lexAt_zero]
              by_cases e1 : w1 = w2
              · subst e1
                by_cases e2 : i1 = i2
                · subst e2; simp
                · simp [e2]
              · simp [e1]
            exact key X.prog X.w _ _ ⟨.bl (ltWI (w1, i1) (w2, i2)), H, I, by rw [← e]; rfl, q⟩
          · intro j h1 h2
            match j, h1 with
            | 0, _ => exact SeqAt.EqAt.str_str w1 t1 w2 t3
            | 1, _ => exact SeqAt.EqAt.int_int i1 t2 i2 t4
          · intro j h1 h2 _
            match j, h1 with
            | 0, _ => exact fun _ _ _ _ z => PyProof.Rows.lt_str z
            | 1, _ => exact fun _ _ _ _ z => PyProof.Rows.lt_int z))) only [↓Hk.hold_s]
def rSetOfL (K : PySem.W.Frag) (w : World) : List V → Hp → VK → Prop := fun xs H Q => ∃ (l : Addr) (ns : List Int), xs = [.ref l] ∧ SqL K H l (ns.map V.int) ∧ ns.length < 60 ∧
  ∀ a n, H a = none → n ≤ ns.length → Q (.ref a) (upd H a (SetO w a (fun j => decide (j ∈ ns)) n))
end
end Hk
set_option Elab.async false
set_option linter.all false
set_option maxRecDepth 100000
set_option maxHeartbeats 4000000
namespace PySem
open PyProof.Rows L2
/-- a set that stands empty and new -/
abbrev hkFresh (w : World) : Obj := { cls := .type "set", dict := none, data := .set #[] 0 (.fresh 0 0 (!w.params.followText "set-order")) }
section
variable {P : Program} {w : World} {A : Around} {E : Value → Shared → Prop} {s : Shared}
set_option maxRecDepth 100000 in
set_option maxHeartbeats 3200000 in
/-- set(xs), xs a list of ints, as a set whose order is known -/
theorem hk_set_list {l : Addr} {xs : Array Value} (ns : List Int) {Q : Value → Shared → Prop} (hnd : A.handled = none) (isl : s.heap.IsList l xs) (hin : IntsAre xs.toList ns) (few : ns.length + 1 < scanBound)
    (k : ∀ (h2 : Heap) (tk c : Nat), SetR w h2 s.heap.objs.size (fun j => decide (j ∈ ns)) c → c ≤ ns.length → (∀ b o, s.heap.get? b = some o → h2.get? b = some o) → Q (.ref s.heap.objs.size) { s with heap := h2, toks := tk }) :
    wpAny (model P w) A (call (.type "set") [.ref l]) Q E s := by
 refine Hk.hold ?_
 simp (disch := with_unfolding_all (
 exact Hk.disch (by
  have nsz : xs.size = ns.length := by have z := IntsAre.length hin; rwa [Array.length_toList] at z
  obtain ⟨_, _, hm0⟩ := F.called_set.mro
  have hm1 := F.called_set.made
  have hm2 := F.called_set.sub
  refine wpAny_call (codeAny_of_tree ?_)
  show wpAny _ _ (callAny (.type "set") _) _ _ _
  refine wpAny_pure ⟨Code.quiet_builtin _ (by decide +kernel), codeAny_builtin F.entry_type_call ?_⟩
  rw [Around.under_plain (weight_type_call_type "set" [.ref l] []) rfl]
  have a1 := F.called_set.notType
  have a2 := F.called_set.canCreate
  have a3 := F.typeCall_set_1 (.ref l)
  repeat any_goals (first | assumption | wp_step)
  refine codeAny_mono (code_set_led1 (.ref l) (E := E) (Q₁ := fun v s1 => v = .ref s.heap.objs.size ∧ s1 = { s with heap := s.heap.push (hkFresh w) }) ⟨rfl, rfl⟩) fun r1 s1 h1 => ?_
  match r1, h1 with
  | .error _, h1 => exact h1
  | .ok .next, h1 | .ok .brk, h1 | .ok .cont, h1 => exact h1.elim
  | .ok (.ret v), h1 =>
    obtain ⟨rfl, rfl⟩ := h1
    have fr : (s.heap.push (hkFresh w)).get? s.heap.objs.size = some (hkFresh w) := Heap.get?_push_size _ rfl
    have ty : Shared.TypeIs { s with heap := s.heap.push (hkFresh w) } (.ref s.heap.objs.size) "set" := ⟨_, fr, rfl⟩
    have b1 := F.called_set.init.lookup
    have b2 := F.called_set.init.bind (.ref s.heap.objs.size)
    repeat any_goals (first | assumption | wp_step)
    refine codeAny_mono (codeAny_call_builtin (R := wants (fun r s2 => r = .none ∧ ∃ h2 tk c, s2 = { s with heap := h2, toks := tk } ∧ SetR w h2 s.heap.objs.size (fun j => decide (j ∈ ns)) c ∧ c ≤ ns.length ∧
      (∀ b o, s.heap.get? b = some o → h2.get? b = some o)) E) F.called_set.init.plain F.entry_set_init (check_set_init_1 ty ?_)) fun r2 s2 h2 => ?_
    · obtain ⟨⟨oc, od, oda, osl⟩, hol, hcl, nl, hdl⟩ := isl
      dsimp only at hcl hdl
      subst hcl hdl
      have hol2 : (s.heap.push (hkFresh w)).get? l = some { cls := .type "list", dict := od, data := .seq xs nl, slots := osl } := Heap.get?_push_of_some _ hol
      have c1 := F.sub_list_set
      have c2 := F.sub_list_frozenset
      have c3 : (Value.type "list" == Value.type "dict") = false := by decide
      have il : (s.heap.push (hkFresh w)).IsList l xs := ⟨_, hol2, rfl, nl, rfl⟩
      unfold Builtin.«set.__init__» noKeywords Builtin.Frozenset.updateFrom
      generalize hpi : pyIter = pin
      wp_walk
      subst hpi
      refine wpAny_pyIter_list il (wpAny_bind (wpAny_runValue ?_))
      have lS : l < s.heap.objs.size := Heap.lt_size hol
      have sz1 : (s.heap.push (hkFresh w)).objs.size = s.heap.objs.size + 1 := Heap.size_push ..
      have d1 : l ≠ (s.heap.push (hkFresh w)).objs.size := by rw [sz1]; exact Nat.ne_of_lt (Nat.lt_succ_of_lt lS)
      have d2 : s.heap.objs.size ∉ [(s.heap.push (hkFresh w)).objs.size, l] := by
        rw [sz1]
        intro hm
        rcases List.mem_cons.mp hm with z | z
        · exact Nat.ne_of_lt (Nat.lt_succ_self _) z
        · exact Nat.ne_of_gt lS (List.mem_singleton.mp z)
      have vals : ∀ (i : Nat) (v : Value), xs[i]? = some v → ∃ k t, ns[i]? = some k ∧ v = .int k t := fun i v hv => by
        have lt : i < ns.length := by rw [← nsz]; exact (Array.getElem?_eq_some_iff.mp hv).1
        obtain ⟨t, z⟩ := IntsAre.int_at hin i v (by rw [Array.getElem?_toList]; exact hv)
        refine ⟨ns[i], t, List.getElem?_eq_getElem lt, z.trans ?_⟩
        rw [List.getD_eq_getElem?_getD, List.getElem?_eq_getElem lt]; rfl
      refine set_update_ints ((Walks.list (by simp [hnd]) _ l d1 xs).toS) s.heap.objs.size d2 ns nsz few vals (xs.size - 0) 0 _ (by omega) (Nat.zero_le _) ⟨⟨_, Heap.get?_push_size _ rfl, rfl, rfl⟩, il.push _⟩
        ⟨0, Nat.le_refl 0, setR_new_at (Heap.get?_push_of_some _ fr)⟩ fun s3 c3 mv cle hS => ?_
      obtain ⟨h3, g3, d3, t3, o3⟩ := s3
      cases (show g3 = s.gens from mv.gens)
      cases (show d3 = s.drawn from mv.drawn)
      cases (show o3 = s.os from mv.os)
      show wpAny _ _ _ _ _ _
      refine wpAny_pure ?_
      show wpAny _ _ (ret Value.none) _ _ _
      rw [nsz] at cle
      refine wpAny_pure ⟨rfl, h3, t3, c3, rfl, hS, cle, fun b o e => ?_⟩
      have lt := Heap.lt_size e
      refine mv.heap b o (fun hm => ?_) (Heap.get?_push_of_some _ (Heap.get?_push_of_some _ e))
      rcases List.mem_cons.mp hm with z | z
      · exact Nat.ne_of_lt lt z
      · exact Nat.ne_of_lt (Nat.lt_succ_of_lt lt) ((List.mem_singleton.mp z).trans sz1)
    · match r2, h2 with
      | .error _, h2 => exact h2
      | .ok .next, h2 | .ok .brk, h2 | .ok .cont, h2 => exact h2.elim
      | .ok (.ret _), h2 =>
        obtain ⟨rfl, h3, tk, c, rfl, hS, cle, keep⟩ := h2
        repeat any_goals (first | assumption | wp_step)
        exact k _ _ _ hS cle keep))) only [↓Hk.hold_s]
end
end PySem
namespace Hk
open PySem PySem.Spec PyProof.Rows L2
section
variable {X : Cx}
theorem cr_setL (hc : X.calm = true) : CallR X (.type "set") (rSetOfL X.K X.w) := by
  rintro pins s σ H xs us Q I r ⟨l, ns, rfl, hl, few, q⟩
  rw [Vals.ref1 r]
  obtain ⟨its, rv, pl, hz⟩ := I.list hl
  have hn : H s.heap.objs.size = none := I.hok.fresh (Nat.le_refl _)
  refine hk_set_list ns (I.ok.hd hc) pl.isList (by simpa using rv.ints) (by unfold scanBound; omega) fun h2 tk c hS cle keep => ?_
  exact ⟨.ref s.heap.objs.size, upd H s.heap.objs.size (SetO X.w s.heap.objs.size (fun j => decide (j ∈ ns)) c), I.laid (t' := tk) keep (Nat.le_refl _) (setO_new hS), rfl, q _ c hn cle⟩
end
end Hk
set_option Elab.async false
set_option linter.all false
set_option maxRecDepth 100000
set_option maxHeartbeats 4000000
namespace PySem
section
variable {prog : Program} {w : World} {T : Type} [DecidableEq T] {knd : KeyKind prog w T} {A : Around} {E : Value → Shared → Prop} {s : Shared}
theorem hk_any_no {kvs : List (T × Value)} {k : T} (h : k ∉ kvs.map (·.1)) : ¬ (kvs.any fun p => decide (p.1 = k)) = true := fun z => by
  obtain ⟨p, m, e⟩ := List.any_eq_true.mp z
  exact h (of_decide_eq_true e ▸ List.mem_map_of_mem m)
theorem hk_put {d : Addr} {kvs : List (T × Value)} {k : T} {key v : Value} {Q : Unit → Shared → Prop} (isk : knd.is k key = true) (hm : s.heap.DictOf knd d kvs) (sz : kvs.length ≤ sizeLine)
    (q : ∀ h2, h2.DictOf knd d (stored kvs k v) → Heap.SameBut d s.heap h2 → Q () { s with heap := h2 }) : wpAny (model prog w) A (dictPut d (knd.hash k) key v) Q E s := by
 refine Hk.hold ?_
 simp (disch := with_unfolding_all (
 exact Hk.disch (by
  obtain ⟨o, ⟨l⟩, ep, ho, hc, hd, hk, hp, nd⟩ := hm
  have ll : l.length = kvs.length := hp.length
  have ix : ((⟨l⟩ : Array DictEntry).findIdx? fun e => knd.is k e.key) = kvs.findIdx? fun p => decide (p.1 = k) := by
    rw [← hp.findIdx k]; simp
  unfold dictPut
  refine wpAny_bind (wpAny_dictFind_of isk ho hd hk ?_)
  cases hi : (⟨l⟩ : Array DictEntry).findIdx? fun e => knd.is k e.key with
  | none =>
    have no : k ∉ kvs.map (·.1) := not_mem_of_findIdx_none (ix ▸ hi)
    have st : stored kvs k v = kvs ++ [(k, v)] := by rw [stored, if_neg (hk_any_no no)]
    refine wpAny_updateDictKeys (hz := by show l.length ≤ _; omega) ho hd (q _ ⟨_, _, ep + 1, Heap.get?_update_self _ ho (Obj.isFreed_of_dict (Obj.data_mapDictKeys hd _)), hc.mapDictKeys _, Obj.data_mapDictKeys hd _, hk.push isk _, ?_, ?_⟩ (Heap.SameBut.update ..))
    · rw [st]; simpa using hp.append isk (knd.hash k) v
    · rw [st, List.map_append, List.nodup_append]
      exact ⟨nd, by simp, fun a ha b hb e => no (by rw [List.map_singleton, List.mem_singleton] at hb; have e2 : a = k := e.trans hb; rw [← e2]; exact ha)⟩
  | some i =>
    have st : stored kvs k v = kvs.map fun p => if p.1 = k then (p.1, v) else p := by rw [stored, if_pos (any_of_findIdx_some (ix ▸ hi))]
    refine wpAny_updateDict ho hd (q _ ⟨_, _, ep, Heap.get?_update_self _ ho (Obj.isFreed_of_dict (Obj.data_mapDict hd _)), hc.mapDict _, Obj.data_mapDict hd _, hk.modify _ _, ?_, ?_⟩ (Heap.SameBut.update ..))
    · rw [st]
      simpa using hp.modify nd (i := i) (by rw [← hi]; simp) v
    · rw [st, keys_map_store]; exact nd))) only [↓Hk.hold_s]
/-- what ** of a dict does in a display that holds something already -/
theorem hk_merge {d o : Addr} {kvs more : List (T × Value)} {Q : Unit → Shared → Prop} (ne : d ≠ o) (oS : (o == sysModules) = false) (some0 : kvs ≠ [])
    (hd : s.heap.DictOf knd d kvs) (ho : s.heap.DictOf knd o more) (sz : kvs.length + more.length ≤ sizeLine)
    (q : ∀ h2, h2.DictOf knd d (merged kvs more) → Heap.SameBut d s.heap h2 → Q () { s with heap := h2 }) : wpAny (model prog w) A (mergeMapping d (.ref o) false) Q E s := by
 refine Hk.hold ?_
 simp (disch := with_unfolding_all (
 exact Hk.disch (by
  obtain ⟨ob, ⟨es⟩, ep, e1, e2, e3, e4, e5, e6⟩ := id ho
  obtain ⟨db, ⟨ds⟩, dp, f1, f2, f3, f4, f5, f6⟩ := id hd
  have hl : es.length = more.length := e5.length
  have hne : (⟨ds⟩ : Array DictEntry).isEmpty = false := by
    have z : ds.length = kvs.length := f5.length
    cases ds with
    | nil => cases kvs with
      | nil => exact absurd rfl some0
      | cons a r => simp at z
    | cons a r => rfl
  unfold mergeMapping
  refine wpAny_bind (wpAny_isInstance ho.typeIs (T := "dict") (U := "dict") (b := true) (by rw [isSubtype_type]; kernel_rfl) ?_)
  rw [if_pos rfl]
  refine wpAny_bind (wpAny_specialOf ho.typeIs F.slot_dict_iter.lookup (wpAny_bind (wpAny_pure ?_)))
  show wpAny _ _ (if (o == sysModules) = true then _ else _) _ _ _
  rw [oS, if_neg Bool.false_ne_true]
  refine wpAny_bind (wpAny_dictEntries f1 f3 ?_)
  rw [hne, if_neg Bool.false_ne_true]
  refine wpAny_bind (wpAny_dictEntries e1 e3 (wpAny_bind (wpAny_dictEpoch e1 e3 ?_)))
  refine wpAny_bind ?_
  refine wpAny_forIn_list _ (fun rest _ s2 => ∃ h2 i, s2 = { s with heap := h2 } ∧ rest = List.range' i (es.length - i) ∧ i ≤ es.length ∧ h2.DictOf knd d (merged kvs (more.take i)) ∧ h2.get? o = some ob ∧ Heap.SameBut d s.heap h2)
    _ ?_ ?_ _ _ ⟨s.heap, 0, rfl, by simp [List.range_eq_range'], Nat.zero_le _, by simpa [merged] using hd, e1, Heap.SameBut.refl _ _⟩
  · rintro x rest b s2 ⟨h2, i, rfl, er, le, g1, g2, g3⟩
    have lt : i < es.length := by
      rcases Nat.lt_or_ge i es.length with z | z
      · exact z
      · rw [Nat.sub_eq_zero_of_le z] at er; simp at er
    rw [show es.length - i = (es.length - (i + 1)) + 1 by omega, List.range'_succ] at er
    injection er with ex er
    subst ex
    refine wpAny_bind (wpAny_dictEntries g2 e3 ?_)
    rw [show (⟨es⟩ : Array DictEntry)[x]? = some es[x] by simp [lt]]
    have lm : x < more.length := by omega
    obtain ⟨hkey, hval⟩ := e5.get? (e := es[x]) (i := x) (by simp [lt]) (List.getElem?_eq_getElem lm)
    obtain ⟨k2, hk2, hh⟩ := e4 es[x] (by simp)
    obtain rfl : k2 = more[x].1 := knd.inj _ _ _ hk2 hkey
    have lz : (merged kvs (more.take x)).length ≤ sizeLine := by
      have a1 := merged_length_le kvs (more.take x)
      have a2 : (more.take x).length ≤ more.length := by rw [List.length_take]; omega
      omega
    refine wpAny_bind (wpAny_holding ?_)
    show wpAny _ _ (dictPut d es[x].hash es[x].key es[x].val) _ _ _
    rw [hh, hval]
    refine hk_put hkey g1 lz fun h3 i1 i2 => ?_
    have i3 : h3.get? o = some ob := (i2.2 o (Ne.symm ne)).trans g2
    refine wpAny_bind (wpAny_dictEpoch i3 e3 ?_)
    rw [if_neg (by simp)]
    refine wpAny_pure ⟨h3, x + 1, rfl, er, lt, ?_, i3, g3.trans i2⟩
    rw [merged_take_succ kvs more x more[x] (List.getElem?_eq_getElem lm)]
    exact i1
  · rintro b s2 ⟨h2, i, rfl, er, le, g1, g2, g3⟩
    have en : i = es.length := by
      rcases Nat.lt_or_ge i es.length with z | z
      · rw [show es.length - i = (es.length - (i + 1)) + 1 by omega, List.range'_succ] at er
        cases er
      · omega
    rw [en, hl, List.take_length] at g1
    exact wpAny_pure (q h2 g1 g3)))) only [↓Hk.hold_s]
end
end PySem
set_option Elab.async false
set_option linter.all false
set_option maxRecDepth 100000
set_option maxHeartbeats 4000000
namespace PySem
abbrev HkIt := Option (Sem Value) × Sem Value
abbrev HkSt := Option Addr × List (Sem Value × Sem Value)
theorem hk_gather (f : HkIt → HkSt → Sem (ForInStep HkSt)) (hf : ∀ (p : Sem Value × Sem Value) (run : List (Sem Value × Sem Value)), run.length + 1 < 17 → f (some p.1, p.2) (none, run) = pure (.yield (none, run ++ [p]))) (tail : List HkIt) :
    ∀ (l run : List (Sem Value × Sem Value)), run.length + l.length < 17 → forIn ((l.map fun p => (some p.1, p.2)) ++ tail) ((none, run) : HkSt) f = forIn tail ((none, run ++ l) : HkSt) f
  | [], run, _ => by simp
  | p :: r, run, h => by
    rw [List.length_cons] at h
    rw [List.map_cons, List.cons_append, List.forIn_cons, hf p run (by omega), pure_bind]
    have z := hk_gather f hf tail r (run ++ [p]) (by simp; omega)
    simpa using z
section
variable {prog : Program} {w : World} {T : Type} [DecidableEq T] {knd : KeyKind prog w T} {A : Around} {E : Value → Shared → Prop} {s : Shared}
theorem hk_display {pairs : List (Sem Value × Sem Value)} {v : Sem Value} {Q : Value → Shared → Prop} (h0 : pairs ≠ []) (h16 : pairs.length < 16)
    (h : wpAny (model prog w) A (subDict pairs) (fun d s1 => wpAny (model prog w) A v (fun m s2 => wpAny (model prog w) A (mergeMapping d m false) (fun _ s3 => Q (.ref d) s3) (fun _ _ => False) s2) E s1) E s) :
    wpAny (model prog w) A (dictDisplay ((pairs.map fun p => (some p.1, p.2)) ++ [(none, v)])) Q E s := by
 refine Hk.hold ?_
 simp (disch := with_unfolding_all (
 exact Hk.disch (by
  unfold dictDisplay
  dsimp only
  rw [hk_gather _ (fun p run hr => by
    have z : ((run ++ [(p.1, p.2)]).length == 17) = false := by simp; omega
    simp only [z, Bool.false_eq_true, if_false]) _ pairs [] (by simp; omega)]
  have ne : pairs.isEmpty = false := by cases pairs <;> first | exact absurd rfl h0 | rfl
  simp only [List.nil_append, List.forIn_cons, List.forIn_nil, ne]
  refine wpAny_bind (wpAny_bind (wpAny_bind ?_))
  rw [if_neg Bool.false_ne_true]
  refine wpAny_bind (wpAny_mono h (fun d s1 h1 => wpAny_pure ?_) fun _ _ e => e)
  dsimp only
  refine wpAny_bind (wpAny_pure (wpAny_bind (wpAny_holding (wpAny_mono h1 (fun m s2 h2 => ?_) fun _ _ e => e))))
  refine wpAny_bind (wpAny_onRaise (wpAny_tryCatch (wpAny_onRaise (wpAny_holding (wpAny_mono h2 (fun _ s3 h3 => ?_) fun _ _ e => e.elim)))))
  refine wpAny_pure (wpAny_pure ?_)
  dsimp only
  refine wpAny_bind ?_
  rw [if_pos (show ([] : List (Sem Value × Sem Value)).isEmpty = true from rfl)]
  exact wpAny_pure (wpAny_pure h3)))) only [↓Hk.hold_s]
theorem hk_zip {env : Env} {pos : Pos} {v : Expr} : ∀ (keys : List (Option Expr)) (values : List Expr), keys.all (·.isSome) = true → keys.length = values.length →
    (evalEachOpt (keys ++ [none]) env).zip ((evalEach (values ++ [v]) env).map fun v => do let x ← v; standAt pos; pure x) = ((pairTrees keys values env pos).map fun p => (some p.1, p.2)) ++ [(none, do let x ← eval v env; standAt pos; pure x)]
  | [], [], _, _ => rfl
  | [], _ :: _, _, h => by simp at h
  | _ :: _, [], _, h => by simp at h
  | none :: _, _ :: _, h, _ => by simp at h
  | some k :: ks, u :: us, h, hl => by
    have z := hk_zip (v := v) (pos := pos) (env := env) ks us (by simpa using h) (by simpa using hl)
    show (some (eval k env), (do let x ← eval u env; standAt pos; pure x)) :: (evalEachOpt (ks ++ [none]) env).zip ((evalEach (us ++ [v]) env).map fun v => do let x ← v; standAt pos; pure x) = _
    rw [z]; rfl
end
end PySem
namespace Hk
open PySem PySem.Spec PyProof.Rows L2
/-- {k: v, .., **d}: pairs first, then the dict -/
def tDispS (trs : List (TE × TE)) (tv : TE) : TE := fun σ H Q => ∀ p, H p = none → tPairs trs σ (upd H p (.dK [])) fun ps H2 => H2 p = some (.dK []) ∧ ∃ kvs : List (Key × V), ps = kvs.map (fun kv => (kV kv.1, kv.2)) ∧ kvs.length ≤ 15 ∧
  tv σ (upd H2 p (.dK (mergeK [] kvs))) fun x H3 => ∃ (a : Addr) (more : List (Key × V)), x = .ref a ∧ a ≠ p ∧ Rd H3 a (.dK more) ∧ H3 p = some (.dK (mergeK [] kvs)) ∧ mergeK [] kvs ≠ [] ∧ (mergeK [] kvs).length + more.length ≤ 1000 ∧ Q (.ref p) (upd H3 p (.dK (mergeK (mergeK [] kvs) more)))
section
variable {X : Cx} {pos : Pos}
theorem kv_nonempty {κ : Type} {a : List (κ × V)} {b : List (κ × Value)} (r : KV a b) (h : a ≠ []) : b ≠ [] := by
  cases r with
  | nil => exact absurd rfl h
  | cons _ _ => simp
theorem pe_dispS {keys : List (Option Expr)} {values : List Expr} {d0 : Expr} {trs : List (TE × TE)} {tv : TE} (h : PPs X pos keys.dropLast values.dropLast trs) (hv : PE X (values.getLastD d0) tv)
    (hk : keys = keys.dropLast ++ [none] := by rfl) (hvl : values = values.dropLast ++ [values.getLastD d0] := by rfl) (hall : keys.dropLast.all (·.isSome) = true := by rfl) (hl : keys.dropLast.length = values.dropLast.length := by rfl)
    (h0 : (0 < keys.dropLast.length) = True := by simp) (h15 : keys.dropLast.length ≤ 15 := by decide) : PE X (.Dict keys values pos) (tDispS trs tv) := by
 refine Hk.hold ?_
 simp (disch := with_unfolding_all (
 exact Hk.disch (by
  refine ⟨fun pins s σ H Q I q => ?_⟩
  have hn := I.hok.fresh (Nat.le_refl s.heap.objs.size)
  have I1 := I.laid (a := s.heap.objs.size) (o := .dK []) (h' := s.heap.push { cls := .type "dict", data := .dict #[] }) (t' := s.toks) (fun _ _ z => Heap.get?_push_of_some _ z) (Nat.le_refl _) (dk_empty s.heap I.big)
  have len := pairTrees_length keys.dropLast values.dropLast X.env pos hall hl
  have h00 : 0 < keys.dropLast.length := by rw [h0]; exact True.intro
  rw [hk, hvl, arm_eval_Dict, hk_zip _ _ hall hl]
  refine wpAny_bind (wpAny_standAt (hk_display (fun z => by rw [z] at len; have l2 : 0 = keys.dropLast.length := len; omega) (by omega) ?_))
  refine wpAny_subDict (knd := mixKind X.prog X.w) (by omega) (thn (h.run pins _ σ _ _ I1 (q _ hn)) fun ws s2 hh => ?_)
  obtain ⟨ps, H2, I2, rel, e, kvs, ep, lk, q2⟩ := hh
  subst ep
  obtain ⟨rs, c, rk⟩ := carries_of (P := X.prog) (w := X.w) rel
  obtain ⟨z, hd, vs0, r0, dd⟩ := dk_of I2.hok e
  cases r0
  refine ⟨rs, c, dd, fun h2 d2 sb => ?_⟩
  have rm := rk.merge .nil
  have lm := length_mergeK kvs []
  rw [List.length_nil] at lm
  have I3 := d_write (t' := s2.toks + ws.length) I2 (by rw [e]; exact True.intro) sb (let ⟨o, _, _, ho, _⟩ := d2; ⟨o, ho⟩) (dk_new (by rw [sizeLine_eq]; omega) hd rm d2)
  refine wpAny_bind (thn (hv.run pins _ σ _ _ I3 q2) fun u s3 hh => wpAny_bind (wpAny_standAt (wpAny_pure ?_)))
  obtain ⟨x, H3, I4, rx, a, more, ex, nap, ra, hp, ne, l15, q3⟩ := hh
  subst ex
  obtain rfl : u = Value.ref a := rx
  obtain ⟨_, ha, ms, rmore, da⟩ := dk_rd I4.hok ra
  obtain ⟨_, _, cs, rc, dp⟩ := dk_of I4.hok hp
  have lcs : cs.length = (mergeK [] kvs).length := (Paired.length rc).symm
  have lms : ms.length = more.length := (Paired.length rmore).symm
  refine hk_merge (knd := mixKind X.prog X.w) (Ne.symm nap) ha (kv_nonempty rc ne) dp da (by rw [sizeLine_eq, lcs, lms]; omega) fun h3 d3 sb3 => ?_
  have l4 := length_mergeK more (mergeK [] kvs)
  exact ⟨.ref s.heap.objs.size, _, d_write (t' := s3.toks) I4 (by rw [hp]; exact True.intro) sb3 (let ⟨o, _, _, ho, _⟩ := d3; ⟨o, ho⟩) (dk_new (by rw [sizeLine_eq]; omega) hd (rmore.merge rc) d3), rfl, q3⟩))) only [↓Hk.hold_s]
end
end Hk
set_option Elab.async false
set_option linter.all false
set_option maxRecDepth 100000
set_option maxHeartbeats 4000000
namespace Hk
open PySem PySem.Spec PyProof.Rows L2
/-- how many unlike ints there are -/
def distinct (ns : List Int) : Nat := (firstMet (fun i => ns.getD i 0) ns.length).length
theorem step_nodup {l : List Int} (v : Int) (h : l.Nodup) : (step_dedup l v).Nodup := by
  unfold step_dedup
  by_cases e : l.any (· == v) = true
  · rw [if_pos e]; exact h
  · rw [if_neg e]
    refine List.nodup_append.mpr ⟨h, by simp, fun a ha b hb z => ?_⟩
    rw [List.mem_singleton] at hb
    subst hb
    subst z
    exact e (List.any_eq_true.mpr ⟨a, ha, by simp⟩)
theorem firstMet_nd (val : Nat → Int) : ∀ i, (firstMet val i).Nodup
  | 0 => by rw [firstMet_zero]; exact List.nodup_nil
  | i + 1 => by rw [firstMet_succ]; exact step_nodup _ (firstMet_nd val i)
theorem firstMet_mem {ns : List Int} {k : Int} : k ∈ firstMet (fun i => ns.getD i 0) ns.length ↔ k ∈ ns := by
  have z := firstMet_any (fun i => ns.getD i 0) ns.length k
  have e : (List.range ns.length).map (fun i => ns.getD i 0) = ns := by
    refine List.ext_getElem (by simp) fun i h1 h2 => ?_
    simp [List.getD_eq_getElem?_getD, List.getElem?_eq_getElem h2]
  rw [e] at z
  have a : ∀ l : List Int, l.any (· == k) = true ↔ k ∈ l := fun l => by simp
  rw [← a, ← a, z]
theorem distinct_gt {ns : List Int} : 1 < distinct ns ↔ ∃ a ∈ ns, ∃ b ∈ ns, a ≠ b := by
 refine Hk.hold ?_
 simp (disch := with_unfolding_all (
 exact Hk.disch (by
  unfold distinct
  have nd := firstMet_nd (fun i => ns.getD i 0) ns.length
  have mm : ∀ k, k ∈ firstMet (fun i => ns.getD i 0) ns.length ↔ k ∈ ns := fun _ => firstMet_mem
  generalize firstMet (fun i => ns.getD i 0) ns.length = l at nd mm
  constructor
  · intro h
    match l, h, nd, mm with
    | a :: b :: r, _, nd, mm =>
      refine ⟨a, (mm a).mp (by simp), b, (mm b).mp (by simp), fun e => ?_⟩
      subst e
      simp at nd
  · rintro ⟨a, ha, b, hb, ne⟩
    have h1 := (mm a).mpr ha
    have h2 := (mm b).mpr hb
    match l, h1, h2 with
    | [x], h1, h2 =>
      rw [List.mem_singleton] at h1 h2
      exact absurd (h1.trans h2.symm) ne
    | x :: y :: r, _, _ => simp))) only [↓Hk.hold_s]
section
variable {X : Cx}
def tLenSetD (K : PySem.W.Frag) (ta : TE) : TE := fun σ H Q => ta σ H fun x H1 => ∃ (l : Addr) (ns : List Int), x = V.ref l ∧ SqL K H1 l (ns.map V.int) ∧ ns.length < 60 ∧ Q (.int (distinct ns)) H1
theorem pe_lenSetD {a : Expr} {ta : TE} {p p2 q pos : Pos} (hc : X.calm = true) (hg : Gl X "len") (hm : X.mg "len" = none) (hg2 : Gl X "set") (hm2 : X.mg "set" = none) (ha : PE X a ta)
    (na : starEach [a] X.env = (false, eval a X.env) :: starEach [] X.env := by rfl) : PE X (.Call (.Name "len" p) [.Call (.Name "set" p2) [a] [] q] [] pos) (tLenSetD X.K ta) := by
 refine Hk.hold ?_
 simp (disch := with_unfolding_all (
 exact Hk.disch (by
  refine ⟨fun pins s σ H Q I h => Call_ (ld_blt I hg hm PySem.boot_len (PyProof.Rows.callWith_builtin1 (PyProof.Rows.args_cons (Call_ (ld_blt I hg2 hm2 PyProof.Rows.boot_set ?_)) rfl) rfl rfl))⟩
  refine PyProof.Rows.callWith_type1 (PyProof.Rows.args_cons (thn (ha.run pins s σ H _ I h) fun v s1 hh => PyProof.Rows.args_nil ?_) na) na rfl
  obtain ⟨x, H1, I1, r1, l, ns, ex, hq, few, q1⟩ := hh
  subst ex
  cases r1
  obtain ⟨its, r, pl, hz⟩ := I1.list hq
  have hl : its.toArray.size = ns.length := by rw [List.size_toArray, ← r.length, List.length_map]
  refine call_set_list (I1.ok.hd hc) pl.isList (ns := ns) (by simpa using r.ints) (by unfold scanBound; omega) fun h2 tk hS keep => PyProof.Rows.args_nil ?_
  rw [hl] at hS
  obtain ⟨o, es, ep, t, ho, hex, hd, _, _, _, hf, hn⟩ := hS
  have I2 : Inv X pins σ H1 { s1 with heap := h2, toks := tk } := I1.kept fun b o e => keep b o (Heap.lt_size e) e
  have le : distinct ns ≤ ns.length := firstMet_length_le _ _
  have hn2 : es.size = distinct ns := hn
  refine call_len_set ho hex hd hf (by rw [hn2]; omega) ⟨.int (distinct ns), H1, I2.tok _, ⟨_, by rw [hn2]⟩, q1⟩))) only [↓Hk.hold_s]
end
end Hk
set_option Elab.async false
set_option linter.all false
set_option maxRecDepth 100000
set_option maxHeartbeats 4000000
namespace Hk
open PySem PySem.Spec PyProof.Rows L2
theorem hb_int : bootBuiltins "int" = some (.type "int") := PyProof.Rows.boot_int
theorem hb_str : bootBuiltins "str" = some (.type "str") := PyProof.Rows.boot_str
theorem hb_bool : bootBuiltins "bool" = some (.type "bool") := PyProof.Rows.boot_bool
theorem hb_list : bootBuiltins "list" = some (.type "list") := PyProof.Rows.boot_list
theorem hb_tuple : bootBuiltins "tuple" = some (.type "tuple") := PyProof.Rows.boot_tuple
theorem hb_dict : bootBuiltins "dict" = some (.type "dict") := PyProof.Rows.boot_dict
theorem hb_set : bootBuiltins "set" = some (.type "set") := PyProof.Rows.boot_set
theorem hb_len : bootBuiltins "len" = some (.builtin "len") := PySem.boot_len
theorem hb_isinstance : bootBuiltins "isinstance" = some (.builtin "isinstance") := PyProof.Rows.boot_isinstance
theorem hb_all : bootBuiltins "all" = some (.builtin "all") := PyProof.Rows.boot_all
theorem hb_min : bootBuiltins "min" = some (.builtin "min") := PyProof.Rows.boot_min
theorem hb_max : bootBuiltins "max" = some (.builtin "max") := PyProof.Rows.boot_max
theorem hb_sorted : bootBuiltins "sorted" = some (.builtin "sorted") := PyProof.Rows.boot_sorted
/-- no name of the module hides these -/
structure Bl (mg : Str → Option Value) : Prop where
  int_ : mg "int" = none
  str_ : mg "str" = none
  bool_ : mg "bool" = none
  list_ : mg "list" = none
  tuple_ : mg "tuple" = none
  dict_ : mg "dict" = none
  set_ : mg "set" = none
  len : mg "len" = none
  isinstance : mg "isinstance" = none
  all : mg "all" = none
  any : mg "any" = none
  min : mg "min" = none
  max : mg "max" = none
  sorted : mg "sorted" = none
  range : mg "range" = none
  zip : mg "zip" = none
/-- a def of the module as it stands behind the top -/
structure DefAt (K : PySem.W.Frag) (mg : Str → Option Value) (x : Str) (st : Stmt) (ps : List Str) : Prop where
  ex : ∃ f fd, Fun K x x st f fd ∧ mg x = some (.ref f) ∧ Binds K fd ps []
/-- a def that can be called: its promise -/
structure Cal (P : Program) (w : World) (K : PySem.W.Frag) (mg : Str → Option Value) (base : Heap) (k : Nat) (x : Str) (ps : List Str) (sp : Sp) : Prop where
  ex : ∃ f fd, mg x = some (.ref f) ∧ PySem.W.keepIn K (.ref f) = true ∧ Binds K fd ps [] ∧ FnOk P w K mg base CX0 k f fd ps sp
theorem DefAt.cal {P : Program} {w : World} {K : PySem.W.Frag} {mg : Str → Option Value} {base : Heap} {k : Nat} {x : Str} {st : Stmt} {ps : List Str} {sp : Sp} (d : DefAt K mg x st ps)
    (h : ∀ f fd, Fun K x x st f fd → FnOk P w K mg base CX0 k f fd ps sp) : Cal P w K mg base k x ps sp := by
  obtain ⟨f, fd, F, g, b⟩ := d.ex
  exact ⟨f, fd, g, F.kp, b, h f fd F⟩
section
variable {X : Cx} {k : Nat} {x : Str} {ps : List Str} {sp : Sp} {p pos : Pos} {e : Expr} {es : List Expr} {t : TA}
theorem pe_cal (c : Cal X.prog X.w X.K X.mg X.base k x ps sp) (hr : Room k X.A) (hg : Gl X x) (ha : PA X (e :: es) t) (hdb : (x == ("__debug__" : Str)) = false := by decide)
    (he : starEach (e :: es) X.env = (false, eval e X.env) :: starEach es X.env := by rfl) (hpl : (backTo pos (starEach es X.env)).any (·.1) = false := by rfl) : PE X (.Call (.Name x p) (e :: es) [] pos) (tCall sp [] E0 t) := by
  obtain ⟨f, fd, g, kp, b, F⟩ := c.ex
  exact pe_call F hr hg g kp b .nil pass0 ha hdb he hpl
end
section
variable {σ : L2.St} {H : Hp} {D : Ends} {Q : VK} {ta tb te : TE} {t u : TS} {K : PySem.W.Frag} {v : V}
theorem q_seq (h : t { D with nx := u D } σ H) : tSeq t u D σ H := h
theorem q_next (h : D.nx σ H) : tNext D σ H := h
theorem q_set {i : Nat} (h : te σ H fun x H1 => D.nx (σ.set i (some x)) H1) : tAsg te (gName i) D σ H := h
theorem q_asg {g : TG} (h : te σ H fun x H1 => g x σ H1 D.nx) : tAsg te g D σ H := h
theorem q_ret (h : te σ H D.rt) : tRet te D σ H := h
theorem q_drop (h : te σ H fun _ H1 => D.nx σ H1) : tDrop te D σ H := h
theorem q_ifs {c : TT} (h : c σ H fun b H1 => if b = true then t D σ H1 else u D σ H1) : tIfS c t u D σ H := h
theorem q_ife {c : TT} (h : c σ H fun b H1 => if b = true then ta σ H1 Q else tb σ H1 Q) : tIf c ta tb σ H Q := h
theorem q_var {i : Nat} (h : σ[i]? = some (some v)) (q : Q v H) : tVar i σ H Q := ⟨v, h, q⟩
theorem q_c (q : Q v H) : tC v σ H Q := q
theorem q_op {r : R2} (h : ta σ H fun x H1 => tb σ H1 fun y H2 => r x y H2 Q) : tOp r ta tb σ H Q := h
theorem q_un {r : V → Hp → VK → Prop} (h : ta σ H fun x H1 => r x H1 Q) : tUn r ta σ H Q := h
theorem q_chain {r r' : R2} {tc : TE} (h : ta σ H fun x H1 => tb σ H1 fun y H2 => r x y H2 fun z H3 => ∃ k, z = .bl k ∧ (if k = true then tc σ H3 fun w' H4 => r' y w' H4 Q else Q (.bl false) H3)) : tChain r r' ta tb tc σ H Q := h
theorem q_rI0 {g : Int → Int → V} {i j : Int} (q : Q (g i j) H) : rI0 g (.int i) (.int j) H Q := ⟨i, j, rfl, rfl, q⟩
theorem q_rU {g : Int → V} {i : Int} (q : Q (g i) H) : rU g (.int i) H Q := ⟨i, rfl, q⟩
theorem q_eq {x y : V} (h : scal x y = true) (q : Q (.bl (decide (x = y))) H) : rEq x y H Q := ⟨h, q⟩
theorem q_ne {x y : V} (h : scal x y = true) (q : Q (.bl (!decide (x = y))) H) : rNe x y H Q := ⟨h, q⟩
theorem q_test {q : Bool → Hp → Prop} (h : te σ H fun x H1 => ∃ k, x = .bl k ∧ q k H1) : tTest te σ H q := h
theorem q_tB {q : Bool → Hp → Prop} (h : te σ H fun x H1 => ∃ k, x = .bl k ∧ q k H1) : tB te σ H q := h
theorem q_bl {b : Bool} {q : Bool → Prop} (h : q b) : ∃ k, V.bl b = .bl k ∧ q k := ⟨b, rfl, h⟩
theorem q_and {c d : TT} {q : Bool → Hp → Prop} (h : c σ H fun b H1 => if b = true then d σ H1 q else q false H1) : tAnd c d σ H q := h
theorem q_or {c d : TT} {q : Bool → Hp → Prop} (h : c σ H fun b H1 => if b = true then q true H1 else d σ H1 q) : tOr c d σ H q := h
theorem q_not {c : TT} {q : Bool → Hp → Prop} (h : c σ H fun b H1 => q (!b) H1) : tNot c σ H q := h
theorem q_andV (h : ta σ H fun x H1 => ∃ c, x = .bl c ∧ if c = true then tb σ H1 Q else Q (.bl false) H1) : tAndV ta tb σ H Q := h
theorem q_orV (h : ta σ H fun x H1 => ∃ c, x = .bl c ∧ if c = true then Q (.bl true) H1 else tb σ H1 Q) : tOrV ta tb σ H Q := h
theorem q_notV (h : ta σ H fun x H1 => ∃ c, x = .bl c ∧ Q (.bl (!c)) H1) : tNotV ta σ H Q := h
theorem q_isN (h : ta σ H fun x H1 => Q (.bl (decide (x = .non))) H1) : tIsN ta σ H Q := h
theorem q_notN (h : ta σ H fun x H1 => Q (.bl (!decide (x = .non))) H1) : tNotN ta σ H Q := h
theorem q_nil {q : List V → Hp → Prop} (h : q [] H) : tNil σ H q := h
theorem q_cons {tr : TA} {q : List V → Hp → Prop} (h : ta σ H fun x H1 => tr σ H1 fun xs H2 => q (x :: xs) H2) : tCons ta tr σ H q := h
theorem q_tup {tr : TA} (h : tr σ H fun xs H1 => xs.length ≤ sizeLine ∧ ∀ p, H1 p = none → Q (.ref p) (upd H1 p (.tup xs))) : tTup tr σ H Q := h
theorem q_lst {tr : TA} (h : tr σ H fun xs H1 => xs.length ≤ sizeLine ∧ ∀ p, H1 p = none → Q (.ref p) (upd H1 p (.lst xs))) : tLst tr σ H Q := h
theorem q_cb {r : List V → Hp → VK → Prop} {tr : TA} (h : tr σ H fun vs H1 => r vs H1 Q) : tCB r tr σ H Q := h
theorem q_call {sp : Sp} {E : XK} {tr : TA} (h : tr σ H fun vs H1 => sp (vs ++ []) H1 Q E) : tCall sp [] E tr σ H Q := h
theorem q_fld {f : Str} (h : ta σ H fun x H1 => ∃ a C dx fs v, x = .ref a ∧ H1 a = some (.ins C dx fs) ∧ Cls K C ∧ NoAttr K C f ∧ fs.lookup f = some v ∧ Q v H1) : tFld K ta f σ H Q := h
theorem q_bm {T : String} {r : V → List V → Hp → VK → Prop} {tr : TA} (h : ta σ H fun x H1 => tyV K T x H1 ∧ tr σ H1 fun xs H2 => r x xs H2 Q) : tBM K T r ta tr σ H Q := h
theorem q_dget (h : ta σ H fun x H1 => tb σ H1 fun y H2 => ∃ a v, x = .ref a ∧ DGet H2 a y (some v) ∧ Q v H2) : tDGet ta tb σ H Q := h
theorem q_ixL {a : Addr} {xs : List V} {i : Int} {z : V} (h : SqL K H a xs) (hi : atI xs i = some z) (q : Q z H) : rIxL K (.ref a) (.int i) H Q := ⟨a, xs, i, z, rfl, rfl, h, hi, q⟩
theorem q_ixT {a : Addr} {xs : List V} {i : Int} {z : V} (h : SqT K H a xs) (hi : atI xs i = some z) (q : Q z H) : rIxT K (.ref a) (.int i) H Q := ⟨a, xs, i, z, rfl, rfl, h, hi, q⟩
theorem q_sub {ti : TE} {r : TSet} {q : L2.St → Hp → Prop} (h : ta σ H fun o H1 => ti σ H1 fun i H2 => r o i v H2 fun H3 => q σ H3) : gSub ta ti r v σ H q := h
theorem q_for {wi : TI} {g : TG} (h : wi σ H fun J H1 => ∃ W : Nat → Nat → L2.St → Hp → Prop, (∃ m, W 0 m σ H1) ∧ ∀ i m σ H, W i m σ H →
    (J.stop i H ∧ D.nx σ H) ∨ (J.go i H ∧ ∃ N : L2.St → Hp → Prop, (∀ σ' H', N σ' H' → ∃ m', m' < m ∧ W (i + 1) m' σ' H') ∧ ∀ x H', J.yld i H x H' → g x σ H' fun σ2 H2 => t { D with nx := N, ct := N, bk := D.nx } σ2 H2)) : tFor wi g t D σ H := h
end
mutual
theorem _root_.L2.Dp.mono {K : PySem.W.Frag} {H H' : Hp} (s : Same H H') : ∀ {v : V} {d : PyData}, Dp K H v d → Dp K H' v d
  | _, _, .non => .non
  | _, _, .bl b => .bl b
  | _, _, .int i => .int i
  | _, _, .str x => .str x
  | _, _, .lst h a => .lst (s.seq h) (L2.DpAll.mono s a)
  | _, _, .tup h a => .tup (Evl.ex_t s h) (L2.DpAll.mono s a)
theorem _root_.L2.DpAll.mono {K : PySem.W.Frag} {H H' : Hp} (s : Same H H') : ∀ {vs : List V} {ds : List PyData}, DpAll K H vs ds → DpAll K H' vs ds
  | _, _, .nil => .nil
  | _, _, .cons h t => .cons (L2.Dp.mono s h) (L2.DpAll.mono s t)
end
theorem same_new {H : Hp} {p : Addr} {o : HO} (h : H p = none) : Same H (upd H p o) := fun b u e => by
  rw [upd_ne (ne_of_none e h)]; exact e
end Hk
set_option Elab.async false
set_option linter.all false
set_option maxRecDepth 100000
set_option maxHeartbeats 4000000
namespace Hk
open PySem PySem.Spec PyProof.Rows L2
def dTy : PyData → String
  | .none => "NoneType" | .bool _ => "bool" | .int _ => "int" | .str _ => "str" | .list _ => "list" | .tuple _ => "tuple" | .dict _ => "dict"
theorem _root_.L2.Dp.ty {K : PySem.W.Frag} {H : Hp} {x : V} {d : PyData} (h : Dp K H x d) : TyX K H x (.type (dTy d)) := by
  cases h with
  | non => exact .base .non
  | bl b => exact .base (.bl b)
  | int i => exact .base (.int i)
  | str z => exact .base (.str z)
  | lst h _ => rcases h with (h | ⟨o, h⟩) | ⟨o, its, n, l, c, _⟩
               · exact .base (.lst h)
               · exact .base (.frz h)
               · exact .kList l c
  | tup h _ => rcases h with (h | ⟨o, h⟩) | ⟨o, its, n, l, c, _⟩
               · exact .base (.tup h)
               · exact .fTuple h
               · exact .kTuple l c
def isInt : PyData → Bool | .int _ => true | .bool _ => true | _ => false
def isBool : PyData → Bool | .bool _ => true | _ => false
def isStr : PyData → Bool | .str _ => true | _ => false
def isList : PyData → Bool | .list _ => true | _ => false
def isTuple : PyData → Bool | .tuple _ => true | _ => false
theorem kb_NoneType_int : kitB "NoneType" "int" = some false := by decide +kernel
theorem kb_bool_int : kitB "bool" "int" = some true := by decide +kernel
theorem kb_int_int : kitB "int" "int" = some true := by decide +kernel
theorem kb_str_int : kitB "str" "int" = some false := by decide +kernel
theorem kb_list_int : kitB "list" "int" = some false := by decide +kernel
theorem kb_tuple_int : kitB "tuple" "int" = some false := by decide +kernel
theorem kb_int (d : PyData) (h : ∀ kvs, d ≠ .dict kvs) : kitB (dTy d) "int" = some (isInt d) := by
  cases d with
  | none => exact kb_NoneType_int
  | bool _ => exact kb_bool_int
  | int _ => exact kb_int_int
  | str _ => exact kb_str_int
  | list _ => exact kb_list_int
  | tuple _ => exact kb_tuple_int
  | dict kvs => exact absurd rfl (h kvs)
theorem kb_NoneType_bool : kitB "NoneType" "bool" = some false := by decide +kernel
theorem kb_bool_bool : kitB "bool" "bool" = some true := by decide +kernel
theorem kb_int_bool : kitB "int" "bool" = some false := by decide +kernel
theorem kb_str_bool : kitB "str" "bool" = some false := by decide +kernel
theorem kb_list_bool : kitB "list" "bool" = some false := by decide +kernel
theorem kb_tuple_bool : kitB "tuple" "bool" = some false := by decide +kernel
theorem kb_bool (d : PyData) (h : ∀ kvs, d ≠ .dict kvs) : kitB (dTy d) "bool" = some (isBool d) := by
  cases d with
  | none => exact kb_NoneType_bool
  | bool _ => exact kb_bool_bool
  | int _ => exact kb_int_bool
  | str _ => exact kb_str_bool
  | list _ => exact kb_list_bool
  | tuple _ => exact kb_tuple_bool
  | dict kvs => exact absurd rfl (h kvs)
theorem kb_NoneType_str : kitB "NoneType" "str" = some false := by decide +kernel
theorem kb_bool_str : kitB "bool" "str" = some false := by decide +kernel
theorem kb_int_str : kitB "int" "str" = some false := by decide +kernel
theorem kb_str_str : kitB "str" "str" = some true := by decide +kernel
theorem kb_list_str : kitB "list" "str" = some false := by decide +kernel
theorem kb_tuple_str : kitB "tuple" "str" = some false := by decide +kernel
theorem kb_str (d : PyData) (h : ∀ kvs, d ≠ .dict kvs) : kitB (dTy d) "str" = some (isStr d) := by
  cases d with
  | none => exact kb_NoneType_str
  | bool _ => exact kb_bool_str
  | int _ => exact kb_int_str
  | str _ => exact kb_str_str
  | list _ => exact kb_list_str
  | tuple _ => exact kb_tuple_str
  | dict kvs => exact absurd rfl (h kvs)
theorem kb_NoneType_list : kitB "NoneType" "list" = some false := by decide +kernel
theorem kb_bool_list : kitB "bool" "list" = some false := by decide +kernel
theorem kb_int_list : kitB "int" "list" = some false := by decide +kernel
theorem kb_str_list : kitB "str" "list" = some false := by decide +kernel
theorem kb_list_list : kitB "list" "list" = some true := by decide +kernel
theorem kb_tuple_list : kitB "tuple" "list" = some false := by decide +kernel
theorem kb_list (d : PyData) (h : ∀ kvs, d ≠ .dict kvs) : kitB (dTy d) "list" = some (isList d) := by
  cases d with
  | none => exact kb_NoneType_list
  | bool _ => exact kb_bool_list
  | int _ => exact kb_int_list
  | str _ => exact kb_str_list
  | list _ => exact kb_list_list
  | tuple _ => exact kb_tuple_list
  | dict kvs => exact absurd rfl (h kvs)
theorem kb_NoneType_tuple : kitB "NoneType" "tuple" = some false := by decide +kernel
theorem kb_bool_tuple : kitB "bool" "tuple" = some false := by decide +kernel
theorem kb_int_tuple : kitB "int" "tuple" = some false := by decide +kernel
theorem kb_str_tuple : kitB "str" "tuple" = some false := by decide +kernel
theorem kb_list_tuple : kitB "list" "tuple" = some false := by decide +kernel
theorem kb_tuple_tuple : kitB "tuple" "tuple" = some true := by decide +kernel
theorem kb_tuple (d : PyData) (h : ∀ kvs, d ≠ .dict kvs) : kitB (dTy d) "tuple" = some (isTuple d) := by
  cases d with
  | none => exact kb_NoneType_tuple
  | bool _ => exact kb_bool_tuple
  | int _ => exact kb_int_tuple
  | str _ => exact kb_str_tuple
  | list _ => exact kb_list_tuple
  | tuple _ => exact kb_tuple_tuple
  | dict kvs => exact absurd rfl (h kvs)
theorem _root_.L2.Dp.nodict {K : PySem.W.Frag} {H : Hp} {x : V} {d : PyData} (h : Dp K H x d) : ∀ kvs, d ≠ .dict kvs := by
  intro kvs e; subst e; cases h
section
variable {K : PySem.W.Frag} {H : Hp} {x : V} {d : PyData} {Q : VK}
theorem q_isi {T : String} {b : Bool} (h : Dp K H x d) (k : kitB (dTy d) T = some b) (q : Q (.bl b) H) : rIsi K [x, .ty T] H Q := ⟨x, .ty T, _, _, b, rfl, .ty T, h.ty, kit_ty k, q⟩
theorem q_isi_int (h : Dp K H x d) (q : Q (.bl (isInt d)) H) : rIsi K [x, .ty "int"] H Q := q_isi h (kb_int d h.nodict) q
theorem q_isi_bool (h : Dp K H x d) (q : Q (.bl (isBool d)) H) : rIsi K [x, .ty "bool"] H Q := q_isi h (kb_bool d h.nodict) q
theorem q_isi_str (h : Dp K H x d) (q : Q (.bl (isStr d)) H) : rIsi K [x, .ty "str"] H Q := q_isi h (kb_str d h.nodict) q
theorem q_isi_list (h : Dp K H x d) (q : Q (.bl (isList d)) H) : rIsi K [x, .ty "list"] H Q := q_isi h (kb_list d h.nodict) q
theorem q_isi_tuple (h : Dp K H x d) (q : Q (.bl (isTuple d)) H) : rIsi K [x, .ty "tuple"] H Q := q_isi h (kb_tuple d h.nodict) q
theorem q_if {c : Bool} {A B : Prop} (h1 : c = true → A) (h2 : c = false → B) : if c = true then A else B := by
  cases c with
  | true => exact iteT (h1 rfl)
  | false => exact iteF (h2 rfl)
theorem _root_.L2.DpAll.length {xs : List V} {ds : List PyData} (h : DpAll K H xs ds) : xs.length = ds.length := by
  induction ds generalizing xs with
  | nil => cases h; rfl
  | cons d ds ih => cases h with
    | cons a t => simp [ih t]
theorem _root_.L2.DpAll.get {xs : List V} {ds : List PyData} (h : DpAll K H xs ds) : ∀ {i : Nat} {d : PyData}, ds[i]? = some d → ∃ x, xs[i]? = some x ∧ Dp K H x d := by
  induction ds generalizing xs with
  | nil => intro i d e; simp at e
  | cons d ds ih => cases h with
    | cons a t =>
      intro i d2 e
      cases i with
      | zero => simp at e; subst e; exact ⟨_, rfl, a⟩
      | succ i => simpa using ih t (by simpa using e)
theorem _root_.L2.DpAll.get' {xs : List V} {ds : List PyData} (h : DpAll K H xs ds) {i : Nat} {x : V} (e : xs[i]? = some x) : ∃ d, ds[i]? = some d ∧ Dp K H x d := by
  have hl := h.length
  have lt : i < ds.length := by rw [← hl]; exact (List.getElem?_eq_some_iff.mp e).1
  obtain ⟨y, ey, hy⟩ := h.get (List.getElem?_eq_getElem lt)
  rw [e] at ey; cases ey
  exact ⟨_, List.getElem?_eq_getElem lt, hy⟩
end
end Hk
set_option Elab.async false
set_option linter.all false
set_option maxRecDepth 100000
set_option maxHeartbeats 4000000
namespace Hk
open PySem PySem.Spec PyProof.Rows L2
/-- all but what stands at D is as it was -/
def But (D : Addr) (H H' : Hp) : Prop := ∀ b o, H b = some o → b ≠ D → H' b = some o
section
variable {J : It} {n : Nat} {G : Hp → Prop} {Y : Nat → Hp → V → Hp → Prop} {g : TG} {te : TE} {vs : List Nat} {σ : L2.St} {H1 : Hp} {D : Addr} {Qd : Hp → Prop}
/-- what a comprehension without a test makes, each item told by R -/
theorem lc_rel (w : L2.Walk J n G Y) (R : Nat → V → Hp → Prop) (hD : H1 D = none) (few : n < sizeLine) (hG : ∀ H', Same H1 H' → G H') (hY : ∀ i H x H', Y i H x H' → Same H H')
    (hR : ∀ i y H H' acc, H D = some (.lst acc) → But D H H' → R i y H → R i y H')
    (body : ∀ i x H' H2, i < n → Same H1 H' → Y i H' x H2 → ∀ Q' : VK, (∀ y H3, Same H2 H3 → R i y H3 → Q' y H3) → g x (wipe σ vs) H2 fun σ2 H3 => wipe σ2 vs = wipe σ vs ∧ te σ2 H3 Q')
    (done : ∀ ys H', Same H1 H' → H' D = some (.lst ys) → ys.length = n → (∀ i y, ys[i]? = some y → R i y H') → Qd H') :
    ∃ W : Nat → Nat → Hp → Prop, (∃ m, W 0 m (upd H1 D (.lst []))) ∧ ∀ i m H, W i m H →
      (J.stop i H ∧ Qd H) ∨ (J.go i H ∧ ∃ Nx : Hp → Prop, (∀ H', Nx H' → ∃ m', m' < m ∧ W (i + 1) m' H') ∧ ∀ x H', J.yld i H x H' → g x (wipe σ vs) H' fun σ2 H2 => wipe σ2 vs = wipe σ vs ∧ tYes σ2 H2 fun b H3 =>
        if b = true then te σ2 H3 fun y H4 => ∃ acc, H4 D = some (.lst acc) ∧ acc.length < sizeLine ∧ Nx (upd H4 D (.lst (acc ++ [y]))) else Nx H3) := by
 refine Hk.hold ?_
 simp (disch := with_unfolding_all (
 exact Hk.disch (by
  refine lc_it w (fun i H => Same H1 H ∧ ∃ ys, H D = some (.lst ys) ∧ ys.length = i ∧ ∀ j y, ys[j]? = some y → R j y H) ⟨same_new hD, [], upd_same, rfl, fun j y e => by simp at e⟩ (fun i H _ h => hG H h.1) ?_ ?_
  · rintro i x H H2 lt ⟨s1, ys, e, l, r⟩ y
    have s2 := hY i H x H2 y
    have z := body i x H H2 lt s1 y (fun y H4 => ∃ acc, H4 D = some (.lst acc) ∧ acc.length < sizeLine ∧ (Same H1 (upd H4 D (.lst (acc ++ [y]))) ∧ ∃ ys, upd H4 D (.lst (acc ++ [y])) D = some (.lst ys) ∧ ys.length = i + 1 ∧ ∀ j y', ys[j]? = some y' → R j y' (upd H4 D (.lst (acc ++ [y]))))) ?_
    · exact z
    · intro y H4 s4 ry
      have e4 : H4 D = some (.lst ys) := s4 _ _ (s2 _ _ e)
      have bt : ∀ o, But D H4 (upd H4 D o) := fun o b u h hb => by rw [upd_ne hb]; exact h
      refine ⟨ys, e4, by omega, fun b o h => ?_, ys ++ [y], upd_same, by simp [l], fun j y' hj => ?_⟩
      · have hb : b ≠ D := ne_of_none h hD
        rw [upd_ne hb]
        exact s4 _ _ (s2 _ _ (s1 _ _ h))
      · refine hR j y' H4 _ ys e4 (bt _) ?_
        rw [List.getElem?_append] at hj
        split at hj
        · refine hR j y' H H4 ys e (fun b o h hb => s4 _ _ (s2 _ _ h)) (r j y' hj)
        · rename_i hge
          have : j = i := by
            rcases Nat.lt_trichotomy j i with z | z | z
            · omega
            · exact z
            · rw [List.getElem?_eq_none (by simp; omega)] at hj; cases hj
          subst this
          simp [l] at hj
          subst hj
          exact ry
  · rintro H ⟨s1, ys, e, l, r⟩
    exact done ys H s1 e l r))) only [↓Hk.hold_s]
/-- .. each item a value that the heap plays no part in -/
theorem lc_val (w : L2.Walk J n G Y) (f : Nat → V) (hD : H1 D = none) (few : n < sizeLine) (hG : ∀ H', Same H1 H' → G H') (hY : ∀ i H x H', Y i H x H' → Same H H')
    (body : ∀ i x H' H2, i < n → Same H1 H' → Y i H' x H2 → ∀ Q' : VK, (∀ H3, Same H2 H3 → Q' (f i) H3) → g x (wipe σ vs) H2 fun σ2 H3 => wipe σ2 vs = wipe σ vs ∧ te σ2 H3 Q')
    (done : ∀ H', Same H1 H' → H' D = some (.lst ((List.range n).map f)) → Qd H') :
    ∃ W : Nat → Nat → Hp → Prop, (∃ m, W 0 m (upd H1 D (.lst []))) ∧ ∀ i m H, W i m H →
      (J.stop i H ∧ Qd H) ∨ (J.go i H ∧ ∃ Nx : Hp → Prop, (∀ H', Nx H' → ∃ m', m' < m ∧ W (i + 1) m' H') ∧ ∀ x H', J.yld i H x H' → g x (wipe σ vs) H' fun σ2 H2 => wipe σ2 vs = wipe σ vs ∧ tYes σ2 H2 fun b H3 =>
        if b = true then te σ2 H3 fun y H4 => ∃ acc, H4 D = some (.lst acc) ∧ acc.length < sizeLine ∧ Nx (upd H4 D (.lst (acc ++ [y]))) else Nx H3) := by
  refine lc_rel w (fun i y _ => y = f i) hD few hG hY (fun _ _ _ _ _ _ _ h => h) (fun i x H' H2 lt s y Q' k => body i x H' H2 lt s y Q' fun H3 s3 => k _ H3 s3 rfl) fun ys H' s e l r => done H' s ?_
  have : ys = (List.range n).map f := by
    refine List.ext_getElem (by simp [l]) fun i h1 h2 => ?_
    simpa using r i _ (List.getElem?_eq_getElem h1)
  rw [← this]; exact e
end
theorem yat_same {xs : List V} : ∀ i H x H', YAt xs i H x H' → Same H H' := fun i H x H' y => by
  obtain ⟨rfl, _⟩ := y; exact Same.refl _
theorem yfn_same {f : Nat → V} : ∀ i H x H', YFn f i H x H' → Same H H' := fun i H x H' y => by
  obtain ⟨rfl, _⟩ := y; exact Same.refl _
theorem ypair_same {f g : Nat → Option V} : ∀ i H x H', YPair f g i H x H' → Same H H' := fun i H x H' y => by
  obtain ⟨t, a, b, rfl, n, rfl, _⟩ := y; exact same_new n
theorem Same.sqT {K : PySem.W.Frag} {H H' : Hp} {a : Addr} {xs : List V} (s : Same H H') (h : SqT K H a xs) : SqT K H' a xs := Evl.ex_t s h
theorem sz1000 {n : Nat} (h : n < 100000) : n < sizeLine := Evl.sz_lt h
/-- the last sizes -/
theorem hk_all_range (n : Nat) (p : Nat → Bool) : ((List.range n).map p).all id = true ↔ ∀ i, i < n → p i = true := by simp
end Hk
set_option Elab.async false
set_option linter.all false
set_option maxRecDepth 100000
set_option maxHeartbeats 4000000
namespace Hk
open PySem PySem.Spec PyProof.Rows L2
/-- a dict of the module: texts, and tuples of texts -/
structure FormsAt (K : PySem.W.Frag) (w : World) (d : Addr) (tab : List (Str × List Str)) : Prop where
  at_ : ∃ es n, K.lookup d = some ⟨.type "dict", none, .dict es n, #[]⟩ ∧ PySem.W.KeysLit w.params es.toList
  low : (d == sysModules) = false
  get : ∀ z, (∃ ks t, tab.lookup z = some ks ∧ PySem.W.nsIn K d z = some (some (.ref t)) ∧ ∀ H, SqT K H t (ks.map V.str)) ∨ (tab.lookup z = none ∧ PySem.W.nsIn K d z = some none)
def tKGet (K : PySem.W.Frag) (d : Addr) (tab : List (Str × List Str)) (to te : TE) : TE := fun σ H Q => to σ H fun x H1 => x = .ref d ∧ te σ H1 fun y H2 => ∃ z, y = .str z ∧
  (∀ t ks, tab.lookup z = some ks → (∀ H, SqT K H t (ks.map V.str)) → Q (.ref t) H2) ∧ (tab.lookup z = none → Q .non H2)
section
variable {X : Cx} {o e : Expr} {apos cpos : Pos} {to te : TE} {d : Addr} {tab : List (Str × List Str)}
theorem pe_kget (F : FormsAt X.K X.w d tab) (ho : PE X o to) (he : PE X e te) (m : M1 X o "get" apos e cpos) : PE X (.Call (.Attribute o "get" apos) [e] [] cpos) (tKGet X.K d tab to te) := by
 refine Hk.hold ?_
 simp (disch := with_unfolding_all (
 exact Hk.disch (by
  refine ⟨fun pins s σ H Q I h => ?_⟩
  obtain ⟨es, n, hl, hk⟩ := F.at_
  refine wpAny_Call_method m.base m.few m.line PySem.F.plainAttrs_dict PySem.F.slot_dict_get PySem.F.type_dict_get (thn (ho.run pins s σ H _ I h) fun u s1 hh => ?_)
  obtain ⟨x, H1, I1, rx, ex, q1⟩ := hh
  subst ex
  obtain rfl : u = Value.ref d := rx
  have hm := PySem.W.mapOf_K (prog := X.prog) (w := X.w) I1.kIn hl hk
  refine ⟨hm.typeIs, hm.noDict, ?_⟩
  rw [m.trees]
  refine Calls.callWith_builtin rfl (Calls.evalArgs_plain (Calls.spliced_cons (thn (he.run pins s1 σ H1 _ I1 q1) fun iv s2 hh => Calls.spliced_nil ?_)))
  obtain ⟨y, H2, I2, ry, z, ey, q2, q3⟩ := hh
  subst ey
  obtain ⟨tk, rfl⟩ := ry
  have hm2 := PySem.W.mapOf_K (prog := X.prog) (w := X.w) I2.kIn hl hk
  refine call_meetsIn PySem.F.slot_dict_get hm2.typeIs PySem.F.entry_dict_get (PySem.F.args_dict_get_2 _ _) (meets_dict_get (strKind X.prog X.w) d (PySem.strKind_is X.prog X.w z tk) F.low) ⟨_, hm2, ?_⟩
  rcases F.get z with ⟨ks, t, e1, e2, e3⟩ | ⟨e1, e2⟩
  · rw [PySem.W.find_K hl e2]
    exact ⟨.ref t, H2, I2.tok _, rfl, q2 t ks e1 e3⟩
  · rw [PySem.W.find_K hl e2]
    exact ⟨.non, H2, I2.tok _, rfl, q3 e1⟩))) only [↓Hk.hold_s]
end
end Hk
set_option Elab.async false
set_option linter.all false
set_option maxRecDepth 100000
set_option maxHeartbeats 4000000
namespace Hk
open PySem PySem.Spec PyProof.Rows L2
theorem walk_zipT {K : PySem.W.Frag} {a b : Addr} {xs ys : List V} {n : Nat} (hn : n = min xs.length ys.length) : L2.Walk (RZ.ItzT K a b) n (fun H => SqT K H a xs ∧ SqT K H b ys) (YPair (fun i => xs[i]?) (fun i => ys[i]?)) := by
  subst hn
  refine ⟨fun i H hi q => ⟨xs, ys, xs[i]'(by omega), ys[i]'(by omega), q.1, q.2, by simp, by simp⟩, fun H q => ⟨xs, ys, q.1, q.2, by omega⟩, fun i H v H' _ q y => ?_⟩
  obtain ⟨t, x, z, e1, e2, e3, e4, e5⟩ := y
  exact ⟨t, x, z, e1, e2, e3, e4 xs q.1, e5 ys q.2⟩
/-- so many of each kind -/
abbrev Cnt := List (Str × Int)
def countKV (c : Cnt) : List (Key × V) := c.map fun p => (Sum.inr p.1, V.int p.2)
theorem countKV_get : ∀ {c : Cnt} {z : Str} {n : Int}, c.lookup z = some n → valV (countKV c) (Sum.inr z) = some (.int n)
  | (a, m) :: r, z, n, h => by
    unfold countKV
    rw [List.map_cons]
    by_cases e : a = z
    · subst e
      rw [valV_pos rfl]
      simp at h
      rw [h]
    · rw [valV_neg (fun q => e (by simpa using q))]
      have h2 : r.lookup z = some n := by
        rw [List.lookup_cons] at h
        have e2 : (z == a) = false := by simpa using fun q => e q.symm
        rwa [e2] at h
      exact countKV_get h2
theorem dgetC {H : Hp} {a : Addr} {c : Cnt} {z : Str} {n : Int} (h : H a = some (.dK (countKV c))) (e : c.lookup z = some n) : DGet H a (.str z) (some (.int n)) := by
  rw [← countKV_get e]
  exact DGet.k (k := Sum.inr z) h
theorem lookup_mem {α : Type} : ∀ {T : List (Str × α)} {z : Str} {v : α}, T.lookup z = some v → (z, v) ∈ T
  | (a, u) :: r, z, v, h => by
    rw [List.lookup_cons] at h
    split at h
    · rename_i e
      cases h
      rw [eq_of_beq e]
      exact List.mem_cons_self
    · exact List.mem_cons_of_mem _ (lookup_mem h)
theorem dpAll_of {K : PySem.W.Frag} {H : Hp} {xs : List V} {ds : List PyData} (l : xs.length = ds.length) (h : ∀ (i : Nat) (x : V) (d : PyData), xs[i]? = some x → ds[i]? = some d → Dp K H x d) : DpAll K H xs ds := by
  induction ds generalizing xs with
  | nil => cases xs with
    | nil => exact .nil
    | cons a r => simp at l
  | cons d ds ih => cases xs with
    | nil => simp at l
    | cons a r => exact .cons (h 0 a d rfl rfl) (ih (by simpa using l) fun i x e h1 h2 => h (i + 1) x e (by simpa using h1) (by simpa using h2))
theorem _root_.L2.DpAll.drop {K : PySem.W.Frag} {H : Hp} {xs : List V} {ds : List PyData} (h : DpAll K H xs ds) (n : Nat) : DpAll K H (xs.drop n) (ds.drop n) := by
  induction n generalizing xs ds with
  | zero => exact h
  | succ n ih => cases h with
    | nil => exact .nil
    | cons a t => exact ih t
theorem atI0 {α : Type} {xs : List α} {x : α} (h : xs[0]? = some x) : atI xs 0 = some x := atI_nat (j := 0) h
theorem atI1 {α : Type} {xs : List α} {x : α} (h : xs[1]? = some x) : atI xs 1 = some x := atI_nat (j := 1) h
end Hk
namespace Hk
open PySem PySem.Spec PyProof.Rows L2
/-- [p(x) for x in xs], xs a list of data, p a test -/
theorem lc_test {K : PySem.W.Frag} {a : Addr} {xs : List V} {ds : List PyData} {g : TG} {te : TE} {vs : List Nat} {σ : L2.St} {H1 : Hp} {D : Addr} {Qd : Hp → Prop} (p : PyData → Bool) (hx : SqL K H1 a xs) (hd : DpAll K H1 xs ds) (few : ds.length < 100000) (hD : H1 D = none)
    (body : ∀ x d H2, Dp K H2 x d → d ∈ ds → Same H1 H2 → ∀ Q' : VK, (∀ H3, Same H2 H3 → Q' (.bl (p d)) H3) → g x (wipe σ vs) H2 fun σ2 H3 => wipe σ2 vs = wipe σ vs ∧ te σ2 H3 Q')
    (done : ∀ H', Same H1 H' → SqL K H' D ((ds.map p).map V.bl) → Qd H') :
    ∃ W : Nat → Nat → Hp → Prop, (∃ m, W 0 m (upd H1 D (.lst []))) ∧ ∀ i m H, W i m H →
      ((Itl K a).stop i H ∧ Qd H) ∨ ((Itl K a).go i H ∧ ∃ Nx : Hp → Prop, (∀ H', Nx H' → ∃ m', m' < m ∧ W (i + 1) m' H') ∧ ∀ x H', (Itl K a).yld i H x H' → g x (wipe σ vs) H' fun σ2 H2 => wipe σ2 vs = wipe σ vs ∧ tYes σ2 H2 fun b H3 =>
        if b = true then te σ2 H3 fun y H4 => ∃ acc, H4 D = some (.lst acc) ∧ acc.length < sizeLine ∧ Nx (upd H4 D (.lst (acc ++ [y]))) else Nx H3) := by
 refine Hk.hold ?_
 simp (disch := with_unfolding_all (
 exact Hk.disch (by
  have l := hd.length
  refine lc_val (n := xs.length) walk_list (fun i => .bl (p (ds.getD i .none))) hD (sz1000 (by omega)) (fun H2 s => s.seq hx) yat_same ?_ ?_
  · rintro i x H2 H3 lt s ⟨rfl, e⟩ Q2 k
    obtain ⟨d, e2, hd2⟩ := hd.get' e
    refine body x d H3 (Dp.mono s hd2) (List.mem_of_getElem? e2) s Q2 fun H4 s4 => ?_
    have z := k H4 s4
    rw [List.getD_eq_getElem?_getD, e2] at z
    exact z
  · intro H2 s e
    refine done H2 s (SqL.of ?_)
    rw [e]
    congr 2
    refine List.ext_getElem (by simp [l]) fun i h1 h2 => ?_
    have lt : i < ds.length := by simpa using h2
    simp [List.getD_eq_getElem?_getD, List.getElem?_eq_getElem lt]))) only [↓Hk.hold_s]
theorem all_map_id {α : Type} (l : List α) (p : α → Bool) : (l.map p).all id = l.all p := by rw [List.all_map]; rfl
end Hk
set_option Elab.async false
set_option linter.all false
set_option maxRecDepth 100000
set_option maxHeartbeats 4000000
namespace Hk
open PySem PySem.Spec PyProof.Rows L2
section
variable {K : PySem.W.Frag} {a : Addr} {xs : List V} {g : TG} {tb : TS} {D : Ends} {σ : L2.St} {H : Hp}
theorem q_forV {k : Nat} (xs : List V) (Pv : Nat → L2.St → Hp → Prop) (hv : σ[k]? = some (some (.ref a))) (hx : SqL K H a xs) (h0 : Pv 0 σ H) (hl : ∀ i σ H, i ≤ xs.length → Pv i σ H → SqL K H a xs)
    (hs : ∀ i x σ H, xs[i]? = some x → Pv i σ H → g x σ H fun σ2 H2 => tb { D with nx := Pv (i + 1), ct := Pv (i + 1), bk := D.nx } σ2 H2) (hd : ∀ σ H, Pv xs.length σ H → D.nx σ H) : tFor (iList K (tVar k)) g tb D σ H :=
  q_for ⟨_, hv, a, rfl, ⟨xs, hx⟩, for_list Pv h0 hl hs hd⟩
theorem q_forR {k : Nat} {n : Int} (Pv : Nat → L2.St → Hp → Prop) (hv : σ[k]? = some (some (.int n))) (h1 : n < 1000000) (h2 : -1000000 < n) (h0 : Pv 0 σ H)
    (hs : ∀ i σ H, i < n.toNat → Pv i σ H → g (.int (0 + i)) σ H fun σ2 H2 => tb { D with nx := Pv (i + 1), ct := Pv (i + 1), bk := D.nx } σ2 H2) (hd : ∀ σ H, Pv n.toNat σ H → D.nx σ H) : tFor (iRng1 (tCons (tVar k) tNil)) g tb D σ H :=
  q_for ⟨_, hv, n, rfl, by omega, by omega, for_range Pv h0 hs hd⟩
end
/-- [f(x) for x in xs], each a value that the heap plays no part in, xs a list of data -/
theorem lc_map {K : PySem.W.Frag} {a : Addr} {xs : List V} {ds : List PyData} {g : TG} {te : TE} {vs : List Nat} {σ : L2.St} {H1 : Hp} {D : Addr} {Qd : Hp → Prop} (f : PyData → V) (hx : SqL K H1 a xs) (hd : DpAll K H1 xs ds) (few : ds.length < 100000) (hD : H1 D = none)
    (body : ∀ x d H2, Dp K H2 x d → d ∈ ds → Same H1 H2 → ∀ Q' : VK, (∀ H3, Same H2 H3 → Q' (f d) H3) → g x (wipe σ vs) H2 fun σ2 H3 => wipe σ2 vs = wipe σ vs ∧ te σ2 H3 Q')
    (done : ∀ H', Same H1 H' → H' D = some (.lst (ds.map f)) → Qd H') :
    ∃ W : Nat → Nat → Hp → Prop, (∃ m, W 0 m (upd H1 D (.lst []))) ∧ ∀ i m H, W i m H →
      ((Itl K a).stop i H ∧ Qd H) ∨ ((Itl K a).go i H ∧ ∃ Nx : Hp → Prop, (∀ H', Nx H' → ∃ m', m' < m ∧ W (i + 1) m' H') ∧ ∀ x H', (Itl K a).yld i H x H' → g x (wipe σ vs) H' fun σ2 H2 => wipe σ2 vs = wipe σ vs ∧ tYes σ2 H2 fun b H3 =>
        if b = true then te σ2 H3 fun y H4 => ∃ acc, H4 D = some (.lst acc) ∧ acc.length < sizeLine ∧ Nx (upd H4 D (.lst (acc ++ [y]))) else Nx H3) := by
 refine Hk.hold ?_
 simp (disch := with_unfolding_all (
 exact Hk.disch (by
  have l := hd.length
  refine lc_val (n := xs.length) walk_list (fun i => f (ds.getD i .none)) hD (sz1000 (by omega)) (fun H2 s => s.seq hx) yat_same ?_ ?_
  · rintro i x H2 H3 lt s ⟨rfl, e⟩ Q2 k
    obtain ⟨d, e2, hd2⟩ := hd.get' e
    refine body x d H3 (L2.Dp.mono s hd2) (List.mem_of_getElem? e2) s Q2 fun H4 s4 => ?_
    have z := k H4 s4
    rw [List.getD_eq_getElem?_getD, e2] at z
    exact z
  · intro H2 s e
    refine done H2 s ?_
    rw [e]
    congr 2
    refine List.ext_getElem (by simp [l]) fun i h1 h2 => ?_
    have lt : i < ds.length := by simpa using h2
    simp [List.getD_eq_getElem?_getD, List.getElem?_eq_getElem lt]))) only [↓Hk.hold_s]
theorem ty_but {K : PySem.W.Frag} {H H2 : Hp} {a : Addr} {kvs : List (Key × V)} {x : V} {d : PyData} (hd : Dp K H x d) (ha : H a = some (.dK kvs)) (k : ∀ b o, H b = some o → b ≠ a → H2 b = some o) : TyX K H2 x (.type (dTy d)) := by
 refine Hk.hold ?_
 simp (disch := with_unfolding_all (
 exact Hk.disch (by
  cases hd with
  | non => exact .base .non
  | bl b => exact .base (.bl b)
  | int b => exact .base (.int b)
  | str b => exact .base (.str b)
  | @lst c xs ds hs _ => rcases hs with (hs | ⟨o, hs⟩) | ⟨o, its, n, l0, c0, _⟩
                         · exact .base (.lst (k _ _ hs (ne_of hs ha (by simp))))
                         · exact .base (.frz (k _ _ hs (ne_of hs ha (by simp))))
                         · exact .kList l0 c0
  | @tup c xs ds hs _ => rcases hs with (hs | ⟨o, hs⟩) | ⟨o, its, n, l0, c0, _⟩
                         · exact .base (.tup (k _ _ hs (ne_of hs ha (by simp))))
                         · exact .fTuple (k _ _ hs (ne_of hs ha (by simp)))
                         · exact .kTuple l0 c0))) only [↓Hk.hold_s]
end Hk
set_option Elab.async false
set_option linter.all false
set_option maxRecDepth 100000
set_option maxHeartbeats 4000000
namespace Hk
open PySem PySem.Spec PyProof.Rows L2
/-- a method as it stands behind the top -/
structure MethAt (K : PySem.W.Frag) (C : Addr) (m qual : Str) (st : Stmt) (ps : List Str) : Prop where
  cls : Cls K C
  ex : ∃ f fd, Fun K m qual st f fd ∧ Meth K C m f ∧ Binds K fd ps []
structure MCal (P : Program) (w : World) (K : PySem.W.Frag) (mg : Str → Option Value) (base : Heap) (k : Nat) (C : Addr) (m : Str) (ps : List Str) (sp : Sp) : Prop where
  cls : Cls K C
  ex : ∃ f fd, Meth K C m f ∧ Binds K fd ps [] ∧ FnOk P w K mg base CX0 k f fd ps sp
theorem MethAt.cal {P : Program} {w : World} {K : PySem.W.Frag} {mg : Str → Option Value} {base : Heap} {k : Nat} {C : Addr} {m qual : Str} {st : Stmt} {ps : List Str} {sp : Sp} (d : MethAt K C m qual st ps)
    (h : ∀ f fd, Fun K m qual st f fd → FnOk P w K mg base CX0 k f fd ps sp) : MCal P w K mg base k C m ps sp := by
  obtain ⟨f, fd, F, g, b⟩ := d.ex
  exact ⟨d.cls, f, fd, g, b, h f fd F⟩
/-- a class that can be called: its __init__'s promise -/
structure MkCal (P : Program) (w : World) (K : PySem.W.Frag) (mg : Str → Option Value) (base : Heap) (k : Nat) (C : Addr) (x : Str) (ps : List Str) (sp : Sp) : Prop where
  g : mg x = some (.ref C)
  ex : ∃ f fd, Mk K C f ∧ Binds K fd ps [] ∧ FnOk P w K mg base CX0 k f fd ps sp
structure MkKCal (P : Program) (w : World) (K : PySem.W.Frag) (mg : Str → Option Value) (base : Heap) (k : Nat) (C : Addr) (x : Str) (ps : List Str) (n : Nat) (ks : List Str) (sp : Sp) : Prop where
  g : mg x = some (.ref C)
  ex : ∃ f fd, Mk K C f ∧ KBn K fd ps (n + 1) ks (fun us ws => us ++ ws) (fun vs zs => vs ++ zs) ∧ FnOk P w K mg base CX0 k f fd ps sp
section
variable {X : Cx} {k n : Nat} {x m : Str} {ps ks : List Str} {sp : Sp} {p pos apos : Pos} {o e : Expr} {es : List Expr} {kws : List Keyword} {ta : TE} {t tk : TA} {C : Addr}
theorem pe_mcal {pl : Sem Bool} (c : MCal X.prog X.w X.K X.mg X.base k C m ps sp) (hr : Room k X.A) (ho : PE X o ta) (ha : PA X (e :: es) t)
    (hst : starEach (e :: es) X.env = (false, eval e X.env) :: starEach es X.env := by rfl) (hpl : (backTo pos (starEach es X.env)).any (·.1) = false := by rfl)
    (ht : eval (.Call (.Attribute o m apos) (e :: es) [] pos) X.env = (do
      let ov ← eval o X.env; standAt apos.atName
      let (f, first) ← holding [ov] (getMethod ov m pl); callWith pos f first (backTo pos (starEach (e :: es) X.env)) (backToKw pos (keywordEach [] X.env))) := by rfl) : PE X (.Call (.Attribute o m apos) (e :: es) [] pos) (tMeth C m sp [] E0 ta t) := by
  obtain ⟨cl, f, fd, mt, b, F⟩ := c
  exact pe_meth ho cl mt F hr b .nil pass0 ha hst hpl ht
theorem pe_mcal0 {pl : Sem Bool} (c : MCal X.prog X.w X.K X.mg X.base k C m ps sp) (hr : Room k X.A) (ho : PE X o ta)
    (ht : eval (.Call (.Attribute o m apos) [] [] pos) X.env = (do
      let ov ← eval o X.env; standAt apos.atName
      let (f, first) ← holding [ov] (getMethod ov m pl); callWith pos f first (backTo pos (starEach [] X.env)) (backToKw pos (keywordEach [] X.env))) := by rfl) : PE X (.Call (.Attribute o m apos) [] [] pos) (tMeth C m sp [] E0 ta tNil) := by
  obtain ⟨cl, f, fd, mt, b, F⟩ := c
  exact pe_meth0 ho cl mt F hr b .nil pass0 ht
theorem pe_mk (c : MkCal X.prog X.w X.K X.mg X.base k C x ps sp) (hr : Room (k + 1) X.A) (hg : Gl X x) (ha : PA X (e :: es) t) (hdb : (x == ("__debug__" : Str)) = false := by decide)
    (he : starEach (e :: es) X.env = (false, eval e X.env) :: starEach es X.env := by rfl) (hpl : (backTo pos (starEach es X.env)).any (·.1) = false := by rfl) : PE X (.Call (.Name x p) (e :: es) [] pos) (tMake C sp [] E0 t) := by
  obtain ⟨g, f, fd, M, b, F⟩ := c
  exact pe_make M F hr hg g b .nil pass0 ha hdb he hpl
theorem pe_mkk (c : MkKCal X.prog X.w X.K X.mg X.base k C x ps n ks sp) (hr : Room (k + 1) X.A) (hg : Gl X x) (ha : PA X (e :: es) t) (hkw : PK X kws tk)
    (hall : (backToKw pos (keywordEach kws X.env)).all (·.1.isSome) = true := by rfl) (hks : (backToKw pos (keywordEach kws X.env)).filterMap (·.1) = ks := by rfl) (hdb : (x == ("__debug__" : Str)) = false := by decide)
    (he : starEach (e :: es) X.env = (false, eval e X.env) :: starEach es X.env := by rfl) (hpl : ((backTo pos (starEach (e :: es) X.env)).any (·.1) || (backToKw pos (keywordEach kws X.env)).any (·.1.isNone)) = false := by rfl) :
    PE X (.Call (.Name x p) (e :: es) kws pos) (tMakeK C n ks.length sp (fun vs zs => vs ++ zs) E0 t tk) := by
  obtain ⟨g, f, fd, M, b, F⟩ := c
  exact pe_makeK M F hr hg g b pass0 ha hkw hall hks hdb he hpl
end
section
variable {K : PySem.W.Frag} {σ : L2.St} {H : Hp} {Q : VK} {D : Ends} {ta tv te : TE} {t : TA} {C : Addr} {m f : Str} {sp : Sp}
theorem q_meth (h : ta σ H fun x H1 => ∃ a dx fs, x = .ref a ∧ H1 a = some (.ins C dx fs) ∧ fs.lookup m = none ∧ t σ H1 fun vs H2 => sp (x :: (vs ++ [])) H2 Q E0) : tMeth C m sp [] E0 ta t σ H Q := h
theorem q_make (h : t σ H fun vs H1 => ∀ x dx, H1 x = none → H1 dx = none → dx ≠ x → sp (.ref x :: (vs ++ [])) (upd (upd H1 dx (.own x)) x (.ins C dx [])) (fun v H2 => v = .non ∧ Q (.ref x) H2) E0) : tMake C sp [] E0 t σ H Q := h
theorem q_sfld (h : tv σ H fun y H1 => ta σ H1 fun x H2 => ∃ a C dx fs, x = .ref a ∧ H2 a = some (.ins C dx fs) ∧ Cls K C ∧ NoAttr K C f ∧ fs.length < 1000 ∧ D.nx σ (upd H2 a (.ins C dx (putF f y fs)))) : sFld K ta tv f D σ H := h
end
/-- fields that are there -/
theorem put_same (f : Str) (v : V) (fs : List (Str × V)) : (putF f v fs).lookup f = some v := by rw [lookup_putF, if_pos rfl]
theorem put_ne {f g : Str} (v : V) (fs : List (Str × V)) (h : g ≠ f) : (putF f v fs).lookup g = fs.lookup g := by rw [lookup_putF, if_neg h]
/-- the parts of a build -/
structure BD where
  tasks : PyData
  pages : PyData
  ports : PyData
  locks : PyData
  frames : PyData
  disk : PyData
  rights : PyData
  lines : PyData
  costs : PyData
  plan : PyData
  outside : PyData
  wipe : PyData
  pad : PyData
  lend : PyData
  share : PyData
def tupOf : PyData → PyData | .list l => .tuple l | d => d
def rowsT : PyData → PyData | .list l => .tuple (l.map tupOf) | d => d
def planT : PyData → PyData | .tuple [.str z, e] => .tuple [.str z, if z = "slots" then tupOf e else e] | d => d
def BD.parts (b : BD) : List (Str × PyData) := [("tasks", tupOf b.tasks), ("pages", tupOf b.pages), ("ports", tupOf b.ports), ("locks", b.locks), ("frames", b.frames), ("disk", b.disk), ("rights", rowsT b.rights), ("lines", tupOf b.lines), ("costs", b.costs),
  ("plan", planT b.plan), ("outside", b.outside), ("wipe", b.wipe), ("pad", b.pad), ("lend", b.lend), ("share", b.share)]
theorem pairedKV_get {K : PySem.W.Frag} {H : Hp} : ∀ {kvs : List (Key × V)} {l : List (Str × PyData)} {z : Str} {d : PyData}, Paired (fun p q => p.1 = Sum.inr q.1 ∧ Dp K H p.2 q.2) kvs l → l.lookup z = some d → ∃ v, valV kvs (Sum.inr z) = some v ∧ Dp K H v d
  | [], [], z, d, .nil, e => by simp at e
  | p :: kvs, q :: l, z, d, .cons h t, e => by
    rw [List.lookup_cons] at e
    by_cases hz : z = q.1
    · subst hz
      rw [beq_self_eq_true] at e
      cases e
      exact ⟨p.2, valV_pos h.1, h.2⟩
    · have hb : (z == q.1) = false := by simpa using hz
      rw [hb] at e
      obtain ⟨v, e1, e2⟩ := pairedKV_get t e
      refine ⟨v, ?_, e2⟩
      rw [valV_neg (fun y => hz (by rw [h.1] at y; exact (Sum.inr.inj y).symm))]
      exact e1
end Hk
namespace Hk
open PySem PySem.Spec PyProof.Rows L2
/-- [f(x) for x in xs], xs a tuple of data -/
theorem lc_mapT {K : PySem.W.Frag} {a : Addr} {xs : List V} {ds : List PyData} {g : TG} {te : TE} {vs : List Nat} {σ : L2.St} {H1 : Hp} {D : Addr} {Qd : Hp → Prop} (f : PyData → V) (hx : SqT K H1 a xs) (hd : DpAll K H1 xs ds) (few : ds.length < 100000) (hD : H1 D = none)
    (body : ∀ x d H2, Dp K H2 x d → d ∈ ds → Same H1 H2 → ∀ Q' : VK, (∀ H3, Same H2 H3 → Q' (f d) H3) → g x (wipe σ vs) H2 fun σ2 H3 => wipe σ2 vs = wipe σ vs ∧ te σ2 H3 Q')
    (done : ∀ H', Same H1 H' → H' D = some (.lst (ds.map f)) → Qd H') :
    ∃ W : Nat → Nat → Hp → Prop, (∃ m, W 0 m (upd H1 D (.lst []))) ∧ ∀ i m H, W i m H →
      ((Itt K a).stop i H ∧ Qd H) ∨ ((Itt K a).go i H ∧ ∃ Nx : Hp → Prop, (∀ H', Nx H' → ∃ m', m' < m ∧ W (i + 1) m' H') ∧ ∀ x H', (Itt K a).yld i H x H' → g x (wipe σ vs) H' fun σ2 H2 => wipe σ2 vs = wipe σ vs ∧ tYes σ2 H2 fun b H3 =>
        if b = true then te σ2 H3 fun y H4 => ∃ acc, H4 D = some (.lst acc) ∧ acc.length < sizeLine ∧ Nx (upd H4 D (.lst (acc ++ [y]))) else Nx H3) := by
 refine Hk.hold ?_
 simp (disch := with_unfolding_all (
 exact Hk.disch (by
  have l := hd.length
  refine lc_val (n := xs.length) walk_tup (fun i => f (ds.getD i .none)) hD (sz1000 (by omega)) (fun H2 s => Same.sqT s hx) yat_same ?_ ?_
  · rintro i x H2 H3 lt s ⟨rfl, e⟩ Q2 k
    obtain ⟨d, e2, hd2⟩ := hd.get' e
    refine body x d H3 (L2.Dp.mono s hd2) (List.mem_of_getElem? e2) s Q2 fun H4 s4 => ?_
    have z := k H4 s4
    rw [List.getD_eq_getElem?_getD, e2] at z
    exact z
  · intro H2 s e
    refine done H2 s ?_
    rw [e]
    congr 2
    refine List.ext_getElem (by simp [l]) fun i h1 h2 => ?_
    have lt : i < ds.length := by simpa using h2
    simp [List.getD_eq_getElem?_getD, List.getElem?_eq_getElem lt]))) only [↓Hk.hold_s]
/-- all but instances is as it was -/
def Keep (H H' : Hp) : Prop := ∀ b o, H b = some o → (∀ C dx fs, o ≠ .ins C dx fs) → H' b = some o
theorem But.keep {r C dx : Addr} {fs : List (Str × V)} {H H' : Hp} (e : H r = some (.ins C dx fs)) (s : But r H H') : Keep H H' := fun b o h n => s b o h fun z => by
  subst z; rw [e] at h; cases h; exact n C dx fs rfl
theorem Keep.sqL {K : PySem.W.Frag} {H H' : Hp} {a : Addr} {xs : List V} (s : Keep H H') (h : SqL K H a xs) : SqL K H' a xs := by
  rcases h with (h | ⟨o, h⟩) | h
  · exact .inl (.inl (s _ _ h (by simp)))
  · exact .inl (.inr ⟨o, s _ _ h (by simp)⟩)
  · exact .inr h
theorem Keep.sqT {K : PySem.W.Frag} {H H' : Hp} {a : Addr} {xs : List V} (s : Keep H H') (h : SqT K H a xs) : SqT K H' a xs := by
  rcases h with (h | ⟨o, h⟩) | h
  · exact .inl (.inl (s _ _ h (by simp)))
  · exact .inl (.inr ⟨o, s _ _ h (by simp)⟩)
  · exact .inr h
mutual
theorem dpKeep {K : PySem.W.Frag} {H H' : Hp} (s : Keep H H') : ∀ {v : V} {d : PyData}, Dp K H v d → Dp K H' v d
  | _, _, .non => .non
  | _, _, .bl b => .bl b
  | _, _, .int i => .int i
  | _, _, .str x => .str x
  | _, _, .lst h a => .lst (Keep.sqL s h) (dpAllKeep s a)
  | _, _, .tup h a => .tup (Keep.sqT s h) (dpAllKeep s a)
theorem dpAllKeep {K : PySem.W.Frag} {H H' : Hp} (s : Keep H H') : ∀ {vs : List V} {ds : List PyData}, DpAll K H vs ds → DpAll K H' vs ds
  | _, _, .nil => .nil
  | _, _, .cons h t => .cons (dpKeep s h) (dpAllKeep s t)
end
theorem But.refl {r : Addr} {H : Hp} : But r H H := fun _ _ h _ => h
theorem But.trans {r : Addr} {H H1 H2 : Hp} (a : But r H H1) (b : But r H1 H2) : But r H H2 := fun x o h n => b x o (a x o h n) n
theorem But.same {r : Addr} {H H1 : Hp} (a : Same H H1) : But r H H1 := fun x o h _ => a x o h
theorem But.put {r : Addr} {H : Hp} {o : HO} : But r H (upd H r o) := fun x u h n => by rw [upd_ne n]; exact h
/-- no other fields -/
def Only (fs : List (Str × V)) (L : List Str) : Prop := ∀ m, m ∉ L → fs.lookup m = none
theorem Only.put {fs : List (Str × V)} {L : List Str} (h : Only fs L) {f : Str} {v : V} (hf : f ∈ L) : Only (putF f v fs) L := fun m hm => by
  rw [put_ne v fs (fun e => hm (by rw [e]; exact hf))]; exact h m hm
end Hk
set_option Elab.async false
set_option linter.all false
set_option maxRecDepth 100000
set_option maxHeartbeats 4000000
namespace Hk
open PySem PySem.Spec PyProof.Rows L2
section
variable {F : Type} {K : PySem.W.Frag} {nm : F → Str} {H H' : Hp} {fs : List (Str × V)} {D : F → PyData} {ns : List F} {f : F} {v : V} {d : PyData}
/-- fields of an instance that hold data; F names them -/
def Told (K : PySem.W.Frag) (nm : F → Str) (H : Hp) (fs : List (Str × V)) (D : F → PyData) (ns : List F) : Prop := ∀ f, f ∈ ns → ∃ v, fs.lookup (nm f) = some v ∧ Dp K H v (D f)
theorem Told.keep (h : Told K nm H fs D ns) (s : Keep H H') : Told K nm H' fs D ns := fun f hf => by
  obtain ⟨v, e, r⟩ := h f hf
  exact ⟨v, e, dpKeep s r⟩
theorem Told.mono (h : Told K nm H fs D ns) (s : Same H H') : Told K nm H' fs D ns := h.keep fun b o e _ => s b o e
theorem Told.add (h : Told K nm H fs D ns) (inj : ∀ f g, nm f = nm g → f = g) (hf : f ∉ ns) (hd : Dp K H v (D f)) : Told K nm H (putF (nm f) v fs) D (f :: ns) := fun g hg => by
  rcases List.mem_cons.mp hg with rfl | hg
  · exact ⟨v, put_same _ _ _, hd⟩
  · obtain ⟨w, e, r⟩ := h g hg
    exact ⟨w, by rw [put_ne _ _ fun z => hf (by rw [← inj _ _ z]; exact hg)]; exact e, r⟩
theorem Told.off {g : Str} (h : Told K nm H fs D ns) (hg : ∀ f, f ∈ ns → nm f ≠ g) : Told K nm H (putF g v fs) D ns := fun f hf => by
  obtain ⟨w, e, r⟩ := h f hf
  exact ⟨w, by rw [put_ne _ _ (hg f hf)]; exact e, r⟩
/-- another value at a field -/
def fset [DecidableEq F] (D : F → PyData) (f : F) (d : PyData) : F → PyData := fun g => if g = f then d else D g
theorem Told.set [DecidableEq F] (h : Told K nm H fs D ns) (inj : ∀ f g, nm f = nm g → f = g) (hd : Dp K H v d) : Told K nm H (putF (nm f) v fs) (fset D f d) ns := fun g hg => by
  unfold fset
  by_cases e : g = f
  · subst e
    rw [if_pos rfl]
    exact ⟨v, put_same _ _ _, hd⟩
  · rw [if_neg e]
    obtain ⟨w, e2, r⟩ := h g hg
    exact ⟨w, by rw [put_ne _ _ fun z => e (inj _ _ z)]; exact e2, r⟩
end
section
variable {K : PySem.W.Frag} {H : Hp} {Q : VK}
theorem dpAll_take {H : Hp} : ∀ {xs : List V} {ds : List PyData} (n : Nat), DpAll K H xs ds → DpAll K H (xs.take n) (ds.take n)
  | _, _, 0, _ => by simp only [List.take_zero]; exact .nil
  | _, _, _ + 1, .nil => .nil
  | _, _, n + 1, .cons h t => .cons h (dpAll_take n t)
theorem dpAll_drop {H : Hp} : ∀ {xs : List V} {ds : List PyData} (n : Nat), DpAll K H xs ds → DpAll K H (xs.drop n) (ds.drop n)
  | _, _, 0, h => h
  | _, _, _ + 1, .nil => .nil
  | _, _, n + 1, .cons h t => dpAll_drop n t
theorem dpAll_app {H : Hp} : ∀ {xs ys : List V} {ds es : List PyData}, DpAll K H xs ds → DpAll K H ys es → DpAll K H (xs ++ ys) (ds ++ es)
  | _, _, _, _, .nil, h => h
  | _, _, _, _, .cons h t, g => .cons h (dpAll_app t g)
end
section
variable {r : V → Option Int → Option Int → Hp → VK → Prop} {te t : TE} {tl th : TO} {σ : L2.St} {H : Hp} {Q : VK} {QO : Option Int → Hp → Prop} {i : Int}
theorem q_sl (h : te σ H fun x H1 => tl σ H1 fun l H2 => th σ H2 fun u H3 => r x l u H3 Q) : tSl r te tl th σ H Q := h
theorem q_np (h : QO none H) : tNoPart σ H QO := h
theorem q_pt (h : t σ H fun x H1 => ∃ i, x = .int i ∧ QO (some i) H1) : tPart t σ H QO := h
end
end Hk
set_option Elab.async false
set_option linter.all false
set_option maxRecDepth 100000
set_option maxHeartbeats 4000000
open PySem PySem.Spec PyProof.Rows L2 Hk
local macro_rules | `(tactic| walk_at "s1") => `(tactic| first
  | with_reducible refine q_seq ?_ | with_reducible refine q_next ?_ | with_reducible refine q_set ?_ | with_reducible refine q_ret ?_ | with_reducible refine q_drop ?_ | with_reducible refine q_ifs ?_ | with_reducible refine q_ife ?_
  | ((with_reducible show tVar _ _ _ _); refine q_var (by exact rfl) ?_)
  | with_reducible refine q_c ?_ | with_reducible refine q_op ?_ | with_reducible refine q_un ?_ | with_reducible refine q_chain ?_
  | with_reducible refine q_rI0 ?_ | with_reducible refine q_rU ?_ | with_reducible refine q_test ?_ | with_reducible refine q_tB ?_ | with_reducible refine q_bl ?_
  | with_reducible refine q_and ?_ | with_reducible refine q_or ?_ | with_reducible refine q_not ?_ | with_reducible refine q_andV ?_ | with_reducible refine q_orV ?_ | with_reducible refine q_notV ?_
  | with_reducible refine q_isN ?_ | with_reducible refine q_notN ?_ | with_reducible refine q_nil ?_ | with_reducible refine q_cons ?_ | with_reducible refine q_tup ?_ | with_reducible refine q_lst ?_
  | with_reducible refine q_cb ?_ | with_reducible refine q_call ?_ | with_reducible refine q_fld ?_ | with_reducible refine q_bm ?_ | with_reducible refine q_dget ?_
  | (with_reducible refine q_isi_int (by assumption) ?_) | (with_reducible refine q_isi_bool (by assumption) ?_) | (with_reducible refine q_isi_str (by assumption) ?_) | (with_reducible refine q_isi_list (by assumption) ?_) | (with_reducible refine q_isi_tuple (by assumption) ?_)
  | with_reducible refine q_sub ?_ | with_reducible refine q_asg ?_)
local macro_rules | `(tactic| walk_at "st") => `(tactic| (repeat (walk_at "s1"; try dsimp only [List.set_cons_zero, List.set_cons_succ, List.append_nil, List.cons_append, List.nil_append, cxOf])))
local macro_rules | `(tactic| walk_at "st0") => `(tactic| (simp only [L2.start, List.map_cons, List.map_nil, List.length_cons, List.length_nil, Nat.reduceAdd, Nat.reduceSub, List.reduceReplicate, List.replicate_zero, List.cons_append, List.nil_append, List.append_nil]; walk_at "st"))
local macro_rules | `(tactic| walk_at "s1") => `(tactic| first | with_reducible refine q_meth ?_ | with_reducible refine q_sfld ?_ | with_reducible refine q_make ?_)
local macro_rules | `(tactic| walk_at "lk") => `(tactic| (repeat (first | exact put_same _ _ _ | assumption | rw [put_ne _ _ (by decide +kernel)])))
namespace T
def topS (i : Nat) : Stmt := PySem.Challenge.pw_hushkernel_k64_cures_together.main.body.getD i (.Pass ⟨0, 0, 0, 0⟩)
abbrev s_is_integer : Stmt := topS 3
theorem sc_is_integer : FnScope ["thing"] ["thing"] (defScope s_is_integer) := ⟨rfl, rfl, rfl, by decide +kernel, rfl, by decide +kernel, by decide +kernel⟩
abbrev s_is_between : Stmt := topS 4
theorem sc_is_between : FnScope ["thing", "low", "high"] ["thing", "low", "high"] (defScope s_is_between) := ⟨rfl, rfl, rfl, by decide +kernel, rfl, by decide +kernel, by decide +kernel⟩
abbrev s_is_index : Stmt := topS 5
theorem sc_is_index : FnScope ["thing", "many"] ["thing", "many"] (defScope s_is_index) := ⟨rfl, rfl, rfl, by decide +kernel, rfl, by decide +kernel, by decide +kernel⟩
abbrev s_is_tuple : Stmt := topS 6
theorem sc_is_tuple : FnScope ["thing", "many"] ["thing", "many"] (defScope s_is_tuple) := ⟨rfl, rfl, rfl, by decide +kernel, rfl, by decide +kernel, by decide +kernel⟩
abbrev s_is_list : Stmt := topS 7
theorem sc_is_list : FnScope ["thing", "low", "high"] ["thing", "low", "high"] (defScope s_is_list) := ⟨rfl, rfl, rfl, by decide +kernel, rfl, by decide +kernel, by decide +kernel⟩
abbrev s_is_ascending : Stmt := topS 8
theorem sc_is_ascending : FnScope ["items", "low", "high"] ["items"] (defScope s_is_ascending) := ⟨rfl, rfl, rfl, by decide +kernel, rfl, by decide +kernel, by decide +kernel⟩
abbrev s_counted : Stmt := topS 17
theorem sc_counted : FnScope ["tasks", "pages", "ports", "locks", "disk"] ["tasks", "pages", "ports", "locks", "disk"] (defScope s_counted) := ⟨rfl, rfl, rfl, by decide +kernel, rfl, by decide +kernel, by decide +kernel⟩
abbrev s_word_of : Stmt := topS 18
theorem sc_word_of : FnScope ["thing"] ["thing"] (defScope s_word_of) := ⟨rfl, rfl, rfl, by decide +kernel, rfl, by decide +kernel, by decide +kernel⟩
abbrev s_is_formed : Stmt := topS 19
theorem sc_is_formed : FnScope ["counts", "kinds", "thing", "kind", "item"] ["counts", "kinds", "thing"] (defScope s_is_formed) := ⟨rfl, rfl, rfl, by decide +kernel, rfl, by decide +kernel, by decide +kernel⟩
abbrev s_is_of_kind : Stmt := topS 20
theorem sc_is_of_kind : FnScope ["counts", "kind", "item"] ["counts", "kind", "item"] (defScope s_is_of_kind) := ⟨rfl, rfl, rfl, by decide +kernel, rfl, by decide +kernel, by decide +kernel⟩
abbrev s_is_right : Stmt := topS 21
theorem sc_is_right : FnScope ["counts", "thing"] ["counts", "thing"] (defScope s_is_right) := ⟨rfl, rfl, rfl, by decide +kernel, rfl, by decide +kernel, by decide +kernel⟩
abbrev s_Rules___init__ : Stmt := inClass (topS 23) 0
theorem sc_Rules___init__ : FnScope ["self", "build", "tasks", "side", "level"] ["self", "build"] (defScope s_Rules___init__) := ⟨rfl, rfl, rfl, by decide +kernel, rfl, by decide +kernel, by decide +kernel⟩
abbrev s_Rules_set_costs : Stmt := inClass (topS 23) 1
theorem sc_Rules_set_costs : FnScope ["self", "costs"] ["self", "costs"] (defScope s_Rules_set_costs) := ⟨rfl, rfl, rfl, by decide +kernel, rfl, by decide +kernel, by decide +kernel⟩
abbrev s_Rules_set_frames : Stmt := inClass (topS 23) 2
theorem sc_Rules_set_frames : FnScope ["self", "build"] ["self", "build"] (defScope s_Rules_set_frames) := ⟨rfl, rfl, rfl, by decide +kernel, rfl, by decide +kernel, by decide +kernel⟩
abbrev s_Rules_set_plan : Stmt := inClass (topS 23) 3
theorem sc_Rules_set_plan : FnScope ["self", "plan", "word", "how"] ["self", "plan"] (defScope s_Rules_set_plan) := ⟨rfl, rfl, rfl, by decide +kernel, rfl, by decide +kernel, by decide +kernel⟩
abbrev s_Rules_slot_ticks : Stmt := inClass (topS 23) 4
theorem sc_Rules_slot_ticks : FnScope ["self", "rows", "found", "task", "ticks", "gone", "fits"] ["self", "rows"] (defScope s_Rules_slot_ticks) := ⟨rfl, rfl, rfl, by decide +kernel, rfl, by decide +kernel, by decide +kernel⟩
abbrev s_Rules_set_letters : Stmt := inClass (topS 23) 5
theorem sc_Rules_set_letters : FnScope ["self", "outside"] ["self", "outside"] (defScope s_Rules_set_letters) := ⟨rfl, rfl, rfl, by decide +kernel, rfl, by decide +kernel, by decide +kernel⟩
abbrev s_Build___init__ : Stmt := inClass (topS 25) 0
theorem sc_Build___init__ : FnScope ["self", "tasks", "pages", "ports", "locks", "frames", "disk", "rights", "lines", "costs", "plan", "outside", "wipe", "pad", "lend", "share", "part", "counts", "flags", "row"] ["self", "tasks", "pages", "ports", "locks", "frames", "disk", "rights", "lines", "costs", "plan", "outside", "wipe", "pad", "lend", "share"] (defScope s_Build___init__) := ⟨rfl, rfl, rfl, by decide +kernel, rfl, by decide +kernel, by decide +kernel⟩
abbrev s_Build_tasks : Stmt := inClass (topS 25) 1
theorem sc_Build_tasks : FnScope ["self"] ["self"] (defScope s_Build_tasks) := ⟨rfl, rfl, rfl, by decide +kernel, rfl, by decide +kernel, by decide +kernel⟩
abbrev s_Build_pages : Stmt := inClass (topS 25) 2
theorem sc_Build_pages : FnScope ["self"] ["self"] (defScope s_Build_pages) := ⟨rfl, rfl, rfl, by decide +kernel, rfl, by decide +kernel, by decide +kernel⟩
abbrev s_Build_ports : Stmt := inClass (topS 25) 3
theorem sc_Build_ports : FnScope ["self"] ["self"] (defScope s_Build_ports) := ⟨rfl, rfl, rfl, by decide +kernel, rfl, by decide +kernel, by decide +kernel⟩
abbrev s_Build_locks : Stmt := inClass (topS 25) 4
theorem sc_Build_locks : FnScope ["self"] ["self"] (defScope s_Build_locks) := ⟨rfl, rfl, rfl, by decide +kernel, rfl, by decide +kernel, by decide +kernel⟩
abbrev s_Build_frames : Stmt := inClass (topS 25) 5
theorem sc_Build_frames : FnScope ["self"] ["self"] (defScope s_Build_frames) := ⟨rfl, rfl, rfl, by decide +kernel, rfl, by decide +kernel, by decide +kernel⟩
abbrev s_Build_disk : Stmt := inClass (topS 25) 6
theorem sc_Build_disk : FnScope ["self"] ["self"] (defScope s_Build_disk) := ⟨rfl, rfl, rfl, by decide +kernel, rfl, by decide +kernel, by decide +kernel⟩
abbrev s_Build_rights : Stmt := inClass (topS 25) 7
theorem sc_Build_rights : FnScope ["self", "row"] ["self"] (defScope s_Build_rights) := ⟨rfl, rfl, rfl, by decide +kernel, rfl, by decide +kernel, by decide +kernel⟩
abbrev s_Build_lines : Stmt := inClass (topS 25) 8
theorem sc_Build_lines : FnScope ["self"] ["self"] (defScope s_Build_lines) := ⟨rfl, rfl, rfl, by decide +kernel, rfl, by decide +kernel, by decide +kernel⟩
abbrev s_Build_costs : Stmt := inClass (topS 25) 9
theorem sc_Build_costs : FnScope ["self"] ["self"] (defScope s_Build_costs) := ⟨rfl, rfl, rfl, by decide +kernel, rfl, by decide +kernel, by decide +kernel⟩
abbrev s_Build_plan : Stmt := inClass (topS 25) 10
theorem sc_Build_plan : FnScope ["self", "word", "how"] ["self"] (defScope s_Build_plan) := ⟨rfl, rfl, rfl, by decide +kernel, rfl, by decide +kernel, by decide +kernel⟩
abbrev s_Build_outside : Stmt := inClass (topS 25) 11
theorem sc_Build_outside : FnScope ["self"] ["self"] (defScope s_Build_outside) := ⟨rfl, rfl, rfl, by decide +kernel, rfl, by decide +kernel, by decide +kernel⟩
abbrev s_Build_wipe : Stmt := inClass (topS 25) 12
theorem sc_Build_wipe : FnScope ["self"] ["self"] (defScope s_Build_wipe) := ⟨rfl, rfl, rfl, by decide +kernel, rfl, by decide +kernel, by decide +kernel⟩
abbrev s_Build_pad : Stmt := inClass (topS 25) 13
theorem sc_Build_pad : FnScope ["self"] ["self"] (defScope s_Build_pad) := ⟨rfl, rfl, rfl, by decide +kernel, rfl, by decide +kernel, by decide +kernel⟩
abbrev s_Build_lend : Stmt := inClass (topS 25) 14
theorem sc_Build_lend : FnScope ["self"] ["self"] (defScope s_Build_lend) := ⟨rfl, rfl, rfl, by decide +kernel, rfl, by decide +kernel, by decide +kernel⟩
abbrev s_Build_share : Stmt := inClass (topS 25) 15
theorem sc_Build_share : FnScope ["self"] ["self"] (defScope s_Build_share) := ⟨rfl, rfl, rfl, by decide +kernel, rfl, by decide +kernel, by decide +kernel⟩
abbrev s_Build_sides : Stmt := inClass (topS 25) 16
theorem sc_Build_sides : FnScope ["self", "side", "level"] ["self"] (defScope s_Build_sides) := ⟨rfl, rfl, rfl, by decide +kernel, rfl, by decide +kernel, by decide +kernel⟩
abbrev s_Build___eq__ : Stmt := inClass (topS 25) 17
theorem sc_Build___eq__ : FnScope ["self", "other"] ["self", "other"] (defScope s_Build___eq__) := ⟨rfl, rfl, rfl, by decide +kernel, rfl, by decide +kernel, by decide +kernel⟩
abbrev s_things_fault : Stmt := topS 26
theorem sc_things_fault : FnScope ["tasks", "pages", "ports", "locks", "frames", "disk"] ["tasks", "pages", "ports", "locks", "frames", "disk"] (defScope s_things_fault) := ⟨rfl, rfl, rfl, by decide +kernel, rfl, by decide +kernel, by decide +kernel⟩
abbrev s_ways_fault : Stmt := topS 27
theorem sc_ways_fault : FnScope ["counts", "rights", "lines", "costs", "plan", "outside"] ["counts", "rights", "lines", "costs", "plan", "outside"] (defScope s_ways_fault) := ⟨rfl, rfl, rfl, by decide +kernel, rfl, by decide +kernel, by decide +kernel⟩
abbrev s_flags_fault : Stmt := topS 28
theorem sc_flags_fault : FnScope ["flags", "name", "flag"] ["flags"] (defScope s_flags_fault) := ⟨rfl, rfl, rfl, by decide +kernel, rfl, by decide +kernel, by decide +kernel⟩
abbrev s_fit_as_tasks : Stmt := topS 29
theorem sc_fit_as_tasks : FnScope ["tasks", "task", "side", "level"] ["tasks"] (defScope s_fit_as_tasks) := ⟨rfl, rfl, rfl, by decide +kernel, rfl, by decide +kernel, by decide +kernel⟩
abbrev s_fit_as_numbers : Stmt := topS 30
theorem sc_fit_as_numbers : FnScope ["numbers", "most", "low", "high", "number"] ["numbers", "most", "low", "high"] (defScope s_fit_as_numbers) := ⟨rfl, rfl, rfl, by decide +kernel, rfl, by decide +kernel, by decide +kernel⟩
abbrev s_fit_as_rights : Stmt := topS 31
theorem sc_fit_as_rights : FnScope ["counts", "rights", "many", "row"] ["counts", "rights"] (defScope s_fit_as_rights) := ⟨rfl, rfl, rfl, by decide +kernel, rfl, by decide +kernel, by decide +kernel⟩
abbrev s_fit_as_row : Stmt := topS 32
theorem sc_fit_as_row : FnScope ["counts", "row", "right"] ["counts", "row"] (defScope s_fit_as_row) := ⟨rfl, rfl, rfl, by decide +kernel, rfl, by decide +kernel, by decide +kernel⟩
abbrev s_fit_as_lines : Stmt := topS 33
theorem sc_fit_as_lines : FnScope ["counts", "lines", "many", "line"] ["counts", "lines"] (defScope s_fit_as_lines) := ⟨rfl, rfl, rfl, by decide +kernel, rfl, by decide +kernel, by decide +kernel⟩
abbrev s_fit_as_costs : Stmt := topS 34
theorem sc_fit_as_costs : FnScope ["costs"] ["costs"] (defScope s_fit_as_costs) := ⟨rfl, rfl, rfl, by decide +kernel, rfl, by decide +kernel, by decide +kernel⟩
abbrev s_fit_as_plan : Stmt := topS 35
theorem sc_fit_as_plan : FnScope ["counts", "plan", "row"] ["counts", "plan"] (defScope s_fit_as_plan) := ⟨rfl, rfl, rfl, by decide +kernel, rfl, by decide +kernel, by decide +kernel⟩
abbrev s_fits_as_slot : Stmt := topS 36
theorem sc_fits_as_slot : FnScope ["counts", "row"] ["counts", "row"] (defScope s_fits_as_slot) := ⟨rfl, rfl, rfl, by decide +kernel, rfl, by decide +kernel, by decide +kernel⟩
abbrev s_fits_as_outside : Stmt := topS 37
theorem sc_fits_as_outside : FnScope ["counts", "outside"] ["counts", "outside"] (defScope s_fits_as_outside) := ⟨rfl, rfl, rfl, by decide +kernel, rfl, by decide +kernel, by decide +kernel⟩
abbrev s_Roles___init__ : Stmt := inClass (topS 39) 0
theorem sc_Roles___init__ : FnScope ["self", "build", "ones", "eyes", "doors", "side_of", "both", "task", "side"] ["self", "build", "ones", "eyes", "doors"] (defScope s_Roles___init__) := ⟨rfl, rfl, rfl, by decide +kernel, rfl, by decide +kernel, by decide +kernel⟩
abbrev s_roles_of : Stmt := topS 40
theorem sc_roles_of : FnScope ["build", "ones", "eyes"] ["build", "ones", "eyes"] (defScope s_roles_of) := ⟨rfl, rfl, rfl, by decide +kernel, rfl, by decide +kernel, by decide +kernel⟩
abbrev s_check_ones : Stmt := topS 41
theorem sc_check_ones : FnScope ["build", "ones", "sides"] ["build", "ones"] (defScope s_check_ones) := ⟨rfl, rfl, rfl, by decide +kernel, rfl, by decide +kernel, by decide +kernel⟩
abbrev s_eyes_of : Stmt := topS 42
theorem sc_eyes_of : FnScope ["build", "ones", "eyes", "others", "side"] ["build", "ones", "eyes"] (defScope s_eyes_of) := ⟨rfl, rfl, rfl, by decide +kernel, rfl, by decide +kernel, by decide +kernel⟩
abbrev s_are_sides : Stmt := topS 43
theorem sc_are_sides : FnScope ["sides", "thing", "side"] ["sides", "thing"] (defScope s_are_sides) := ⟨rfl, rfl, rfl, by decide +kernel, rfl, by decide +kernel, by decide +kernel⟩
abbrev s_cured : Stmt := topS 48
theorem sc_cured : FnScope ["build", "ones", "names", "roles", "lines", "disk", "plan", "line"] ["build", "ones", "names"] (defScope s_cured) := ⟨rfl, rfl, rfl, by decide +kernel, rfl, by decide +kernel, by decide +kernel⟩
abbrev s_are_cures : Stmt := topS 49
theorem sc_are_cures : FnScope ["names", "name"] ["names"] (defScope s_are_cures) := ⟨rfl, rfl, rfl, by decide +kernel, rfl, by decide +kernel, by decide +kernel⟩
abbrev s_slots_for : Stmt := topS 50
theorem sc_slots_for : FnScope ["build", "rules", "ticks", "task"] ["build"] (defScope s_slots_for) := ⟨rfl, rfl, rfl, by decide +kernel, rfl, by decide +kernel, by decide +kernel⟩
abbrev s_cured_rights : Stmt := topS 51
theorem sc_cured_rights : FnScope ["build", "roles", "names", "rows", "row", "right"] ["build", "roles", "names"] (defScope s_cured_rights) := ⟨rfl, rfl, rfl, by decide +kernel, rfl, by decide +kernel, by decide +kernel⟩
abbrev s_cut_rights : Stmt := topS 52
theorem sc_cut_rights : FnScope ["build", "roles", "rows", "theirs", "port", "found", "task", "row", "other", "right"] ["build", "roles"] (defScope s_cut_rights) := ⟨rfl, rfl, rfl, by decide +kernel, rfl, by decide +kernel, by decide +kernel⟩
abbrev s_reaches : Stmt := topS 53
theorem sc_reaches : FnScope ["right", "theirs", "port", "others", "word", "index"] ["right", "theirs", "port", "others"] (defScope s_reaches) := ⟨rfl, rfl, rfl, by decide +kernel, rfl, by decide +kernel, by decide +kernel⟩
abbrev s_rules_over : Stmt := topS 54
theorem sc_rules_over : FnScope ["right", "tasks"] ["right", "tasks"] (defScope s_rules_over) := ⟨rfl, rfl, rfl, by decide +kernel, rfl, by decide +kernel, by decide +kernel⟩
abbrev s__law_pool : Stmt := topS 56
theorem sc__law_pool : FnScope ["_law_script"] ["_law_script"] (defScope s__law_pool) := ⟨rfl, rfl, rfl, by decide +kernel, rfl, by decide +kernel, by decide +kernel⟩
abbrev s__law_refill : Stmt := topS 57
theorem sc__law_refill : FnScope ["_law_pool_here", "_law_at", "_law_cell"] ["_law_pool_here"] (defScope s__law_refill) := ⟨rfl, rfl, rfl, by decide +kernel, rfl, by decide +kernel, by decide +kernel⟩
abbrev s__law_draw : Stmt := topS 58
theorem sc__law_draw : FnScope ["_law_pool_here", "_law_many", "_law_worth", "_law_number"] ["_law_pool_here", "_law_many"] (defScope s__law_draw) := ⟨rfl, rfl, rfl, by decide +kernel, rfl, by decide +kernel, by decide +kernel⟩
abbrev s__law_menu : Stmt := topS 59
theorem sc__law_menu : FnScope ["_law_w", "_law_many", "_law_row", "_law_t"] ["_law_w"] (defScope s__law_menu) := ⟨rfl, rfl, rfl, by decide +kernel, rfl, by decide +kernel, by decide +kernel⟩
abbrev s__law_rights : Stmt := topS 60
theorem sc__law_rights : FnScope ["_law_pool_here", "_law_menu_here", "_law_start", "_law_every", "_law_found", "_law_right"] ["_law_pool_here", "_law_menu_here"] (defScope s__law_rights) := ⟨rfl, rfl, rfl, by decide +kernel, rfl, by decide +kernel, by decide +kernel⟩
abbrev s__law_tasks : Stmt := topS 61
theorem sc__law_tasks : FnScope ["_law_pool_here", "_law_many", "_law_tasks_here", "_law_t", "_law_side", "_law_row"] ["_law_pool_here", "_law_many"] (defScope s__law_tasks) := ⟨rfl, rfl, rfl, by decide +kernel, rfl, by decide +kernel, by decide +kernel⟩
abbrev s__law_plan : Stmt := topS 62
theorem sc__law_plan : FnScope ["_law_pool_here", "_law_w", "_law_rows", "_law_t", "_law_task", "_law_ticks"] ["_law_pool_here", "_law_w"] (defScope s__law_plan) := ⟨rfl, rfl, rfl, by decide +kernel, rfl, by decide +kernel, by decide +kernel⟩
abbrev s__law_finish : Stmt := topS 63
theorem sc__law_finish : FnScope ["_law_w", "_law_times", "_law_row"] ["_law_w"] (defScope s__law_finish) := ⟨rfl, rfl, rfl, by decide +kernel, rfl, by decide +kernel, by decide +kernel⟩
abbrev s__law_world : Stmt := topS 64
theorem sc__law_world : FnScope ["_law_pool_here", "_law_w", "_law_plain", "_law_miss", "_law_flag", "_law_t"] ["_law_pool_here"] (defScope s__law_world) := ⟨rfl, rfl, rfl, by decide +kernel, rfl, by decide +kernel, by decide +kernel⟩
abbrev s__law_build : Stmt := topS 65
theorem sc__law_build : FnScope ["_law_w", "_law_plan_here", "_law_row"] ["_law_w"] (defScope s__law_build) := ⟨rfl, rfl, rfl, by decide +kernel, rfl, by decide +kernel, by decide +kernel⟩
abbrev s__law_sides : Stmt := topS 66
theorem sc__law_sides : FnScope ["_law_w", "_law_row"] ["_law_w"] (defScope s__law_sides) := ⟨rfl, rfl, rfl, by decide +kernel, rfl, by decide +kernel, by decide +kernel⟩
abbrev s__law_tellers : Stmt := topS 67
theorem sc__law_tellers : FnScope ["_law_pool_here", "_law_w", "_law_sides_here", "_law_mask", "_law_t"] ["_law_pool_here", "_law_w"] (defScope s__law_tellers) := ⟨rfl, rfl, rfl, by decide +kernel, rfl, by decide +kernel, by decide +kernel⟩
abbrev s__law_facts : Stmt := topS 68
theorem sc__law_facts : FnScope ["_law_build_here"] ["_law_build_here"] (defScope s__law_facts) := ⟨rfl, rfl, rfl, by decide +kernel, rfl, by decide +kernel, by decide +kernel⟩
abbrev s__law_due : Stmt := topS 69
theorem sc__law_due : FnScope ["_law_w", "_law_row", "_law_sides_here", "_law_pair"] ["_law_w"] (defScope s__law_due) := ⟨rfl, rfl, rfl, by decide +kernel, rfl, by decide +kernel, by decide +kernel⟩
abbrev s__law_is : Stmt := topS 70
theorem sc__law_is : FnScope ["_law_build_here", "_law_w"] ["_law_build_here", "_law_w"] (defScope s__law_is) := ⟨rfl, rfl, rfl, by decide +kernel, rfl, by decide +kernel, by decide +kernel⟩
abbrev s__law_stays : Stmt := topS 71
theorem sc__law_stays : FnScope ["_law_w", "_law_tellers_here", "_law_task", "_law_many", "_law_mine", "_law_across", "_law_theirs", "_law_t", "_law_stays_here", "_law_right", "_law_word", "_law_gone"] ["_law_w", "_law_tellers_here", "_law_task"] (defScope s__law_stays) := ⟨rfl, rfl, rfl, by decide +kernel, rfl, by decide +kernel, by decide +kernel⟩
abbrev s__law_cured : Stmt := topS 72
theorem sc__law_cured : FnScope ["_law_w", "_law_tellers_here", "_law_names", "_law_due_here", "_law_name", "_law_ticks", "_law_t", "_law_row", "_law_right"] ["_law_w", "_law_tellers_here", "_law_names"] (defScope s__law_cured) := ⟨rfl, rfl, rfl, by decide +kernel, rfl, by decide +kernel, by decide +kernel⟩
abbrev s_law : Stmt := topS 73
theorem sc_law : FnScope ["_law_script", "_law_pool_here", "_law_words", "_law_one", "_law_two", "_law_w", "_law_tellers_here", "_law_build_here", "_law_given", "_law_sides_here", "_law_told", "_law_both", "_law_whole", "_law_twice", "_law_name"] ["_law_script"] (defScope s_law) := ⟨rfl, rfl, rfl, by decide +kernel, rfl, by decide +kernel, by decide +kernel⟩
section
variable {P : Program} {w : World} {K : PySem.W.Frag} {mg : Str → Option Value} {base : Heap}
def dBetween (d : PyData) (lo hi : Int) : Bool := match d with | .int i => decide (lo ≤ i) && decide (i ≤ hi) | _ => false
def dTupleOf (d : PyData) (n : Nat) : Bool := match d with | .tuple ds => decide (ds.length = n) | _ => false
def dListOf (d : PyData) (lo hi : Int) : Bool := match d with | .list ds => decide (lo ≤ ds.length) && decide ((ds.length : Int) ≤ hi) | _ => false
def spInteger (K : PySem.W.Frag) : Sp := fun vs H Q _ => ∃ (x : V) (d : PyData), vs = [x] ∧ Dp K H x d ∧ Q (.bl (isInt d && !isBool d)) H
theorem ok_is_integer (B : Bl mg) (d : DefAt K mg "is_integer" s_is_integer ["thing"]) : Cal P w K mg base 1 "is_integer" ["thing"] (spInteger K) := by
 refine Hk.hold ?_
 simp (disch := with_unfolding_all (
 exact Hk.disch (d.cal fun f fd F => by
  refine F.ok sc_is_integer (fun vs H Q E h => ?_) (fun cdv A outer s H vs Q E hr h => ?_)
  · obtain ⟨x, d, rfl, _⟩ := h; rfl
  · obtain ⟨x, d, rfl, hd, q⟩ := h
    refine ⟨_, (pss_one (ps_ret (pe_and (pe_callB call_isi rfl B.isinstance hb_isinstance (pa_cons (pv 0) (pa_cons (pe_bltn (v := .ty "int") rfl B.int_ hb_int rfl) pa_nil))) (pe_one (pe_not (pe_callB call_isi rfl B.isinstance hb_isinstance (pa_cons (pv 0) (pa_cons (pe_bltn (v := .ty "bool") rfl B.bool_ hb_bool rfl) pa_nil)))))))), ?_⟩
    walk_at "st0"
    refine q_if (fun hc => ?_) (fun hc => ?_)
    · walk_at "st"
      rw [hc] at q; exact q
    · rw [hc] at q; exact q))) only [↓Hk.hold_s]
def spBetween (K : PySem.W.Frag) : Sp := fun vs H Q _ => ∃ (x : V) (d : PyData) (lo hi : Int), vs = [x, .int lo, .int hi] ∧ Dp K H x d ∧ Q (.bl (dBetween d lo hi)) H
theorem ok_is_between (B : Bl mg) (d : DefAt K mg "is_between" s_is_between ["thing", "low", "high"]) (c_is_integer : Cal P w K mg base 1 "is_integer" ["thing"] (spInteger K)) : Cal P w K mg base 2 "is_between" ["thing", "low", "high"] (spBetween K) := by
 refine Hk.hold ?_
 simp (disch := with_unfolding_all (
 exact Hk.disch (d.cal fun f fd F => by
  refine F.ok sc_is_between (fun vs H Q E h => ?_) (fun cdv A outer s H vs Q E hr h => ?_)
  · obtain ⟨x, d, lo, hi, rfl, _⟩ := h; rfl
  · obtain ⟨x, d, lo, hi, rfl, hd, q⟩ := h
    refine ⟨_, (pss_one (ps_ret (pe_and (pe_cal c_is_integer (hr.mono (by omega)) rfl (pa_cons (pv 0) pa_nil)) (pe_one (pe_chain op_le op_le (pv 1) (pv 0) (pv 2)))))), ?_⟩
    walk_at "st0"
    refine ⟨_, _, rfl, hd, ?_⟩
    walk_at "st"
    cases d with
    | int i =>
      refine iteT ?_
      cases hd
      walk_at "st"
      refine q_if (fun hc => ?_) (fun hc => ?_)
      · walk_at "st"
        simpa [dBetween, hc] using q
      · simpa [dBetween, hc] using q
    | _ => exact iteF q))) only [↓Hk.hold_s]
def spIndex (K : PySem.W.Frag) : Sp := fun vs H Q _ => ∃ (x : V) (d : PyData) (n : Int), vs = [x, .int n] ∧ Dp K H x d ∧ Q (.bl (dBetween d 0 (n - 1))) H
theorem ok_is_index (B : Bl mg) (d : DefAt K mg "is_index" s_is_index ["thing", "many"]) (c_is_between : Cal P w K mg base 2 "is_between" ["thing", "low", "high"] (spBetween K)) : Cal P w K mg base 3 "is_index" ["thing", "many"] (spIndex K) := d.cal fun f fd F => by
  refine F.ok sc_is_index (fun vs H Q E h => ?_) (fun cdv A outer s H vs Q E hr h => ?_)
  · obtain ⟨x, d, n, rfl, _⟩ := h; rfl
  · obtain ⟨x, d, n, rfl, hd, q⟩ := h
    refine ⟨_, (pss_one (ps_ret (pe_cal c_is_between (hr.mono (by omega)) rfl (pa_cons (pv 0) (pa_cons pe_int (pa_cons (pe_op op_sub (pv 1) pe_int) pa_nil)))))), ?_⟩
    walk_at "st0"
    exact ⟨_, _, _, _, rfl, hd, q⟩
def spTupleOf (K : PySem.W.Frag) : Sp := fun vs H Q _ => ∃ (x : V) (d : PyData) (n : Nat), vs = [x, .int n] ∧ Dp K H x d ∧ Q (.bl (dTupleOf d n)) H
theorem ok_is_tuple (B : Bl mg) (d : DefAt K mg "is_tuple" s_is_tuple ["thing", "many"]) : Cal P w K mg base 1 "is_tuple" ["thing", "many"] (spTupleOf K) := by
 refine Hk.hold ?_
 simp (disch := with_unfolding_all (
 exact Hk.disch (d.cal fun f fd F => by
  refine F.ok sc_is_tuple (fun vs H Q E h => ?_) (fun cdv A outer s H vs Q E hr h => ?_)
  · obtain ⟨x, d, n, rfl, _⟩ := h; rfl
  · obtain ⟨x, d, n, rfl, hd, q⟩ := h
    refine ⟨_, (pss_one (ps_ret (pe_and (pe_callB call_isi rfl B.isinstance hb_isinstance (pa_cons (pv 0) (pa_cons (pe_bltn (v := .ty "tuple") rfl B.tuple_ hb_tuple rfl) pa_nil))) (pe_one (pe_cmpR op_eq (pe_callB call_len_seq rfl B.len hb_len (pa_cons (pv 0) pa_nil)) (pv 1) (nomark _)))))), ?_⟩
    walk_at "st0"
    cases d with
    | tuple ds =>
      refine iteT ?_
      cases hd with
      | tup hs ha =>
        walk_at "st"
        refine ⟨_, _, rfl, .inr hs, ?_⟩
        walk_at "st"
        refine q_eq rfl ?_
        simp only [dTupleOf] at q
        have e : decide ((ds.length : Int) = (n : Int)) = decide (ds.length = n) := decide_eq_decide.mpr (by omega)
        simpa [ha.length, e] using q
    | _ => exact iteF q))) only [↓Hk.hold_s]
def spListOf (K : PySem.W.Frag) : Sp := fun vs H Q _ => ∃ (x : V) (d : PyData) (lo hi : Int), vs = [x, .int lo, .int hi] ∧ Dp K H x d ∧ Q (.bl (dListOf d lo hi)) H
theorem ok_is_list (B : Bl mg) (d : DefAt K mg "is_list" s_is_list ["thing", "low", "high"]) : Cal P w K mg base 1 "is_list" ["thing", "low", "high"] (spListOf K) := by
 refine Hk.hold ?_
 simp (disch := with_unfolding_all (
 exact Hk.disch (d.cal fun f fd F => by
  refine F.ok sc_is_list (fun vs H Q E h => ?_) (fun cdv A outer s H vs Q E hr h => ?_)
  · obtain ⟨x, d, lo, hi, rfl, _⟩ := h; rfl
  · obtain ⟨x, d, lo, hi, rfl, hd, q⟩ := h
    refine ⟨_, (pss_one (ps_ret (pe_and (pe_callB call_isi rfl B.isinstance hb_isinstance (pa_cons (pv 0) (pa_cons (pe_bltn (v := .ty "list") rfl B.list_ hb_list rfl) pa_nil))) (pe_one (pe_chain op_le op_le (pv 1) (pe_callB call_len_seq rfl B.len hb_len (pa_cons (pv 0) pa_nil)) (pv 2)))))), ?_⟩
    walk_at "st0"
    cases d with
    | list ds =>
      refine iteT ?_
      cases hd with
      | lst hs ha =>
        walk_at "st"
        refine ⟨_, _, rfl, .inl hs, ?_⟩
        walk_at "st"
        rw [ha.length]
        refine q_if (fun hc => ?_) (fun hc => ?_)
        · walk_at "st"
          simpa [dListOf, hc] using q
        · simpa [dListOf, hc] using q
    | _ => exact iteF q))) only [↓Hk.hold_s]
end
end T
namespace T
section
variable {P : Program} {w : World} {K : PySem.W.Frag} {mg : Str → Option Value} {base : Heap}
/-- rights as they are handed in: a list of tuples -/
def RtAt (K : PySem.W.Frag) (H : Hp) (x : V) (r : Str × Int) : Prop := ∃ t, x = .ref t ∧ SqT K H t [.str r.1, .int r.2]
def ascWI : List (Str × Int) → Bool
  | a :: b :: r => ltWI a b && ascWI (b :: r)
  | _ => true
theorem ascWI_iff : ∀ {l : List (Str × Int)}, ascWI l = true ↔ ∀ i a b, l[i]? = some a → l[i + 1]? = some b → ltWI a b = true
  | [] => by simp [ascWI]
  | [_] => by simp [ascWI]
  | a :: b :: r => by
    unfold ascWI
    rw [Bool.and_eq_true, ascWI_iff (l := b :: r)]
    constructor
    · rintro ⟨h, k⟩ i x y e1 e2
      cases i with
      | zero => simp at e1 e2; subst e1 e2; exact h
      | succ i => exact k i x y (by simpa using e1) (by simpa using e2)
    · intro h
      exact ⟨h 0 a b rfl rfl, fun i x y e1 e2 => h (i + 1) x y (by simpa using e1) (by simpa using e2)⟩
def spAsc (K : PySem.W.Frag) : Sp := fun vs H Q _ => ∃ (a : Addr) (xs : List V) (rs : List (Str × Int)), vs = [.ref a] ∧ SqL K H a xs ∧ Paired (RtAt K H) xs rs ∧ rs.length ≤ 1000 ∧ ∀ H', Same H H' → Q (.bl (ascWI rs)) H'
theorem hu0_of {A : Around} {k : Nat} (hr : Room k A) : A.units < cLine := Nat.lt_of_succ_lt (hu_of hr)
theorem paired_get {α β : Type} {R : α → β → Prop} : ∀ {xs : List α} {ys : List β}, Paired R xs ys → ∀ {i : Nat} {x : α}, xs[i]? = some x → ∃ y, ys[i]? = some y ∧ R x y
  | _, _, .nil, _, _, e => by simp at e
  | _, _, .cons r t, 0, _, e => by simp at e; subst e; exact ⟨_, rfl, r⟩
  | _, _, .cons r t, i + 1, _, e => by simpa using paired_get t (by simpa using e)
theorem cut1 (xs : List V) : cutV xs (some 1) none = xs.drop 1 := by
  unfold cutV
  rw [show HT.sIx xs.length 0 (some 1) = min 1 xs.length from HT.sIx_nat xs.length 0 1, HT.sIx_none]
  cases xs with
  | nil => rfl
  | cons x r =>
    have e : min 1 (x :: r).length = 1 := by simp
    rw [e]
    simp
theorem ok_is_ascending (B : Bl mg) (d : DefAt K mg "is_ascending" s_is_ascending ["items"]) : Cal P w K mg base 1 "is_ascending" ["items"] (spAsc K) := by
 refine Hk.hold ?_
 simp (disch := with_unfolding_all (
 exact Hk.disch (d.cal fun f fd F => by
  refine F.ok sc_is_ascending (fun vs H Q E h => ?_) (fun cdv A outer s H vs Q E hr h => ?_)
  · obtain ⟨a, xs, rs, rfl, _⟩ := h; rfl
  · obtain ⟨a, xs, rs, rfl, hl, hp, few, q⟩ := h
    have lx : xs.length = rs.length := Paired.length hp
    refine ⟨_, (pss_one (ps_ret (pe_callB (cr_all rfl) rfl B.all hb_all (pa_cons (pe_lc (own := [("low", 1), ("high", 2)]) (tt := tYes) rfl sc_is_ascending.nd (pi_zip rfl B.zip (pa_cons (pv 0) (pa_cons (pe_slice sl_list (pv 0) (po_some pe_int) po_none) pa_nil))) (blkOk_by (N := ["items", "low", "high"]) (sc := defScope s_is_ascending) (by decide +kernel)) (fun _ _ _ _ _ => (show PG _ _ (gTup K 2 _) from pg_tup rfl (pgs_cons (pg_name (i := 1) sc_is_ascending.nd rfl (Or.inl rfl)) (pgs_cons (pg_name (i := 2) sc_is_ascending.nd rfl (Or.inl rfl)) pgs_nil)))) (fun _ _ _ _ _ => pts_nil) (fun _ _ _ _ _ => (pe_cmpR (show OpR _ _ (rLtWI K) from op_ltWI (hu0_of hr)) (pv 1) (pv 2) (nomark _)))) pa_nil)))), ?_⟩
    walk_at "st0"
    refine ⟨.ref a, rfl, .ref a, rfl, 1, rfl, a, xs, rfl, hl, fun c nc => ?_⟩
    have s1 := same_new (o := .lst (cutV xs (some 1) none)) nc
    have h1 := s1.seq hl
    have h2 : SqL K (upd H c (.lst (cutV xs (some 1) none))) c (xs.drop 1) := by rw [cut1]; exact SqL.of upd_same
    refine ⟨a, c, _, _, rfl, h1, h2, fun D nD => ?_⟩
    have key : ∀ i, i < rs.length - 1 → ∃ x y a b, xs[i]? = some x ∧ (xs.drop 1)[i]? = some y ∧ rs[i]? = some a ∧ rs[i + 1]? = some b ∧ RtAt K H x a ∧ RtAt K H y b := fun i lt => by
      have e1 : xs[i]? = some (xs[i]'(by omega)) := List.getElem?_eq_getElem _
      have e2 : xs[i + 1]? = some (xs[i + 1]'(by omega)) := List.getElem?_eq_getElem _
      obtain ⟨b1, f1, g1⟩ := paired_get hp e1
      obtain ⟨b2, f2, g2⟩ := paired_get hp e2
      exact ⟨_, _, b1, b2, e1, by rw [List.getElem?_drop, Nat.add_comm 1 i]; exact e2, f1, f2, g1, g2⟩
    refine lc_val (n := rs.length - 1) (walk_zip (by rw [List.length_drop]; omega)) (fun i => .bl (ltWI (rs.getD i default) (rs.getD (i + 1) default))) nD (by exact sz1000 (by omega)) (fun H2 s => ⟨s.seq h1, s.seq h2⟩) ypair_same ?_ ?_
    · rintro i x H2 H3 lt s2 ⟨t, u, v, rfl, nt, rfl, e1, e2⟩ Q2 k
      obtain ⟨x', y', a', b', f1, f2, f3, f4, ⟨t1, rfl, g1⟩, ⟨t2, rfl, g2⟩⟩ := key i lt
      replace e1 := e1.symm.trans f1; cases e1
      replace e2 := e2.symm.trans f2; cases e2
      have s3 := same_new (o := .tup [V.ref t1, V.ref t2]) nt
      refine ⟨t, [.ref t1, .ref t2], rfl, SqT.of upd_same, rfl, .ref t1, [.ref t2], rfl, .ref t2, [], rfl, rfl, rfl, ?_⟩
      walk_at "st"
      refine ⟨t1, t2, a', b', rfl, rfl, Same.sqT s3 (Same.sqT s2 (Same.sqT s1 g1)), Same.sqT s3 (Same.sqT s2 (Same.sqT s1 g2)), ?_⟩
      have z := k _ (Same.refl _)
      simpa [List.getD_eq_getElem?_getD, f3, f4] using z
    · intro H2 s2 e
      refine ⟨_, (List.range (rs.length - 1)).map fun i => ltWI (rs.getD i default) (rs.getD (i + 1) default), rfl, SqL.of (by rw [e, List.map_map]; rfl), ?_⟩
      have z : (((List.range (rs.length - 1)).map fun i => ltWI (rs.getD i default) (rs.getD (i + 1) default)).all id) = ascWI rs := by
        rw [Bool.eq_iff_iff, hk_all_range, ascWI_iff]
        constructor
        · intro h i a b e1 e2
          have lt : i + 1 < rs.length := (List.getElem?_eq_some_iff.mp e2).1
          simpa [List.getD_eq_getElem?_getD, e1, e2] using h i (by omega)
        · intro h i lt
          exact h i _ _ (by simp [List.getD_eq_getElem?_getD, List.getElem?_eq_getElem (show i < rs.length by omega)]) (by simp [List.getD_eq_getElem?_getD, List.getElem?_eq_getElem (show i + 1 < rs.length by omega)])
      rw [z]
      exact q H2 (s1.trans s2)))) only [↓Hk.hold_s]
end
end T
namespace T
section
variable {P : Program} {w : World} {K : PySem.W.Frag} {mg : Str → Option Value} {base : Heap}
def cntOf (t p q l d : Int) : Cnt := [("task", t), ("page", p), ("port", q), ("lock", l), ("value", 2), ("place", d), ("disk", if 1 < d then 1 else d)]
def spCounted : Sp := fun vs H Q _ => ∃ t p q l d : Int, vs = [.int t, .int p, .int q, .int l, .int d] ∧ ∀ c H', Same H H' → H c = none → H' c = some (.dK (countKV (cntOf t p q l d))) → Q (.ref c) H'
theorem ok_counted (B : Bl mg) (d : DefAt K mg "counted" s_counted ["tasks", "pages", "ports", "locks", "disk"]) : Cal P w K mg base 1 "counted" ["tasks", "pages", "ports", "locks", "disk"] spCounted := by
 refine Hk.hold ?_
 simp (disch := with_unfolding_all (
 exact Hk.disch (d.cal fun f fd F => by
  refine F.ok sc_counted (fun vs H Q E h => ?_) (fun cdv A outer s H vs Q E hr h => ?_)
  · obtain ⟨t, p, q, l, d, rfl, _⟩ := h; rfl
  · obtain ⟨t, p, q, l, d, rfl, k⟩ := h
    refine ⟨_, (pss_one (ps_ret (pe_disp (pps_cons pe_str (pv 0) (pps_cons pe_str (pv 1) (pps_cons pe_str (pv 2) (pps_cons pe_str (pv 3) (pps_cons pe_str pe_int (pps_cons pe_str (pv 4) (pps_cons pe_str (pe_callB (call_min2 rfl) rfl B.min hb_min (pa_cons (pv 4) (pa_cons pe_int pa_nil))) pps_nil))))))) rfl rfl (by simp) (by decide)))), ?_⟩
    walk_at "st0"
    intro c nc
    unfold tPairs; walk_at "st"; unfold tPairs; walk_at "st"; unfold tPairs; walk_at "st"; unfold tPairs; walk_at "st"; unfold tPairs; walk_at "st"; unfold tPairs; walk_at "st"; unfold tPairs; walk_at "st"
    refine ⟨_, _, rfl, ?_⟩
    unfold tPairs
    refine ⟨upd_same, [(Sum.inr "task", .int t), (Sum.inr "page", .int p), (Sum.inr "port", .int q), (Sum.inr "lock", .int l), (Sum.inr "value", .int 2), (Sum.inr "place", .int d), (Sum.inr "disk", .int (if 1 < d then 1 else d))], rfl, by simp, ?_⟩
    refine k c _ (fun b o e => ?_) nc ?_
    · have hb := ne_of_none e nc
      rw [upd_ne hb, upd_ne hb]; exact e
    · rw [upd_same]; rfl))) only [↓Hk.hold_s]
def dWord (d : PyData) : Str := match d with | .tuple (.str z :: _) => z | _ => ""
def spWord (K : PySem.W.Frag) : Sp := fun vs H Q _ => ∃ (x : V) (d : PyData), vs = [x] ∧ Dp K H x d ∧ Q (.str (dWord d)) H
theorem ok_word_of (B : Bl mg) (d : DefAt K mg "word_of" s_word_of ["thing"]) : Cal P w K mg base 1 "word_of" ["thing"] (spWord K) := by
 refine Hk.hold ?_
 simp (disch := with_unfolding_all (
 exact Hk.disch (d.cal fun f fd F => by
  refine F.ok sc_word_of (fun vs H Q E h => ?_) (fun cdv A outer s H vs Q E hr h => ?_)
  · obtain ⟨x, d, rfl, _⟩ := h; rfl
  · obtain ⟨x, d, rfl, hd, q⟩ := h
    refine ⟨_, (pss_cons (ps_if (PW.pt (pw_and (pt_val (pe_callB call_isi rfl B.isinstance hb_isinstance (pa_cons (pv 0) (pa_cons (pe_bltn (v := .ty "tuple") rfl B.tuple_ hb_tuple rfl) pa_nil)))) (pw_and (pt_cmpR op_gt (pe_callB call_len_seq rfl B.len hb_len (pa_cons (pv 0) pa_nil)) pe_int (nomark _)) (pw_and1 (pt_val (pe_callB call_isi rfl B.isinstance hb_isinstance (pa_cons (pe_ix ix_tup (pv 0) pe_int (fun _ _ => rfl)) (pa_cons (pe_bltn (v := .ty "str") rfl B.str_ hb_str rfl) pa_nil)))))))) (pss_one (ps_ret (pe_ix ix_tup (pv 0) pe_int (fun _ _ => rfl)))) pss_nil)
      (pss_one (ps_ret pe_str))), ?_⟩
    walk_at "st0"
    cases d with
    | tuple ds =>
      refine iteT ?_
      cases hd with
      | @tup a xs _ hs ha =>
      walk_at "st"
      refine ⟨_, _, rfl, .inr hs, ?_⟩
      walk_at "st"
      cases ha with
      | nil => exact iteF (iteF q)
      | @cons y ys e es h1 h2 =>
        refine q_if (fun hc => ?_) (fun hc => by simp at hc)
        walk_at "st"
        refine q_ixT hs (atI0 rfl) ?_
        walk_at "st"
        cases e with
        | str z =>
          cases h1
          refine iteT ?_
          walk_at "st"
          exact q_ixT hs (atI0 rfl) q
        | _ => exact iteF q
    | _ => exact iteF (iteF q)))) only [↓Hk.hold_s]
/-- each item of its kind -/
def dKinds (kf : Str → PyData → Bool) (ks : List Str) (ds : List PyData) : Bool := (List.range (min ks.length ds.length)).all fun i => kf (ks.getD i default) (ds.getD i .none)
def dFormed (kf : Str → PyData → Bool) (o : Option (List Str)) (d : PyData) : Bool := match o, d with
  | some ks, .tuple ds => decide (ds.length = ks.length + 1) && dKinds kf ks (ds.drop 1)
  | _, _ => false
def spKind (K : PySem.W.Frag) (good : Cnt → Str → Prop) (kf : Cnt → Str → PyData → Bool) : Sp := fun vs H Q _ => ∃ (a : Addr) (c : Cnt) (z : Str) (x : V) (d : PyData), vs = [.ref a, .str z, x] ∧ H a = some (.dK (countKV c)) ∧ good c z ∧ Dp K H x d ∧ ∀ H', Same H H' → Q (.bl (kf c z d)) H'
def spFormed (K : PySem.W.Frag) (good : Cnt → Str → Prop) (kf : Cnt → Str → PyData → Bool) : Sp := fun vs H Q _ => ∃ (a : Addr) (c : Cnt) (k : V) (o : Option (List Str)) (x : V) (d : PyData), vs = [.ref a, k, x] ∧ H a = some (.dK (countKV c)) ∧ Dp K H x d ∧
  (match o with | none => k = .non | some ks => (∃ t, k = .ref t ∧ SqT K H t (ks.map V.str)) ∧ (∃ ds, d = .tuple ds) ∧ ks.length ≤ 100 ∧ ∀ z ∈ ks, good c z) ∧ ∀ H', Same H H' → Q (.bl (dFormed (kf c) o d)) H'
theorem ok_is_formed {j : Nat} {good : Cnt → Str → Prop} {kf : Cnt → Str → PyData → Bool} (B : Bl mg) (d : DefAt K mg "is_formed" s_is_formed ["counts", "kinds", "thing"]) (c_is_of_kind : Cal P w K mg base j "is_of_kind" ["counts", "kind", "item"] (spKind K good kf)) :
    Cal P w K mg base (j + 1) "is_formed" ["counts", "kinds", "thing"] (spFormed K good kf) := by
 refine Hk.hold ?_
 simp (disch := with_unfolding_all (
 exact Hk.disch (d.cal fun f fd F => by
  refine F.ok sc_is_formed (fun vs H Q E h => ?_) (fun cdv A outer s H vs Q E hr h => ?_)
  · obtain ⟨a, c, k, o, x, d, rfl, _⟩ := h; rfl
  · obtain ⟨a, c, k, o, x, d, rfl, hc, hd, ho, q⟩ := h
    refine ⟨_, (pss_cons (ps_if (PW.pt (pw_or (pt_cmp (pc_isN (pv 1))) (pw_or1 (pt_cmpR op_ne (pe_callB call_len_seq rfl B.len hb_len (pa_cons (pv 2) pa_nil)) (pe_op op_add (pe_callB call_len_seq rfl B.len hb_len (pa_cons (pv 1) pa_nil)) pe_int) (nomark _))))) (pss_one (ps_ret pe_bl)) pss_nil)
      (pss_one (ps_ret (pe_callB (cr_all rfl) rfl B.all hb_all (pa_cons (pe_lc (own := [("kind", 3), ("item", 4)]) (tt := tYes) rfl sc_is_formed.nd (RZ.pi_zipA rfl B.zip (pa_cons (pv 1) (pa_cons (pe_slice sl_tup (pv 2) (po_some pe_int) po_none) pa_nil))) (blkOk_by (N := ["counts", "kinds", "thing", "kind", "item"]) (sc := defScope s_is_formed) (by decide +kernel)) (fun _ _ _ _ _ => (show PG _ _ (gTup K 2 _) from pg_tup rfl (pgs_cons (pg_name (i := 3) sc_is_formed.nd rfl (Or.inl rfl)) (pgs_cons (pg_name (i := 4) sc_is_formed.nd rfl (Or.inl rfl)) pgs_nil)))) (fun _ _ _ _ _ => pts_nil) (fun _ _ _ _ _ => (pe_cal c_is_of_kind (hr.mono (by omega)) rfl (pa_cons (pv 0) (pa_cons (pv 3) (pa_cons (pv 4) pa_nil)))))) pa_nil))))), ?_⟩
    walk_at "st0"
    match o, ho with
    | none, ho =>
      subst ho
      refine iteT (iteT ?_)
      walk_at "st"
      exact q H (Same.refl H)
    | some ks, ⟨⟨t, ek, ht⟩, ⟨ds, ed⟩, few, hg⟩ =>
      subst ek ed
      refine iteF ?_
      walk_at "st"
      cases hd with
      | @tup b xs _ hs ha =>
      refine ⟨_, _, rfl, .inr hs, ?_⟩
      walk_at "st"
      refine ⟨_, _, rfl, .inr ht, ?_⟩
      walk_at "st"
      refine q_ne rfl ?_
      walk_at "st"
      have lx := ha.length
      have e1 : (!decide (V.int (xs.length : Int) = V.int (((ks.map V.str).length : Int) + 1))) = !decide (ds.length = ks.length + 1) := by
        congr 1
        rw [decide_eq_decide, V.int.injEq, List.length_map]
        omega
      rw [e1]
      by_cases hl : ds.length = ks.length + 1
      · rw [decide_eq_true hl]
        refine iteF ?_
        walk_at "st"
        refine ⟨_, rfl, .ref b, rfl, 1, rfl, b, xs, rfl, hs, ?_, fun p np => ?_⟩
        · rw [show HT.sIx xs.length 0 (some 1) = min 1 xs.length from HT.sIx_nat xs.length 0 1]
          omega
        rw [cut1]
        have s1 := same_new (o := .tup (xs.drop 1)) np
        have h1 : SqT K (upd H p (.tup (xs.drop 1))) t (ks.map V.str) := Same.sqT s1 ht
        have h2 : SqT K (upd H p (.tup (xs.drop 1))) p (xs.drop 1) := SqT.of upd_same
        refine ⟨t, p, ks.map V.str, xs.drop 1, rfl, .inr ⟨h1, h2, fun D nD => ?_⟩⟩
        have ha2 := ha.drop 1
        refine lc_val (n := ks.length) (walk_zipT (by rw [List.length_drop, List.length_map]; omega)) (fun i => .bl (kf c (ks.getD i default) ((ds.drop 1).getD i .none))) nD (by exact sz1000 (by omega)) (fun H2 s => ⟨Same.sqT s h1, Same.sqT s h2⟩) ypair_same ?_ ?_
        · rintro i x2 H2 H3 lt s2 ⟨T2, u, v, rfl, nT, rfl, e1, e2⟩ Q2 k2
          replace e1 : (ks.map V.str)[i]? = some u := e1
          replace e2 : (xs.drop 1)[i]? = some v := e2
          rw [List.getElem?_map, List.getElem?_eq_getElem lt] at e1
          cases e1
          obtain ⟨d2, f2, g2⟩ := ha2.get' e2
          have s3 := same_new (o := .tup [V.str ks[i], v]) nT
          refine ⟨T2, [.str ks[i], v], rfl, SqT.of upd_same, rfl, .str ks[i], [v], rfl, v, [], rfl, rfl, rfl, ?_⟩
          walk_at "st"
          refine ⟨a, c, ks[i], v, d2, rfl, s3 _ _ (s2 _ _ (s1 _ _ hc)), hg _ (List.getElem_mem lt), Dp.mono (s1.trans (s2.trans s3)) g2, fun H4 s4 => ?_⟩
          have z := k2 H4 s4
          simp only [List.getD_eq_getElem?_getD, f2, List.getElem?_eq_getElem lt, Option.getD_some] at z
          exact z
        · intro H2 s2 e
          refine ⟨_, (List.range ks.length).map fun i => kf c (ks.getD i default) ((ds.drop 1).getD i .none), rfl, SqL.of (by rw [e, List.map_map]; rfl), ?_⟩
          have z : (((List.range ks.length).map fun i => kf c (ks.getD i default) ((ds.drop 1).getD i .none)).all id) = dFormed (kf c) (some ks) (.tuple ds) := by
            simp only [dFormed, dKinds]
            rw [decide_eq_true hl, Bool.true_and, List.length_drop, show min ks.length (ds.length - 1) = ks.length by omega, List.all_map]
            rfl
          rw [z]
          exact q H2 (s1.trans s2)
      · rw [decide_eq_false hl]
        refine iteT ?_
        walk_at "st"
        have z := q H (Same.refl H)
        simp only [dFormed] at z
        rw [decide_eq_false hl] at z
        exact z))) only [↓Hk.hold_s]
def good1 (c : Cnt) (z : Str) : Prop := z ≠ "right" ∧ (z = "ticks" ∨ ∃ n, c.lookup z = some n)
def kf1 (c : Cnt) (z : Str) (d : PyData) : Bool := if z = "ticks" then dBetween d 1 2 else dBetween d 0 ((c.lookup z).getD 0 - 1)
theorem ok_is_of_kind1 (B : Bl mg) (d : DefAt K mg "is_of_kind" s_is_of_kind ["counts", "kind", "item"]) (c_is_between : Cal P w K mg base 2 "is_between" ["thing", "low", "high"] (spBetween K)) (c_is_index : Cal P w K mg base 3 "is_index" ["thing", "many"] (spIndex K)) :
    Cal P w K mg base 4 "is_of_kind" ["counts", "kind", "item"] (spKind K good1 kf1) := by
 refine Hk.hold ?_
 simp (disch := with_unfolding_all (
 exact Hk.disch (d.cal fun f fd F => by
  refine F.ok sc_is_of_kind (fun vs H Q E h => ?_) (fun cdv A outer s H vs Q E hr h => ?_)
  · obtain ⟨a, c, z, x, d, rfl, _⟩ := h; rfl
  · obtain ⟨a, c, z, x, d, rfl, hc, ⟨g1, g2⟩, hd, q⟩ := h
    have hu := hu_of hr
    refine ⟨_, (pss_cons (ps_if (pt_cmpR op_eq (pv 1) pe_str (nomark _)) (pss_one (ps_never)) pss_nil)
      (pss_cons (ps_if (pt_cmpR op_eq (pv 1) pe_str (nomark _)) (pss_one (ps_ret (pe_cal c_is_between (hr.mono (by omega)) rfl (pa_cons (pv 2) (pa_cons pe_int (pa_cons pe_int pa_nil)))))) pss_nil)
      (pss_one (ps_ret (pe_cal c_is_index (hr.mono (by omega)) rfl (pa_cons (pv 2) (pa_cons (pe_dget hu (pv 0) (pv 1) (fun _ _ => rfl)) pa_nil))))))), ?_⟩
    walk_at "st0"
    refine q_eq rfl ?_
    walk_at "st"
    have e1 : decide (V.str z = V.str "right") = false := decide_eq_false fun q => g1 (V.str.inj q)
    rw [e1]
    refine iteF ?_
    walk_at "st"
    refine q_eq rfl ?_
    walk_at "st"
    have z0 := q H (Same.refl H)
    by_cases e2 : z = "ticks"
    · rw [decide_eq_true (by rw [e2])]
      refine iteT ?_
      walk_at "st"
      refine ⟨x, d, 1, 2, rfl, hd, ?_⟩
      simpa [kf1, e2] using z0
    · rw [decide_eq_false (fun q => e2 (V.str.inj q))]
      refine iteF ?_
      obtain ⟨n, hn⟩ := g2.resolve_left e2
      walk_at "st"
      refine ⟨a, .int n, rfl, dgetC hc hn, ?_⟩
      walk_at "st"
      refine ⟨x, d, n, rfl, hd, ?_⟩
      simpa [kf1, e2, hn] using z0))) only [↓Hk.hold_s]
/-- the words of rights -/
def rTab : List (Str × List Str) := [("read", ["page"]), ("write", ["page"]), ("send", ["port"]), ("take", ["port"]), ("lock", ["lock"]), ("hand", ["task"]), ("strip", ["task"]), ("seek", ["disk"])]
structure RForms (K : PySem.W.Frag) (w : World) (mg : Str → Option Value) (d : Addr) : Prop where
  g_forms : mg "RIGHT_FORMS" = some (.ref d)
  forms : FormsAt K w d rTab
def dRight (c : Cnt) (d : PyData) : Bool := dFormed (kf1 c) (rTab.lookup (dWord d)) d
def cntGood (c : Cnt) : Prop := ∃ t p q l d, c = cntOf t p q l d
theorem rTab_good {c : Cnt} (h : cntGood c) {z : Str} {ks : List Str} (e : rTab.lookup z = some ks) : ks.length ≤ 100 ∧ ∀ k ∈ ks, good1 c k := by
  obtain ⟨t, p, q, l, d, rfl⟩ := h
  have m : ks ∈ rTab.map (·.2) := List.mem_map_of_mem (f := (·.2)) (lookup_mem e)
  simp only [rTab, List.map_cons, List.map_nil, List.mem_cons, List.not_mem_nil, or_false] at m
  rcases m with m | m | m | m | m | m | m | m <;> subst m <;> exact ⟨by simp, fun k hk => by
    rw [List.mem_singleton] at hk; subst hk; exact ⟨by decide +kernel, .inr ⟨_, rfl⟩⟩⟩
def spRight (K : PySem.W.Frag) : Sp := fun vs H Q _ => ∃ (a : Addr) (c : Cnt) (x : V) (d : PyData), vs = [.ref a, x] ∧ H a = some (.dK (countKV c)) ∧ cntGood c ∧ Dp K H x d ∧ ∀ H', Same H H' → Q (.bl (dRight c d)) H'
theorem dWord_tup {d : PyData} {ks : List Str} (e : rTab.lookup (dWord d) = some ks) : ∃ ds, d = .tuple ds := by
  cases d with
  | tuple ds => exact ⟨ds, rfl⟩
  | _ =>
    have z : rTab.lookup ("" : Str) = none := by decide +kernel
    have e2 : rTab.lookup ("" : Str) = some ks := e
    rw [z] at e2; cases e2
theorem ok_is_right {dF : Addr} (B : Bl mg) (T : RForms K w mg dF) (d : DefAt K mg "is_right" s_is_right ["counts", "thing"]) (c_word_of : Cal P w K mg base 1 "word_of" ["thing"] (spWord K)) (c_is_formed : Cal P w K mg base 5 "is_formed" ["counts", "kinds", "thing"] (spFormed K good1 kf1)) :
    Cal P w K mg base 6 "is_right" ["counts", "thing"] (spRight K) := by
 refine Hk.hold ?_
 simp (disch := with_unfolding_all (
 exact Hk.disch (d.cal fun f fd F => by
  refine F.ok sc_is_right (fun vs H Q E h => ?_) (fun cdv A outer s H vs Q E hr h => ?_)
  · obtain ⟨a, c, x, d, rfl, _⟩ := h; rfl
  · obtain ⟨a, c, x, d, rfl, hc, cg, hd, q⟩ := h
    refine ⟨_, (pss_one (ps_ret (pe_cal c_is_formed (hr.mono (by omega)) rfl (pa_cons (pv 0) (pa_cons (pe_kget T.forms (pe_glob (v := .ref dF) rfl T.g_forms rfl) (pe_cal c_word_of (hr.mono (by omega)) rfl (pa_cons (pv 1) pa_nil)) ⟨rfl, rfl, rfl, rfl⟩) (pa_cons (pv 1) pa_nil)))))), ?_⟩
    walk_at "st0"
    refine ⟨rfl, ?_⟩
    walk_at "st"
    refine ⟨x, d, rfl, hd, dWord d, rfl, fun t ks e ht => ?_, fun e => ?_⟩
    · walk_at "st"
      obtain ⟨ds, ed⟩ := dWord_tup e
      refine ⟨a, c, _, some ks, x, d, rfl, hc, hd, ⟨⟨t, rfl, ht H⟩, ⟨ds, ed⟩, rTab_good cg e⟩, fun H2 s2 => ?_⟩
      have z := q H2 s2
      simp only [dRight, e] at z
      exact z
    · walk_at "st"
      refine ⟨a, c, _, none, x, d, rfl, hc, hd, rfl, fun H2 s2 => ?_⟩
      have z := q H2 s2
      simp only [dRight, e] at z
      exact z))) only [↓Hk.hold_s]
end
end T
namespace T
section
variable {P : Program} {w : World} {K : PySem.W.Frag} {mg : Str → Option Value} {base : Heap}
def okNumbers (d : PyData) (most lo hi : Int) : Bool := dListOf d 0 most && (match d with | .list ds => ds.all fun e => dBetween e lo hi | _ => false)
def spNumbers (K : PySem.W.Frag) : Sp := fun vs H Q _ => ∃ (x : V) (d : PyData) (m lo hi : Int), vs = [x, .int m, .int lo, .int hi] ∧ Dp K H x d ∧ m ≤ 100 ∧ ∀ H', Same H H' → Q (.bl (okNumbers d m lo hi)) H'
theorem dListOf_list {d : PyData} {lo hi : Int} (h : dListOf d lo hi = true) : ∃ ds, d = .list ds ∧ lo ≤ ds.length ∧ (ds.length : Int) ≤ hi := by
  cases d with
  | list ds => simp [dListOf] at h; exact ⟨ds, rfl, h⟩
  | _ => simp [dListOf] at h
theorem ok_fit_as_numbers (B : Bl mg) (d : DefAt K mg "fit_as_numbers" s_fit_as_numbers ["numbers", "most", "low", "high"]) (c_is_list : Cal P w K mg base 1 "is_list" ["thing", "low", "high"] (spListOf K)) (c_is_between : Cal P w K mg base 2 "is_between" ["thing", "low", "high"] (spBetween K)) :
    Cal P w K mg base 3 "fit_as_numbers" ["numbers", "most", "low", "high"] (spNumbers K) := by
 refine Hk.hold ?_
 simp (disch := with_unfolding_all (
 exact Hk.disch (d.cal fun f fd F => by
  refine F.ok sc_fit_as_numbers (fun vs H Q E h => ?_) (fun cdv A outer s H vs Q E hr h => ?_)
  · obtain ⟨x, d, m, lo, hi, rfl, _⟩ := h; rfl
  · obtain ⟨x, d, m, lo, hi, rfl, hd, hm, q⟩ := h
    refine ⟨_, (pss_one (ps_ret (pe_and (pe_cal c_is_list (hr.mono (by omega)) rfl (pa_cons (pv 0) (pa_cons pe_int (pa_cons (pv 1) pa_nil)))) (pe_one (pe_callB (cr_all rfl) rfl B.all hb_all (pa_cons (pe_lc (own := [("number", 4)]) (tt := tYes) rfl sc_fit_as_numbers.nd (pi_list (pv 0)) (blkOk_by (N := ["numbers", "most", "low", "high", "number"]) (sc := defScope s_fit_as_numbers) (by decide +kernel)) (fun _ _ _ _ _ => (pg_name (i := 4) sc_fit_as_numbers.nd rfl (Or.inl rfl))) (fun _ _ _ _ _ => pts_nil) (fun _ _ _ _ _ => (pe_cal c_is_between (hr.mono (by omega)) rfl (pa_cons (pv 4) (pa_cons (pv 2) (pa_cons (pv 3) pa_nil)))))) pa_nil)))))), ?_⟩
    walk_at "st0"
    refine ⟨x, d, 0, m, rfl, hd, ?_⟩
    walk_at "st"
    refine q_if (fun hc => ?_) (fun hc => ?_)
    · obtain ⟨ds, rfl, h0, h1⟩ := dListOf_list hc
      cases hd with
      | @lst a xs _ hs ha =>
      walk_at "st"
      refine ⟨.ref a, rfl, a, rfl, ⟨xs, hs⟩, fun D nD => lc_test (fun e => dBetween e lo hi) hs ha (by omega) nD ?_ ?_⟩
      · intro x2 d2 H2 h2 _ s2 Q2 k2
        refine ⟨rfl, ?_⟩
        walk_at "st"
        exact ⟨x2, d2, lo, hi, rfl, h2, k2 _ (Same.refl _)⟩
      · intro H2 s2 e
        refine ⟨D, _, rfl, e, ?_⟩
        have z := q H2 s2
        simp only [okNumbers, hc, Bool.true_and] at z
        rw [all_map_id]; exact z
    · have z := q H (Same.refl H)
      simp only [okNumbers, hc, Bool.false_and] at z
      exact z))) only [↓Hk.hold_s]
def okRow (c : Cnt) (d : PyData) : Bool := dListOf d 0 8 && (match d with | .list ds => ds.all (dRight c) && ascWI (ds.map fun e => match e with | .tuple [.str z, .int i] => (z, i) | _ => default) | _ => false)
theorem dRight_shape {c : Cnt} {d : PyData} (h : dRight c d = true) : ∃ z i, d = .tuple [.str z, .int i] := by
 refine Hk.hold ?_
 simp (disch := with_unfolding_all (
 exact Hk.disch (by
  unfold dRight dFormed at h
  cases e : rTab.lookup (dWord d) with
  | none => rw [e] at h; cases h
  | some ks =>
    obtain ⟨ds, rfl⟩ := dWord_tup e
    rw [e] at h
    have m := lookup_mem e
    have z0 : rTab.lookup ("" : Str) = none := by decide +kernel
    have hz : ∃ z es, ds = .str z :: es := by
      cases ds with
      | nil => exact nomatch z0.symm.trans e
      | cons a r => cases a with
        | str z => exact ⟨z, r, rfl⟩
        | _ => exact nomatch z0.symm.trans e
    obtain ⟨z, es, rfl⟩ := hz
    have k1 : ∃ kd, ks = [kd] ∧ kd ≠ "ticks" := by
      simp only [rTab, List.mem_cons, Prod.mk.injEq, List.not_mem_nil, or_false] at m
      rcases m with ⟨_, m⟩ | ⟨_, m⟩ | ⟨_, m⟩ | ⟨_, m⟩ | ⟨_, m⟩ | ⟨_, m⟩ | ⟨_, m⟩ | ⟨_, m⟩ <;> subst m <;> exact ⟨_, rfl, by decide +kernel⟩
    obtain ⟨kd, rfl, nt⟩ := k1
    simp only [Bool.and_eq_true, decide_eq_true_eq] at h
    obtain ⟨hl, hk⟩ := h
    match es, hl with
    | [x], _ =>
      simp [dKinds, kf1, nt] at hk
      cases x with
      | int i => exact ⟨z, i, rfl⟩
      | _ => simp [dBetween] at hk))) only [↓Hk.hold_s]
theorem rows_rt {H : Hp} {c : Cnt} {xs : List V} {ds : List PyData} (ha : DpAll K H xs ds) (h : ds.all (dRight c) = true) :
    Paired (RtAt K H) xs (ds.map fun e => match e with | .tuple [.str z, .int i] => (z, i) | _ => default) := by
  induction ds generalizing xs with
  | nil => cases ha; exact .nil
  | cons d ds ih =>
    cases ha with
    | cons h1 h2 =>
      rw [List.all_cons, Bool.and_eq_true] at h
      obtain ⟨z, i, rfl⟩ := dRight_shape h.1
      refine .cons ?_ (ih h2 h.2)
      cases h1 with
      | @tup a ys _ hs hy => cases hy with
        | cons g1 g2 => cases g1; cases g2 with
          | cons g3 g4 => cases g3; cases g4; exact ⟨a, rfl, hs⟩
def spRow (K : PySem.W.Frag) (p : Cnt → PyData → Bool) : Sp := fun vs H Q _ => ∃ (a : Addr) (c : Cnt) (x : V) (d : PyData), vs = [.ref a, x] ∧ H a = some (.dK (countKV c)) ∧ cntGood c ∧ Dp K H x d ∧ ∀ H', Same H H' → Q (.bl (p c d)) H'
theorem ok_fit_as_row (B : Bl mg) (d : DefAt K mg "fit_as_row" s_fit_as_row ["counts", "row"]) (c_is_list : Cal P w K mg base 1 "is_list" ["thing", "low", "high"] (spListOf K)) (c_is_right : Cal P w K mg base 6 "is_right" ["counts", "thing"] (spRight K)) (c_is_ascending : Cal P w K mg base 1 "is_ascending" ["items"] (spAsc K)) :
    Cal P w K mg base 7 "fit_as_row" ["counts", "row"] (spRow K okRow) := by
 refine Hk.hold ?_
 simp (disch := with_unfolding_all (
 exact Hk.disch (d.cal fun f fd F => by
  refine F.ok sc_fit_as_row (fun vs H Q E h => ?_) (fun cdv A outer s H vs Q E hr h => ?_)
  · obtain ⟨a, c, x, d, rfl, _⟩ := h; rfl
  · obtain ⟨b, c, x, d, rfl, hc0, cg, hd, q⟩ := h
    refine ⟨_, (pss_one (ps_ret (pe_and (pe_cal c_is_list (hr.mono (by omega)) rfl (pa_cons (pv 1) (pa_cons pe_int (pa_cons pe_int pa_nil)))) (pe_and (pe_callB (cr_all rfl) rfl B.all hb_all (pa_cons (pe_lc (own := [("right", 2)]) (tt := tYes) rfl sc_fit_as_row.nd (pi_list (pv 1)) (blkOk_by (N := ["counts", "row", "right"]) (sc := defScope s_fit_as_row) (by decide +kernel)) (fun _ _ _ _ _ => (pg_name (i := 2) sc_fit_as_row.nd rfl (Or.inl rfl))) (fun _ _ _ _ _ => pts_nil) (fun _ _ _ _ _ => (pe_cal c_is_right (hr.mono (by omega)) rfl (pa_cons (pv 0) (pa_cons (pv 2) pa_nil))))) pa_nil)) (pe_one (pe_cal c_is_ascending (hr.mono (by omega)) rfl (pa_cons (pv 1) pa_nil))))))), ?_⟩
    walk_at "st0"
    refine ⟨x, d, 0, 8, rfl, hd, ?_⟩
    walk_at "st"
    refine q_if (fun hc => ?_) (fun hc => ?_)
    · obtain ⟨ds, rfl, h0, h1⟩ := dListOf_list hc
      cases hd with
      | @lst a xs _ hs ha =>
      walk_at "st"
      refine ⟨.ref a, rfl, a, rfl, ⟨xs, hs⟩, fun D nD => lc_test (dRight c) hs ha (by omega) nD ?_ ?_⟩
      · intro x2 d2 H2 h2 _ s2 Q2 k2
        refine ⟨rfl, ?_⟩
        walk_at "st"
        exact ⟨b, c, x2, d2, rfl, s2 _ _ hc0, cg, h2, fun H3 s3 => k2 _ s3⟩
      · intro H2 s2 e
        refine ⟨D, _, rfl, e, ?_⟩
        walk_at "st"
        rw [all_map_id]
        have z := q
        simp only [okRow, hc, Bool.true_and] at z
        refine q_if (fun hr2 => ?_) (fun hr2 => ?_)
        · walk_at "st"
          refine ⟨a, xs, _, rfl, s2.seq hs, rows_rt (L2.DpAll.mono s2 ha) hr2, by rw [List.length_map]; omega, fun H3 s3 => ?_⟩
          have z2 := z H3 (s2.trans s3)
          rw [hr2, Bool.true_and] at z2
          exact z2
        · have z2 := z H2 s2
          rw [hr2, Bool.false_and] at z2
          exact z2
    · have z := q H (Same.refl H)
      simp only [okRow, hc, Bool.false_and] at z
      exact z))) only [↓Hk.hold_s]
def cnt (c : Cnt) (z : Str) : Int := (c.lookup z).getD 0
def okRights (c : Cnt) (d : PyData) : Bool := dListOf d (cnt c "task") (cnt c "task") && (match d with | .list ds => ds.all (okRow c) | _ => false)
theorem cnt_get {c : Cnt} (h : cntGood c) {z : Str} (hz : z ∈ (["task", "page", "port"] : List Str)) : c.lookup z = some (cnt c z) := by
  obtain ⟨t, p, q, l, d, rfl⟩ := h
  simp only [List.mem_cons, List.not_mem_nil, or_false] at hz
  rcases hz with rfl | rfl | rfl <;> rfl
def cntSmall (c : Cnt) : Prop := cntGood c ∧ cnt c "task" ≤ 100 ∧ cnt c "page" ≤ 100
def spPart (K : PySem.W.Frag) (p : Cnt → PyData → Bool) : Sp := fun vs H Q _ => ∃ (a : Addr) (c : Cnt) (x : V) (d : PyData), vs = [.ref a, x] ∧ H a = some (.dK (countKV c)) ∧ cntSmall c ∧ Dp K H x d ∧ ∀ H', Same H H' → Q (.bl (p c d)) H'
theorem ok_fit_as_rights (B : Bl mg) (d : DefAt K mg "fit_as_rights" s_fit_as_rights ["counts", "rights"]) (c_is_list : Cal P w K mg base 1 "is_list" ["thing", "low", "high"] (spListOf K)) (c_fit_as_row : Cal P w K mg base 7 "fit_as_row" ["counts", "row"] (spRow K okRow)) :
    Cal P w K mg base 8 "fit_as_rights" ["counts", "rights"] (spPart K okRights) := by
 refine Hk.hold ?_
 simp (disch := with_unfolding_all (
 exact Hk.disch (d.cal fun f fd F => by
  refine F.ok sc_fit_as_rights (fun vs H Q E h => ?_) (fun cdv A outer s H vs Q E hr h => ?_)
  · obtain ⟨a, c, x, d, rfl, _⟩ := h; rfl
  · obtain ⟨b, c, x, d, rfl, hc0, ⟨cg, c1, c2⟩, hd, q⟩ := h
    have hu := hu_of hr
    refine ⟨_, (pss_cons (ps_set (i := 2) sc_fit_as_rights.nd rfl (Or.inl rfl) (pe_dget hu (pv 0) pe_str (fun _ _ => rfl)))
      (pss_one (ps_ret (pe_and (pe_cal c_is_list (hr.mono (by omega)) rfl (pa_cons (pv 1) (pa_cons (pv 2) (pa_cons (pv 2) pa_nil)))) (pe_one (pe_callB (cr_all rfl) rfl B.all hb_all (pa_cons (pe_lc (own := [("row", 3)]) (tt := tYes) rfl sc_fit_as_rights.nd (pi_list (pv 1)) (blkOk_by (N := ["counts", "rights", "many", "row"]) (sc := defScope s_fit_as_rights) (by decide +kernel)) (fun _ _ _ _ _ => (pg_name (i := 3) sc_fit_as_rights.nd rfl (Or.inl rfl))) (fun _ _ _ _ _ => pts_nil) (fun _ _ _ _ _ => (pe_cal c_fit_as_row (hr.mono (by omega)) rfl (pa_cons (pv 0) (pa_cons (pv 3) pa_nil))))) pa_nil))))))), ?_⟩
    walk_at "st0"
    refine ⟨b, _, rfl, dgetC hc0 (cnt_get cg (by simp)), ?_⟩
    walk_at "st"
    refine ⟨x, d, _, _, rfl, hd, ?_⟩
    walk_at "st"
    refine q_if (fun hc => ?_) (fun hc => ?_)
    · obtain ⟨ds, rfl, h0, h1⟩ := dListOf_list hc
      cases hd with
      | @lst a xs _ hs ha =>
      walk_at "st"
      refine ⟨.ref a, rfl, a, rfl, ⟨xs, hs⟩, fun D nD => lc_test (okRow c) hs ha (by omega) nD ?_ ?_⟩
      · intro x2 d2 H2 h2 _ s2 Q2 k2
        refine ⟨rfl, ?_⟩
        walk_at "st"
        exact ⟨b, c, x2, d2, rfl, s2 _ _ hc0, cg, h2, fun H3 s3 => k2 _ s3⟩
      · intro H2 s2 e
        refine ⟨D, _, rfl, e, ?_⟩
        have z := q H2 s2
        simp only [okRights, hc, Bool.true_and] at z
        rw [all_map_id]; exact z
    · have z := q H (Same.refl H)
      simp only [okRights, hc, Bool.false_and] at z
      exact z))) only [↓Hk.hold_s]
def okLine (d : PyData) : Bool := match d with | .none => true | _ => dBetween d 0 1
def okLines (c : Cnt) (d : PyData) : Bool := dListOf d (cnt c "page") (cnt c "page") && (match d with | .list ds => ds.all okLine | _ => false)
theorem ok_fit_as_lines (B : Bl mg) (d : DefAt K mg "fit_as_lines" s_fit_as_lines ["counts", "lines"]) (c_is_list : Cal P w K mg base 1 "is_list" ["thing", "low", "high"] (spListOf K)) (c_is_between : Cal P w K mg base 2 "is_between" ["thing", "low", "high"] (spBetween K)) :
    Cal P w K mg base 3 "fit_as_lines" ["counts", "lines"] (spPart K okLines) := by
 refine Hk.hold ?_
 simp (disch := with_unfolding_all (
 exact Hk.disch (d.cal fun f fd F => by
  refine F.ok sc_fit_as_lines (fun vs H Q E h => ?_) (fun cdv A outer s H vs Q E hr h => ?_)
  · obtain ⟨a, c, x, d, rfl, _⟩ := h; rfl
  · obtain ⟨b, c, x, d, rfl, hc0, ⟨cg, c1, c2⟩, hd, q⟩ := h
    have hu := hu_of hr
    refine ⟨_, (pss_cons (ps_set (i := 2) sc_fit_as_lines.nd rfl (Or.inl rfl) (pe_dget hu (pv 0) pe_str (fun _ _ => rfl)))
      (pss_one (ps_ret (pe_and (pe_cal c_is_list (hr.mono (by omega)) rfl (pa_cons (pv 1) (pa_cons (pv 2) (pa_cons (pv 2) pa_nil)))) (pe_one (pe_callB (cr_all rfl) rfl B.all hb_all (pa_cons (pe_lc (own := [("line", 3)]) (tt := tYes) rfl sc_fit_as_lines.nd (pi_list (pv 1)) (blkOk_by (N := ["counts", "lines", "many", "line"]) (sc := defScope s_fit_as_lines) (by decide +kernel)) (fun _ _ _ _ _ => (pg_name (i := 3) sc_fit_as_lines.nd rfl (Or.inl rfl))) (fun _ _ _ _ _ => pts_nil) (fun _ _ _ _ _ => (pe_or (pe_cmp (pc_isN (pv 3))) (pe_one (pe_cal c_is_between (hr.mono (by omega)) rfl (pa_cons (pv 3) (pa_cons pe_int (pa_cons pe_int pa_nil)))))))) pa_nil))))))), ?_⟩
    walk_at "st0"
    refine ⟨b, _, rfl, dgetC hc0 (cnt_get cg (by simp)), ?_⟩
    walk_at "st"
    refine ⟨x, d, _, _, rfl, hd, ?_⟩
    walk_at "st"
    refine q_if (fun hc => ?_) (fun hc => ?_)
    · obtain ⟨ds, rfl, h0, h1⟩ := dListOf_list hc
      cases hd with
      | @lst a xs _ hs ha =>
      walk_at "st"
      refine ⟨.ref a, rfl, a, rfl, ⟨xs, hs⟩, fun D nD => lc_test okLine hs ha (by omega) nD ?_ ?_⟩
      · intro x2 d2 H2 h2 _ s2 Q2 k2
        refine ⟨rfl, ?_⟩
        walk_at "st"
        have h3 := h2
        cases h2 with
        | non => exact iteT (k2 _ (Same.refl _))
        | _ =>
          refine iteF ?_
          walk_at "st"
          exact ⟨_, _, 0, 1, rfl, h3, k2 _ (Same.refl _)⟩
      · intro H2 s2 e
        refine ⟨D, _, rfl, e, ?_⟩
        have z := q H2 s2
        simp only [okLines, hc, Bool.true_and] at z
        rw [all_map_id]; exact z
    · have z := q H (Same.refl H)
      simp only [okLines, hc, Bool.false_and] at z
      exact z))) only [↓Hk.hold_s]
end
end T
namespace T
section
variable {P : Program} {w : World} {K : PySem.W.Frag} {mg : Str → Option Value} {base : Heap}
theorem dTupleOf_tup {d : PyData} {n : Nat} (h : dTupleOf d n = true) : ∃ ds, d = .tuple ds ∧ ds.length = n := by
  cases d with
  | tuple ds => simp [dTupleOf] at h; exact ⟨ds, rfl, h⟩
  | _ => simp [dTupleOf] at h
def okCosts (d : PyData) : Bool := dTupleOf d 3 && (match d with | .tuple [a, b, c] => dBetween a 1 3 && (dBetween b 0 3 && dBetween c 0 2) | _ => false)
def spOk (K : PySem.W.Frag) (p : PyData → Bool) : Sp := fun vs H Q _ => ∃ (x : V) (d : PyData), vs = [x] ∧ Dp K H x d ∧ ∀ H', Same H H' → Q (.bl (p d)) H'
theorem ok_fit_as_costs (B : Bl mg) (d : DefAt K mg "fit_as_costs" s_fit_as_costs ["costs"]) (c_is_tuple : Cal P w K mg base 1 "is_tuple" ["thing", "many"] (spTupleOf K)) (c_is_between : Cal P w K mg base 2 "is_between" ["thing", "low", "high"] (spBetween K)) :
    Cal P w K mg base 3 "fit_as_costs" ["costs"] (spOk K okCosts) := by
 refine Hk.hold ?_
 simp (disch := with_unfolding_all (
 exact Hk.disch (d.cal fun f fd F => by
  refine F.ok sc_fit_as_costs (fun vs H Q E h => ?_) (fun cdv A outer s H vs Q E hr h => ?_)
  · obtain ⟨x, d, rfl, _⟩ := h; rfl
  · obtain ⟨x, d, rfl, hd, q⟩ := h
    have z := q H (Same.refl H)
    refine ⟨_, (pss_cons (ps_if (pt_not (pt_val (pe_cal c_is_tuple (hr.mono (by omega)) rfl (pa_cons (pv 0) (pa_cons pe_int pa_nil))))) (pss_one (ps_ret pe_bl)) pss_nil)
      (pss_one (ps_ret (pe_and (pe_cal c_is_between (hr.mono (by omega)) rfl (pa_cons (pe_ix ix_tup (pv 0) pe_int (fun _ _ => rfl)) (pa_cons pe_int (pa_cons pe_int pa_nil)))) (pe_and (pe_cal c_is_between (hr.mono (by omega)) rfl (pa_cons (pe_ix ix_tup (pv 0) pe_int (fun _ _ => rfl)) (pa_cons pe_int (pa_cons pe_int pa_nil)))) (pe_one (pe_cal c_is_between (hr.mono (by omega)) rfl (pa_cons (pe_ix ix_tup (pv 0) pe_int (fun _ _ => rfl)) (pa_cons pe_int (pa_cons pe_int pa_nil)))))))))), ?_⟩
    walk_at "st0"
    refine ⟨x, d, 3, rfl, hd, ?_⟩
    walk_at "st"
    cases hc : dTupleOf d 3 with
    | false =>
      refine iteT ?_
      walk_at "st"
      simp only [okCosts, hc, Bool.false_and] at z
      exact z
    | true =>
      refine iteF ?_
      obtain ⟨ds, rfl, l3⟩ := dTupleOf_tup hc
      simp only [okCosts, hc, Bool.true_and] at z
      match ds, l3, hd, z with
      | [a, b, c], _, hd, z =>
        cases hd with
        | @tup t xs _ hs ha =>
        cases ha with
        | @cons x0 r0 _ _ a0 ha => cases ha with
          | @cons x1 r1 _ _ a1 ha => cases ha with
            | @cons x2 r2 _ _ a2 ha =>
              cases ha
              walk_at "st"
              refine q_ixT hs (atI0 rfl) ?_
              walk_at "st"
              refine ⟨x0, a, 1, 3, rfl, a0, ?_⟩
              walk_at "st"
              refine q_if (fun h1 => ?_) (fun h1 => ?_)
              · walk_at "st"
                refine q_ixT hs (atI1 rfl) ?_
                walk_at "st"
                refine ⟨x1, b, 0, 3, rfl, a1, ?_⟩
                walk_at "st"
                refine q_if (fun h2 => ?_) (fun h2 => ?_)
                · walk_at "st"
                  refine q_ixT hs (atI_nat (j := 2) rfl) ?_
                  walk_at "st"
                  refine ⟨x2, c, 0, 2, rfl, a2, ?_⟩
                  simpa [h1, h2] using z
                · simpa [h1, h2] using z
              · simpa [h1] using z))) only [↓Hk.hold_s]
def okSlot (c : Cnt) (d : PyData) : Bool := dTupleOf d 2 && (match d with | .tuple [a, b] => dBetween a 0 (cnt c "task" - 1) && dBetween b 1 12 | _ => false)
theorem ok_fits_as_slot (B : Bl mg) (d : DefAt K mg "fits_as_slot" s_fits_as_slot ["counts", "row"]) (c_is_tuple : Cal P w K mg base 1 "is_tuple" ["thing", "many"] (spTupleOf K)) (c_is_between : Cal P w K mg base 2 "is_between" ["thing", "low", "high"] (spBetween K)) (c_is_index : Cal P w K mg base 3 "is_index" ["thing", "many"] (spIndex K)) :
    Cal P w K mg base 4 "fits_as_slot" ["counts", "row"] (spPart K okSlot) := by
 refine Hk.hold ?_
 simp (disch := with_unfolding_all (
 exact Hk.disch (d.cal fun f fd F => by
  refine F.ok sc_fits_as_slot (fun vs H Q E h => ?_) (fun cdv A outer s H vs Q E hr h => ?_)
  · obtain ⟨a, c, x, d, rfl, _⟩ := h; rfl
  · obtain ⟨b, c, x, d, rfl, hc0, ⟨cg, c1, c2⟩, hd, q⟩ := h
    have hu := hu_of hr
    have z := q H (Same.refl H)
    refine ⟨_, (pss_one (ps_ret (pe_and (pe_cal c_is_tuple (hr.mono (by omega)) rfl (pa_cons (pv 1) (pa_cons pe_int pa_nil))) (pe_and (pe_cal c_is_index (hr.mono (by omega)) rfl (pa_cons (pe_ix ix_tup (pv 1) pe_int (fun _ _ => rfl)) (pa_cons (pe_dget hu (pv 0) pe_str (fun _ _ => rfl)) pa_nil))) (pe_one (pe_cal c_is_between (hr.mono (by omega)) rfl (pa_cons (pe_ix ix_tup (pv 1) pe_int (fun _ _ => rfl)) (pa_cons pe_int (pa_cons pe_int pa_nil))))))))), ?_⟩
    walk_at "st0"
    refine ⟨x, d, 2, rfl, hd, ?_⟩
    walk_at "st"
    cases hc : dTupleOf d 2 with
    | false =>
      refine iteF ?_
      simp only [okSlot, hc, Bool.false_and] at z
      exact z
    | true =>
      refine iteT ?_
      obtain ⟨ds, rfl, l3⟩ := dTupleOf_tup hc
      simp only [okSlot, hc, Bool.true_and] at z
      match ds, l3, hd, z with
      | [e0, e1], _, hd, z =>
        cases hd with
        | @tup t xs _ hs ha =>
        cases ha with
        | @cons x0 r0 _ _ a0 ha => cases ha with
          | @cons x1 r1 _ _ a1 ha =>
            cases ha
            walk_at "st"
            refine q_ixT hs (atI0 rfl) ?_
            walk_at "st"
            refine ⟨b, _, rfl, dgetC hc0 (cnt_get cg (by simp)), ?_⟩
            walk_at "st"
            refine ⟨x0, e0, _, rfl, a0, ?_⟩
            walk_at "st"
            refine q_if (fun h1 => ?_) (fun h1 => ?_)
            · walk_at "st"
              refine q_ixT hs (atI1 rfl) ?_
              walk_at "st"
              refine ⟨x1, e1, 1, 12, rfl, a1, ?_⟩
              simpa [h1] using z
            · simpa [h1] using z))) only [↓Hk.hold_s]
def okOut2 (c : Cnt) (d : PyData) : Bool := dTupleOf d 2 && (match d with | .tuple [a, b] => dBetween a 0 (cnt c "port" - 1) && dBetween b 1 4 | _ => false)
def okOutside (c : Cnt) (d : PyData) : Bool := match d with | .none => true | _ => okOut2 c d
theorem ok_fits_as_outside (B : Bl mg) (d : DefAt K mg "fits_as_outside" s_fits_as_outside ["counts", "outside"]) (c_is_tuple : Cal P w K mg base 1 "is_tuple" ["thing", "many"] (spTupleOf K)) (c_is_between : Cal P w K mg base 2 "is_between" ["thing", "low", "high"] (spBetween K)) (c_is_index : Cal P w K mg base 3 "is_index" ["thing", "many"] (spIndex K)) :
    Cal P w K mg base 4 "fits_as_outside" ["counts", "outside"] (spPart K okOutside) := by
 refine Hk.hold ?_
 simp (disch := with_unfolding_all (
 exact Hk.disch (d.cal fun f fd F => by
  refine F.ok sc_fits_as_outside (fun vs H Q E h => ?_) (fun cdv A outer s H vs Q E hr h => ?_)
  · obtain ⟨a, c, x, d, rfl, _⟩ := h; rfl
  · obtain ⟨b, c, x, d, rfl, hc0, ⟨cg, c1, c2⟩, hd, q⟩ := h
    have hu := hu_of hr
    have z := q H (Same.refl H)
    refine ⟨_, (pss_cons (ps_if (pt_cmp (pc_isN (pv 1))) (pss_one (ps_ret pe_bl)) pss_nil)
      (pss_one (ps_ret (pe_and (pe_cal c_is_tuple (hr.mono (by omega)) rfl (pa_cons (pv 1) (pa_cons pe_int pa_nil))) (pe_and (pe_cal c_is_index (hr.mono (by omega)) rfl (pa_cons (pe_ix ix_tup (pv 1) pe_int (fun _ _ => rfl)) (pa_cons (pe_dget hu (pv 0) pe_str (fun _ _ => rfl)) pa_nil))) (pe_one (pe_cal c_is_between (hr.mono (by omega)) rfl (pa_cons (pe_ix ix_tup (pv 1) pe_int (fun _ _ => rfl)) (pa_cons pe_int (pa_cons pe_int pa_nil)))))))))), ?_⟩
    walk_at "st0"
    by_cases hn : x = .non
    · subst hn
      cases hd
      refine iteT ?_
      walk_at "st"
      exact z
    · have zz : okOutside c d = okOut2 c d := by
        cases hd with
        | non => exact absurd rfl hn
        | _ => rfl
      rw [zz] at z
      clear zz q
      rw [decide_eq_false hn]
      refine iteF ?_
      walk_at "st"
      refine ⟨x, d, 2, rfl, hd, ?_⟩
      walk_at "st"
      cases hc : dTupleOf d 2 with
      | false =>
        refine iteF ?_
        simp only [okOut2, hc, Bool.false_and] at z
        exact z
      | true =>
        refine iteT ?_
        obtain ⟨ds, rfl, l3⟩ := dTupleOf_tup hc
        simp only [okOut2, hc, Bool.true_and] at z
        match ds, l3, hd, z with
        | [e0, e1], _, hd, z =>
          cases hd with
          | @tup t xs _ hs ha =>
          cases ha with
          | @cons x0 r0 _ _ a0 ha => cases ha with
            | @cons x1 r1 _ _ a1 ha =>
              cases ha
              walk_at "st"
              refine q_ixT hs (atI0 rfl) ?_
              walk_at "st"
              refine ⟨b, _, rfl, dgetC hc0 (cnt_get cg (by simp)), ?_⟩
              walk_at "st"
              refine ⟨x0, e0, _, rfl, a0, ?_⟩
              walk_at "st"
              refine q_if (fun h1 => ?_) (fun h1 => ?_)
              · walk_at "st"
                refine q_ixT hs (atI1 rfl) ?_
                walk_at "st"
                refine ⟨x1, e1, 1, 4, rfl, a1, ?_⟩
                simpa [h1] using z
              · simpa [h1] using z))) only [↓Hk.hold_s]
end
end T
namespace T
section
variable {P : Program} {w : World} {K : PySem.W.Frag} {mg : Str → Option Value} {base : Heap}
def okSlots (c : Cnt) (d : PyData) : Bool := dListOf d 1 4 && (match d with | .list rs => rs.all (okSlot c) | _ => false)
def okPlan (c : Cnt) (d : PyData) : Bool := dTupleOf d 2 && (match d with | .tuple [.str z, e] => if z = "levels" then dBetween e 1 8 else decide (z = "slots") && okSlots c e | _ => false)
def strHead (d : PyData) : Prop := ∀ e0 e1, d = .tuple [e0, e1] → ∃ z, e0 = .str z
def spPlan (K : PySem.W.Frag) : Sp := fun vs H Q _ => ∃ (a : Addr) (c : Cnt) (x : V) (d : PyData), vs = [.ref a, x] ∧ H a = some (.dK (countKV c)) ∧ cntSmall c ∧ Dp K H x d ∧ strHead d ∧ ∀ H', Same H H' → Q (.bl (okPlan c d)) H'
theorem ok_fit_as_plan (B : Bl mg) (d : DefAt K mg "fit_as_plan" s_fit_as_plan ["counts", "plan"]) (c_is_tuple : Cal P w K mg base 1 "is_tuple" ["thing", "many"] (spTupleOf K)) (c_is_between : Cal P w K mg base 2 "is_between" ["thing", "low", "high"] (spBetween K))
    (c_is_list : Cal P w K mg base 1 "is_list" ["thing", "low", "high"] (spListOf K)) (c_fits_as_slot : Cal P w K mg base 4 "fits_as_slot" ["counts", "row"] (spPart K okSlot)) : Cal P w K mg base 5 "fit_as_plan" ["counts", "plan"] (spPlan K) := by
 refine Hk.hold ?_
 simp (disch := with_unfolding_all (
 exact Hk.disch (d.cal fun f fd F => by
  refine F.ok sc_fit_as_plan (fun vs H Q E h => ?_) (fun cdv A outer s H vs Q E hr h => ?_)
  · obtain ⟨a, c, x, d, rfl, _⟩ := h; rfl
  · obtain ⟨b, c, x, d, rfl, hc0, cs, hd, hz, q⟩ := h
    refine ⟨_, (pss_cons (ps_if (pt_not (pt_val (pe_cal c_is_tuple (hr.mono (by omega)) rfl (pa_cons (pv 1) (pa_cons pe_int pa_nil))))) (pss_one (ps_ret pe_bl)) pss_nil)
      (pss_cons (ps_if (pt_cmpR op_eq (pe_ix ix_tup (pv 1) pe_int (fun _ _ => rfl)) pe_str (nomark _)) (pss_one (ps_ret (pe_cal c_is_between (hr.mono (by omega)) rfl (pa_cons (pe_ix ix_tup (pv 1) pe_int (fun _ _ => rfl)) (pa_cons pe_int (pa_cons pe_int pa_nil)))))) pss_nil)
      (pss_one (ps_ret (pe_and (pe_cmpR op_eq (pe_ix ix_tup (pv 1) pe_int (fun _ _ => rfl)) pe_str (nomark _)) (pe_and (pe_cal c_is_list (hr.mono (by omega)) rfl (pa_cons (pe_ix ix_tup (pv 1) pe_int (fun _ _ => rfl)) (pa_cons pe_int (pa_cons pe_int pa_nil)))) (pe_one (pe_callB (cr_all rfl) rfl B.all hb_all (pa_cons (pe_lc (own := [("row", 2)]) (tt := tYes) rfl sc_fit_as_plan.nd (pi_list (pe_ix ix_tup (pv 1) pe_int (fun _ _ => rfl))) (blkOk_by (N := ["counts", "plan", "row"]) (sc := defScope s_fit_as_plan) (by decide +kernel)) (fun _ _ _ _ _ => (pg_name (i := 2) sc_fit_as_plan.nd rfl (Or.inl rfl))) (fun _ _ _ _ _ => pts_nil) (fun _ _ _ _ _ => (pe_cal c_fits_as_slot (hr.mono (by omega)) rfl (pa_cons (pv 0) (pa_cons (pv 2) pa_nil))))) pa_nil))))))))), ?_⟩
    walk_at "st0"
    refine ⟨x, d, 2, rfl, hd, ?_⟩
    walk_at "st"
    cases hc : dTupleOf d 2 with
    | false =>
      refine iteT ?_
      walk_at "st"
      have z := q H (Same.refl H)
      simp only [okPlan, hc, Bool.false_and] at z
      exact z
    | true =>
      refine iteF ?_
      obtain ⟨ds, rfl, l2⟩ := dTupleOf_tup hc
      simp only [okPlan, hc, Bool.true_and] at q
      match ds, l2, hd, hz, q with
      | [e0, e1], _, hd, hz, q =>
        obtain ⟨z, rfl⟩ := hz e0 e1 rfl
        cases hd with
        | @tup t xs _ hs ha =>
        cases ha with
        | @cons x0 r0 _ _ a0 ha => cases ha with
          | @cons x1 r1 _ _ a1 ha =>
            cases ha
            cases a0
            walk_at "st"
            refine q_ixT hs (atI0 rfl) ?_
            walk_at "st"
            refine q_eq rfl ?_
            walk_at "st"
            by_cases h1 : z = "levels"
            · subst h1
              rw [decide_eq_true rfl]
              refine iteT ?_
              walk_at "st"
              refine q_ixT hs (atI1 rfl) ?_
              walk_at "st"
              refine ⟨x1, e1, 1, 8, rfl, a1, ?_⟩
              have z0 := q H (Same.refl H)
              simpa using z0
            · rw [decide_eq_false (fun q => h1 (V.str.inj q))]
              refine iteF ?_
              walk_at "st"
              refine q_ixT hs (atI0 rfl) ?_
              walk_at "st"
              refine q_eq rfl ?_
              walk_at "st"
              simp only [if_neg h1] at q
              by_cases h2 : z = "slots"
              · subst h2
                rw [decide_eq_true rfl]
                refine iteT ?_
                walk_at "st"
                refine q_ixT hs (atI1 rfl) ?_
                walk_at "st"
                refine ⟨x1, e1, 1, 4, rfl, a1, ?_⟩
                walk_at "st"
                simp only [decide_true, Bool.true_and] at q
                refine q_if (fun hl => ?_) (fun hl => ?_)
                · obtain ⟨rs, rfl, g0, g1⟩ := dListOf_list hl
                  have a2 := a1
                  cases a1 with
                  | @lst a ys _ hy hb =>
                  walk_at "st"
                  refine ⟨.ref t, rfl, ?_⟩
                  walk_at "st"
                  refine q_ixT hs (atI1 rfl) ?_
                  refine ⟨a, rfl, ⟨ys, hy⟩, fun D nD => lc_test (okSlot c) hy hb (by omega) nD ?_ ?_⟩
                  · intro x2 d2 H2 h2 _ s2 Q2 k2
                    refine ⟨rfl, ?_⟩
                    walk_at "st"
                    exact ⟨b, c, x2, d2, rfl, s2 _ _ hc0, cs, h2, fun H3 s3 => k2 _ s3⟩
                  · intro H2 s2 e
                    refine ⟨D, _, rfl, e, ?_⟩
                    have z0 := q H2 s2
                    simp only [okSlots, hl, Bool.true_and] at z0
                    rw [all_map_id]; exact z0
                · have z0 := q H (Same.refl H)
                  simp only [okSlots, hl, Bool.false_and] at z0
                  exact z0
              · rw [decide_eq_false (fun q => h2 (V.str.inj q))]
                refine iteF ?_
                have z0 := q H (Same.refl H)
                rw [decide_eq_false h2, Bool.false_and] at z0
                exact z0))) only [↓Hk.hold_s]
def okTask (d : PyData) : Bool := dTupleOf d 2 && (match d with | .tuple [a, b] => dBetween a 0 3 && dBetween b 0 2 | _ => false)
def sideD (d : PyData) : Int := match d with | .tuple [.int s, _] => s | _ => 0
def okTasks (d : PyData) : Bool := dListOf d 2 4 && (match d with | .list ds => ds.all okTask && decide (1 < distinct (ds.map sideD)) | _ => false)
theorem okTask_shape {d : PyData} (h : okTask d = true) : ∃ s l, d = .tuple [.int s, .int l] ∧ 0 ≤ s ∧ s ≤ 3 ∧ 0 ≤ l ∧ l ≤ 2 := by
  unfold okTask at h
  rw [Bool.and_eq_true] at h
  obtain ⟨h1, h2⟩ := h
  obtain ⟨ds, rfl, l2⟩ := dTupleOf_tup h1
  match ds, l2, h2 with
  | [a, b], _, h2 =>
    rw [Bool.and_eq_true] at h2
    obtain ⟨h2, h3⟩ := h2
    cases a with
    | int s => cases b with
      | int l => simp [dBetween] at h2 h3; exact ⟨s, l, rfl, h2.1, h2.2, h3.1, h3.2⟩
      | _ => simp [dBetween] at h3
    | _ => simp [dBetween] at h2
theorem ok_fit_as_tasks (B : Bl mg) (d : DefAt K mg "fit_as_tasks" s_fit_as_tasks ["tasks"]) (c_is_list : Cal P w K mg base 1 "is_list" ["thing", "low", "high"] (spListOf K)) (c_is_tuple : Cal P w K mg base 1 "is_tuple" ["thing", "many"] (spTupleOf K)) (c_is_between : Cal P w K mg base 2 "is_between" ["thing", "low", "high"] (spBetween K)) :
    Cal P w K mg base 3 "fit_as_tasks" ["tasks"] (spOk K okTasks) := by
 refine Hk.hold ?_
 simp (disch := with_unfolding_all (
 exact Hk.disch (d.cal fun f fd F => by
  refine F.ok sc_fit_as_tasks (fun vs H Q E h => ?_) (fun cdv A outer s H vs Q E hr h => ?_)
  · obtain ⟨x, d, rfl, _⟩ := h; rfl
  · obtain ⟨x, d, rfl, hd, q⟩ := h
    refine ⟨_, (pss_cons (ps_if (pt_not (pt_val (pe_cal c_is_list (hr.mono (by omega)) rfl (pa_cons (pv 0) (pa_cons pe_int (pa_cons pe_int pa_nil)))))) (pss_one (ps_ret pe_bl)) pss_nil)
      (pss_cons (ps_for PassesOwn.never rfl (pi_list (pv 0)) (pg_name (i := 1) sc_fit_as_tasks.nd rfl (Or.inl rfl)) (pss_one (ps_if (pt_not (PW.pt (pw_and (pt_val (pe_cal c_is_tuple (hr.mono (by omega)) rfl (pa_cons (pv 1) (pa_cons pe_int pa_nil)))) (pw_and (pt_val (pe_cal c_is_between (hr.mono (by omega)) rfl (pa_cons (pe_ix ix_tup (pv 1) pe_int (fun _ _ => rfl)) (pa_cons pe_int (pa_cons pe_int pa_nil))))) (pw_and1 (pt_val (pe_cal c_is_between (hr.mono (by omega)) rfl (pa_cons (pe_ix ix_tup (pv 1) pe_int (fun _ _ => rfl)) (pa_cons pe_int (pa_cons pe_int pa_nil)))))))))) (pss_one (ps_ret pe_bl)) pss_nil)))
      (pss_one (ps_ret (pe_cmpR op_gt (pe_lenSetD rfl rfl B.len rfl B.set_ (pe_lc (own := [("side", 2), ("level", 3)]) (tt := tYes) rfl sc_fit_as_tasks.nd (pi_list (pv 0)) (blkOk_by (N := ["tasks", "task", "side", "level"]) (sc := defScope s_fit_as_tasks) (by decide +kernel)) (fun _ _ _ _ _ => (show PG _ _ (gTup K 2 _) from pg_tup rfl (pgs_cons (pg_name (i := 2) sc_fit_as_tasks.nd rfl (Or.inl rfl)) (pgs_cons (pg_name (i := 3) sc_fit_as_tasks.nd rfl (Or.inl rfl)) pgs_nil)))) (fun _ _ _ _ _ => pts_nil) (fun _ _ _ _ _ => (pv 2)))) pe_int (nomark _)))))), ?_⟩
    walk_at "st0"
    refine ⟨x, d, 2, 4, rfl, hd, ?_⟩
    walk_at "st"
    cases hc : dListOf d 2 4 with
    | false =>
      refine iteT ?_
      walk_at "st"
      have z := q H (Same.refl H)
      simp only [okTasks, hc, Bool.false_and] at z
      exact z
    | true =>
      refine iteF ?_
      obtain ⟨ds, rfl, h0, h1⟩ := dListOf_list hc
      simp only [okTasks, hc, Bool.true_and] at q
      cases hd with
      | @lst a xs _ hs ha =>
      have lx := ha.length
      walk_at "st"
      refine q_forV xs (fun i σ H2 => (∃ v, σ = [some (.ref a), v, none, none]) ∧ H2 = H ∧ ∀ j, j < i → okTask (ds.getD j .none) = true) rfl hs ⟨⟨none, rfl⟩, rfl, fun j h => by omega⟩ (fun i σ H2 _ h => by rw [h.2.1]; exact hs) ?_ ?_
      · rintro i x2 σ H2 hx ⟨⟨v, rfl⟩, rfl, hall⟩
        obtain ⟨d2, e2, h2⟩ := ha.get' hx
        have lt : i < ds.length := (List.getElem?_eq_some_iff.mp e2).1
        have fin : okTask d2 = true → (fun (σ : L2.St) (H2 : Hp) => (∃ v, σ = [some (.ref a), v, none, none]) ∧ H2 = H2 ∧ ∀ j, j < i + 1 → okTask (ds.getD j .none) = true) [some (.ref a), some x2, none, none] H2 := fun hh => ⟨⟨_, rfl⟩, rfl, fun j hj => by
          rcases Nat.lt_succ_iff_lt_or_eq.mp hj with z | z
          · exact hall j z
          · subst z; rw [List.getD_eq_getElem?_getD, e2]; exact hh⟩
        have bad : okTask d2 = false → Q (.bl false) H2 := fun hh => by
          have z := q H2 (Same.refl H2)
          have e : ds.all okTask = false := by
            rw [Bool.eq_false_iff]
            intro hh2
            rw [List.all_eq_true] at hh2
            exact absurd (hh2 d2 (List.mem_of_getElem? e2)) (by rw [hh]; simp)
          rw [e, Bool.false_and] at z
          exact z
        show tIfS _ _ _ _ _ _
        walk_at "st"
        refine ⟨x2, d2, 2, rfl, h2, ?_⟩
        walk_at "st"
        cases hc2 : dTupleOf d2 2 with
        | false =>
          refine iteF (iteT ?_)
          walk_at "st"
          exact bad (by unfold okTask; rw [hc2]; rfl)
        | true =>
          obtain ⟨es, rfl, l2⟩ := dTupleOf_tup hc2
          match es, l2, h2, fin, bad with
          | [p, r], _, h2, fin, bad =>
            cases h2 with
            | @tup t ys _ ht hb =>
            cases hb with
            | @cons x0 r0 _ _ a0 hb => cases hb with
              | @cons x1 r1 _ _ a1 hb =>
                cases hb
                refine iteT ?_
                walk_at "st"
                refine q_ixT ht (atI0 rfl) ?_
                walk_at "st"
                refine ⟨x0, p, 0, 3, rfl, a0, ?_⟩
                walk_at "st"
                refine q_if (fun h1 => ?_) (fun h1 => ?_)
                · walk_at "st"
                  refine q_ixT ht (atI1 rfl) ?_
                  walk_at "st"
                  refine ⟨x1, r, 0, 2, rfl, a1, ?_⟩
                  walk_at "st"
                  cases h2 : dBetween r 0 2 with
                  | false =>
                    refine iteT ?_
                    walk_at "st"
                    exact bad (by simp [okTask, dTupleOf, h1, h2])
                  | true =>
                    refine iteF ?_
                    walk_at "st"
                    exact fin (by simp [okTask, dTupleOf, h1, h2])
                · refine iteT ?_
                  walk_at "st"
                  exact bad (by simp [okTask, dTupleOf, h1])
      · rintro σ H2 ⟨⟨v, rfl⟩, rfl, hall⟩
        have e0 : ds.all okTask = true := by
          rw [List.all_eq_true]
          intro d2 hm
          obtain ⟨j, hj⟩ := List.getElem?_of_mem hm
          have z := hall j (by rw [lx]; exact (List.getElem?_eq_some_iff.mp hj).1)
          rwa [List.getD_eq_getElem?_getD, hj] at z
        rw [e0, Bool.true_and] at q
        walk_at "st"
        refine ⟨.ref a, rfl, a, rfl, ⟨xs, hs⟩, fun D nD => lc_map (fun d => V.int (sideD d)) hs ha (by omega) nD ?_ ?_⟩
        · intro x2 d2 H3 h2 hm s2 Q2 k2
          obtain ⟨sd, l, rfl, _⟩ := okTask_shape (List.all_eq_true.mp e0 d2 hm)
          cases h2 with
          | @tup t ys _ ht hb =>
          cases hb with
          | @cons x0 r0 _ _ a0 hb => cases hb with
            | @cons x1 r1 _ _ a1 hb =>
              cases hb
              cases a0
              refine ⟨t, _, rfl, ht, rfl, _, _, rfl, _, _, rfl, rfl, rfl, ?_⟩
              walk_at "st"
              exact k2 _ (Same.refl _)
        · intro H3 s3 e3
          refine ⟨D, ds.map sideD, rfl, SqL.of (by rw [e3, List.map_map]; rfl), by rw [List.length_map]; omega, ?_⟩
          walk_at "st"
          have z := q H3 s3
          have e4 : decide ((1 : Int) < (distinct (ds.map sideD) : Int)) = decide (1 < distinct (ds.map sideD)) := decide_eq_decide.mpr (by omega)
          rw [e4]; exact z))) only [↓Hk.hold_s]
end
end T
namespace T
section
variable {P : Program} {w : World} {K : PySem.W.Frag} {mg : Str → Option Value} {base : Heap}
def okDisk (d : PyData) : Bool := dBetween d 0 4 && (match d with | .int i => !decide (i = 1) | _ => false)
def thingsV (d1 d2 d3 d4 d5 d6 : PyData) : V :=
  if okTasks d1 = false then .str "tasks" else if okNumbers d2 3 0 1 = false then .str "pages" else if okNumbers d3 2 1 2 = false then .str "ports" else
  if dBetween d4 0 2 = false then .str "locks" else if dBetween d5 0 3 = false then .str "frames" else if okDisk d6 = false then .str "disk" else .non
def spThings (K : PySem.W.Frag) : Sp := fun vs H Q _ => ∃ (x1 x2 x3 x4 x5 x6 : V) (d1 d2 d3 d4 d5 d6 : PyData), vs = [x1, x2, x3, x4, x5, x6] ∧ Dp K H x1 d1 ∧ Dp K H x2 d2 ∧ Dp K H x3 d3 ∧ Dp K H x4 d4 ∧ Dp K H x5 d5 ∧ Dp K H x6 d6 ∧ ∀ H', Same H H' → Q (thingsV d1 d2 d3 d4 d5 d6) H'
theorem ok_things_fault (B : Bl mg) (d : DefAt K mg "things_fault" s_things_fault ["tasks", "pages", "ports", "locks", "frames", "disk"]) (c_fit_as_tasks : Cal P w K mg base 3 "fit_as_tasks" ["tasks"] (spOk K okTasks)) (c_fit_as_numbers : Cal P w K mg base 3 "fit_as_numbers" ["numbers", "most", "low", "high"] (spNumbers K))
    (c_is_between : Cal P w K mg base 2 "is_between" ["thing", "low", "high"] (spBetween K)) : Cal P w K mg base 4 "things_fault" ["tasks", "pages", "ports", "locks", "frames", "disk"] (spThings K) := by
 refine Hk.hold ?_
 simp (disch := with_unfolding_all (
 exact Hk.disch (d.cal fun f fd F => by
  refine F.ok sc_things_fault (fun vs H Q E h => ?_) (fun cdv A outer s H vs Q E hr h => ?_)
  · obtain ⟨x1, x2, x3, x4, x5, x6, d1, d2, d3, d4, d5, d6, rfl, _⟩ := h; rfl
  · obtain ⟨x1, x2, x3, x4, x5, x6, d1, d2, d3, d4, d5, d6, rfl, h1, h2, h3, h4, h5, h6, q⟩ := h
    refine ⟨_, (pss_cons (ps_if (pt_not (pt_val (pe_cal c_fit_as_tasks (hr.mono (by omega)) rfl (pa_cons (pv 0) pa_nil)))) (pss_one (ps_ret pe_str)) pss_nil)
      (pss_cons (ps_if (pt_not (pt_val (pe_cal c_fit_as_numbers (hr.mono (by omega)) rfl (pa_cons (pv 1) (pa_cons pe_int (pa_cons pe_int (pa_cons pe_int pa_nil))))))) (pss_one (ps_ret pe_str)) pss_nil)
      (pss_cons (ps_if (pt_not (pt_val (pe_cal c_fit_as_numbers (hr.mono (by omega)) rfl (pa_cons (pv 2) (pa_cons pe_int (pa_cons pe_int (pa_cons pe_int pa_nil))))))) (pss_one (ps_ret pe_str)) pss_nil)
      (pss_cons (ps_if (pt_not (pt_val (pe_cal c_is_between (hr.mono (by omega)) rfl (pa_cons (pv 3) (pa_cons pe_int (pa_cons pe_int pa_nil)))))) (pss_one (ps_ret pe_str)) pss_nil)
      (pss_cons (ps_if (pt_not (pt_val (pe_cal c_is_between (hr.mono (by omega)) rfl (pa_cons (pv 4) (pa_cons pe_int (pa_cons pe_int pa_nil)))))) (pss_one (ps_ret pe_str)) pss_nil)
      (pss_cons (ps_if (pt_not (PW.pt (pw_and (pt_val (pe_cal c_is_between (hr.mono (by omega)) rfl (pa_cons (pv 5) (pa_cons pe_int (pa_cons pe_int pa_nil))))) (pw_and1 (pt_cmpR op_ne (pv 5) pe_int (nomark _)))))) (pss_one (ps_ret pe_str)) pss_nil)
      (pss_one (ps_ret pe_non)))))))), ?_⟩
    walk_at "st0"
    refine ⟨x1, d1, rfl, h1, fun H1 s1 => ?_⟩
    walk_at "st"
    unfold thingsV at q
    cases e1 : okTasks d1 with
    | false =>
      refine iteT ?_
      walk_at "st"
      rw [e1] at q; exact q H1 s1
    | true =>
    refine iteF ?_
    rw [e1, if_neg (by simp)] at q
    walk_at "st"
    refine ⟨x2, d2, 3, 0, 1, rfl, L2.Dp.mono s1 h2, by omega, fun H2 s2 => ?_⟩
    have t2 := s1.trans s2
    walk_at "st"
    cases e2 : okNumbers d2 3 0 1 with
    | false =>
      refine iteT ?_
      walk_at "st"
      rw [e2] at q; exact q H2 t2
    | true =>
    refine iteF ?_
    rw [e2, if_neg (by simp)] at q
    walk_at "st"
    refine ⟨x3, d3, 2, 1, 2, rfl, L2.Dp.mono t2 h3, by omega, fun H3 s3 => ?_⟩
    have t3 := t2.trans s3
    walk_at "st"
    cases e3 : okNumbers d3 2 1 2 with
    | false =>
      refine iteT ?_
      walk_at "st"
      rw [e3] at q; exact q H3 t3
    | true =>
    refine iteF ?_
    rw [e3, if_neg (by simp)] at q
    walk_at "st"
    refine ⟨x4, d4, 0, 2, rfl, L2.Dp.mono t3 h4, ?_⟩
    walk_at "st"
    cases e4 : dBetween d4 0 2 with
    | false =>
      refine iteT ?_
      walk_at "st"
      rw [e4] at q; exact q H3 t3
    | true =>
    refine iteF ?_
    rw [e4, if_neg (by simp)] at q
    walk_at "st"
    refine ⟨x5, d5, 0, 3, rfl, L2.Dp.mono t3 h5, ?_⟩
    walk_at "st"
    cases e5 : dBetween d5 0 3 with
    | false =>
      refine iteT ?_
      walk_at "st"
      rw [e5] at q; exact q H3 t3
    | true =>
    refine iteF ?_
    rw [e5, if_neg (by simp)] at q
    walk_at "st"
    refine ⟨x6, d6, 0, 4, rfl, L2.Dp.mono t3 h6, ?_⟩
    walk_at "st"
    unfold okDisk at q
    cases e6 : dBetween d6 0 4 with
    | false =>
      refine iteF (iteT ?_)
      walk_at "st"
      rw [e6] at q; exact q H3 t3
    | true =>
    refine iteT ?_
    rw [e6, Bool.true_and] at q
    cases d6 with
    | int i =>
      cases h6
      walk_at "st"
      refine q_ne rfl ?_
      walk_at "st"
      have z := q H3 t3
      by_cases e7 : i = 1
      · subst e7
        rw [decide_eq_true rfl]
        refine iteT ?_
        walk_at "st"
        exact z
      · rw [decide_eq_false (fun q => e7 (V.int.inj q))]
        refine iteF ?_
        walk_at "st"
        simpa [e7] using z
    | _ => simp [dBetween] at e6))) only [↓Hk.hold_s]
def waysV (c : Cnt) (d1 d2 d3 d4 d5 : PyData) : V :=
  if okRights c d1 = false then .str "rights" else if okLines c d2 = false then .str "lines" else if okCosts d3 = false then .str "costs" else
  if okPlan c d4 = false then .str "plan" else if okOutside c d5 = false then .str "outside" else .non
def spWays (K : PySem.W.Frag) : Sp := fun vs H Q _ => ∃ (a : Addr) (c : Cnt) (x1 x2 x3 x4 x5 : V) (d1 d2 d3 d4 d5 : PyData), vs = [.ref a, x1, x2, x3, x4, x5] ∧ H a = some (.dK (countKV c)) ∧ cntSmall c ∧ Dp K H x1 d1 ∧ Dp K H x2 d2 ∧ Dp K H x3 d3 ∧ Dp K H x4 d4 ∧ Dp K H x5 d5 ∧
  strHead d4 ∧ ∀ H', Same H H' → Q (waysV c d1 d2 d3 d4 d5) H'
theorem ok_ways_fault (B : Bl mg) (d : DefAt K mg "ways_fault" s_ways_fault ["counts", "rights", "lines", "costs", "plan", "outside"]) (c_fit_as_rights : Cal P w K mg base 8 "fit_as_rights" ["counts", "rights"] (spPart K okRights)) (c_fit_as_lines : Cal P w K mg base 3 "fit_as_lines" ["counts", "lines"] (spPart K okLines))
    (c_fit_as_costs : Cal P w K mg base 3 "fit_as_costs" ["costs"] (spOk K okCosts)) (c_fit_as_plan : Cal P w K mg base 5 "fit_as_plan" ["counts", "plan"] (spPlan K)) (c_fits_as_outside : Cal P w K mg base 4 "fits_as_outside" ["counts", "outside"] (spPart K okOutside)) :
    Cal P w K mg base 9 "ways_fault" ["counts", "rights", "lines", "costs", "plan", "outside"] (spWays K) := by
 refine Hk.hold ?_
 simp (disch := with_unfolding_all (
 exact Hk.disch (d.cal fun f fd F => by
  refine F.ok sc_ways_fault (fun vs H Q E h => ?_) (fun cdv A outer s H vs Q E hr h => ?_)
  · obtain ⟨a, c, x1, x2, x3, x4, x5, d1, d2, d3, d4, d5, rfl, _⟩ := h; rfl
  · obtain ⟨b, c, x1, x2, x3, x4, x5, d1, d2, d3, d4, d5, rfl, hc0, cs, h1, h2, h3, h4, h5, hz, q⟩ := h
    refine ⟨_, (pss_cons (ps_if (pt_not (pt_val (pe_cal c_fit_as_rights (hr.mono (by omega)) rfl (pa_cons (pv 0) (pa_cons (pv 1) pa_nil))))) (pss_one (ps_ret pe_str)) pss_nil)
      (pss_cons (ps_if (pt_not (pt_val (pe_cal c_fit_as_lines (hr.mono (by omega)) rfl (pa_cons (pv 0) (pa_cons (pv 2) pa_nil))))) (pss_one (ps_ret pe_str)) pss_nil)
      (pss_cons (ps_if (pt_not (pt_val (pe_cal c_fit_as_costs (hr.mono (by omega)) rfl (pa_cons (pv 3) pa_nil)))) (pss_one (ps_ret pe_str)) pss_nil)
      (pss_cons (ps_if (pt_not (pt_val (pe_cal c_fit_as_plan (hr.mono (by omega)) rfl (pa_cons (pv 0) (pa_cons (pv 4) pa_nil))))) (pss_one (ps_ret pe_str)) pss_nil)
      (pss_cons (ps_if (pt_not (pt_val (pe_cal c_fits_as_outside (hr.mono (by omega)) rfl (pa_cons (pv 0) (pa_cons (pv 5) pa_nil))))) (pss_one (ps_ret pe_str)) pss_nil)
      (pss_one (ps_ret pe_non))))))), ?_⟩
    walk_at "st0"
    refine ⟨b, c, x1, d1, rfl, hc0, cs, h1, fun H1 s1 => ?_⟩
    walk_at "st"
    unfold waysV at q
    cases e1 : okRights c d1 with
    | false =>
      refine iteT ?_
      walk_at "st"
      rw [e1] at q; exact q H1 s1
    | true =>
    refine iteF ?_
    rw [e1, if_neg (by simp)] at q
    walk_at "st"
    refine ⟨b, c, x2, d2, rfl, s1 _ _ hc0, cs, L2.Dp.mono s1 h2, fun H2 s2 => ?_⟩
    have t2 := s1.trans s2
    walk_at "st"
    cases e2 : okLines c d2 with
    | false =>
      refine iteT ?_
      walk_at "st"
      rw [e2] at q; exact q H2 t2
    | true =>
    refine iteF ?_
    rw [e2, if_neg (by simp)] at q
    walk_at "st"
    refine ⟨x3, d3, rfl, L2.Dp.mono t2 h3, fun H3 s3 => ?_⟩
    have t3 := t2.trans s3
    walk_at "st"
    cases e3 : okCosts d3 with
    | false =>
      refine iteT ?_
      walk_at "st"
      rw [e3] at q; exact q H3 t3
    | true =>
    refine iteF ?_
    rw [e3, if_neg (by simp)] at q
    walk_at "st"
    refine ⟨b, c, x4, d4, rfl, t3 _ _ hc0, cs, L2.Dp.mono t3 h4, hz, fun H4 s4 => ?_⟩
    have t4 := t3.trans s4
    walk_at "st"
    cases e4 : okPlan c d4 with
    | false =>
      refine iteT ?_
      walk_at "st"
      rw [e4] at q; exact q H4 t4
    | true =>
    refine iteF ?_
    rw [e4, if_neg (by simp)] at q
    walk_at "st"
    refine ⟨b, c, x5, d5, rfl, t4 _ _ hc0, cs, L2.Dp.mono t4 h5, fun H5 s5 => ?_⟩
    have t5 := t4.trans s5
    walk_at "st"
    cases e5 : okOutside c d5 with
    | false =>
      refine iteT ?_
      walk_at "st"
      rw [e5] at q; exact q H5 t5
    | true =>
    refine iteF ?_
    walk_at "st"
    rw [e5] at q
    simpa using q H5 t5))) only [↓Hk.hold_s]
/-- named data, as a dict -/
def DatKV (K : PySem.W.Frag) (H : Hp) : List (Key × V) → List (Str × PyData) → Prop := Paired fun p q => p.1 = Sum.inr q.1 ∧ Dp K H p.2 q.2
def flagsV (l : List (Str × PyData)) : V := match l.find? fun p => !isBool p.2 with | some p => .str p.1 | none => .non
def spFlags (K : PySem.W.Frag) : Sp := fun vs H Q _ => ∃ (a : Addr) (kvs : List (Key × V)) (l : List (Str × PyData)), vs = [.ref a] ∧ H a = some (.dK kvs) ∧ DatKV K H kvs l ∧ ∀ H', Same H H' → Q (flagsV l) H'
theorem ok_flags_fault (B : Bl mg) (d : DefAt K mg "flags_fault" s_flags_fault ["flags"]) : Cal P w K mg base 1 "flags_fault" ["flags"] (spFlags K) := by
 refine Hk.hold ?_
 simp (disch := with_unfolding_all (
 exact Hk.disch (d.cal fun f fd F => by
  refine F.ok sc_flags_fault (fun vs H Q E h => ?_) (fun cdv A outer s H vs Q E hr h => ?_)
  · obtain ⟨a, kvs, l, rfl, _⟩ := h; rfl
  · obtain ⟨a, kvs, l, rfl, ha, hk, q⟩ := h
    refine ⟨_, (pss_cons (ps_lock (ps_for PassesOwn.never rfl (pi_items (pv 0)) (pg_tup rfl (pgs_cons (pg_name (i := 1) sc_flags_fault.nd rfl (Or.inl rfl)) (pgs_cons (pg_name (i := 2) sc_flags_fault.nd rfl (Or.inl rfl)) pgs_nil))) (pss_one (ps_if (pt_not (pt_val (pe_callB call_isi rfl B.isinstance hb_isinstance (pa_cons (pv 2) (pa_cons (pe_bltn (v := .ty "bool") rfl B.bool_ hb_bool rfl) pa_nil))))) (pss_one (ps_ret (pv 1))) pss_nil))))
      (pss_one (ps_ret pe_non))), ?_⟩
    walk_at "st0"
    have inv : ∀ {H2 : Hp} {od : Obj}, H2 a = some (.frz od (.dK kvs)) → (∀ b o, H b = some o → b ≠ a → H2 b = some o) → Same H (upd H2 a (.dK kvs)) := fun {H2 od} e k b o hb => by
      by_cases hba : b = a
      · subst hba; rw [upd_same, ← ha, hb]
      · rw [upd_ne hba]; exact k b o hb hba
    refine ⟨a, .dK kvs, ha, trivial, fun od => ?_⟩
    refine q_for ⟨.ref a, rfl, a, od, kvs, rfl, upd_same, for_it walk_items (fun i σ H2 => (∃ v1 v2, σ = [some (.ref a), v1, v2]) ∧ H2 a = some (.frz od (.dK kvs)) ∧ (∀ b o, H b = some o → b ≠ a → H2 b = some o) ∧ ∀ j, j < i → ∀ p, l[j]? = some p → isBool p.2 = true) ?_ (fun i σ H2 _ h => h.2.1) ?_ ?_⟩
    · exact ⟨⟨none, none, rfl⟩, upd_same, fun b o hb hba => by rw [upd_ne hba]; exact hb, fun j h => by omega⟩
    · rintro i x σ H2 H3 lt ⟨⟨v1, v2, rfl⟩, hf, hk2, hb⟩ ⟨t, y, z, rfl, nt, rfl, e1, e2⟩
      have lt2 : kvs[i]? = some kvs[i] := List.getElem?_eq_getElem lt
      replace e1 : kvs[i]?.map (fun kv => kV kv.1) = some y := e1
      replace e2 : kvs[i]?.map Prod.snd = some z := e2
      rw [lt2] at e1 e2
      cases e1
      cases e2
      obtain ⟨p, ep, en, hd⟩ := paired_get hk lt2
      have s3 := same_new (o := .tup [kV kvs[i].1, kvs[i].2]) nt
      have na : a ≠ t := ne_of_none hf nt
      have hd3 : Dp K (upd (upd H2 t (.tup [kV kvs[i].1, kvs[i].2])) a (.dK kvs)) kvs[i].2 p.2 := L2.Dp.mono (fun b o h => by
        by_cases hba : b = a
        · subst hba; rw [upd_same, ← ha, h]
        · rw [upd_ne hba]; exact s3 _ _ (hk2 b o h hba)) hd
      refine ⟨t, _, rfl, SqT.of upd_same, rfl, _, _, rfl, _, _, rfl, rfl, ?_⟩
      have tyb : TyX K (upd H2 t (.tup [kV kvs[i].1, kvs[i].2])) kvs[i].2 (.type (dTy p.2)) := by
        exact ty_but hd ha fun b o h hba => s3 _ _ (hk2 b o h hba)
      show tIfS _ _ _ _ _ _
      walk_at "st"
      refine ⟨_, _, _, _, _, rfl, .ty "bool", tyb, kit_ty (kb_bool p.2 hd.nodict), ?_⟩
      walk_at "st"
      cases hbb : isBool p.2 with
      | true =>
        refine iteF ?_
        walk_at "st"
        refine ⟨⟨_, _, rfl⟩, by rw [upd_ne na]; exact hf, fun b o h hba => s3 _ _ (hk2 b o h hba), fun j hj p2 e => ?_⟩
        rcases Nat.lt_succ_iff_lt_or_eq.mp hj with z | z
        · exact hb j z p2 e
        · subst z; rw [ep] at e; cases e; exact hbb
      | false =>
        refine iteT ?_
        walk_at "st"
        have s4 : Same H (upd (upd H2 t (.tup [kV kvs[i].1, kvs[i].2])) a (.dK kvs)) := inv (H2 := upd H2 t (.tup [kV kvs[i].1, kvs[i].2])) (od := od) (by rw [upd_ne na]; exact hf) (fun b o h hba => s3 _ _ (hk2 b o h hba))
        refine ⟨by rw [upd_ne na]; exact hf, ?_⟩
        have z := q _ s4
        have ef : l.find? (fun p => !isBool p.2) = some p := by
          rw [List.find?_eq_some_iff_getElem]
          obtain ⟨hi, ei⟩ := List.getElem?_eq_some_iff.mp ep
          refine ⟨by simp [hbb], i, hi, ei, fun j hj => ?_⟩
          simp [hb j hj _ (List.getElem?_eq_getElem (by omega))]
        rw [flagsV, ef] at z
        have en2 : kV kvs[i].1 = .str p.1 := by rw [en]; rfl
        rw [en2] at z ⊢; exact z
    · rintro σ H2 ⟨⟨v1, v2, rfl⟩, hf, hk2, hb⟩
      refine ⟨hf, ?_⟩
      walk_at "st"
      have z := q _ (inv hf hk2)
      have ef : l.find? (fun p => !isBool p.2) = none := by
        rw [List.find?_eq_none]
        intro p hm
        obtain ⟨j, hj⟩ := List.getElem?_of_mem hm
        have lj : j < kvs.length := by rw [Paired.length hk]; exact (List.getElem?_eq_some_iff.mp hj).1
        simp [hb j lj p hj]
      rw [flagsV, ef] at z
      exact z))) only [↓Hk.hold_s]
end
end T
namespace T
section
variable {P : Program} {w : World} {K : PySem.W.Frag} {mg : Str → Option Value} {base : Heap} {C : Addr}
/-- what the text says of Build -/
structure BCls (K : PySem.W.Frag) (C : Addr) : Prop where
  cls : Cls K C
  n_parts : NoAttr K C "_parts"
  n_rules : NoAttr K C "rules"
def cOf (b : BD) : Cnt := match b.tasks, b.pages, b.ports, b.locks, b.disk with
  | .list t, .list p, .list q, .int l, .int d => cntOf t.length p.length q.length l d
  | _, _, _, _, _ => cntOf 0 0 0 0 0
structure BOk (b : BD) : Prop where
  tasks : okTasks b.tasks = true
  pages : okNumbers b.pages 3 0 1 = true
  ports : okNumbers b.ports 2 1 2 = true
  locks : dBetween b.locks 0 2 = true
  frames : dBetween b.frames 0 3 = true
  disk : okDisk b.disk = true
  rights : okRights (cOf b) b.rights = true
  lines : okLines (cOf b) b.lines = true
  costs : okCosts b.costs = true
  plan : okPlan (cOf b) b.plan = true
  outside : okOutside (cOf b) b.outside = true
  wipe : isBool b.wipe = true
  pad : isBool b.pad = true
  lend : isBool b.lend = true
  share : isBool b.share = true
structure PartsAt (K : PySem.W.Frag) (C : Addr) (H : Hp) (p : Addr) (b : BD) : Prop where
  ok : BOk b
  ex : ∃ (dx : Addr) (fs : List (Str × V)) (q : Addr) (kvs : List (Key × V)), H p = some (.ins C dx fs) ∧ fs.lookup ("_parts" : Str) = some (.ref q) ∧ H q = some (.dK kvs) ∧ Paired (fun p q => p.1 = Sum.inr q.1 ∧ Dp K H p.2 q.2) kvs b.parts ∧ ∀ m : Str, m ≠ ("_parts" : Str) → m ≠ ("rules" : Str) → fs.lookup m = none
theorem pairedKV_mono {H H' : Hp} (s : Same H H') {kvs : List (Key × V)} {l : List (Str × PyData)} (h : Paired (fun p q => p.1 = Sum.inr q.1 ∧ Dp K H p.2 q.2) kvs l) : Paired (fun p q => p.1 = Sum.inr q.1 ∧ Dp K H' p.2 q.2) kvs l := Paired.mapP h fun a b r => ⟨r.1, L2.Dp.mono s r.2⟩
theorem PartsAt.mono {H H' : Hp} {p : Addr} {b : BD} (s : Same H H') (h : PartsAt K C H p b) : PartsAt K C H' p b := by
  obtain ⟨ok, dx, fs, q, kvs, e1, e2, e3, e4, e5⟩ := h
  exact ⟨ok, dx, fs, q, kvs, s _ _ e1, e2, s _ _ e3, pairedKV_mono s e4, e5⟩
theorem okList {d : PyData} {m lo hi : Int} (h : okNumbers d m lo hi = true) : ∃ ds, d = .list ds ∧ (ds.length : Int) ≤ m ∧ ∀ e ∈ ds, ∃ i, e = .int i ∧ lo ≤ i ∧ i ≤ hi := by
  unfold okNumbers at h
  rw [Bool.and_eq_true] at h
  obtain ⟨ds, rfl, h0, h1⟩ := dListOf_list h.1
  refine ⟨ds, rfl, h1, fun e he => ?_⟩
  have z := List.all_eq_true.mp h.2 e he
  cases e with
  | int i => simp [dBetween] at z; exact ⟨i, rfl, z.1, z.2⟩
  | _ => simp [dBetween] at z
theorem okTasksL {d : PyData} (h : okTasks d = true) : ∃ ds, d = .list ds ∧ 2 ≤ ds.length ∧ ds.length ≤ 4 ∧ ∀ e ∈ ds, okTask e = true := by
  unfold okTasks at h
  rw [Bool.and_eq_true] at h
  obtain ⟨ds, rfl, h0, h1⟩ := dListOf_list h.1
  rw [Bool.and_eq_true] at h
  exact ⟨ds, rfl, by omega, by omega, List.all_eq_true.mp h.2.1⟩
theorem okLinesL {c : Cnt} {d : PyData} (h : okLines c d = true) : ∃ ds, d = .list ds ∧ (ds.length : Int) = cnt c "page" ∧ ∀ e ∈ ds, okLine e = true := by
  unfold okLines at h
  rw [Bool.and_eq_true] at h
  obtain ⟨ds, rfl, h0, h1⟩ := dListOf_list h.1
  exact ⟨ds, rfl, by omega, List.all_eq_true.mp h.2⟩
/-- a list that is new, of these data -/
def NewL (K : PySem.W.Frag) (H H' : Hp) (v : V) (d : PyData) : Prop := ∃ l xs ds, v = .ref l ∧ H l = none ∧ H' l = some (.lst xs) ∧ d = .list ds ∧ DpAll K H' xs ds
def spGet (K : PySem.W.Frag) (C : Addr) (R : BD → Hp → V → Hp → Prop) : Sp := fun vs H Q _ => ∃ (p : Addr) (b : BD), vs = [.ref p] ∧ PartsAt K C H p b ∧ ∀ v H', Same H H' → R b H v H' → Q v H'
theorem call_listOf {H : Hp} {Q : VK} {v : V} {ds : List PyData} (hd : Dp K H v (.tuple ds)) (k : ∀ l xs, H l = none → Same H (upd H l (.lst xs)) → DpAll K (upd H l (.lst xs)) xs ds → Q (.ref l) (upd H l (.lst xs))) :
    ∃ p ys, [v] = [.ref p] ∧ (SqL K H p ys ∨ SqT K H p ys) ∧ ∀ l, H l = none → Q (.ref l) (upd H l (.lst ys)) := by
  cases hd with
  | @tup a xs _ hs ha => exact ⟨a, xs, rfl, .inr hs, fun l nl => k l xs nl (same_new nl) (L2.DpAll.mono (same_new nl) ha)⟩
theorem ok_Build_tasks (B : Bl mg) (T : BCls K C) (d : MethAt K C "tasks" "Build.tasks" s_Build_tasks ["self"]) : MCal P w K mg base 1 C "tasks" ["self"] (spGet K C fun b H v H' => NewL K H H' v b.tasks) := by
 refine Hk.hold ?_
 simp (disch := with_unfolding_all (
 exact Hk.disch (d.cal fun f fd F => by
  refine F.ok sc_Build_tasks (fun vs H Q E h => ?_) (fun cdv A outer s H vs Q E hr h => ?_)
  · obtain ⟨p, b, rfl, _⟩ := h; rfl
  · obtain ⟨p, b, rfl, ⟨ok, dx, fs, q0, kvs, e1, e2, e3, e4, e5⟩, q⟩ := h
    have hu := hu_of hr
    refine ⟨_, (pss_one (ps_ret (pe_callTy call_list_of rfl B.list_ hb_list (pa_cons (pe_dget hu (pe_fld (pv 0) rfl) pe_str (fun _ _ => rfl)) pa_nil)))), ?_⟩
    walk_at "st0"
    refine ⟨p, C, dx, fs, _, rfl, e1, T.cls, T.n_parts, e2, ?_⟩
    walk_at "st"
    obtain ⟨v, g1, g2⟩ := pairedKV_get (z := "tasks") e4 rfl
    refine ⟨q0, v, rfl, by rw [← g1]; exact DGet.k (k := Sum.inr "tasks") e3, ?_⟩
    walk_at "st"
    obtain ⟨ds, ed, _⟩ := okTasksL ok.tasks
    rw [ed] at g2
    exact call_listOf (ds := ds) g2 fun l xs nl sm ha => q _ _ sm ⟨l, xs, ds, rfl, nl, upd_same, ed, ha⟩))) only [↓Hk.hold_s]
theorem ok_Build_pages (B : Bl mg) (T : BCls K C) (d : MethAt K C "pages" "Build.pages" s_Build_pages ["self"]) : MCal P w K mg base 1 C "pages" ["self"] (spGet K C fun b H v H' => NewL K H H' v b.pages) := by
 refine Hk.hold ?_
 simp (disch := with_unfolding_all (
 exact Hk.disch (d.cal fun f fd F => by
  refine F.ok sc_Build_pages (fun vs H Q E h => ?_) (fun cdv A outer s H vs Q E hr h => ?_)
  · obtain ⟨p, b, rfl, _⟩ := h; rfl
  · obtain ⟨p, b, rfl, ⟨ok, dx, fs, q0, kvs, e1, e2, e3, e4, e5⟩, q⟩ := h
    have hu := hu_of hr
    refine ⟨_, (pss_one (ps_ret (pe_callTy call_list_of rfl B.list_ hb_list (pa_cons (pe_dget hu (pe_fld (pv 0) rfl) pe_str (fun _ _ => rfl)) pa_nil)))), ?_⟩
    walk_at "st0"
    refine ⟨p, C, dx, fs, _, rfl, e1, T.cls, T.n_parts, e2, ?_⟩
    walk_at "st"
    obtain ⟨v, g1, g2⟩ := pairedKV_get (z := "pages") e4 rfl
    refine ⟨q0, v, rfl, by rw [← g1]; exact DGet.k (k := Sum.inr "pages") e3, ?_⟩
    walk_at "st"
    obtain ⟨ds, ed, _⟩ := okList ok.pages
    rw [ed] at g2
    exact call_listOf (ds := ds) g2 fun l xs nl sm ha => q _ _ sm ⟨l, xs, ds, rfl, nl, upd_same, ed, ha⟩))) only [↓Hk.hold_s]
theorem ok_Build_ports (B : Bl mg) (T : BCls K C) (d : MethAt K C "ports" "Build.ports" s_Build_ports ["self"]) : MCal P w K mg base 1 C "ports" ["self"] (spGet K C fun b H v H' => NewL K H H' v b.ports) := by
 refine Hk.hold ?_
 simp (disch := with_unfolding_all (
 exact Hk.disch (d.cal fun f fd F => by
  refine F.ok sc_Build_ports (fun vs H Q E h => ?_) (fun cdv A outer s H vs Q E hr h => ?_)
  · obtain ⟨p, b, rfl, _⟩ := h; rfl
  · obtain ⟨p, b, rfl, ⟨ok, dx, fs, q0, kvs, e1, e2, e3, e4, e5⟩, q⟩ := h
    have hu := hu_of hr
    refine ⟨_, (pss_one (ps_ret (pe_callTy call_list_of rfl B.list_ hb_list (pa_cons (pe_dget hu (pe_fld (pv 0) rfl) pe_str (fun _ _ => rfl)) pa_nil)))), ?_⟩
    walk_at "st0"
    refine ⟨p, C, dx, fs, _, rfl, e1, T.cls, T.n_parts, e2, ?_⟩
    walk_at "st"
    obtain ⟨v, g1, g2⟩ := pairedKV_get (z := "ports") e4 rfl
    refine ⟨q0, v, rfl, by rw [← g1]; exact DGet.k (k := Sum.inr "ports") e3, ?_⟩
    walk_at "st"
    obtain ⟨ds, ed, _⟩ := okList ok.ports
    rw [ed] at g2
    exact call_listOf (ds := ds) g2 fun l xs nl sm ha => q _ _ sm ⟨l, xs, ds, rfl, nl, upd_same, ed, ha⟩))) only [↓Hk.hold_s]
theorem ok_Build_lines (B : Bl mg) (T : BCls K C) (d : MethAt K C "lines" "Build.lines" s_Build_lines ["self"]) : MCal P w K mg base 1 C "lines" ["self"] (spGet K C fun b H v H' => NewL K H H' v b.lines) := by
 refine Hk.hold ?_
 simp (disch := with_unfolding_all (
 exact Hk.disch (d.cal fun f fd F => by
  refine F.ok sc_Build_lines (fun vs H Q E h => ?_) (fun cdv A outer s H vs Q E hr h => ?_)
  · obtain ⟨p, b, rfl, _⟩ := h; rfl
  · obtain ⟨p, b, rfl, ⟨ok, dx, fs, q0, kvs, e1, e2, e3, e4, e5⟩, q⟩ := h
    have hu := hu_of hr
    refine ⟨_, (pss_one (ps_ret (pe_callTy call_list_of rfl B.list_ hb_list (pa_cons (pe_dget hu (pe_fld (pv 0) rfl) pe_str (fun _ _ => rfl)) pa_nil)))), ?_⟩
    walk_at "st0"
    refine ⟨p, C, dx, fs, _, rfl, e1, T.cls, T.n_parts, e2, ?_⟩
    walk_at "st"
    obtain ⟨v, g1, g2⟩ := pairedKV_get (z := "lines") e4 rfl
    refine ⟨q0, v, rfl, by rw [← g1]; exact DGet.k (k := Sum.inr "lines") e3, ?_⟩
    walk_at "st"
    obtain ⟨ds, ed, _⟩ := okLinesL ok.lines
    rw [ed] at g2
    exact call_listOf (ds := ds) g2 fun l xs nl sm ha => q _ _ sm ⟨l, xs, ds, rfl, nl, upd_same, ed, ha⟩))) only [↓Hk.hold_s]
theorem ok_Build_locks (B : Bl mg) (T : BCls K C) (d : MethAt K C "locks" "Build.locks" s_Build_locks ["self"]) : MCal P w K mg base 1 C "locks" ["self"] (spGet K C fun b H v H' => Dp K H' v b.locks) := by
 refine Hk.hold ?_
 simp (disch := with_unfolding_all (
 exact Hk.disch (d.cal fun f fd F => by
  refine F.ok sc_Build_locks (fun vs H Q E h => ?_) (fun cdv A outer s H vs Q E hr h => ?_)
  · obtain ⟨p, b, rfl, _⟩ := h; rfl
  · obtain ⟨p, b, rfl, ⟨ok, dx, fs, q0, kvs, e1, e2, e3, e4, e5⟩, q⟩ := h
    have hu := hu_of hr
    refine ⟨_, (pss_one (ps_ret (pe_dget hu (pe_fld (pv 0) rfl) pe_str (fun _ _ => rfl)))), ?_⟩
    walk_at "st0"
    refine ⟨p, C, dx, fs, _, rfl, e1, T.cls, T.n_parts, e2, ?_⟩
    walk_at "st"
    obtain ⟨v, g1, g2⟩ := pairedKV_get (z := "locks") e4 rfl
    exact ⟨q0, v, rfl, by rw [← g1]; exact DGet.k (k := Sum.inr "locks") e3, q _ _ (Same.refl _) g2⟩))) only [↓Hk.hold_s]
theorem ok_Build_frames (B : Bl mg) (T : BCls K C) (d : MethAt K C "frames" "Build.frames" s_Build_frames ["self"]) : MCal P w K mg base 1 C "frames" ["self"] (spGet K C fun b H v H' => Dp K H' v b.frames) := by
 refine Hk.hold ?_
 simp (disch := with_unfolding_all (
 exact Hk.disch (d.cal fun f fd F => by
  refine F.ok sc_Build_frames (fun vs H Q E h => ?_) (fun cdv A outer s H vs Q E hr h => ?_)
  · obtain ⟨p, b, rfl, _⟩ := h; rfl
  · obtain ⟨p, b, rfl, ⟨ok, dx, fs, q0, kvs, e1, e2, e3, e4, e5⟩, q⟩ := h
    have hu := hu_of hr
    refine ⟨_, (pss_one (ps_ret (pe_dget hu (pe_fld (pv 0) rfl) pe_str (fun _ _ => rfl)))), ?_⟩
    walk_at "st0"
    refine ⟨p, C, dx, fs, _, rfl, e1, T.cls, T.n_parts, e2, ?_⟩
    walk_at "st"
    obtain ⟨v, g1, g2⟩ := pairedKV_get (z := "frames") e4 rfl
    exact ⟨q0, v, rfl, by rw [← g1]; exact DGet.k (k := Sum.inr "frames") e3, q _ _ (Same.refl _) g2⟩))) only [↓Hk.hold_s]
theorem ok_Build_disk (B : Bl mg) (T : BCls K C) (d : MethAt K C "disk" "Build.disk" s_Build_disk ["self"]) : MCal P w K mg base 1 C "disk" ["self"] (spGet K C fun b H v H' => Dp K H' v b.disk) := by
 refine Hk.hold ?_
 simp (disch := with_unfolding_all (
 exact Hk.disch (d.cal fun f fd F => by
  refine F.ok sc_Build_disk (fun vs H Q E h => ?_) (fun cdv A outer s H vs Q E hr h => ?_)
  · obtain ⟨p, b, rfl, _⟩ := h; rfl
  · obtain ⟨p, b, rfl, ⟨ok, dx, fs, q0, kvs, e1, e2, e3, e4, e5⟩, q⟩ := h
    have hu := hu_of hr
    refine ⟨_, (pss_one (ps_ret (pe_dget hu (pe_fld (pv 0) rfl) pe_str (fun _ _ => rfl)))), ?_⟩
    walk_at "st0"
    refine ⟨p, C, dx, fs, _, rfl, e1, T.cls, T.n_parts, e2, ?_⟩
    walk_at "st"
    obtain ⟨v, g1, g2⟩ := pairedKV_get (z := "disk") e4 rfl
    exact ⟨q0, v, rfl, by rw [← g1]; exact DGet.k (k := Sum.inr "disk") e3, q _ _ (Same.refl _) g2⟩))) only [↓Hk.hold_s]
theorem ok_Build_costs (B : Bl mg) (T : BCls K C) (d : MethAt K C "costs" "Build.costs" s_Build_costs ["self"]) : MCal P w K mg base 1 C "costs" ["self"] (spGet K C fun b H v H' => Dp K H' v b.costs) := by
 refine Hk.hold ?_
 simp (disch := with_unfolding_all (
 exact Hk.disch (d.cal fun f fd F => by
  refine F.ok sc_Build_costs (fun vs H Q E h => ?_) (fun cdv A outer s H vs Q E hr h => ?_)
  · obtain ⟨p, b, rfl, _⟩ := h; rfl
  · obtain ⟨p, b, rfl, ⟨ok, dx, fs, q0, kvs, e1, e2, e3, e4, e5⟩, q⟩ := h
    have hu := hu_of hr
    refine ⟨_, (pss_one (ps_ret (pe_dget hu (pe_fld (pv 0) rfl) pe_str (fun _ _ => rfl)))), ?_⟩
    walk_at "st0"
    refine ⟨p, C, dx, fs, _, rfl, e1, T.cls, T.n_parts, e2, ?_⟩
    walk_at "st"
    obtain ⟨v, g1, g2⟩ := pairedKV_get (z := "costs") e4 rfl
    exact ⟨q0, v, rfl, by rw [← g1]; exact DGet.k (k := Sum.inr "costs") e3, q _ _ (Same.refl _) g2⟩))) only [↓Hk.hold_s]
theorem ok_Build_outside (B : Bl mg) (T : BCls K C) (d : MethAt K C "outside" "Build.outside" s_Build_outside ["self"]) : MCal P w K mg base 1 C "outside" ["self"] (spGet K C fun b H v H' => Dp K H' v b.outside) := by
 refine Hk.hold ?_
 simp (disch := with_unfolding_all (
 exact Hk.disch (d.cal fun f fd F => by
  refine F.ok sc_Build_outside (fun vs H Q E h => ?_) (fun cdv A outer s H vs Q E hr h => ?_)
  · obtain ⟨p, b, rfl, _⟩ := h; rfl
  · obtain ⟨p, b, rfl, ⟨ok, dx, fs, q0, kvs, e1, e2, e3, e4, e5⟩, q⟩ := h
    have hu := hu_of hr
    refine ⟨_, (pss_one (ps_ret (pe_dget hu (pe_fld (pv 0) rfl) pe_str (fun _ _ => rfl)))), ?_⟩
    walk_at "st0"
    refine ⟨p, C, dx, fs, _, rfl, e1, T.cls, T.n_parts, e2, ?_⟩
    walk_at "st"
    obtain ⟨v, g1, g2⟩ := pairedKV_get (z := "outside") e4 rfl
    exact ⟨q0, v, rfl, by rw [← g1]; exact DGet.k (k := Sum.inr "outside") e3, q _ _ (Same.refl _) g2⟩))) only [↓Hk.hold_s]
theorem ok_Build_wipe (B : Bl mg) (T : BCls K C) (d : MethAt K C "wipe" "Build.wipe" s_Build_wipe ["self"]) : MCal P w K mg base 1 C "wipe" ["self"] (spGet K C fun b H v H' => Dp K H' v b.wipe) := by
 refine Hk.hold ?_
 simp (disch := with_unfolding_all (
 exact Hk.disch (d.cal fun f fd F => by
  refine F.ok sc_Build_wipe (fun vs H Q E h => ?_) (fun cdv A outer s H vs Q E hr h => ?_)
  · obtain ⟨p, b, rfl, _⟩ := h; rfl
  · obtain ⟨p, b, rfl, ⟨ok, dx, fs, q0, kvs, e1, e2, e3, e4, e5⟩, q⟩ := h
    have hu := hu_of hr
    refine ⟨_, (pss_one (ps_ret (pe_dget hu (pe_fld (pv 0) rfl) pe_str (fun _ _ => rfl)))), ?_⟩
    walk_at "st0"
    refine ⟨p, C, dx, fs, _, rfl, e1, T.cls, T.n_parts, e2, ?_⟩
    walk_at "st"
    obtain ⟨v, g1, g2⟩ := pairedKV_get (z := "wipe") e4 rfl
    exact ⟨q0, v, rfl, by rw [← g1]; exact DGet.k (k := Sum.inr "wipe") e3, q _ _ (Same.refl _) g2⟩))) only [↓Hk.hold_s]
theorem ok_Build_pad (B : Bl mg) (T : BCls K C) (d : MethAt K C "pad" "Build.pad" s_Build_pad ["self"]) : MCal P w K mg base 1 C "pad" ["self"] (spGet K C fun b H v H' => Dp K H' v b.pad) := by
 refine Hk.hold ?_
 simp (disch := with_unfolding_all (
 exact Hk.disch (d.cal fun f fd F => by
  refine F.ok sc_Build_pad (fun vs H Q E h => ?_) (fun cdv A outer s H vs Q E hr h => ?_)
  · obtain ⟨p, b, rfl, _⟩ := h; rfl
  · obtain ⟨p, b, rfl, ⟨ok, dx, fs, q0, kvs, e1, e2, e3, e4, e5⟩, q⟩ := h
    have hu := hu_of hr
    refine ⟨_, (pss_one (ps_ret (pe_dget hu (pe_fld (pv 0) rfl) pe_str (fun _ _ => rfl)))), ?_⟩
    walk_at "st0"
    refine ⟨p, C, dx, fs, _, rfl, e1, T.cls, T.n_parts, e2, ?_⟩
    walk_at "st"
    obtain ⟨v, g1, g2⟩ := pairedKV_get (z := "pad") e4 rfl
    exact ⟨q0, v, rfl, by rw [← g1]; exact DGet.k (k := Sum.inr "pad") e3, q _ _ (Same.refl _) g2⟩))) only [↓Hk.hold_s]
theorem ok_Build_lend (B : Bl mg) (T : BCls K C) (d : MethAt K C "lend" "Build.lend" s_Build_lend ["self"]) : MCal P w K mg base 1 C "lend" ["self"] (spGet K C fun b H v H' => Dp K H' v b.lend) := by
 refine Hk.hold ?_
 simp (disch := with_unfolding_all (
 exact Hk.disch (d.cal fun f fd F => by
  refine F.ok sc_Build_lend (fun vs H Q E h => ?_) (fun cdv A outer s H vs Q E hr h => ?_)
  · obtain ⟨p, b, rfl, _⟩ := h; rfl
  · obtain ⟨p, b, rfl, ⟨ok, dx, fs, q0, kvs, e1, e2, e3, e4, e5⟩, q⟩ := h
    have hu := hu_of hr
    refine ⟨_, (pss_one (ps_ret (pe_dget hu (pe_fld (pv 0) rfl) pe_str (fun _ _ => rfl)))), ?_⟩
    walk_at "st0"
    refine ⟨p, C, dx, fs, _, rfl, e1, T.cls, T.n_parts, e2, ?_⟩
    walk_at "st"
    obtain ⟨v, g1, g2⟩ := pairedKV_get (z := "lend") e4 rfl
    exact ⟨q0, v, rfl, by rw [← g1]; exact DGet.k (k := Sum.inr "lend") e3, q _ _ (Same.refl _) g2⟩))) only [↓Hk.hold_s]
theorem ok_Build_share (B : Bl mg) (T : BCls K C) (d : MethAt K C "share" "Build.share" s_Build_share ["self"]) : MCal P w K mg base 1 C "share" ["self"] (spGet K C fun b H v H' => Dp K H' v b.share) := by
 refine Hk.hold ?_
 simp (disch := with_unfolding_all (
 exact Hk.disch (d.cal fun f fd F => by
  refine F.ok sc_Build_share (fun vs H Q E h => ?_) (fun cdv A outer s H vs Q E hr h => ?_)
  · obtain ⟨p, b, rfl, _⟩ := h; rfl
  · obtain ⟨p, b, rfl, ⟨ok, dx, fs, q0, kvs, e1, e2, e3, e4, e5⟩, q⟩ := h
    have hu := hu_of hr
    refine ⟨_, (pss_one (ps_ret (pe_dget hu (pe_fld (pv 0) rfl) pe_str (fun _ _ => rfl)))), ?_⟩
    walk_at "st0"
    refine ⟨p, C, dx, fs, _, rfl, e1, T.cls, T.n_parts, e2, ?_⟩
    walk_at "st"
    obtain ⟨v, g1, g2⟩ := pairedKV_get (z := "share") e4 rfl
    exact ⟨q0, v, rfl, by rw [← g1]; exact DGet.k (k := Sum.inr "share") e3, q _ _ (Same.refl _) g2⟩))) only [↓Hk.hold_s]
end
end T
namespace T
section
variable {P : Program} {w : World} {K : PySem.W.Frag} {mg : Str → Option Value} {base : Heap} {C : Addr}
theorem okPlanL {c : Cnt} {d : PyData} (h : okPlan c d = true) : ∃ z e, d = .tuple [.str z, e] ∧ ((z = "levels" ∧ ∃ i, e = .int i ∧ 1 ≤ i ∧ i ≤ 8) ∨ (z = "slots" ∧ okSlots c e = true)) := by
  unfold okPlan at h
  rw [Bool.and_eq_true] at h
  obtain ⟨h1, h2⟩ := h
  obtain ⟨ds, rfl, l2⟩ := dTupleOf_tup h1
  match ds, l2, h2 with
  | [a, e], _, h2 =>
    cases a with
    | str z =>
      refine ⟨z, e, rfl, ?_⟩
      by_cases hz : z = "levels"
      · simp only [hz, if_pos] at h2
        left
        cases e with
        | int i => simp [dBetween] at h2; exact ⟨hz, i, rfl, h2.1, h2.2⟩
        | _ => simp [dBetween] at h2
      · simp only [if_neg hz] at h2
        rw [Bool.and_eq_true] at h2
        exact .inr ⟨of_decide_eq_true h2.1, h2.2⟩
    | _ => simp at h2
theorem okSlotsL {c : Cnt} {e : PyData} (h : okSlots c e = true) : ∃ rs, e = .list rs ∧ 1 ≤ rs.length ∧ rs.length ≤ 4 ∧ ∀ r ∈ rs, ∃ t k, r = .tuple [.int t, .int k] ∧ 0 ≤ t ∧ t ≤ cnt c "task" - 1 ∧ 1 ≤ k ∧ k ≤ 12 := by
  unfold okSlots at h
  rw [Bool.and_eq_true] at h
  obtain ⟨rs, rfl, h0, h1⟩ := dListOf_list h.1
  refine ⟨rs, rfl, by omega, by omega, fun r hr => ?_⟩
  have z := List.all_eq_true.mp h.2 r hr
  unfold okSlot at z
  rw [Bool.and_eq_true] at z
  obtain ⟨ds, rfl, l2⟩ := dTupleOf_tup z.1
  match ds, l2, z with
  | [a, b], _, z =>
    have z2 := z.2
    rw [Bool.and_eq_true] at z2
    cases a with
    | int t => cases b with
      | int k => simp [dBetween] at z2; exact ⟨t, k, rfl, z2.1.1, by omega, z2.2.1, z2.2.2⟩
      | _ => simp [dBetween] at z2
    | _ => simp [dBetween] at z2
theorem slots_ne : ¬ ("levels" : Str) = "slots" := by decide +kernel
theorem ok_Build_plan (B : Bl mg) (T : BCls K C) (d : MethAt K C "plan" "Build.plan" s_Build_plan ["self"]) : MCal P w K mg base 1 C "plan" ["self"] (spGet K C fun b H v H' => Dp K H' v b.plan) := by
 refine Hk.hold ?_
 simp (disch := with_unfolding_all (
 exact Hk.disch (d.cal fun f fd F => by
  refine F.ok sc_Build_plan (fun vs H Q E h => ?_) (fun cdv A outer s H vs Q E hr h => ?_)
  · obtain ⟨p, b, rfl, _⟩ := h; rfl
  · obtain ⟨p, b, rfl, ⟨ok, dx, fs, q0, kvs, e1, e2, e3, e4, e5⟩, q⟩ := h
    have hu := hu_of hr
    refine ⟨_, (pss_cons (ps_asg (pe_dget hu (pe_fld (pv 0) rfl) pe_str (fun _ _ => rfl)) (pg_tup rfl (pgs_cons (pg_name (i := 1) sc_Build_plan.nd rfl (Or.inl rfl)) (pgs_cons (pg_name (i := 2) sc_Build_plan.nd rfl (Or.inl rfl)) pgs_nil))))
      (pss_one (ps_ret (pe_ifExp (pt_cmpR op_eq (pv 1) pe_str (nomark _)) (pe_tup (pa_cons (pv 1) (pa_cons (pe_callTy call_list_of rfl B.list_ hb_list (pa_cons (pv 2) pa_nil)) pa_nil))) (pe_tup (pa_cons (pv 1) (pa_cons (pv 2) pa_nil))))))), ?_⟩
    walk_at "st0"
    refine ⟨p, C, dx, fs, _, rfl, e1, T.cls, T.n_parts, e2, ?_⟩
    walk_at "st"
    obtain ⟨v, g1, g2⟩ := pairedKV_get (z := "plan") e4 rfl
    refine ⟨q0, v, rfl, by rw [← g1]; exact DGet.k (k := Sum.inr "plan") e3, ?_⟩
    obtain ⟨z, e, ep, hz⟩ := okPlanL ok.plan
    simp only [ep] at q g2
    simp only [planT] at g2
    cases g2 with
    | @tup a xs _ hs ha =>
    cases ha with
    | @cons x0 r0 _ _ a0 ha => cases ha with
      | @cons x1 r1 _ _ a1 ha =>
        cases ha
        cases a0
        refine ⟨a, _, rfl, hs, rfl, _, _, rfl, _, _, rfl, rfl, ?_⟩
        walk_at "st"
        refine q_eq rfl ?_
        walk_at "st"
        rcases hz with ⟨rfl, i, rfl, _⟩ | ⟨rfl, hz⟩
        · rw [decide_eq_false (fun q => slots_ne (V.str.inj q))]
          refine iteF ?_
          walk_at "st"
          refine ⟨by show 2 ≤ sizeLine; decide, fun t nt => ?_⟩
          rw [if_neg slots_ne] at a1
          exact q _ _ (same_new nt) (.tup (SqT.of upd_same) (.cons (.str _) (.cons (L2.Dp.mono (same_new nt) a1) .nil)))
        · rw [decide_eq_true rfl]
          refine iteT ?_
          walk_at "st"
          obtain ⟨rs, rfl, _⟩ := okSlotsL hz
          rw [if_pos rfl] at a1
          cases a1 with
          | @tup a2 ys _ hs2 hb2 =>
          refine ⟨a2, ys, rfl, .inr hs2, fun l nl => ?_⟩
          have sm := same_new (o := .lst ys) nl
          walk_at "st"
          refine ⟨by show 2 ≤ sizeLine; decide, fun t nt => ?_⟩
          have st := same_new (o := .tup [V.str "slots", .ref l]) nt
          exact q _ _ (sm.trans st) (.tup (SqT.of upd_same) (.cons (.str _) (.cons (.lst (st.seq (SqL.of upd_same)) (L2.DpAll.mono (sm.trans st) hb2)) .nil)))))) only [↓Hk.hold_s]
def sidesOf (b : BD) : List Int := match b.tasks with | .list ds => ds.map sideD | _ => []
/-- the sides, each once, ascending, as a new list -/
def IsSides (b : BD) (H : Hp) (v : V) (H' : Hp) : Prop := ∃ (l : Addr) (ns : List Int), v = .ref l ∧ H l = none ∧ H' l = some (.lst (ns.map V.int)) ∧ ns.Pairwise (· < ·) ∧ ∀ k, k ∈ ns ↔ k ∈ sidesOf b
theorem ok_Build_sides (B : Bl mg) (T : BCls K C) (d : MethAt K C "sides" "Build.sides" s_Build_sides ["self"]) : MCal P w K mg base 1 C "sides" ["self"] (spGet K C IsSides) := by
 refine Hk.hold ?_
 simp (disch := with_unfolding_all (
 exact Hk.disch (d.cal fun f fd F => by
  refine F.ok sc_Build_sides (fun vs H Q E h => ?_) (fun cdv A outer s H vs Q E hr h => ?_)
  · obtain ⟨p, b, rfl, _⟩ := h; rfl
  · obtain ⟨p, b, rfl, ⟨ok, dx, fs, q0, kvs, e1, e2, e3, e4, e5⟩, q⟩ := h
    have hu := hu_of hr
    refine ⟨_, (pss_one (ps_ret (pe_callB (cr_sortedSet rfl) rfl B.sorted hb_sorted (pa_cons (pe_callTy (cr_setL rfl) rfl B.set_ hb_set (pa_cons (pe_lc (own := [("side", 1), ("level", 2)]) (tt := tYes) rfl sc_Build_sides.nd (pi_tup (pe_dget hu (pe_fld (pv 0) rfl) pe_str (fun _ _ => rfl))) (blkOk_by (N := ["self", "side", "level"]) (sc := defScope s_Build_sides) (by decide +kernel)) (fun _ _ _ _ _ => (show PG _ _ (gTup K 2 _) from pg_tup rfl (pgs_cons (pg_name (i := 1) sc_Build_sides.nd rfl (Or.inl rfl)) (pgs_cons (pg_name (i := 2) sc_Build_sides.nd rfl (Or.inl rfl)) pgs_nil)))) (fun _ _ _ _ _ => pts_nil) (fun _ _ _ _ _ => (pv 1))) pa_nil)) pa_nil)))), ?_⟩
    walk_at "st0"
    obtain ⟨v, g1, g2⟩ := pairedKV_get (z := "tasks") e4 rfl
    obtain ⟨ds, ed, l2, l4, hall⟩ := okTasksL ok.tasks
    rw [ed] at g2
    cases g2 with
    | @tup a xs _ hs ha =>
    refine ⟨.ref p, rfl, ⟨p, C, dx, fs, _, rfl, e1, T.cls, T.n_parts, e2, ?_⟩⟩
    walk_at "st"
    refine ⟨q0, _, rfl, by rw [← g1]; exact DGet.k (k := Sum.inr "tasks") e3, a, rfl, ⟨xs, hs⟩, fun D nD => lc_mapT (fun d => V.int (sideD d)) hs ha (by omega) nD ?_ ?_⟩
    · intro x2 d2 H3 h2 hm s2 Q2 k2
      obtain ⟨sd, l, rfl, _⟩ := okTask_shape (hall d2 hm)
      cases h2 with
      | @tup t ys _ ht hb =>
      cases hb with
      | @cons x0 r0 _ _ a0 hb => cases hb with
        | @cons x1 r1 _ _ a1 hb =>
          cases hb
          cases a0
          refine ⟨t, _, rfl, ht, rfl, _, _, rfl, _, _, rfl, rfl, rfl, ?_⟩
          walk_at "st"
          exact k2 _ (Same.refl _)
    · intro H3 s3 e3
      refine ⟨D, ds.map sideD, rfl, SqL.of (by rw [e3, List.map_map]; rfl), by rw [List.length_map]; omega, fun c n nc ln => ?_⟩
      walk_at "st"
      rw [List.length_map] at ln
      refine ⟨c, _, n, rfl, upd_same, by omega, fun ns l asc mem len nl => ?_⟩
      have sc := same_new (o := SetO w c (fun j => decide (j ∈ ds.map sideD)) n) nc
      have nl3 : H3 l = none := sc.free nl
      refine q _ _ (s3.trans (sc.trans (same_new nl))) ⟨l, ns, rfl, s3.free nl3, upd_same, asc, fun k => ?_⟩
      rw [mem k, decide_eq_true_eq, sidesOf, ed]))) only [↓Hk.hold_s]
end
end T
namespace T
section
variable {P : Program} {w : World} {K : PySem.W.Frag} {mg : Str → Option Value} {base : Heap} {C CR : Addr}
def RN : List Str := ["task_count", "levels", "side_of", "sizes", "line_of", "places", "counts", "wipes", "pads", "lends", "plain", "miss", "switch", "greatest", "all_frames", "side_frames", "has_slots", "span", "slots", "letter_port", "every", "period"]
structure RCls (K : PySem.W.Frag) (CR : Addr) : Prop where
  cls : Cls K CR
  no : ∀ f, f ∈ RN → NoAttr K CR f
theorem PartsAt.but {H H' : Hp} {p r dx : Addr} {fs : List (Str × V)} {b : BD} (h : PartsAt K C H p b) (e : H r = some (.ins CR dx fs)) (s : But r H H') (ne : p ≠ r) : PartsAt K C H' p b := by
  obtain ⟨ok, dx2, fs2, q, kvs, e1, e2, e3, e4, e5⟩ := h
  have k := But.keep e s
  exact ⟨ok, dx2, fs2, q, kvs, s _ _ e1 ne, e2, k _ _ e3 (by simp), Paired.mapP e4 fun a b r => ⟨r.1, dpKeep k r.2⟩, e5⟩
theorem okCostsL {d : PyData} (h : okCosts d = true) : ∃ a b c, d = .tuple [.int a, .int b, .int c] ∧ 1 ≤ a ∧ a ≤ 3 ∧ 0 ≤ b ∧ b ≤ 3 ∧ 0 ≤ c ∧ c ≤ 2 := by
  unfold okCosts at h
  rw [Bool.and_eq_true] at h
  obtain ⟨ds, rfl, l3⟩ := dTupleOf_tup h.1
  match ds, l3, h with
  | [x, y, z], _, h =>
    have h2 := h.2
    cases x with
    | int a => cases y with
      | int b => cases z with
        | int c => simp [dBetween] at h2; exact ⟨a, b, c, rfl, h2.1.1, h2.1.2, h2.2.1.1, h2.2.1.2, h2.2.2.1, h2.2.2.2⟩
        | _ => simp [dBetween] at h2
      | _ => simp [dBetween] at h2
    | _ => simp [dBetween] at h2
/-- what a method that fills fields of self leaves -/
def Filled (CR : Addr) (names : List Str) (r dx : Addr) (fs fs' : List (Str × V)) (H H' : Hp) : Prop := But r H H' ∧ H' r = some (.ins CR dx fs') ∧ Only fs' RN ∧ fs'.length ≤ fs.length + names.length ∧ ∀ g, g ∉ names → fs'.lookup g = fs.lookup g
def spSetCosts (K : PySem.W.Frag) (CR : Addr) : Sp := fun vs H Q _ => ∃ (r dx : Addr) (fs : List (Str × V)) (v : V) (pl a b c : Int), vs = [.ref r, v] ∧ H r = some (.ins CR dx fs) ∧ Only fs RN ∧ fs.length ≤ 500 ∧ fs.lookup ("places" : Str) = some (.int pl) ∧ Dp K H v (.tuple [.int a, .int b, .int c]) ∧
  ∀ fs' H', Filled CR ["plain", "miss", "switch", "greatest"] r dx fs fs' H H' → fs'.lookup ("plain" : Str) = some (.int a) → fs'.lookup ("miss" : Str) = some (.int b) → fs'.lookup ("switch" : Str) = some (.int c) →
    fs'.lookup ("greatest" : Str) = some (.int (a + if pl - 1 > b then pl - 1 else b)) → Q .non H'
theorem ok_set_costs (B : Bl mg) (R : RCls K CR) (d : MethAt K CR "set_costs" "Rules.set_costs" s_Rules_set_costs ["self", "costs"]) : MCal P w K mg base 1 CR "set_costs" ["self", "costs"] (spSetCosts K CR) := by
 refine Hk.hold ?_
 simp (disch := with_unfolding_all (
 exact Hk.disch (d.cal fun f fd F => by
  refine F.ok sc_Rules_set_costs (fun vs H Q E h => ?_) (fun cdv A outer s H vs Q E hr h => ?_)
  · obtain ⟨r, dx, fs, v, pl, a, b, c, rfl, _⟩ := h; rfl
  · obtain ⟨r, dx, fs, v, pl, a, b, c, rfl, hR, hO, hl, hp, hd, q⟩ := h
    refine ⟨_, (pss_cons (ps_asg (pv 1) (pg_tup rfl (pgs_cons (pg_fld (pv 0)) (pgs_cons (pg_fld (pv 0)) (pgs_cons (pg_fld (pv 0)) pgs_nil)))))
      (pss_one (ps_fld (pv 0) (pe_op op_add (pe_fld (pv 0) rfl) (pe_callB (call_max2 rfl) rfl B.max hb_max (pa_cons (pe_fld (pv 0) rfl) (pa_cons (pe_op op_sub (pe_fld (pv 0) rfl) pe_int) pa_nil)))) rfl))), ?_⟩
    walk_at "st0"
    cases hd with
    | @tup t xs _ hs ha =>
    cases ha with
    | @cons x0 r0 _ _ a0 ha => cases ha with
      | @cons x1 r1 _ _ a1 ha => cases ha with
        | @cons x2 r2 _ _ a2 ha =>
          cases ha; cases a0; cases a1; cases a2
          have l1 := length_putF "plain" (V.int a) fs
          have l2 := length_putF "miss" (V.int b) (putF "plain" (V.int a) fs)
          have l3 := length_putF "switch" (V.int c) (putF "miss" (V.int b) (putF "plain" (V.int a) fs))
          refine ⟨t, _, rfl, hs, rfl, _, _, rfl, ⟨_, rfl, r, CR, dx, fs, rfl, hR, R.cls, R.no _ (by decide +kernel), by omega, ?_⟩⟩
          refine ⟨_, _, rfl, ⟨_, rfl, r, CR, dx, _, rfl, upd_same, R.cls, R.no _ (by decide +kernel), by omega, ?_⟩⟩
          refine ⟨_, _, rfl, ⟨_, rfl, r, CR, dx, _, rfl, upd_same, R.cls, R.no _ (by decide +kernel), by omega, ?_⟩⟩
          refine ⟨rfl, ?_⟩
          walk_at "st"
          refine ⟨r, CR, dx, _, .int a, rfl, upd_same, R.cls, R.no _ (by decide +kernel), by walk_at "lk", ?_⟩
          walk_at "st"
          refine ⟨r, CR, dx, _, .int b, rfl, upd_same, R.cls, R.no _ (by decide +kernel), by walk_at "lk", ?_⟩
          walk_at "st"
          refine ⟨r, CR, dx, _, .int pl, rfl, upd_same, R.cls, R.no _ (by decide +kernel), by walk_at "lk", ?_⟩
          walk_at "st"
          refine ⟨b, pl - 1, rfl, ?_⟩
          walk_at "st"
          refine ⟨r, CR, dx, _, rfl, upd_same, R.cls, R.no _ (by decide +kernel), by omega, ?_⟩
          have l4 := length_putF "greatest" (V.int (a + if pl - 1 > b then pl - 1 else b)) (putF "switch" (V.int c) (putF "miss" (V.int b) (putF "plain" (V.int a) fs)))
          refine q _ _ ⟨fun z o h n => by simp only [upd_ne n]; exact h, upd_same, (((hO.put (by decide +kernel)).put (by decide +kernel)).put (by decide +kernel)).put (by decide +kernel), by simp only [List.length_cons, List.length_nil]; omega, fun g hg => ?_⟩
            (by walk_at "lk") (by walk_at "lk") (by walk_at "lk") (put_same _ _ _)
          simp only [List.mem_cons, List.not_mem_nil, or_false, not_or] at hg
          rw [put_ne _ _ hg.2.2.2, put_ne _ _ hg.2.2.1, put_ne _ _ hg.2.1, put_ne _ _ hg.1]))) only [↓Hk.hold_s]
end
end T
namespace T
section
variable {P : Program} {w : World} {K : PySem.W.Frag} {mg : Str → Option Value} {base : Heap} {C CR : Addr}
theorem Keep.trans {H H1 H2 : Hp} (a : Keep H H1) (b : Keep H1 H2) : Keep H H2 := fun x o h n => b x o (a x o h n) n
theorem okBetween {d : PyData} {lo hi : Int} (h : dBetween d lo hi = true) : ∃ i, d = .int i ∧ lo ≤ i ∧ i ≤ hi := by
  cases d with
  | int i => simp [dBetween] at h; exact ⟨i, rfl, h.1, h.2⟩
  | _ => simp [dBetween] at h
theorem okBool {d : PyData} (h : isBool d = true) : ∃ b, d = .bool b := by
  cases d with
  | bool b => exact ⟨b, rfl⟩
  | _ => simp [isBool] at h
theorem sides_pos {b : BD} (ok : BOk b) {ns : List Int} (h : ∀ k, k ∈ ns ↔ k ∈ sidesOf b) : 0 < ns.length := by
  obtain ⟨ds, ed, l2, _⟩ := okTasksL ok.tasks
  match ds, ed, l2 with
  | x :: r, ed, _ =>
    have z := (h (sideD x)).mpr (by rw [sidesOf, ed]; simp)
    exact List.length_pos_of_mem z
theorem sides_few {b : BD} (ok : BOk b) {ns : List Int} (p : ns.Pairwise (· < ·)) (h : ∀ k, k ∈ ns ↔ k ∈ sidesOf b) : ns.length ≤ 4 := by
  obtain ⟨ds, ed, _, l4, _⟩ := okTasksL ok.tasks
  have nd : ns.Nodup := p.imp fun h => Int.ne_of_lt h
  have sb : ns ⊆ ds.map sideD := fun k hk => by have z := (h k).mp hk; rwa [sidesOf, ed] at z
  have z := List.Nodup.length_le_of_subset nd sb
  rw [List.length_map] at z
  omega
def spSetFrames (K : PySem.W.Frag) (C CR : Addr) : Sp := fun vs H Q _ => ∃ (r dx : Addr) (fs : List (Str × V)) (p : Addr) (b : BD), vs = [.ref r, .ref p] ∧ H r = some (.ins CR dx fs) ∧ Only fs RN ∧ fs.length ≤ 500 ∧ p ≠ r ∧ PartsAt K C H p b ∧
  ∀ fs' H', Filled CR ["all_frames", "side_frames", "side_frames"] r dx fs fs' H H' → Q .non H'
theorem ok_set_frames (B : Bl mg) (R : RCls K CR) (m_frames : MCal P w K mg base 1 C "frames" ["self"] (spGet K C fun b H v H' => Dp K H' v b.frames)) (m_share : MCal P w K mg base 1 C "share" ["self"] (spGet K C fun b H v H' => Dp K H' v b.share)) (m_sides : MCal P w K mg base 1 C "sides" ["self"] (spGet K C IsSides))
    (d : MethAt K CR "set_frames" "Rules.set_frames" s_Rules_set_frames ["self", "build"]) : MCal P w K mg base 2 CR "set_frames" ["self", "build"] (spSetFrames K C CR) := by
 refine Hk.hold ?_
 simp (disch := with_unfolding_all (
 exact Hk.disch (d.cal fun f fd F => by
  refine F.ok sc_Rules_set_frames (fun vs H Q E h => ?_) (fun cdv A outer s H vs Q E hr h => ?_)
  · obtain ⟨r, dx, fs, p, b, rfl, _⟩ := h; rfl
  · obtain ⟨r, dx, fs, p, b, rfl, hR, hO, hl, hne, hp, q⟩ := h
    have hu := hu_of hr
    refine ⟨_, (pss_cons (ps_fld (pv 0) (pe_mcal0 m_frames (hr.mono (by omega)) (pv 1)) rfl)
      (pss_cons (ps_fld (pv 0) (pe_fld (pv 0) rfl) rfl)
      (pss_one (ps_if (pt_val (pe_mcal0 m_share (hr.mono (by omega)) (pv 1))) (pss_one (ps_fld (pv 0) (pe_op op_fdivW (pe_fld (pv 0) rfl) (pe_callB call_len_seq rfl B.len hb_len (pa_cons (pe_mcal0 m_sides (hr.mono (by omega)) (pv 1)) pa_nil))) rfl)) pss_nil)))), ?_⟩
    have nof : ∀ m : Str, m ≠ ("_parts" : Str) → m ≠ ("rules" : Str) → ∃ dx2 fs2, H p = some (.ins C dx2 fs2) ∧ fs2.lookup m = none := by
      obtain ⟨ok, dx2, fs2, q0, kvs, e1, e2, e3, e4, e5⟩ := hp
      exact fun m h1 h2 => ⟨dx2, fs2, e1, e5 m h1 h2⟩
    walk_at "st0"
    obtain ⟨dx2, fs2, ep, en⟩ := nof "frames" (by decide +kernel) (by decide +kernel)
    refine ⟨p, dx2, fs2, rfl, ep, en, ?_⟩
    walk_at "st"
    refine ⟨p, b, rfl, hp, fun v1 H1 s1 d1 => ?_⟩
    walk_at "st"
    obtain ⟨i, ei, _⟩ := okBetween hp.ok.frames
    simp only [ei] at d1
    cases d1
    have hR1 := s1 _ _ hR
    have l1 := length_putF "all_frames" (V.int i) fs
    refine ⟨r, CR, dx, fs, rfl, hR1, R.cls, R.no _ (by decide +kernel), by omega, ?_⟩
    walk_at "st"
    refine ⟨r, CR, dx, _, .int i, rfl, upd_same, R.cls, R.no _ (by decide +kernel), by walk_at "lk", ?_⟩
    walk_at "st"
    refine ⟨r, CR, dx, _, rfl, upd_same, R.cls, R.no _ (by decide +kernel), by omega, ?_⟩
    have l2 := length_putF "side_frames" (V.int i) (putF "all_frames" (V.int i) fs)
    have b1 : But r H (upd H1 r (.ins CR dx (putF "all_frames" (V.int i) fs))) := (But.same s1).trans But.put
    have b2 : But r H (upd (upd H1 r (.ins CR dx (putF "all_frames" (V.int i) fs))) r (.ins CR dx (putF "side_frames" (V.int i) (putF "all_frames" (V.int i) fs)))) := b1.trans But.put
    walk_at "st"
    obtain ⟨dx3, fs3, ep3, en3⟩ := nof "share" (by decide +kernel) (by decide +kernel)
    refine ⟨p, dx3, fs3, rfl, b2 _ _ ep3 hne, en3, ?_⟩
    walk_at "st"
    have hp2 := hp.but hR b2 hne
    refine ⟨p, b, rfl, hp2, fun v3 H3 s3 d3 => ?_⟩
    obtain ⟨sh, es⟩ := okBool hp.ok.share
    simp only [es] at d3
    cases d3
    walk_at "st"
    refine q_if (fun hc => ?_) (fun hc => ?_)
    · walk_at "st"
      have hR3 := s3 _ _ (upd_same : upd _ r _ r = _)
      refine ⟨r, CR, dx, _, .int i, rfl, hR3, R.cls, R.no _ (by decide +kernel), by walk_at "lk", ?_⟩
      walk_at "st"
      obtain ⟨dx4, fs4, ep4, en4⟩ := nof "sides" (by decide +kernel) (by decide +kernel)
      refine ⟨p, dx4, fs4, rfl, s3 _ _ (b2 _ _ ep4 hne), en4, ?_⟩
      walk_at "st"
      refine ⟨p, b, rfl, hp2.mono s3, fun v4 H4 s4 d4 => ?_⟩
      obtain ⟨l, ns, rfl, _, hns, pw, mem⟩ := d4
      refine ⟨l, _, rfl, .inl (SqL.of hns), ?_⟩
      rw [List.length_map]
      have pos := sides_pos hp.ok mem
      have few := sides_few hp.ok pw mem
      refine ⟨i, (ns.length : Int), rfl, rfl, wide_div (b := 3) (by omega) (by show ((ns.length : Int)).natAbs < 8; omega) (by omega) (by omega), ?_⟩
      walk_at "st"
      refine ⟨r, CR, dx, _, rfl, s4 _ _ hR3, R.cls, R.no _ (by decide +kernel), by omega, ?_⟩
      have b4 : But r H H4 := b2.trans ((But.same s3).trans (But.same s4))
      have l3 := length_putF "side_frames" (V.int (i / (ns.length : Int))) (putF "side_frames" (V.int i) (putF "all_frames" (V.int i) fs))
      have hq := q (putF "side_frames" (V.int (i / (ns.length : Int))) (putF "side_frames" (V.int i) (putF "all_frames" (V.int i) fs))) _ ⟨b4.trans But.put, upd_same, (((hO.put (by decide +kernel)).put (by decide +kernel)).put (by decide +kernel)), by simp only [List.length_cons, List.length_nil]; omega, fun g hg => ?_⟩
      · exact hq
      · simp only [List.mem_cons, List.not_mem_nil, or_false, not_or] at hg
        rw [put_ne _ _ hg.2.1, put_ne _ _ hg.2.1, put_ne _ _ hg.1]
    · refine q (putF "side_frames" (V.int i) (putF "all_frames" (V.int i) fs)) _ ⟨b2.trans (But.same s3), s3 _ _ upd_same, ((hO.put (by decide +kernel)).put (by decide +kernel)), by simp only [List.length_cons, List.length_nil]; omega, fun g hg => ?_⟩
      simp only [List.mem_cons, List.not_mem_nil, or_false, not_or] at hg
      rw [put_ne _ _ hg.2.1, put_ne _ _ hg.1]))) only [↓Hk.hold_s]
end
end T
namespace T
section
variable {P : Program} {w : World} {K : PySem.W.Frag} {mg : Str → Option Value} {base : Heap} {C CR : Addr}
theorem q_gname {σ : L2.St} {H : Hp} {i : Nat} {v : V} {q : L2.St → Hp → Prop} (h : q (σ.set i (some v)) H) : gName i v σ H q := h
theorem q_app {σ : L2.St} {H : Hp} {D : Ends} {i : Nat} {te : TE} {a : Addr} {acc : List V} (hv : σ[i]? = some (some (.ref a))) (ha : H a = some (.lst acc)) (h : te σ H fun y H2 => ∃ l xs z, V.ref a = .ref l ∧ [y] = [z] ∧ H2 l = some (.lst xs) ∧ xs.length < sizeLine ∧ D.nx σ (upd H2 l (.lst (xs ++ [z])))) : tDrop (tBM K "list" rAppend (tVar i) (tCons te tNil)) D σ H :=
  ⟨_, hv, .inl ⟨rfl, acc, SqL.of ha⟩, h⟩
/-- what stands at a tick of the slots -/
abbrev STick := Int × Bool × Bool
def RowV (H : Hp) (y : V) (s : STick) : Prop := ∃ t, y = .ref t ∧ H t = some (.tup [.int s.1, .bl s.2.1, .bl s.2.2])
def slotOf : PyData → Int × Int | .tuple [.int t, .int k] => (t, k) | _ => (0, 0)
def tickAt (sw g t k : Int) (j : Nat) : STick := (t, decide ((0 : Int) + j = 0), decide ((0 : Int) + j ≥ sw) && decide (k - (0 + j) ≥ g))
def ticksOf (sw g : Int) (p : Int × Int) : List STick := (List.range p.2.toNat).map (tickAt sw g p.1 p.2)
def slotTicks (sw g : Int) (rs : List PyData) : List STick := rs.flatMap fun r => ticksOf sw g (slotOf r)
def okSlotRow (d : PyData) : Prop := ∃ t k, d = .tuple [.int t, .int k] ∧ 1 ≤ k ∧ k ≤ 12
theorem slotTicks_len {sw g : Int} : ∀ {rs : List PyData}, (∀ r ∈ rs, okSlotRow r) → (slotTicks sw g rs).length ≤ 12 * rs.length
  | [], _ => by simp [slotTicks]
  | r :: rs, h => by
    have z := slotTicks_len (sw := sw) (g := g) (rs := rs) fun x hx => h x (List.mem_cons_of_mem _ hx)
    obtain ⟨t, k, rfl, h1, h2⟩ := h r List.mem_cons_self
    unfold slotTicks at z ⊢
    rw [List.flatMap_cons, List.length_append, List.length_cons]
    have e : (ticksOf sw g (slotOf (.tuple [.int t, .int k]))).length = k.toNat := by simp [ticksOf, slotOf]
    omega
theorem slotTicks_snoc {sw g : Int} {rs : List PyData} {r : PyData} : slotTicks sw g (rs ++ [r]) = slotTicks sw g rs ++ ticksOf sw g (slotOf r) := by simp [slotTicks]
theorem RowV.keep {H H' : Hp} {D : Addr} {acc : List V} (e : H D = some (.lst acc)) (k : But D H H') : ∀ {y : V} {s : STick}, RowV H y s → RowV H' y s := by
  rintro y s ⟨t, rfl, h⟩
  exact ⟨t, rfl, k _ _ h fun z => by subst z; rw [e] at h; cases h⟩
theorem paired_snoc {α β : Type} {R : α → β → Prop} : ∀ {xs : List α} {ys : List β} {x : α} {y : β}, Paired R xs ys → R x y → Paired R (xs ++ [x]) (ys ++ [y])
  | [], [], _, _, .nil, r => .cons r .nil
  | _ :: _, _ :: _, _, _, .cons a t, r => .cons a (paired_snoc t r)
theorem paired_len {α β : Type} {R : α → β → Prop} : ∀ {xs : List α} {ys : List β}, Paired R xs ys → xs.length = ys.length
  | [], [], .nil => rfl
  | _ :: _, _ :: _, .cons _ t => by simp [paired_len t]
def spSlotTicks (K : PySem.W.Frag) (CR : Addr) : Sp := fun vs H Q _ => ∃ (r dx : Addr) (fs : List (Str × V)) (v : V) (sw g : Int) (rs : List PyData), vs = [.ref r, v] ∧ H r = some (.ins CR dx fs) ∧ fs.lookup ("switch" : Str) = some (.int sw) ∧ fs.lookup ("greatest" : Str) = some (.int g) ∧ Dp K H v (.list rs) ∧ rs.length ≤ 4 ∧ (∀ x ∈ rs, okSlotRow x) ∧
  ∀ t ys H', Same H H' → H t = none → H' t = some (.tup ys) → Paired (RowV H') ys (slotTicks sw g rs) → Q (.ref t) H'
theorem ok_slot_ticks (B : Bl mg) (R : RCls K CR) (d : MethAt K CR "slot_ticks" "Rules.slot_ticks" s_Rules_slot_ticks ["self", "rows"]) : MCal P w K mg base 1 CR "slot_ticks" ["self", "rows"] (spSlotTicks K CR) := by
 refine Hk.hold ?_
 simp (disch := with_unfolding_all (
 exact Hk.disch (d.cal fun f fd F => by
  refine F.ok sc_Rules_slot_ticks (fun vs H Q E h => ?_) (fun cdv A outer s H vs Q E hr h => ?_)
  · obtain ⟨r, dx, fs, v, sw, g, rs, rfl, _⟩ := h; rfl
  · obtain ⟨r, dx, fs, v, sw, g, rs, rfl, hR, hsw, hg, hd, l4, hall, q⟩ := h
    refine ⟨_, (pss_cons (ps_set (i := 2) sc_Rules_slot_ticks.nd rfl (Or.inl rfl) (pe_lst pa_nil))
      (pss_cons (ps_for PassesOwn.never rfl (pi_list (pv 1)) (pg_tup rfl (pgs_cons (pg_name (i := 3) sc_Rules_slot_ticks.nd rfl (Or.inl rfl)) (pgs_cons (pg_name (i := 4) sc_Rules_slot_ticks.nd rfl (Or.inl rfl)) pgs_nil))) (pss_one (ps_for PassesOwn.never rfl (pi_range1 rfl B.range (pa_cons (pv 4) pa_nil)) (pg_name (i := 5) sc_Rules_slot_ticks.nd rfl (Or.inl rfl)) (pss_cons (ps_set (i := 6) sc_Rules_slot_ticks.nd rfl (Or.inl rfl) (pe_and (pe_cmpR op_ge (pv 5) (pe_fld (pv 0) rfl) (nomark _)) (pe_one (pe_cmpR op_ge (pe_op op_sub (pv 4) (pv 5)) (pe_fld (pv 0) rfl) (nomark _)))))
      (pss_one (ps_expr (pe_bm PySem.F.plainAttrs_list PySem.F.slot_list_append PySem.F.type_list_append mt_append (pv 2) (pa_cons (pe_tup (pa_cons (pv 3) (pa_cons (pe_cmpR op_eq (pv 5) pe_int (nomark _)) (pa_cons (pv 6) pa_nil)))) pa_nil))))))))
      (pss_one (ps_ret (pe_callTy call_tuple_of rfl B.tuple_ hb_tuple (pa_cons (pv 2) pa_nil)))))), ?_⟩
    cases hd with
    | @lst a xs _ hs ha =>
    have lx : xs.length = rs.length := ha.length
    walk_at "st0"
    refine ⟨by show 0 ≤ sizeLine; decide, fun D nD => ?_⟩
    have sD := same_new (o := .lst []) nD
    walk_at "st"
    let I : Nat → L2.St → Hp → Prop := fun i σ H2 => ∃ o1 o2 o3 o4, σ = [some (.ref r), some (.ref a), some (.ref D), o1, o2, o3, o4] ∧ Same H H2 ∧ ∃ acc, H2 D = some (.lst acc) ∧ Paired (RowV H2) acc (slotTicks sw g (rs.take i))
    refine q_forV xs I rfl (sD.seq hs) ⟨_, _, _, _, rfl, sD, [], upd_same, by simpa [slotTicks] using Paired.nil⟩ (fun i σ H2 _ hI => ?_) (fun i x σ H2 ex hI => ?_) (fun σ H2 hI => ?_)
    · obtain ⟨o1, o2, o3, o4, rfl, s2, _⟩ := hI
      exact s2.seq hs
    · obtain ⟨o1, o2, o3, o4, rfl, s2, acc, eD, pr⟩ := hI
      obtain ⟨dr, er, hdr⟩ := ha.get' ex
      obtain ⟨t, k, rfl, k1, k2⟩ := hall dr (List.mem_of_getElem? er)
      have hdr2 := L2.Dp.mono s2 hdr
      cases hdr2 with
      | @tup b ys _ hb hc =>
      cases hc with
      | @cons x0 r0 _ _ a0 hc => cases hc with
        | @cons x1 r1 _ _ a1 hc =>
          cases hc; cases a0; cases a1
          refine ⟨b, _, rfl, hb, rfl, _, _, rfl, _, _, rfl, rfl, ?_⟩
          dsimp only [List.set_cons_zero, List.set_cons_succ]
          have lt : i < rs.length := by rw [← lx]; exact (List.getElem?_eq_some_iff.mp ex).1
          have tk : rs.take (i + 1) = rs.take i ++ [.tuple [.int t, .int k]] := by
            rw [List.take_add_one, er]; rfl
          have lacc := paired_len pr
          have lst := slotTicks_len (sw := sw) (g := g) (rs := rs.take i) fun z hz => hall z (List.mem_of_mem_take hz)
          rw [List.length_take] at lst
          let J : Nat → L2.St → Hp → Prop := fun j σ H3 => ∃ o3 o4, σ = [some (.ref r), some (.ref a), some (.ref D), some (.int t), some (.int k), o3, o4] ∧ Same H H3 ∧ ∃ acc, H3 D = some (.lst acc) ∧ Paired (RowV H3) acc (slotTicks sw g (rs.take i) ++ (List.range j).map (tickAt sw g t k))
          refine q_forR J rfl (by omega) (by omega) ⟨_, _, rfl, s2, acc, eD, by simpa using pr⟩ (fun j σ H3 lj hJ => ?_) (fun σ H3 hJ => ?_)
          · obtain ⟨o3, o4, rfl, s3, acc3, eD3, pr3⟩ := hJ
            have l3 := paired_len pr3
            rw [List.length_append, List.length_map, List.length_range] at l3
            refine q_gname ?_
            dsimp only [List.set_cons_zero, List.set_cons_succ]
            walk_at "st"
            refine ⟨r, CR, dx, fs, _, rfl, s3 _ _ hR, R.cls, R.no _ (by decide +kernel), hsw, ?_⟩
            walk_at "st"
            have fin : ∀ v : Bool, v = (decide ((0 : Int) + j ≥ sw) && decide (k - (0 + j) ≥ g)) → ∀ p, H3 p = none → J (j + 1) [some (.ref r), some (.ref a), some (.ref D), some (.int t), some (.int k), some (.int (0 + j)), some (.bl v)] (upd (upd H3 p (.tup [.int t, .bl (decide (V.int (0 + (j : Int)) = V.int 0)), .bl v])) D (.lst (acc3 ++ [.ref p]))) := fun v ev p np => by
              have sp := same_new (o := .tup [.int t, .bl (decide (V.int (0 + (j : Int)) = V.int 0)), .bl v]) np
              have bt : But D (upd H3 p (.tup [.int t, .bl (decide (V.int (0 + (j : Int)) = V.int 0)), .bl v])) (upd (upd H3 p (.tup [.int t, .bl (decide (V.int (0 + (j : Int)) = V.int 0)), .bl v])) D (.lst (acc3 ++ [.ref p]))) := But.put
              refine ⟨_, _, rfl, fun b o hb => bt _ _ (sp _ _ (s3 _ _ hb)) (ne_of_none hb nD), _, upd_same, ?_⟩
              rw [List.range_succ, List.map_append, ← List.append_assoc]
              refine paired_snoc (Paired.mapP pr3 fun y s h => RowV.keep (sp _ _ eD3) bt (by obtain ⟨t, rfl, h⟩ := h; exact ⟨t, rfl, sp _ _ h⟩)) ⟨p, rfl, ?_⟩
              refine bt _ _ ?_ (fun z => ?_)
              · rw [upd_same, ev]
                simp only [tickAt, V.int.injEq]
              · subst z; rw [np] at eD3; cases eD3
            refine q_if (fun hc => ?_) (fun hc => ?_)
            · walk_at "st"
              refine ⟨r, CR, dx, fs, _, rfl, s3 _ _ hR, R.cls, R.no _ (by decide +kernel), hg, ?_⟩
              refine q_rI0 ?_
              refine q_app rfl eD3 ?_
              walk_at "st"
              refine q_eq rfl ?_
              walk_at "st"
              refine ⟨by show 3 ≤ sizeLine; decide, fun p np => ⟨D, acc3, _, rfl, rfl, same_new np _ _ eD3, sz1000 (by omega), ?_⟩⟩
              refine fin _ ?_ p np
              rw [hc, Bool.true_and]
            · refine q_app rfl eD3 ?_
              walk_at "st"
              refine q_eq rfl ?_
              walk_at "st"
              refine ⟨by show 3 ≤ sizeLine; decide, fun p np => ⟨D, acc3, _, rfl, rfl, same_new np _ _ eD3, sz1000 (by omega), ?_⟩⟩
              refine fin _ ?_ p np
              rw [hc, Bool.false_and]
          · obtain ⟨o3, o4, rfl, s3, acc3, eD3, pr3⟩ := hJ
            refine ⟨_, _, _, _, rfl, s3, acc3, eD3, ?_⟩
            rw [tk, slotTicks_snoc]
            exact pr3
    · obtain ⟨o1, o2, o3, o4, rfl, s2, acc, eD, pr⟩ := hI
      rw [lx, List.take_length] at pr
      walk_at "st"
      refine ⟨D, acc, rfl, .inl ⟨SqL.of eD, fun p np => ?_⟩⟩
      have sp := same_new (o := .tup acc) np
      exact q p acc _ (s2.trans sp) (s2.free np) upd_same (Paired.mapP pr fun y s h => by obtain ⟨t, rfl, h⟩ := h; exact ⟨t, rfl, sp _ _ h⟩)))) only [↓Hk.hold_s]
end
end T
namespace T
section
variable {P : Program} {w : World} {K : PySem.W.Frag} {mg : Str → Option Value} {base : Heap} {C CR : Addr}
def planHas : PyData → Bool | .tuple [.str z, _] => decide (z = "slots") | _ => false
def planSpan : PyData → Int | .tuple [.str _, .int n] => n | _ => 0
def planTicks (sw g : Int) : PyData → List STick | .tuple [.str _, .list rs] => slotTicks sw g rs | _ => []
def spSetPlan (K : PySem.W.Frag) (CR : Addr) : Sp := fun vs H Q _ => ∃ (r dx : Addr) (fs : List (Str × V)) (v : V) (sw g : Int) (c : Cnt) (pl : PyData), vs = [.ref r, v] ∧ H r = some (.ins CR dx fs) ∧ Only fs RN ∧ fs.length ≤ 500 ∧ fs.lookup ("switch" : Str) = some (.int sw) ∧ fs.lookup ("greatest" : Str) = some (.int g) ∧ Dp K H v pl ∧ okPlan c pl = true ∧
  ∀ fs' H' t ys, Filled CR ["has_slots", "span", "slots"] r dx fs fs' H H' → fs'.lookup ("has_slots" : Str) = some (.bl (planHas pl)) → fs'.lookup ("span" : Str) = some (.int (planSpan pl)) → fs'.lookup ("slots" : Str) = some (.ref t) → H' t = some (.tup ys) → Paired (RowV H') ys (planTicks sw g pl) → ys.length ≤ 48 → Q .non H'
theorem ok_set_plan (B : Bl mg) (R : RCls K CR) (m_slot_ticks : MCal P w K mg base 1 CR "slot_ticks" ["self", "rows"] (spSlotTicks K CR)) (d : MethAt K CR "set_plan" "Rules.set_plan" s_Rules_set_plan ["self", "plan"]) : MCal P w K mg base 2 CR "set_plan" ["self", "plan"] (spSetPlan K CR) := by
 refine Hk.hold ?_
 simp (disch := with_unfolding_all (
 exact Hk.disch (d.cal fun f fd F => by
  refine F.ok sc_Rules_set_plan (fun vs H Q E h => ?_) (fun cdv A outer s H vs Q E hr h => ?_)
  · obtain ⟨r, dx, fs, v, sw, g, c, pl, rfl, _⟩ := h; rfl
  · obtain ⟨r, dx, fs, v, sw, g, c, pl, rfl, hR, hO, hl, hsw, hg, hd, ok, q⟩ := h
    refine ⟨_, (pss_cons (ps_asg (pv 1) (pg_tup rfl (pgs_cons (pg_name (i := 2) sc_Rules_set_plan.nd rfl (Or.inl rfl)) (pgs_cons (pg_name (i := 3) sc_Rules_set_plan.nd rfl (Or.inl rfl)) pgs_nil))))
      (pss_cons (ps_fld (pv 0) (pe_cmpR op_eq (pv 2) pe_str (nomark _)) rfl)
      (pss_cons (ps_fld (pv 0) (pe_ifExp (pt_val (pe_fld (pv 0) rfl)) pe_int (pv 3)) rfl)
      (pss_one (ps_fld (pv 0) (pe_ifExp (pt_val (pe_fld (pv 0) rfl)) (pe_mcal m_slot_ticks (hr.mono (by omega)) (pv 0) (pa_cons (pv 3) pa_nil)) (pe_tup pa_nil)) rfl))))), ?_⟩
    obtain ⟨z, e, rfl, hz⟩ := okPlanL ok
    walk_at "st0"
    cases hd with
    | @tup a xs _ hs ha =>
    cases ha with
    | @cons x0 r0 _ _ a0 ha => cases ha with
      | @cons x1 r1 _ _ a1 ha =>
        cases ha
        cases a0
        refine ⟨a, _, rfl, hs, rfl, _, _, rfl, _, _, rfl, rfl, ?_⟩
        walk_at "st"
        refine q_eq rfl ?_
        walk_at "st"
        have l1 := length_putF "has_slots" (V.bl (decide (V.str z = V.str "slots"))) fs
        refine ⟨r, CR, dx, fs, rfl, hR, R.cls, R.no _ (by decide +kernel), by omega, ?_⟩
        walk_at "st"
        refine ⟨r, CR, dx, _, _, rfl, upd_same, R.cls, R.no _ (by decide +kernel), by walk_at "lk", ?_⟩
        walk_at "st"
        rcases hz with ⟨rfl, i, rfl, _⟩ | ⟨rfl, hz⟩
        · have e1 : decide (V.str "levels" = V.str "slots") = false := decide_eq_false (fun q => slots_ne (V.str.inj q))
          rw [e1] at l1 ⊢
          refine iteF ?_
          cases a1
          walk_at "st"
          have l2 := length_putF "span" (V.int i) (putF "has_slots" (V.bl false) fs)
          refine ⟨r, CR, dx, _, rfl, upd_same, R.cls, R.no _ (by decide +kernel), by omega, ?_⟩
          walk_at "st"
          refine ⟨r, CR, dx, _, _, rfl, upd_same, R.cls, R.no _ (by decide +kernel), by walk_at "lk", ?_⟩
          walk_at "st"
          refine iteF ?_
          walk_at "st"
          refine ⟨by show 0 ≤ sizeLine; decide, fun p np => ?_⟩
          have sp := same_new (o := .tup []) np
          walk_at "st"
          have l3 := length_putF "slots" (V.ref p) (putF "span" (V.int i) (putF "has_slots" (V.bl false) fs))
          refine ⟨r, CR, dx, _, rfl, sp _ _ upd_same, R.cls, R.no _ (by decide +kernel), by omega, ?_⟩
          have bt := ((((But.refl (r := r) (H := H)).trans But.put).trans But.put).trans (But.same sp)).trans (But.put (o := .ins CR dx (putF "slots" (V.ref p) (putF "span" (V.int i) (putF "has_slots" (V.bl false) fs)))))
          have npr : p ≠ r := fun z => by subst z; rw [upd_same] at np; cases np
          refine q _ _ p [] ⟨bt, upd_same, ((hO.put (by decide +kernel)).put (by decide +kernel)).put (by decide +kernel), by simp only [List.length_cons, List.length_nil]; omega, fun g hg => ?_⟩ (by rw [planHas]; walk_at "lk") (by rw [planSpan]; walk_at "lk") (put_same _ _ _) (But.put _ _ upd_same npr) .nil (by simp)
          simp only [List.mem_cons, List.not_mem_nil, or_false, not_or] at hg
          rw [put_ne _ _ hg.2.2, put_ne _ _ hg.2.1, put_ne _ _ hg.1]
        · have e1 : decide (V.str "slots" = V.str "slots") = true := decide_eq_true rfl
          rw [e1] at l1 ⊢
          refine iteT ?_
          obtain ⟨rs, rfl, r1, r4, hall⟩ := okSlotsL hz
          walk_at "st"
          have l2 := length_putF "span" (V.int 0) (putF "has_slots" (V.bl true) fs)
          refine ⟨r, CR, dx, _, rfl, upd_same, R.cls, R.no _ (by decide +kernel), by omega, ?_⟩
          walk_at "st"
          refine ⟨r, CR, dx, _, _, rfl, upd_same, R.cls, R.no _ (by decide +kernel), by walk_at "lk", ?_⟩
          walk_at "st"
          refine iteT ?_
          walk_at "st"
          refine ⟨r, dx, _, rfl, upd_same, by rw [put_ne _ _ (by decide +kernel), put_ne _ _ (by decide +kernel)]; exact hO _ (by decide +kernel), ?_⟩
          have hk := But.keep hR ((But.put (r := r) (H := H) (o := .ins CR dx (putF "has_slots" (V.bl true) fs))).trans (But.put (o := .ins CR dx (putF "span" (V.int 0) (putF "has_slots" (V.bl true) fs)))))
          walk_at "st"
          have ha : ∀ x ∈ rs, okSlotRow x := fun x hx => by
            obtain ⟨t, k, e, _, _, k1, k2⟩ := hall x hx
            exact ⟨t, k, e, k1, k2⟩
          refine ⟨r, dx, _, _, sw, g, rs, rfl, upd_same, by walk_at "lk", by walk_at "lk", dpKeep hk a1, r4, ha, fun t ys H2 s2 nt ht pr => ?_⟩
          walk_at "st"
          have l3 := length_putF "slots" (V.ref t) (putF "span" (V.int 0) (putF "has_slots" (V.bl true) fs))
          refine ⟨r, CR, dx, _, rfl, s2 _ _ upd_same, R.cls, R.no _ (by decide +kernel), by omega, ?_⟩
          have bt := ((((But.refl (r := r) (H := H)).trans But.put).trans But.put).trans (But.same s2)).trans (But.put (o := .ins CR dx (putF "slots" (V.ref t) (putF "span" (V.int 0) (putF "has_slots" (V.bl true) fs)))))
          have ntr : t ≠ r := fun z => by subst z; rw [upd_same] at nt; cases nt
          have ly := paired_len pr
          have lt := slotTicks_len (sw := sw) (g := g) ha
          refine q _ _ t ys ⟨bt, upd_same, ((hO.put (by decide +kernel)).put (by decide +kernel)).put (by decide +kernel), by simp only [List.length_cons, List.length_nil]; omega, fun g hg => ?_⟩ (by rw [planHas]; walk_at "lk") (by show _ = some (V.int (0 : Int)); walk_at "lk") (put_same _ _ _) (But.put _ _ ht ntr) (Paired.mapP pr fun y s h => ?_) (by omega)
          · simp only [List.mem_cons, List.not_mem_nil, or_false, not_or] at hg
            rw [put_ne _ _ hg.2.2, put_ne _ _ hg.2.1, put_ne _ _ hg.1]
          · obtain ⟨t2, rfl, h⟩ := h
            refine ⟨t2, rfl, But.put _ _ h fun z => ?_⟩
            subst z
            rw [s2 _ _ upd_same] at h; cases h))) only [↓Hk.hold_s]
end
end T
namespace T
section
variable {P : Program} {w : World} {K : PySem.W.Frag} {mg : Str → Option Value} {base : Heap} {C CR : Addr}
structure LG (mg : Str → Option Value) : Prop where
  g_lcm : mg "lcm" = some (.builtin "math.lcm")
def outPort : PyData → V | .tuple [.int p, _] => .int p | _ => .non
def outEvery : PyData → Int | .tuple [_, .int e] => e | _ => 1
theorem okOutsideL {c : Cnt} {d : PyData} (h : okOutside c d = true) : d = .none ∨ ∃ p e, d = .tuple [.int p, .int e] ∧ 0 ≤ p ∧ p ≤ cnt c "port" - 1 ∧ 1 ≤ e ∧ e ≤ 4 := by
  have two : okOut2 c d = true → ∃ p e, d = .tuple [.int p, .int e] ∧ 0 ≤ p ∧ p ≤ cnt c "port" - 1 ∧ 1 ≤ e ∧ e ≤ 4 := fun h => by
    unfold okOut2 at h
    rw [Bool.and_eq_true] at h
    obtain ⟨ds, rfl, l2⟩ := dTupleOf_tup h.1
    match ds, l2, h with
    | [a, b], _, h =>
      have h2 := h.2
      rw [Bool.and_eq_true] at h2
      obtain ⟨i, rfl, i1, i2⟩ := okBetween h2.1
      obtain ⟨j, rfl, j1, j2⟩ := okBetween h2.2
      exact ⟨i, j, rfl, i1, i2, j1, j2⟩
  cases d with
  | none => exact .inl rfl
  | _ => exact .inr (two h)
def spSetLetters (K : PySem.W.Frag) (CR : Addr) : Sp := fun vs H Q _ => ∃ (r dx : Addr) (fs : List (Str × V)) (v : V) (t : Addr) (ys : List V) (c : Cnt) (d : PyData), vs = [.ref r, v] ∧ H r = some (.ins CR dx fs) ∧ Only fs RN ∧ fs.length ≤ 500 ∧ fs.lookup ("slots" : Str) = some (.ref t) ∧ H t = some (.tup ys) ∧ ys.length ≤ 48 ∧ Dp K H v d ∧ okOutside c d = true ∧
  ∀ fs' H', Filled CR ["letter_port", "every", "period"] r dx fs fs' H H' → fs'.lookup ("letter_port" : Str) = some (outPort d) → fs'.lookup ("every" : Str) = some (.int (outEvery d)) → fs'.lookup ("period" : Str) = some (.int ((Nat.lcm (outEvery d).natAbs (max ys.length 1) : Nat) : Int)) → Q .non H'
theorem ok_set_letters (B : Bl mg) (T : LG mg) (R : RCls K CR) (d : MethAt K CR "set_letters" "Rules.set_letters" s_Rules_set_letters ["self", "outside"]) : MCal P w K mg base 1 CR "set_letters" ["self", "outside"] (spSetLetters K CR) := by
 refine Hk.hold ?_
 simp (disch := with_unfolding_all (
 exact Hk.disch (d.cal fun f fd F => by
  refine F.ok sc_Rules_set_letters (fun vs H Q E h => ?_) (fun cdv A outer s H vs Q E hr h => ?_)
  · obtain ⟨r, dx, fs, v, t, ys, c, d, rfl, _⟩ := h; rfl
  · obtain ⟨r, dx, fs, v, t, ys, c, d, rfl, hR, hO, hl, ht, hys, l48, hd, ok, q⟩ := h
    refine ⟨_, (pss_cons (ps_asg (pe_ifExp (pt_cmp (pc_isN (pv 1))) (pe_tup (pa_cons pe_non (pa_cons pe_int pa_nil))) (pv 1)) (pg_tup rfl (pgs_cons (pg_fld (pv 0)) (pgs_cons (pg_fld (pv 0)) pgs_nil))))
      (pss_one (ps_fld (pv 0) (pe_callBfun cr_lcm rfl T.g_lcm (pa_cons (pe_fld (pv 0) rfl) (pa_cons (pe_callB (call_max2 rfl) rfl B.max hb_max (pa_cons (pe_callB call_len_seq rfl B.len hb_len (pa_cons (pe_fld (pv 0) rfl) pa_nil)) (pa_cons pe_int pa_nil))) pa_nil))) rfl))), ?_⟩
    walk_at "st0"
    have ntr : t ≠ r := fun z => by subst z; rw [hys] at hR; cases hR
    rcases okOutsideL ok with rfl | ⟨p, e, rfl, p0, p1, e1, e4⟩
    · cases hd
      refine iteT ?_
      walk_at "st"
      refine ⟨by show 2 ≤ sizeLine; decide, fun a na => ?_⟩
      have sa := same_new (o := .tup [V.non, V.int 1]) na
      refine ⟨a, _, rfl, SqT.of upd_same, rfl, _, _, rfl, ⟨_, rfl, r, CR, dx, fs, rfl, sa _ _ hR, R.cls, R.no _ (by decide +kernel), by omega, ?_⟩⟩
      have l1 := length_putF "letter_port" (V.non) fs
      refine ⟨_, _, rfl, ⟨_, rfl, r, CR, dx, _, rfl, upd_same, R.cls, R.no _ (by decide +kernel), by omega, rfl, ?_⟩⟩
      have l2 := length_putF "every" (V.int 1) (putF "letter_port" (V.non) fs)
      walk_at "st"
      refine ⟨r, CR, dx, _, _, rfl, upd_same, R.cls, R.no _ (by decide +kernel), by walk_at "lk", ?_⟩
      walk_at "st"
      refine ⟨r, CR, dx, _, _, rfl, upd_same, R.cls, R.no _ (by decide +kernel), by walk_at "lk", ?_⟩
      walk_at "st"
      have bt := (((But.same (r := r) sa).trans (But.put (o := .ins CR dx (putF "letter_port" (V.non) fs)))).trans (But.put (o := .ins CR dx (putF "every" (V.int 1) (putF "letter_port" (V.non) fs)))))
      refine ⟨t, ys, rfl, .inr (SqT.of (bt _ _ hys ntr)), ?_⟩
      walk_at "st"
      refine ⟨_, _, rfl, ?_⟩
      have em : (if (1 : Int) > (ys.length : Int) then (1 : Int) else (ys.length : Int)) = ((max ys.length 1 : Nat) : Int) := by split <;> omega
      rw [em]
      refine ⟨_, _, rfl, by omega, by omega, by omega, by omega, ?_⟩
      rw [Int.natAbs_natCast]
      walk_at "st"
      have l3 := length_putF "period" (V.int ((Nat.lcm (1 : Int).natAbs (max ys.length 1) : Nat) : Int)) (putF "every" (V.int 1) (putF "letter_port" (V.non) fs))
      refine ⟨r, CR, dx, _, rfl, upd_same, R.cls, R.no _ (by decide +kernel), by omega, ?_⟩
      refine q _ _ ⟨bt.trans But.put, upd_same, ((hO.put (by decide +kernel)).put (by decide +kernel)).put (by decide +kernel), by simp only [List.length_cons, List.length_nil]; omega, fun g hg => ?_⟩ (by show _ = some (V.non); walk_at "lk") (by show _ = some (V.int 1); walk_at "lk") (put_same _ _ _)
      simp only [List.mem_cons, List.not_mem_nil, or_false, not_or] at hg
      rw [put_ne _ _ hg.2.2, put_ne _ _ hg.2.1, put_ne _ _ hg.1]
    · rw [decide_eq_false (fun z => by subst z; cases hd)]
      refine iteF ?_
      walk_at "st"
      have sa := Same.refl H
      cases hd with
      | @tup a xs _ hs ha =>
      cases ha with
      | @cons x0 r0 _ _ a0 ha => cases ha with
        | @cons x1 r1 _ _ a1 ha =>
        cases ha; cases a0; cases a1
        refine ⟨a, _, rfl, hs, rfl, _, _, rfl, ⟨_, rfl, r, CR, dx, fs, rfl, sa _ _ hR, R.cls, R.no _ (by decide +kernel), by omega, ?_⟩⟩
        have l1 := length_putF "letter_port" (V.int p) fs
        refine ⟨_, _, rfl, ⟨_, rfl, r, CR, dx, _, rfl, upd_same, R.cls, R.no _ (by decide +kernel), by omega, rfl, ?_⟩⟩
        have l2 := length_putF "every" (V.int e) (putF "letter_port" (V.int p) fs)
        walk_at "st"
        refine ⟨r, CR, dx, _, _, rfl, upd_same, R.cls, R.no _ (by decide +kernel), by walk_at "lk", ?_⟩
        walk_at "st"
        refine ⟨r, CR, dx, _, _, rfl, upd_same, R.cls, R.no _ (by decide +kernel), by walk_at "lk", ?_⟩
        walk_at "st"
        have bt := (((But.same (r := r) sa).trans (But.put (o := .ins CR dx (putF "letter_port" (V.int p) fs)))).trans (But.put (o := .ins CR dx (putF "every" (V.int e) (putF "letter_port" (V.int p) fs)))))
        refine ⟨t, ys, rfl, .inr (SqT.of (bt _ _ hys ntr)), ?_⟩
        walk_at "st"
        refine ⟨_, _, rfl, ?_⟩
        have em : (if (1 : Int) > (ys.length : Int) then (1 : Int) else (ys.length : Int)) = ((max ys.length 1 : Nat) : Int) := by split <;> omega
        rw [em]
        refine ⟨_, _, rfl, by omega, by omega, by omega, by omega, ?_⟩
        rw [Int.natAbs_natCast]
        walk_at "st"
        have l3 := length_putF "period" (V.int ((Nat.lcm (e : Int).natAbs (max ys.length 1) : Nat) : Int)) (putF "every" (V.int e) (putF "letter_port" (V.int p) fs))
        refine ⟨r, CR, dx, _, rfl, upd_same, R.cls, R.no _ (by decide +kernel), by omega, ?_⟩
        refine q _ _ ⟨bt.trans But.put, upd_same, ((hO.put (by decide +kernel)).put (by decide +kernel)).put (by decide +kernel), by simp only [List.length_cons, List.length_nil]; omega, fun g hg => ?_⟩ (by show _ = some (V.int p); walk_at "lk") (by show _ = some (V.int e); walk_at "lk") (put_same _ _ _)
        simp only [List.mem_cons, List.not_mem_nil, or_false, not_or] at hg
        rw [put_ne _ _ hg.2.2, put_ne _ _ hg.2.1, put_ne _ _ hg.1]))) only [↓Hk.hold_s]
end
end T
namespace T
section
variable {P : Program} {w : World} {K : PySem.W.Frag} {mg : Str → Option Value} {base : Heap} {C CR : Addr}
/-- where the making of rules stands -/
structure RS (CR r dx : Addr) (H0 H : Hp) (fs : List (Str × V)) (n : Nat) : Prop where
  ins : H r = some (.ins CR dx fs)
  only : Only fs RN
  len : fs.length ≤ n
  but : But r H0 H
theorem RS.mono {r dx : Addr} {H0 H H' : Hp} {fs : List (Str × V)} {n : Nat} (S : RS CR r dx H0 H fs n) (s : Same H H') : RS CR r dx H0 H' fs n := ⟨s _ _ S.ins, S.only, S.len, S.but.trans (But.same s)⟩
theorem RS.put {r dx : Addr} {H0 H : Hp} {fs : List (Str × V)} {n : Nat} (S : RS CR r dx H0 H fs n) (f : Str) (v : V) (hf : f ∈ RN) : RS CR r dx H0 (upd H r (.ins CR dx (putF f v fs))) (putF f v fs) (n + 1) :=
  ⟨upd_same, S.only.put hf, by have := length_putF f v fs; have := S.len; omega, S.but.trans But.put⟩
theorem RS.fill {r dx : Addr} {H0 H H' : Hp} {fs fs' : List (Str × V)} {n : Nat} {names : List Str} (S : RS CR r dx H0 H fs n) (F : Filled CR names r dx fs fs' H H') : RS CR r dx H0 H' fs' (n + names.length) :=
  ⟨F.2.1, F.2.2.1, by have := F.2.2.2.1; have := S.len; omega, S.but.trans F.1⟩
theorem RS.parts {r dx p dx0 : Addr} {H0 H : Hp} {fs fs0 : List (Str × V)} {n : Nat} {b : BD} (S : RS CR r dx H0 H fs n) (e : H0 r = some (.ins CR dx0 fs0)) (hp : PartsAt K C H0 p b) (ne : p ≠ r) : PartsAt K C H p b := hp.but e S.but ne
theorem q_get {p : Addr} {b : BD} {H : Hp} {m : Str} {R : BD → Hp → V → Hp → Prop} {Q : VK} {σ : L2.St} (hp : PartsAt K C H p b) (h1 : m ≠ ("_parts" : Str)) (h2 : m ≠ ("rules" : Str)) (k : ∀ v H', Same H H' → R b H v H' → Q v H') :
    ∃ a dx fs, V.ref p = .ref a ∧ H a = some (.ins C dx fs) ∧ fs.lookup m = none ∧ tNil σ H fun vs H2 => spGet K C R (V.ref p :: (vs ++ [])) H2 Q E0 := by
  obtain ⟨ok, dx2, fs2, q0, kvs, e1, e2, e3, e4, e5⟩ := id hp
  exact ⟨p, dx2, fs2, rfl, e1, e5 m h1 h2, p, b, rfl, hp, k⟩
theorem RS.kp {r dx : Addr} {H0 H : Hp} {fs : List (Str × V)} {n : Nat} (S : RS CR r dx H0 H fs n) (f : Str) (v : V) : Keep H (upd H r (.ins CR dx (putF f v fs))) := But.keep S.ins But.put
theorem tl_mono {H H' : Hp} {tl : Addr} {txs : List V} {tds : List PyData} (s : Keep H H') (h : H tl = some (.lst txs) ∧ DpAll K H txs tds) : H' tl = some (.lst txs) ∧ DpAll K H' txs tds := ⟨s _ _ h.1 (by simp), dpAllKeep s h.2⟩
theorem same_keep {H H' : Hp} (s : Same H H') : Keep H H' := fun b o h _ => s _ _ h
/-- the data that rules hold -/
inductive RF where | task_count | levels | side_of | sizes | line_of | places | wipes | pads | lends | plain | miss | switch | greatest | has_slots | span | slots | letter_port | every | period
  deriving DecidableEq
def RF.nm : RF → Str
  | .task_count => "task_count" | .levels => "levels" | .side_of => "side_of" | .sizes => "sizes" | .line_of => "line_of" | .places => "places" | .wipes => "wipes" | .pads => "pads" | .lends => "lends" | .plain => "plain" | .miss => "miss" | .switch => "switch"
  | .greatest => "greatest" | .has_slots => "has_slots" | .span => "span" | .slots => "slots" | .letter_port => "letter_port" | .every => "every" | .period => "period"
def RF.all : List RF := [.period, .every, .letter_port, .slots, .span, .has_slots, .greatest, .switch, .miss, .plain, .lends, .pads, .wipes, .places, .line_of, .sizes, .side_of, .levels, .task_count]
def RF.ix : Str → Option RF := fun z => (RF.all.find? fun f => decide (f.nm = z))
theorem RF.ix_nm (f : RF) : RF.ix f.nm = some f := by cases f <;> decide +kernel
theorem RF.inj : ∀ f g : RF, f.nm = g.nm → f = g := fun f g h => by
  have z := RF.ix_nm f
  rw [h, RF.ix_nm g] at z
  exact (Option.some.inj z).symm
def dl : PyData → List PyData | .list l => l | _ => []
def dInt0 : PyData → Int | .int i => i | _ => 0
def cost3 : PyData → Int × Int × Int | .tuple [.int a, .int b, .int c] => (a, b, c) | _ => (0, 0, 0)
def levelD (d : PyData) : Int := match d with | .tuple [_, .int s] => s | _ => 0
def greatOf (b : BD) : Int := (cost3 b.costs).1 + if dInt0 b.disk - 1 > (cost3 b.costs).2.1 then dInt0 b.disk - 1 else (cost3 b.costs).2.1
def ticksOfB (b : BD) : List STick := planTicks (cost3 b.costs).2.2 (greatOf b) b.plan
def stickD (s : STick) : PyData := .tuple [.int s.1, .bool s.2.1, .bool s.2.2]
def outD : PyData → PyData | .tuple [.int p, _] => .int p | _ => .none
def periodOf (b : BD) : Int := ((Nat.lcm (outEvery b.outside).natAbs (max (ticksOfB b).length 1) : Nat) : Int)
/-- what each field of rules is -/
def rulesD (b : BD) : RF → PyData
  | .task_count => .int (dl b.tasks).length
  | .levels => .tuple ((dl b.tasks).map fun d => .int (levelD d))
  | .side_of => .tuple ((dl b.tasks).map fun d => .int (sideD d))
  | .sizes => tupOf b.ports
  | .line_of => tupOf b.lines
  | .places => b.disk
  | .wipes => b.wipe
  | .pads => b.pad
  | .lends => b.lend
  | .plain => .int (cost3 b.costs).1
  | .miss => .int (cost3 b.costs).2.1
  | .switch => .int (cost3 b.costs).2.2
  | .greatest => .int (greatOf b)
  | .has_slots => .bool (planHas b.plan)
  | .span => .int (planSpan b.plan)
  | .slots => .tuple ((ticksOfB b).map stickD)
  | .letter_port => outD b.outside
  | .every => .int (outEvery b.outside)
  | .period => .int (periodOf b)
theorem dpAll_ints {H : Hp} (f : PyData → Int) : ∀ l : List PyData, DpAll K H (l.map fun d => V.int (f d)) (l.map fun d => PyData.int (f d))
  | [] => .nil
  | x :: r => .cons (.int _) (dpAll_ints f r)
theorem dpAll_rows {H : Hp} : ∀ {ys : List V} {ss : List STick}, Paired (RowV H) ys ss → DpAll K H ys (ss.map stickD)
  | [], [], .nil => .nil
  | _ :: _, s :: _, .cons h t => .cons (by obtain ⟨t, rfl, e⟩ := h; exact .tup (SqT.of e) (.cons (.int _) (.cons (.bl _) (.cons (.bl _) .nil)))) (dpAll_rows t)
theorem Told.fill {r dx : Addr} {names : List Str} {fs fs' : List (Str × V)} {H H' : Hp} {D : RF → PyData} {ns : List RF} (h : Told K RF.nm H fs D ns) (e : H r = some (.ins CR dx fs)) (F : Filled CR names r dx fs fs' H H') (hn : ∀ f ∈ ns, f.nm ∉ names) : Told K RF.nm H' fs' D ns := fun f hf => by
  obtain ⟨v, e1, d1⟩ := h f hf
  exact ⟨v, by rw [F.2.2.2.2 _ (hn f hf)]; exact e1, dpKeep (But.keep e F.1) d1⟩
theorem Told.new {fs : List (Str × V)} {H : Hp} {D : RF → PyData} {ns : List RF} {v : V} (h : Told K RF.nm H fs D ns) (f : RF) (e : fs.lookup f.nm = some v) (d : Dp K H v (D f)) : Told K RF.nm H fs D (f :: ns) := fun g hg => by
  rcases List.mem_cons.mp hg with rfl | hg
  · exact ⟨v, e, d⟩
  · exact h g hg
/-- the table of counts -/
def CntsAt (H : Hp) (fs : List (Str × V)) (b : BD) : Prop := ∃ c, fs.lookup ("counts" : Str) = some (.ref c) ∧ H c = some (.dK (countKV (cOf b)))
theorem CntsAt.mono {H H' : Hp} {fs : List (Str × V)} {b : BD} (h : CntsAt H fs b) (s : Same H H') : CntsAt H' fs b := by
  obtain ⟨c, e1, e2⟩ := h; exact ⟨c, e1, s _ _ e2⟩
theorem CntsAt.keep {H H' : Hp} {fs : List (Str × V)} {b : BD} (h : CntsAt H fs b) (s : Keep H H') : CntsAt H' fs b := by
  obtain ⟨c, e1, e2⟩ := h; exact ⟨c, e1, s _ _ e2 (by simp)⟩
theorem CntsAt.put {H : Hp} {fs : List (Str × V)} {b : BD} (h : CntsAt H fs b) {g : Str} {v : V} (ne : ("counts" : Str) ≠ g) : CntsAt H (putF g v fs) b := by
  obtain ⟨c, e1, e2⟩ := h; exact ⟨c, by rw [put_ne _ _ ne]; exact e1, e2⟩
theorem CntsAt.fill {r dx : Addr} {names : List Str} {fs fs' : List (Str × V)} {H H' : Hp} {b : BD} (h : CntsAt H fs b) (e : H r = some (.ins CR dx fs)) (F : Filled CR names r dx fs fs' H H') (hn : ("counts" : Str) ∉ names) : CntsAt H' fs' b := by
  obtain ⟨c, e1, e2⟩ := h.keep (But.keep e F.1)
  exact ⟨c, by rw [F.2.2.2.2 _ hn]; exact e1, e2⟩
theorem RS.counts {r dx : Addr} {H0 H : Hp} {fs : List (Str × V)} {n : Nat} {b : BD} (S : RS CR r dx H0 H fs n) (c : Addr) (e : H c = some (.dK (countKV (cOf b)))) : CntsAt (upd H r (.ins CR dx (putF "counts" (.ref c) fs))) (putF "counts" (.ref c) fs) b :=
  CntsAt.keep ⟨c, put_same _ _ _, e⟩ (S.kp "counts" (.ref c))
/-- rules of a build -/
def RulesAt (K : PySem.W.Frag) (CR : Addr) (H : Hp) (r : Addr) (b : BD) : Prop := ∃ dx fs, H r = some (.ins CR dx fs) ∧ Only fs RN ∧ Told K RF.nm H fs (rulesD b) RF.all ∧ CntsAt H fs b
theorem RulesAt.mono {H H' : Hp} {r : Addr} {b : BD} (h : RulesAt K CR H r b) (s : Same H H') : RulesAt K CR H' r b := by
  obtain ⟨dx, fs, e, o, t, c⟩ := h
  exact ⟨dx, fs, s _ _ e, o, t.mono s, c.mono s⟩
theorem RulesAt.but {H H' : Hp} {r p C' dx' : Addr} {fs' : List (Str × V)} {b : BD} (h : RulesAt K CR H r b) (e : H p = some (.ins C' dx' fs')) (s : But p H H') (ne : r ≠ p) : RulesAt K CR H' r b := by
  obtain ⟨dx, fs, e1, o, t, c⟩ := h
  exact ⟨dx, fs, s _ _ e1 ne, o, t.keep (But.keep e s), c.keep (But.keep e s)⟩
theorem RulesAt.get {H : Hp} {r : Addr} {b : BD} (h : RulesAt K CR H r b) (f : RF) (hf : f ∈ RF.all := by decide) : ∃ dx fs v, H r = some (.ins CR dx fs) ∧ fs.lookup f.nm = some v ∧ Dp K H v (rulesD b f) := by
  obtain ⟨dx, fs, e, o, t, c⟩ := h
  obtain ⟨v, e1, e2⟩ := t f hf
  exact ⟨dx, fs, v, e, e1, e2⟩
def spRules (K : PySem.W.Frag) (C CR : Addr) : Sp := fun vs H Q _ => ∃ (r dx : Addr) (p : Addr) (b : BD), vs = [.ref r, .ref p] ∧ H r = some (.ins CR dx []) ∧ p ≠ r ∧ PartsAt K C H p b ∧
  ∀ H', But r H H' → RulesAt K CR H' r b → Q .non H'
theorem ok_Rules (B : Bl mg) (R : RCls K CR)
    (c_counted : Cal P w K mg base 1 "counted" ["tasks", "pages", "ports", "locks", "disk"] spCounted)
    (m_tasks : MCal P w K mg base 1 C "tasks" ["self"] (spGet K C fun b H v H' => NewL K H H' v b.tasks))
    (m_pages : MCal P w K mg base 1 C "pages" ["self"] (spGet K C fun b H v H' => NewL K H H' v b.pages))
    (m_ports : MCal P w K mg base 1 C "ports" ["self"] (spGet K C fun b H v H' => NewL K H H' v b.ports))
    (m_lines : MCal P w K mg base 1 C "lines" ["self"] (spGet K C fun b H v H' => NewL K H H' v b.lines))
    (m_locks : MCal P w K mg base 1 C "locks" ["self"] (spGet K C fun b H v H' => Dp K H' v b.locks))
    (m_disk : MCal P w K mg base 1 C "disk" ["self"] (spGet K C fun b H v H' => Dp K H' v b.disk))
    (m_costs : MCal P w K mg base 1 C "costs" ["self"] (spGet K C fun b H v H' => Dp K H' v b.costs))
    (m_plan : MCal P w K mg base 1 C "plan" ["self"] (spGet K C fun b H v H' => Dp K H' v b.plan))
    (m_outside : MCal P w K mg base 1 C "outside" ["self"] (spGet K C fun b H v H' => Dp K H' v b.outside))
    (m_wipe : MCal P w K mg base 1 C "wipe" ["self"] (spGet K C fun b H v H' => Dp K H' v b.wipe))
    (m_pad : MCal P w K mg base 1 C "pad" ["self"] (spGet K C fun b H v H' => Dp K H' v b.pad))
    (m_lend : MCal P w K mg base 1 C "lend" ["self"] (spGet K C fun b H v H' => Dp K H' v b.lend))
    (m_set_costs : MCal P w K mg base 1 CR "set_costs" ["self", "costs"] (spSetCosts K CR))
    (m_set_frames : MCal P w K mg base 2 CR "set_frames" ["self", "build"] (spSetFrames K C CR))
    (m_set_plan : MCal P w K mg base 2 CR "set_plan" ["self", "plan"] (spSetPlan K CR))
    (m_set_letters : MCal P w K mg base 1 CR "set_letters" ["self", "outside"] (spSetLetters K CR)) :
    ∀ f fd, Fun K "__init__" "Rules.__init__" s_Rules___init__ f fd → FnOk P w K mg base CX0 3 f fd ["self", "build"] (spRules K C CR) := by
 refine Hk.hold ?_
 simp (disch := with_unfolding_all (
 exact Hk.disch (fun f fd F => by
  refine F.ok sc_Rules___init__ (fun vs H Q E h => ?_) (fun cdv A outer s H vs Q E hr h => ?_)
  · obtain ⟨r, dx, p, b, rfl, _⟩ := h; rfl
  · obtain ⟨r, dx, p, b, rfl, hR, hne, hp, q⟩ := h
    refine ⟨_, (pss_cons (ps_set (i := 2) sc_Rules___init__.nd rfl (Or.inl rfl) (pe_mcal0 m_tasks (hr.mono (by omega)) (pv 1)))
      (pss_cons (ps_fld (pv 0) (pe_callB call_len_seq rfl B.len hb_len (pa_cons (pv 2) pa_nil)) rfl)
      (pss_cons (ps_fld (pv 0) (pe_callTy call_tuple_of rfl B.tuple_ hb_tuple (pa_cons (pe_lc (own := [("side", 3), ("level", 4)]) (tt := tYes) rfl sc_Rules___init__.nd (pi_list (pv 2)) (blkOk_by (N := ["self", "build", "tasks", "side", "level"]) (sc := defScope s_Rules___init__) (by decide +kernel)) (fun _ _ _ _ _ => (show PG _ _ (gTup K 2 _) from pg_tup rfl (pgs_cons (pg_name (i := 3) sc_Rules___init__.nd rfl (Or.inl rfl)) (pgs_cons (pg_name (i := 4) sc_Rules___init__.nd rfl (Or.inl rfl)) pgs_nil)))) (fun _ _ _ _ _ => pts_nil) (fun _ _ _ _ _ => (pv 4))) pa_nil)) rfl)
      (pss_cons (ps_fld (pv 0) (pe_callTy call_tuple_of rfl B.tuple_ hb_tuple (pa_cons (pe_lc (own := [("side", 3), ("level", 4)]) (tt := tYes) rfl sc_Rules___init__.nd (pi_list (pv 2)) (blkOk_by (N := ["self", "build", "tasks", "side", "level"]) (sc := defScope s_Rules___init__) (by decide +kernel)) (fun _ _ _ _ _ => (show PG _ _ (gTup K 2 _) from pg_tup rfl (pgs_cons (pg_name (i := 3) sc_Rules___init__.nd rfl (Or.inl rfl)) (pgs_cons (pg_name (i := 4) sc_Rules___init__.nd rfl (Or.inl rfl)) pgs_nil)))) (fun _ _ _ _ _ => pts_nil) (fun _ _ _ _ _ => (pv 3))) pa_nil)) rfl)
      (pss_cons (ps_fld (pv 0) (pe_callTy call_tuple_of rfl B.tuple_ hb_tuple (pa_cons (pe_mcal0 m_ports (hr.mono (by omega)) (pv 1)) pa_nil)) rfl)
      (pss_cons (ps_fld (pv 0) (pe_callTy call_tuple_of rfl B.tuple_ hb_tuple (pa_cons (pe_mcal0 m_lines (hr.mono (by omega)) (pv 1)) pa_nil)) rfl)
      (pss_cons (ps_fld (pv 0) (pe_mcal0 m_disk (hr.mono (by omega)) (pv 1)) rfl)
      (pss_cons (ps_fld (pv 0) (pe_cal c_counted (hr.mono (by omega)) rfl (pa_cons (pe_callB call_len_seq rfl B.len hb_len (pa_cons (pv 2) pa_nil)) (pa_cons (pe_callB call_len_seq rfl B.len hb_len (pa_cons (pe_mcal0 m_pages (hr.mono (by omega)) (pv 1)) pa_nil)) (pa_cons (pe_callB call_len_seq rfl B.len hb_len (pa_cons (pe_fld (pv 0) rfl) pa_nil)) (pa_cons (pe_mcal0 m_locks (hr.mono (by omega)) (pv 1)) (pa_cons (pe_fld (pv 0) rfl) pa_nil)))))) rfl)
      (pss_cons (ps_fld (pv 0) (pe_mcal0 m_wipe (hr.mono (by omega)) (pv 1)) rfl)
      (pss_cons (ps_fld (pv 0) (pe_mcal0 m_pad (hr.mono (by omega)) (pv 1)) rfl)
      (pss_cons (ps_fld (pv 0) (pe_mcal0 m_lend (hr.mono (by omega)) (pv 1)) rfl)
      (pss_cons (ps_expr (pe_mcal m_set_costs (hr.mono (by omega)) (pv 0) (pa_cons (pe_mcal0 m_costs (hr.mono (by omega)) (pv 1)) pa_nil)))
      (pss_cons (ps_expr (pe_mcal m_set_frames (hr.mono (by omega)) (pv 0) (pa_cons (pv 1) pa_nil)))
      (pss_cons (ps_expr (pe_mcal m_set_plan (hr.mono (by omega)) (pv 0) (pa_cons (pe_mcal0 m_plan (hr.mono (by omega)) (pv 1)) pa_nil)))
      (pss_one (ps_expr (pe_mcal m_set_letters (hr.mono (by omega)) (pv 0) (pa_cons (pe_mcal0 m_outside (hr.mono (by omega)) (pv 1)) pa_nil)))))))))))))))))), ?_⟩
    have S : RS CR r dx H H [] 0 := ⟨hR, fun _ _ => rfl, by simp, But.refl⟩
    have TD : Told K RF.nm H [] (rulesD b) [] := fun f hf => (nomatch hf)
    have ok := hp.ok
    walk_at "st0"
    refine q_get hp (by decide +kernel) (by decide +kernel) fun v1 H1 s1 d1 => ?_
    replace S := S.mono s1
    replace TD := TD.mono s1
    walk_at "st"
    obtain ⟨tl, txs, tds, rfl, ntl, etl, ed, hta⟩ := d1
    obtain ⟨ds', ed', t2, t4, tall⟩ := okTasksL ok.tasks
    rw [ed] at ed'; cases ed'
    have ltx := hta.length
    refine ⟨tl, txs, rfl, .inl (SqL.of etl), ?_⟩
    walk_at "st"
    refine ⟨r, CR, dx, _, rfl, S.ins, R.cls, R.no _ (by decide +kernel), Nat.lt_of_le_of_lt S.len (by decide), ?_⟩
    have TL := tl_mono (S.kp "task_count" (V.int txs.length)) ⟨etl, hta⟩
    replace TD := (TD.add RF.inj (f := .task_count) (v := (V.int txs.length)) (by decide) (by show Dp K _ _ (.int ((dl b.tasks).length : Int)); rw [ed]; show Dp K _ _ (.int (tds.length : Int)); rw [← ltx]; exact .int _)).keep (S.kp "task_count" (V.int txs.length))
    replace S := S.put "task_count" (V.int txs.length) (by decide +kernel)
    walk_at "st"
    refine ⟨_, rfl, tl, rfl, ⟨txs, SqL.of TL.1⟩, fun D nD => lc_map (fun d => V.int (levelD d)) (SqL.of TL.1) TL.2 (by omega) nD ?_ ?_⟩
    · intro x2 d2 H3 h2 hm s2 Q2 k2
      obtain ⟨sd, l, rfl, _⟩ := okTask_shape (tall d2 hm)
      cases h2 with
      | @tup t ys _ ht hb =>
      cases hb with
      | @cons x0 r0 _ _ a0 hb => cases hb with
        | @cons x1 r1 _ _ a1 hb =>
          cases hb
          cases a0; cases a1
          refine ⟨t, _, rfl, ht, rfl, _, _, rfl, _, _, rfl, rfl, rfl, ?_⟩
          walk_at "st"
          exact k2 _ (Same.refl _)
    intro H3 s3 e3
    replace S := S.mono s3
    replace TD := TD.mono s3
    replace TL := tl_mono (same_keep s3) TL
    refine ⟨D, _, rfl, .inl ⟨SqL.of e3, fun p1 n1 => ?_⟩⟩
    replace TL := tl_mono (same_keep (same_new (o := .tup (tds.map fun d => V.int (levelD d))) n1)) TL
    replace S := S.mono (same_new (o := .tup (tds.map fun d => V.int (levelD d))) n1)
    replace TD := TD.mono (same_new (o := .tup (tds.map fun d => V.int (levelD d))) n1)
    walk_at "st"
    refine ⟨r, CR, dx, _, rfl, S.ins, R.cls, R.no _ (by decide +kernel), Nat.lt_of_le_of_lt S.len (by decide), ?_⟩
    replace TL := tl_mono (S.kp "levels" (V.ref p1)) TL
    replace TD := (TD.add RF.inj (f := .levels) (v := (V.ref p1)) (by decide) (by show Dp K _ _ (.tuple ((dl b.tasks).map fun d => .int (levelD d))); rw [ed]; exact .tup (SqT.of upd_same) (dpAll_ints _ _))).keep (S.kp "levels" (V.ref p1))
    replace S := S.put "levels" (V.ref p1) (by decide +kernel)
    walk_at "st"
    refine ⟨_, rfl, tl, rfl, ⟨txs, SqL.of TL.1⟩, fun D2 nD2 => lc_map (fun d => V.int (sideD d)) (SqL.of TL.1) TL.2 (by omega) nD2 ?_ ?_⟩
    · intro x2 d2 H3 h2 hm s2 Q2 k2
      obtain ⟨sd, l, rfl, _⟩ := okTask_shape (tall d2 hm)
      cases h2 with
      | @tup t ys _ ht hb =>
      cases hb with
      | @cons x0 r0 _ _ a0 hb => cases hb with
        | @cons x1 r1 _ _ a1 hb =>
          cases hb
          cases a0; cases a1
          refine ⟨t, _, rfl, ht, rfl, _, _, rfl, _, _, rfl, rfl, rfl, ?_⟩
          walk_at "st"
          exact k2 _ (Same.refl _)
    intro H4 s4 e4
    replace S := S.mono s4
    replace TD := TD.mono s4
    replace TL := tl_mono (same_keep s4) TL
    refine ⟨D2, _, rfl, .inl ⟨SqL.of e4, fun p2 n2 => ?_⟩⟩
    replace TL := tl_mono (same_keep (same_new (o := .tup (tds.map fun d => V.int (sideD d))) n2)) TL
    replace S := S.mono (same_new (o := .tup (tds.map fun d => V.int (sideD d))) n2)
    replace TD := TD.mono (same_new (o := .tup (tds.map fun d => V.int (sideD d))) n2)
    walk_at "st"
    refine ⟨r, CR, dx, _, rfl, S.ins, R.cls, R.no _ (by decide +kernel), Nat.lt_of_le_of_lt S.len (by decide), ?_⟩
    replace TL := tl_mono (S.kp "side_of" (V.ref p2)) TL
    replace TD := (TD.add RF.inj (f := .side_of) (v := (V.ref p2)) (by decide) (by show Dp K _ _ (.tuple ((dl b.tasks).map fun d => .int (sideD d))); rw [ed]; exact .tup (SqT.of upd_same) (dpAll_ints _ _))).keep (S.kp "side_of" (V.ref p2))
    replace S := S.put "side_of" (V.ref p2) (by decide +kernel)
    walk_at "st"
    refine q_get (S.parts hR hp hne) (by decide +kernel) (by decide +kernel) fun v5 H5 s5 d5 => ?_
    replace S := S.mono s5
    replace TD := TD.mono s5
    replace TL := tl_mono (same_keep s5) TL
    walk_at "st"
    obtain ⟨pl, pxs, pds, rfl, npl, epl, edp, hpa⟩ := d5
    obtain ⟨qds, edp', q2, _⟩ := okList ok.ports
    rw [edp] at edp'; cases edp'
    have lpx := hpa.length
    refine ⟨pl, pxs, rfl, .inl ⟨SqL.of epl, fun p5 n5 => ?_⟩⟩
    replace TL := tl_mono (same_keep (same_new (o := .tup pxs) n5)) TL
    replace S := S.mono (same_new (o := .tup pxs) n5)
    replace TD := TD.mono (same_new (o := .tup pxs) n5)
    have SZ : upd H5 p5 (.tup pxs) p5 = some (.tup pxs) := upd_same
    walk_at "st"
    refine ⟨r, CR, dx, _, rfl, S.ins, R.cls, R.no _ (by decide +kernel), Nat.lt_of_le_of_lt S.len (by decide), ?_⟩
    replace SZ := S.kp "sizes" (V.ref p5) _ _ SZ (by simp)
    replace TL := tl_mono (S.kp "sizes" (V.ref p5)) TL
    replace TD := (TD.add RF.inj (f := .sizes) (v := (V.ref p5)) (by decide) (by show Dp K _ _ (tupOf b.ports); rw [edp]; exact .tup (SqT.of upd_same) (L2.DpAll.mono (same_new n5) hpa))).keep (S.kp "sizes" (V.ref p5))
    replace S := S.put "sizes" (V.ref p5) (by decide +kernel)
    walk_at "st"
    refine q_get (S.parts hR hp hne) (by decide +kernel) (by decide +kernel) fun v6 H6 s6 d6 => ?_
    replace S := S.mono s6
    replace TD := TD.mono s6
    replace TL := tl_mono (same_keep s6) TL
    replace SZ := s6 _ _ SZ
    walk_at "st"
    obtain ⟨ll, lxs, lds, rfl, nll, ell, edl, hla⟩ := d6
    refine ⟨ll, lxs, rfl, .inl ⟨SqL.of ell, fun p6 n6 => ?_⟩⟩
    replace TL := tl_mono (same_keep (same_new (o := .tup lxs) n6)) TL
    replace S := S.mono (same_new (o := .tup lxs) n6)
    replace TD := TD.mono (same_new (o := .tup lxs) n6)
    replace SZ := same_new (o := .tup lxs) n6 _ _ SZ
    walk_at "st"
    refine ⟨r, CR, dx, _, rfl, S.ins, R.cls, R.no _ (by decide +kernel), Nat.lt_of_le_of_lt S.len (by decide), ?_⟩
    replace SZ := S.kp "line_of" (V.ref p6) _ _ SZ (by simp)
    replace TL := tl_mono (S.kp "line_of" (V.ref p6)) TL
    replace TD := (TD.add RF.inj (f := .line_of) (v := (V.ref p6)) (by decide) (by show Dp K _ _ (tupOf b.lines); rw [edl]; exact .tup (SqT.of upd_same) (L2.DpAll.mono (same_new n6) hla))).keep (S.kp "line_of" (V.ref p6))
    replace S := S.put "line_of" (V.ref p6) (by decide +kernel)
    walk_at "st"
    refine q_get (S.parts hR hp hne) (by decide +kernel) (by decide +kernel) fun v7 H7 s7 d7 => ?_
    replace S := S.mono s7
    replace TD := TD.mono s7
    replace TL := tl_mono (same_keep s7) TL
    replace SZ := s7 _ _ SZ
    have okd := ok.disk
    unfold okDisk at okd
    rw [Bool.and_eq_true] at okd
    obtain ⟨dn, edn, _⟩ := okBetween okd.1
    simp only [edn] at d7
    cases d7
    walk_at "st"
    refine ⟨r, CR, dx, _, rfl, S.ins, R.cls, R.no _ (by decide +kernel), Nat.lt_of_le_of_lt S.len (by decide), ?_⟩
    replace SZ := S.kp "places" (V.int dn) _ _ SZ (by simp)
    replace TL := tl_mono (S.kp "places" (V.int dn)) TL
    replace TD := (TD.add RF.inj (f := .places) (v := (V.int dn)) (by decide) (by show Dp K _ _ b.disk; rw [edn]; exact .int _)).keep (S.kp "places" (V.int dn))
    replace S := S.put "places" (V.int dn) (by decide +kernel)
    walk_at "st"
    refine ⟨tl, txs, rfl, .inl (SqL.of TL.1), ?_⟩
    walk_at "st"
    refine q_get (S.parts hR hp hne) (by decide +kernel) (by decide +kernel) fun v8 H8 s8 d8 => ?_
    replace S := S.mono s8
    replace TD := TD.mono s8
    replace SZ := s8 _ _ SZ
    clear TL
    obtain ⟨gl, gxs, gds, rfl, ngl, egl, edg, hga⟩ := d8
    walk_at "st"
    refine ⟨gl, gxs, rfl, .inl (SqL.of egl), ?_⟩
    walk_at "st"
    refine ⟨r, CR, dx, _, _, rfl, S.ins, R.cls, R.no _ (by decide +kernel), by walk_at "lk", ?_⟩
    walk_at "st"
    refine ⟨p5, pxs, rfl, .inr (SqT.of SZ), ?_⟩
    walk_at "st"
    refine q_get (S.parts hR hp hne) (by decide +kernel) (by decide +kernel) fun v9 H9 s9 d9 => ?_
    replace S := S.mono s9
    replace TD := TD.mono s9
    clear SZ
    obtain ⟨kn, ekn, _⟩ := okBetween ok.locks
    simp only [ekn] at d9
    cases d9
    walk_at "st"
    refine ⟨r, CR, dx, _, _, rfl, S.ins, R.cls, R.no _ (by decide +kernel), by walk_at "lk", ?_⟩
    walk_at "st"
    refine ⟨_, _, _, _, _, rfl, fun c10 H10 s10 nc10 ec10 => ?_⟩
    replace S := S.mono s10
    replace TD := TD.mono s10
    walk_at "st"
    refine ⟨r, CR, dx, _, rfl, S.ins, R.cls, R.no _ (by decide +kernel), Nat.lt_of_le_of_lt S.len (by decide), ?_⟩
    replace TD := (TD.off (g := "counts") (v := (V.ref c10)) (by decide +kernel)).keep (S.kp "counts" (V.ref c10))
    have CT := S.counts (b := b) c10 (by rw [show cOf b = _ from (by unfold cOf; rw [ed, edg, edp, ekn, edn])]; show _ = some (HO.dK (countKV (cntOf tds.length gds.length pds.length kn dn))); rw [← ltx, ← hga.length, ← lpx]; exact ec10)
    replace S := S.put "counts" (V.ref c10) (by decide +kernel)
    walk_at "st"
    refine q_get (S.parts hR hp hne) (by decide +kernel) (by decide +kernel) fun v11 H11 s11 d11 => ?_
    replace S := S.mono s11
    replace TD := TD.mono s11
    replace CT := CT.mono s11
    walk_at "st"
    refine ⟨r, CR, dx, _, rfl, S.ins, R.cls, R.no _ (by decide +kernel), Nat.lt_of_le_of_lt S.len (by decide), ?_⟩
    replace TD := (TD.add RF.inj (f := .wipes) (v := v11) (by decide) (by exact d11)).keep (S.kp "wipes" v11)
    replace CT := (CT.put (g := "wipes") (v := v11) (by decide +kernel)).keep (S.kp "wipes" v11)
    replace S := S.put "wipes" v11 (by decide +kernel)
    walk_at "st"
    refine q_get (S.parts hR hp hne) (by decide +kernel) (by decide +kernel) fun v12 H12 s12 d12 => ?_
    replace S := S.mono s12
    replace TD := TD.mono s12
    replace CT := CT.mono s12
    walk_at "st"
    refine ⟨r, CR, dx, _, rfl, S.ins, R.cls, R.no _ (by decide +kernel), Nat.lt_of_le_of_lt S.len (by decide), ?_⟩
    replace TD := (TD.add RF.inj (f := .pads) (v := v12) (by decide) (by exact d12)).keep (S.kp "pads" v12)
    replace CT := (CT.put (g := "pads") (v := v12) (by decide +kernel)).keep (S.kp "pads" v12)
    replace S := S.put "pads" v12 (by decide +kernel)
    walk_at "st"
    refine q_get (S.parts hR hp hne) (by decide +kernel) (by decide +kernel) fun v13 H13 s13 d13 => ?_
    replace S := S.mono s13
    replace TD := TD.mono s13
    replace CT := CT.mono s13
    walk_at "st"
    refine ⟨r, CR, dx, _, rfl, S.ins, R.cls, R.no _ (by decide +kernel), Nat.lt_of_le_of_lt S.len (by decide), ?_⟩
    replace TD := (TD.add RF.inj (f := .lends) (v := v13) (by decide) (by exact d13)).keep (S.kp "lends" v13)
    replace CT := (CT.put (g := "lends") (v := v13) (by decide +kernel)).keep (S.kp "lends" v13)
    replace S := S.put "lends" v13 (by decide +kernel)
    walk_at "st"
    refine ⟨r, dx, _, rfl, S.ins, S.only _ (by decide +kernel), ?_⟩
    walk_at "st"
    refine q_get (S.parts hR hp hne) (by decide +kernel) (by decide +kernel) fun v14 H14 s14 d14 => ?_
    replace S := S.mono s14
    replace TD := TD.mono s14
    replace CT := CT.mono s14
    walk_at "st"
    obtain ⟨ca, cb, cc, ecs, _⟩ := okCostsL ok.costs
    simp only [ecs] at d14
    refine ⟨r, dx, _, v14, dn, ca, cb, cc, rfl, S.ins, S.only, Nat.le_trans S.len (by decide), by walk_at "lk", d14, fun fs15 H15 F15 l15a l15b l15c l15d => ?_⟩
    replace TD := Told.fill TD S.ins F15 (by decide +kernel)
    replace CT := CT.fill S.ins F15 (by decide +kernel)
    have e3 : cost3 b.costs = (ca, cb, cc) := by rw [ecs]; rfl
    have eg : greatOf b = ca + if dn - 1 > cb then dn - 1 else cb := by unfold greatOf; rw [e3, edn]; rfl
    replace TD := Told.new TD .plain l15a (by show Dp K _ _ (.int (cost3 b.costs).1); rw [e3]; exact .int _)
    replace TD := Told.new TD .miss l15b (by show Dp K _ _ (.int (cost3 b.costs).2.1); rw [e3]; exact .int _)
    replace TD := Told.new TD .switch l15c (by show Dp K _ _ (.int (cost3 b.costs).2.2); rw [e3]; exact .int _)
    replace TD := Told.new TD .greatest l15d (by show Dp K _ _ (.int (greatOf b)); rw [eg]; exact .int _)
    replace S := S.fill F15
    walk_at "st"
    refine ⟨r, dx, _, rfl, S.ins, S.only _ (by decide +kernel), ?_⟩
    walk_at "st"
    refine ⟨r, dx, _, p, b, rfl, S.ins, S.only, Nat.le_trans S.len (by decide), hne, S.parts hR hp hne, fun fs16 H16 F16 => ?_⟩
    replace TD := Told.fill TD S.ins F16 (by decide +kernel)
    replace CT := CT.fill S.ins F16 (by decide +kernel)
    replace S := S.fill F16
    have k16 := F16.2.2.2.2
    walk_at "st"
    refine ⟨r, dx, _, rfl, S.ins, S.only _ (by decide +kernel), ?_⟩
    walk_at "st"
    refine q_get (S.parts hR hp hne) (by decide +kernel) (by decide +kernel) fun v17 H17 s17 d17 => ?_
    replace S := S.mono s17
    replace TD := TD.mono s17
    replace CT := CT.mono s17
    walk_at "st"
    refine ⟨r, dx, _, v17, cc, _, cOf b, b.plan, rfl, S.ins, S.only, Nat.le_trans S.len (by decide), by rw [k16 _ (by decide +kernel)]; exact l15c, by rw [k16 _ (by decide +kernel)]; exact l15d, d17, ok.plan, fun fs18 H18 ts ys F18 l18a l18b l18c ets prs lys => ?_⟩
    replace TD := Told.fill TD S.ins F18 (by decide +kernel)
    replace CT := CT.fill S.ins F18 (by decide +kernel)
    have et : ticksOfB b = planTicks cc (ca + if dn - 1 > cb then dn - 1 else cb) b.plan := by unfold ticksOfB; rw [e3, eg]
    have lyt := paired_len prs
    replace TD := Told.new TD .has_slots l18a (.bl _)
    replace TD := Told.new TD .span l18b (.int _)
    replace TD := Told.new TD .slots l18c (by show Dp K _ _ (.tuple ((ticksOfB b).map stickD)); rw [et]; exact .tup (SqT.of ets) (dpAll_rows prs))
    replace S := S.fill F18
    walk_at "st"
    refine ⟨r, dx, _, rfl, S.ins, S.only _ (by decide +kernel), ?_⟩
    walk_at "st"
    refine q_get (S.parts hR hp hne) (by decide +kernel) (by decide +kernel) fun v19 H19 s19 d19 => ?_
    replace S := S.mono s19
    replace TD := TD.mono s19
    replace CT := CT.mono s19
    walk_at "st"
    refine ⟨r, dx, _, v19, ts, ys, cOf b, b.outside, rfl, S.ins, S.only, Nat.le_trans S.len (by decide), l18c, s19 _ _ ets, lys, d19, ok.outside, fun fs20 H20 F20 l20a l20b l20c => ?_⟩
    replace TD := Told.fill TD S.ins F20 (by decide +kernel)
    replace CT := CT.fill S.ins F20 (by decide +kernel)
    replace TD := Told.new TD .letter_port l20a (by show Dp K _ _ (outD b.outside); rcases okOutsideL ok.outside with e | ⟨_, _, e, _⟩ <;> rw [e] <;> constructor)
    replace TD := Told.new TD .every l20b (.int _)
    replace TD := Told.new TD .period l20c (by show Dp K _ _ (.int (periodOf b)); unfold periodOf; rw [et, ← lyt]; exact .int _)
    replace S := S.fill F20
    exact q _ S.but ⟨dx, _, S.ins, S.only, TD, CT⟩))) only [↓Hk.hold_s]
end
end T
namespace T
section
variable {P : Program} {w : World} {K : PySem.W.Frag} {mg : Str → Option Value} {base : Heap} {C CR : Addr}
/-- all but instances and dicts is as it was -/
def KeepD (H H' : Hp) : Prop := ∀ b o, H b = some o → (∀ C dx fs, o ≠ .ins C dx fs) → (∀ kvs, o ≠ .dK kvs) → H' b = some o
theorem KeepD.sqL {H H' : Hp} {a : Addr} {xs : List V} (s : KeepD H H') (h : SqL K H a xs) : SqL K H' a xs := by
  rcases h with (h | ⟨o, h⟩) | h
  · exact .inl (.inl (s _ _ h (by simp) (by simp)))
  · exact .inl (.inr ⟨o, s _ _ h (by simp) (by simp)⟩)
  · exact .inr h
theorem KeepD.sqT {H H' : Hp} {a : Addr} {xs : List V} (s : KeepD H H') (h : SqT K H a xs) : SqT K H' a xs := by
  rcases h with (h | ⟨o, h⟩) | h
  · exact .inl (.inl (s _ _ h (by simp) (by simp)))
  · exact .inl (.inr ⟨o, s _ _ h (by simp) (by simp)⟩)
  · exact .inr h
mutual
theorem dpKeepD {H H' : Hp} (s : KeepD H H') : ∀ {v : V} {d : PyData}, Dp K H v d → Dp K H' v d
  | _, _, .non => .non
  | _, _, .bl b => .bl b
  | _, _, .int i => .int i
  | _, _, .str x => .str x
  | _, _, .lst h a => .lst (KeepD.sqL s h) (dpAllKeepD s a)
  | _, _, .tup h a => .tup (KeepD.sqT s h) (dpAllKeepD s a)
theorem dpAllKeepD {H H' : Hp} (s : KeepD H H') : ∀ {vs : List V} {ds : List PyData}, DpAll K H vs ds → DpAll K H' vs ds
  | _, _, .nil => .nil
  | _, _, .cons h t => .cons (dpKeepD s h) (dpAllKeepD s t)
end
theorem merge_app : ∀ (more acc : List (Key × V)), ((acc ++ more).map (·.1)).Nodup → mergeK acc more = acc ++ more
  | [], acc, _ => by simp [mergeK]
  | x :: r, acc, h => by
    have hx : valV acc x.1 = none := by
      unfold valV
      rw [Option.map_eq_none_iff, List.find?_eq_none]
      intro p hp
      have z : p.1 ≠ x.1 := by
        rw [List.map_append, List.nodup_append] at h
        exact h.2.2 _ (List.mem_map_of_mem hp) _ (by simp)
      simpa using z
    have e : mergeK acc (x :: r) = mergeK (putK acc x.1 x.2) r := rfl
    rw [e, putK_new x.2 hx, merge_app r _ (by simpa using h)]
    simp
theorem em11 (v1 v2 v3 v4 v5 v6 v7 v8 v9 v10 v11 : V) : mergeK [] [(Sum.inr "tasks", v1), (Sum.inr "pages", v2), (Sum.inr "ports", v3), (Sum.inr "locks", v4), (Sum.inr "frames", v5), (Sum.inr "disk", v6), (Sum.inr "rights", v7), (Sum.inr "lines", v8), (Sum.inr "costs", v9), (Sum.inr "plan", v10), (Sum.inr "outside", v11)] = ([(Sum.inr "tasks", v1), (Sum.inr "pages", v2), (Sum.inr "ports", v3), (Sum.inr "locks", v4), (Sum.inr "frames", v5), (Sum.inr "disk", v6), (Sum.inr "rights", v7), (Sum.inr "lines", v8), (Sum.inr "costs", v9), (Sum.inr "plan", v10), (Sum.inr "outside", v11)] : List (Key × V)) :=
  merge_app _ [] (by show ([Sum.inr "tasks", Sum.inr "pages", Sum.inr "ports", Sum.inr "locks", Sum.inr "frames", Sum.inr "disk", Sum.inr "rights", Sum.inr "lines", Sum.inr "costs", Sum.inr "plan", Sum.inr "outside"] : List Key).Nodup; decide +kernel)
theorem em15 (v1 v2 v3 v4 v5 v6 v7 v8 v9 v10 v11 u1 u2 u3 u4 : V) : mergeK [(Sum.inr "tasks", v1), (Sum.inr "pages", v2), (Sum.inr "ports", v3), (Sum.inr "locks", v4), (Sum.inr "frames", v5), (Sum.inr "disk", v6), (Sum.inr "rights", v7), (Sum.inr "lines", v8), (Sum.inr "costs", v9), (Sum.inr "plan", v10), (Sum.inr "outside", v11)] [(Sum.inr "wipe", u1), (Sum.inr "pad", u2), (Sum.inr "lend", u3), (Sum.inr "share", u4)] = ([(Sum.inr "tasks", v1), (Sum.inr "pages", v2), (Sum.inr "ports", v3), (Sum.inr "locks", v4), (Sum.inr "frames", v5), (Sum.inr "disk", v6), (Sum.inr "rights", v7), (Sum.inr "lines", v8), (Sum.inr "costs", v9), (Sum.inr "plan", v10), (Sum.inr "outside", v11), (Sum.inr "wipe", u1), (Sum.inr "pad", u2), (Sum.inr "lend", u3), (Sum.inr "share", u4)] : List (Key × V)) :=
  merge_app _ _ (by show ([Sum.inr "tasks", Sum.inr "pages", Sum.inr "ports", Sum.inr "locks", Sum.inr "frames", Sum.inr "disk", Sum.inr "rights", Sum.inr "lines", Sum.inr "costs", Sum.inr "plan", Sum.inr "outside", Sum.inr "wipe", Sum.inr "pad", Sum.inr "lend", Sum.inr "share"] : List Key).Nodup; decide +kernel)
abbrev rTupOf (K : PySem.W.Frag) : List V → Hp → VK → Prop := fun xs H Q => ∃ p ys, xs = [V.ref p] ∧ ((SqL K H p ys ∧ ∀ l, H l = none → Q (.ref l) (upd H l (.tup ys))) ∨ SqT K H p ys ∧ Q (.ref p) H)
/-- a build with its rules -/
def BuildAt (K : PySem.W.Frag) (C CR : Addr) (H : Hp) (p : Addr) (b : BD) : Prop := PartsAt K C H p b ∧ ∃ dx fs r, H p = some (.ins C dx fs) ∧ fs.lookup ("rules" : Str) = some (.ref r) ∧ RulesAt K CR H r b
theorem BuildAt.mono {H H' : Hp} {p : Addr} {b : BD} (h : BuildAt K C CR H p b) (s : Same H H') : BuildAt K C CR H' p b := by
  obtain ⟨h1, dx, fs, r, e1, e2, h2⟩ := h
  exact ⟨h1.mono s, dx, fs, r, s _ _ e1, e2, h2.mono s⟩
theorem BuildAt.but {H H' : Hp} {p k C' dx' : Addr} {fs' : List (Str × V)} {b : BD} (h : BuildAt K C CR H p b) (e : H k = some (.ins C' dx' fs')) (s : But k H H') (n1 : p ≠ k) (n2 : C' ≠ CR) : BuildAt K C CR H' p b := by
  obtain ⟨⟨ok, dx2, fs2, q, kvs, e1, e2, e3, e4, e5⟩, dx, fs, r, f1, f2, h2⟩ := h
  have kk := But.keep e s
  refine ⟨⟨ok, dx2, fs2, q, kvs, s _ _ e1 n1, e2, kk _ _ e3 (by simp), Paired.mapP e4 fun a b r => ⟨r.1, dpKeep kk r.2⟩, e5⟩, dx, fs, r, s _ _ f1 n1, f2, h2.but e s fun z => ?_⟩
  subst z
  obtain ⟨dx3, fs3, g, _⟩ := h2
  rw [e] at g
  cases g
  exact n2 rfl
def spBuild (K : PySem.W.Frag) (C CR : Addr) : Sp := fun vs H Q _ => ∃ (p dx : Addr) (x1 x2 x3 x4 x5 x6 x7 x8 x9 x10 x11 x12 x13 x14 x15 : V) (b : BD), vs = [.ref p, x1, x2, x3, x4, x5, x6, x7, x8, x9, x10, x11, x12, x13, x14, x15] ∧ H p = some (.ins C dx []) ∧ BOk b ∧
  Dp K H x1 b.tasks ∧ Dp K H x2 b.pages ∧ Dp K H x3 b.ports ∧ Dp K H x4 b.locks ∧ Dp K H x5 b.frames ∧ Dp K H x6 b.disk ∧ Dp K H x7 b.rights ∧ Dp K H x8 b.lines ∧ Dp K H x9 b.costs ∧ Dp K H x10 b.plan ∧ Dp K H x11 b.outside ∧
  Dp K H x12 b.wipe ∧ Dp K H x13 b.pad ∧ Dp K H x14 b.lend ∧ Dp K H x15 b.share ∧ ∀ H', But p H H' → BuildAt K C CR H' p b → Q .non H'
theorem tup_fact {H : Hp} {a : Addr} {ds : List PyData} (hd : Dp K H (.ref a) (.list ds)) : ∃ xs, SqL K H a xs ∧ ∀ l, H l = none → Dp K (upd H l (.tup xs)) (.ref l) (.tuple ds) := by
  cases hd with
  | @lst a xs _ hs ha => exact ⟨xs, hs, fun l nl => .tup (SqT.of upd_same) (L2.DpAll.mono (same_new nl) ha)⟩
theorem okRightsL {c : Cnt} {d : PyData} (h : okRights c d = true) : ∃ rs, d = .list rs ∧ (rs.length : Int) = cnt c "task" ∧ ∀ r ∈ rs, ∃ l, r = .list l := by
  unfold okRights at h
  rw [Bool.and_eq_true] at h
  obtain ⟨rs, rfl, h0, h1⟩ := dListOf_list h.1
  refine ⟨rs, rfl, by omega, fun r hr => ?_⟩
  have z := List.all_eq_true.mp h.2 r hr
  unfold okRow at z
  rw [Bool.and_eq_true] at z
  obtain ⟨l, rfl, _⟩ := dListOf_list z.1
  exact ⟨l, rfl⟩
theorem thingsV_ok {b : BD} (ok : BOk b) : thingsV b.tasks b.pages b.ports b.locks b.frames b.disk = .non := by
  unfold thingsV
  rw [ok.tasks, ok.pages, ok.ports, ok.locks, ok.frames, ok.disk]; rfl
theorem waysV_ok {b : BD} (ok : BOk b) : waysV (cOf b) b.rights b.lines b.costs b.plan b.outside = .non := by
  unfold waysV
  rw [ok.rights, ok.lines, ok.costs, ok.plan, ok.outside]; rfl
theorem build_end (T : BCls K C) {p dx pq : Addr} {σ : L2.St} {H HF : Hp} {kvs : List (Key × V)} {Q : VK} {b : BD} (ok : BOk b) (hp : H p = some (.ins C dx [])) (hq : HF pq = some (.dK kvs)) (hk : Paired (fun p q => p.1 = Sum.inr q.1 ∧ Dp K HF p.2 q.2) kvs b.parts) (s : Same H HF)
    (q : ∀ H', But p H H' → BuildAt K C CR H' p b → Q .non H') (s0 : σ[0]? = some (some (.ref p))) :
    ∃ a C_1 dx fs, V.ref p = V.ref a ∧ HF a = some (.ins C_1 dx fs) ∧ Cls K C_1 ∧ NoAttr K C_1 "_parts" ∧ fs.length < 1000 ∧ sFld K (tVar 0) (tMake CR (spRules K C CR) [] E0 (tCons (tVar 0) tNil)) "rules" { nx := fun x H' => Q .non H', rt := Q } σ (upd HF a (.ins C_1 dx (putF "_parts" (.ref pq) fs))) := by
 refine Hk.hold ?_
 simp (disch := with_unfolding_all (
 exact Hk.disch (by
  have hpF := s _ _ hp
  have npq : pq ≠ p := ne_of hq hpF (by simp)
  refine ⟨p, C, dx, [], rfl, hpF, T.cls, T.n_parts, by simp, ?_⟩
  have k1 : Keep HF (upd HF p (.ins C dx (putF "_parts" (.ref pq) []))) := But.keep hpF But.put
  refine ⟨_, s0, ?_⟩
  intro x dxn nx ndx nex
  have m2 : Same (upd HF p (.ins C dx (putF "_parts" (.ref pq) []))) (upd (upd (upd HF p (.ins C dx (putF "_parts" (.ref pq) []))) dxn (.own x)) x (.ins CR dxn [])) := (same_new ndx).trans (same_new (by rw [upd_ne (Ne.symm nex)]; exact nx))
  have npx : p ≠ x := fun z => by subst z; rw [upd_same] at nx; cases nx
  have nHx : H x = none := s.free (by rw [upd_ne (Ne.symm npx)] at nx; exact nx)
  have at1 : PartsAt K C (upd HF p (.ins C dx (putF "_parts" (.ref pq) []))) p b :=
    ⟨ok, dx, _, pq, kvs, upd_same, put_same _ _ _, k1 _ _ hq (by simp), Paired.mapP hk fun a b r => ⟨r.1, dpKeep k1 r.2⟩, fun m h1 _ => by rw [put_ne _ _ h1]; rfl⟩
  refine ⟨x, dxn, p, b, rfl, upd_same, npx, at1.mono m2, fun H3 bt er => ⟨rfl, ?_⟩⟩
  have hp3 := bt _ _ (m2 _ _ upd_same) npx
  refine ⟨_, s0, p, C, dx, _, rfl, hp3, T.cls, T.n_rules, by have := length_putF "_parts" (V.ref pq) []; simp at this; omega, ?_⟩
  have k2 := Keep.trans k1 (Keep.trans (same_keep m2) (Keep.trans (But.keep (upd_same : upd _ x _ x = _) bt) (But.keep hp3 (But.put (o := .ins C dx (putF "rules" (.ref x) (putF "_parts" (.ref pq) [])))))))
  show Q .non _
  have LK : (putF "rules" (V.ref x) (putF "_parts" (V.ref pq) [])).lookup ("_parts" : Str) = some (V.ref pq) := by rw [put_ne _ _ (by decide +kernel)]; exact put_same _ _ _
  refine q _ (fun a o ha na => ?_) ⟨⟨ok, dx, _, pq, kvs, upd_same, LK, k2 _ _ hq (by simp), Paired.mapP hk fun a b r => ⟨r.1, dpKeep k2 r.2⟩, fun m h1 h2 => by rw [put_ne _ _ h2, put_ne _ _ h1]; rfl⟩, dx, _, x, upd_same, put_same _ _ _, er.but hp3 But.put (Ne.symm npx)⟩
  rw [upd_ne na]
  exact bt _ _ (m2 _ _ (by rw [upd_ne na]; exact s _ _ ha)) (ne_of_none ha nHx)))) only [↓Hk.hold_s]
theorem ok_Build (B : Bl mg) (T : BCls K C) (c_counted : Cal P w K mg base 1 "counted" ["tasks", "pages", "ports", "locks", "disk"] spCounted)
    (c_things_fault : Cal P w K mg base 4 "things_fault" ["tasks", "pages", "ports", "locks", "frames", "disk"] (spThings K))
    (c_ways_fault : Cal P w K mg base 9 "ways_fault" ["counts", "rights", "lines", "costs", "plan", "outside"] (spWays K))
    (c_flags_fault : Cal P w K mg base 1 "flags_fault" ["flags"] (spFlags K))
    (c_Rules : MkCal P w K mg base 3 CR "Rules" ["self", "build"] (spRules K C CR)) :
    ∀ f fd, Fun K "__init__" "Build.__init__" s_Build___init__ f fd → FnOk P w K mg base CX0 10 f fd ["self", "tasks", "pages", "ports", "locks", "frames", "disk", "rights", "lines", "costs", "plan", "outside", "wipe", "pad", "lend", "share"] (spBuild K C CR) := by
 refine Hk.hold ?_
 simp (disch := with_unfolding_all (
 exact Hk.disch (fun f fd F => by
  refine F.ok sc_Build___init__ (fun vs H Q E h => ?_) (fun cdv A outer s H vs Q E hr h => ?_)
  · obtain ⟨p, dx, x1, x2, x3, x4, x5, x6, x7, x8, x9, x10, x11, x12, x13, x14, x15, b, rfl, _⟩ := h; rfl
  · obtain ⟨p, dx, x1, x2, x3, x4, x5, x6, x7, x8, x9, x10, x11, x12, x13, x14, x15, b, rfl, hP, ok, D1, D2, D3, D4, D5, D6, D7, D8, D9, D10, D11, D12, D13, D14, D15, q⟩ := h
    refine ⟨_, (pss_cons (ps_set (i := 16) sc_Build___init__.nd rfl (Or.inl rfl) (pe_cal c_things_fault (hr.mono (by omega)) rfl (pa_cons (pv 1) (pa_cons (pv 2) (pa_cons (pv 3) (pa_cons (pv 4) (pa_cons (pv 5) (pa_cons (pv 6) pa_nil))))))))
      (pss_cons (ps_if (pt_cmp (pc_notN (pv 16))) (pss_one ps_never) pss_nil)
      (pss_cons (ps_set (i := 17) sc_Build___init__.nd rfl (Or.inl rfl) (pe_cal c_counted (hr.mono (by omega)) rfl (pa_cons (pe_callB call_len_seq rfl B.len hb_len (pa_cons (pv 1) pa_nil)) (pa_cons (pe_callB call_len_seq rfl B.len hb_len (pa_cons (pv 2) pa_nil)) (pa_cons (pe_callB call_len_seq rfl B.len hb_len (pa_cons (pv 3) pa_nil)) (pa_cons (pv 4) (pa_cons (pv 6) pa_nil)))))))
      (pss_cons (ps_set (i := 16) sc_Build___init__.nd rfl (Or.inl rfl) (pe_cal c_ways_fault (hr.mono (by omega)) rfl (pa_cons (pv 17) (pa_cons (pv 7) (pa_cons (pv 8) (pa_cons (pv 9) (pa_cons (pv 10) (pa_cons (pv 11) pa_nil))))))))
      (pss_cons (ps_if (pt_cmp (pc_notN (pv 16))) (pss_one ps_never) pss_nil)
      (pss_cons (ps_set (i := 18) sc_Build___init__.nd rfl (Or.inl rfl) (pe_disp (pps_cons pe_str (pv 12) (pps_cons pe_str (pv 13) (pps_cons pe_str (pv 14) (pps_cons pe_str (pv 15) pps_nil)))) rfl rfl (by simp) (by decide)))
      (pss_cons (ps_set (i := 16) sc_Build___init__.nd rfl (Or.inl rfl) (pe_cal c_flags_fault (hr.mono (by omega)) rfl (pa_cons (pv 18) pa_nil)))
      (pss_cons (ps_if (pt_cmp (pc_notN (pv 16))) (pss_one ps_never) pss_nil)
      (pss_cons (ps_fld (pv 0) (pe_dispS (d0 := .Constant .none 0 ⟨0, 0, 0, 0⟩) (pps_cons pe_str (pe_callTy call_tuple_of rfl B.tuple_ hb_tuple (pa_cons (pv 1) pa_nil)) (pps_cons pe_str (pe_callTy call_tuple_of rfl B.tuple_ hb_tuple (pa_cons (pv 2) pa_nil)) (pps_cons pe_str (pe_callTy call_tuple_of rfl B.tuple_ hb_tuple (pa_cons (pv 3) pa_nil)) (pps_cons pe_str (pv 4) (pps_cons pe_str (pv 5) (pps_cons pe_str (pv 6) (pps_cons pe_str (pe_callTy call_tuple_of rfl B.tuple_ hb_tuple (pa_cons (pe_lc (own := [("row", 19)]) (tt := tYes) rfl sc_Build___init__.nd (pi_list (pv 7)) (blkOk_by (N := ["self", "tasks", "pages", "ports", "locks", "frames", "disk", "rights", "lines", "costs", "plan", "outside", "wipe", "pad", "lend", "share", "part", "counts", "flags", "row"]) (sc := defScope s_Build___init__) (by decide +kernel)) (fun _ _ _ _ _ => (pg_name (i := 19) sc_Build___init__.nd rfl (Or.inl rfl))) (fun _ _ _ _ _ => pts_nil) (fun _ _ _ _ _ => (pe_callTy (show CallR _ _ (rTupOf K) from call_tuple_of) rfl B.tuple_ hb_tuple (pa_cons (pv 19) pa_nil)))) pa_nil)) (pps_cons pe_str (pe_callTy call_tuple_of rfl B.tuple_ hb_tuple (pa_cons (pv 8) pa_nil)) (pps_cons pe_str (pv 9) (pps_cons pe_str (pe_tup (pa_cons (pe_ix ix_tup (pv 10) pe_int (fun _ _ => rfl)) (pa_cons (pe_ifExp (pt_cmpR op_eq (pe_ix ix_tup (pv 10) pe_int (fun _ _ => rfl)) pe_str (nomark _)) (pe_callTy call_tuple_of rfl B.tuple_ hb_tuple (pa_cons (pe_ix ix_tup (pv 10) pe_int (fun _ _ => rfl)) pa_nil)) (pe_ix ix_tup (pv 10) pe_int (fun _ _ => rfl))) pa_nil))) (pps_cons pe_str (pv 11) pps_nil))))))))))) (pv 18)) rfl)
      (pss_one (ps_fld (pv 0) (pe_mk c_Rules (hr.mono (by omega)) rfl (pa_cons (pv 0) pa_nil)) rfl))))))))))), ?_⟩
    walk_at "st0"
    refine ⟨x1, x2, x3, x4, x5, x6, b.tasks, b.pages, b.ports, b.locks, b.frames, b.disk, rfl, D1, D2, D3, D4, D5, D6, fun H1 s1 => ?_⟩
    rw [thingsV_ok ok]
    walk_at "st"
    refine iteF ?_
    walk_at "st"
    obtain ⟨tds, et, t2, t4, tall⟩ := okTasksL ok.tasks
    obtain ⟨pds, ep, p3, pall⟩ := okList ok.pages
    obtain ⟨qds, eq, q2, qall⟩ := okList ok.ports
    obtain ⟨kn, ek, k0, k2⟩ := okBetween ok.locks
    have okd := ok.disk
    unfold okDisk at okd
    rw [Bool.and_eq_true] at okd
    obtain ⟨dn, ed, d0, d4⟩ := okBetween okd.1
    have ec : cOf b = cntOf tds.length pds.length qds.length kn dn := by unfold cOf; rw [et, ep, eq, ek, ed]
    have sm : cntSmall (cOf b) := by
      rw [ec]
      exact ⟨⟨_, _, _, _, _, rfl⟩, by show (tds.length : Int) ≤ 100; omega, by show (pds.length : Int) ≤ 100; omega⟩
    have E1 := L2.Dp.mono s1 D1
    have E2 := L2.Dp.mono s1 D2
    have E3 := L2.Dp.mono s1 D3
    have E4 := D4
    have E6 := D6
    rw [et] at E1; rw [ep] at E2; rw [eq] at E3; rw [ek] at E4; rw [ed] at E6
    cases E4
    cases E6
    cases E1 with
    | @lst a1 xs1 _ hs1 ha1 =>
    cases E2 with
    | @lst a2 xs2 _ hs2 ha2 =>
    cases E3 with
    | @lst a3 xs3 _ hs3 ha3 =>
    refine ⟨a1, xs1, rfl, .inl hs1, ?_⟩
    walk_at "st"
    refine ⟨a2, xs2, rfl, .inl hs2, ?_⟩
    walk_at "st"
    refine ⟨a3, xs3, rfl, .inl hs3, ?_⟩
    walk_at "st"
    refine ⟨_, _, _, _, _, rfl, fun c2 H2 s2 nc2 ec2 => ?_⟩
    replace s2 := s1.trans s2
    rw [ha1.length, ha2.length, ha3.length, ← ec] at ec2
    walk_at "st"
    refine ⟨c2, cOf b, x7, x8, x9, x10, x11, b.rights, b.lines, b.costs, b.plan, b.outside, rfl, ec2, sm, L2.Dp.mono s2 D7, L2.Dp.mono s2 D8, L2.Dp.mono s2 D9, L2.Dp.mono s2 D10, L2.Dp.mono s2 D11, ?_, fun H3 s3 => ?_⟩
    · obtain ⟨z, e, ez, _⟩ := okPlanL ok.plan
      intro e0 e1 h
      rw [ez] at h
      cases h
      exact ⟨z, rfl⟩
    replace s3 := s2.trans s3
    rw [waysV_ok ok]
    walk_at "st"
    refine iteF ?_
    walk_at "st"
    intro c4 nc4
    unfold tPairs; walk_at "st"; unfold tPairs; walk_at "st"; unfold tPairs; walk_at "st"; unfold tPairs; walk_at "st"
    unfold tPairs
    refine ⟨upd_same, [(Sum.inr "wipe", x12), (Sum.inr "pad", x13), (Sum.inr "lend", x14), (Sum.inr "share", x15)], rfl, by simp, ?_⟩
    have s4 : Same H (upd (upd H3 c4 (.dK [])) c4 (.dK (mergeK [] [(Sum.inr "wipe", x12), (Sum.inr "pad", x13), (Sum.inr "lend", x14), (Sum.inr "share", x15)]))) := fun b o e => by
      have hb := ne_of_none (s3 _ _ e) nc4
      rw [upd_ne hb, upd_ne hb]; exact s3 _ _ e
    have em : mergeK [] [(Sum.inr "wipe", x12), (Sum.inr "pad", x13), (Sum.inr "lend", x14), (Sum.inr "share", x15)] = ([(Sum.inr "wipe", x12), (Sum.inr "pad", x13), (Sum.inr "lend", x14), (Sum.inr "share", x15)] : List (Key × V)) := rfl
    rw [em] at s4 ⊢
    walk_at "st"
    refine ⟨c4, _, [("wipe", b.wipe), ("pad", b.pad), ("lend", b.lend), ("share", b.share)], rfl, upd_same, .cons ⟨rfl, L2.Dp.mono s4 D12⟩ (.cons ⟨rfl, L2.Dp.mono s4 D13⟩ (.cons ⟨rfl, L2.Dp.mono s4 D14⟩ (.cons ⟨rfl, L2.Dp.mono s4 D15⟩ .nil))), fun H5 s5 => ?_⟩
    have ef : flagsV [("wipe", b.wipe), ("pad", b.pad), ("lend", b.lend), ("share", b.share)] = .non := by
      unfold flagsV
      simp [List.find?, ok.wipe, ok.pad, ok.lend, ok.share]
    rw [ef]
    have ec5 := s5 _ _ (upd_same : upd _ c4 _ c4 = _)
    replace s5 := s4.trans s5
    walk_at "st"
    refine iteF ?_
    walk_at "st"
    intro pq nq
    have s6 : Same H (upd H5 pq (.dK [])) := s5.trans (same_new nq)
    have e6 : upd H5 pq (.dK []) pq = some (.dK []) := upd_same
    have ec6 := same_new (o := .dK []) nq _ _ ec5
    unfold tPairs
    walk_at "st"
    have G1 := L2.Dp.mono s6 D1
    rw [et] at G1
    obtain ⟨ys1, hys1, T1⟩ := tup_fact G1
    refine ⟨a1, ys1, rfl, .inl ⟨hys1, fun l1 n1 => ?_⟩⟩
    replace T1 := T1 l1 n1
    have m1 := same_new (o := .tup ys1) n1
    replace s6 := s6.trans m1
    replace e6 := m1 _ _ e6
    replace ec6 := m1 _ _ ec6
    unfold tPairs
    walk_at "st"
    have G2 := L2.Dp.mono s6 D2
    rw [ep] at G2
    obtain ⟨ys2, hys2, T2⟩ := tup_fact G2
    refine ⟨a2, ys2, rfl, .inl ⟨hys2, fun l2 n2 => ?_⟩⟩
    replace T2 := T2 l2 n2
    have m2 := same_new (o := .tup ys2) n2
    replace s6 := s6.trans m2
    replace e6 := m2 _ _ e6
    replace ec6 := m2 _ _ ec6
    replace T1 := L2.Dp.mono m2 T1
    unfold tPairs
    walk_at "st"
    have G3 := L2.Dp.mono s6 D3
    rw [eq] at G3
    obtain ⟨ys3, hys3, T3⟩ := tup_fact G3
    refine ⟨a3, ys3, rfl, .inl ⟨hys3, fun l3 n3 => ?_⟩⟩
    replace T3 := T3 l3 n3
    have m3 := same_new (o := .tup ys3) n3
    replace s6 := s6.trans m3
    replace e6 := m3 _ _ e6
    replace ec6 := m3 _ _ ec6
    replace T1 := L2.Dp.mono m3 T1
    replace T2 := L2.Dp.mono m3 T2
    unfold tPairs; walk_at "st"; unfold tPairs; walk_at "st"; unfold tPairs; walk_at "st"; unfold tPairs; walk_at "st"
    obtain ⟨rds, er, rl, rall⟩ := okRightsL ok.rights
    have rl8 : rds.length ≤ 4 := by
      rw [ec] at rl
      have z : cnt (cntOf tds.length pds.length qds.length kn dn) "task" = tds.length := rfl
      omega
    have G7 := L2.Dp.mono s6 D7
    rw [er] at G7
    cases G7 with
    | @lst a7 xs7 _ hs7 ha7 =>
    have l7 := ha7.length
    generalize upd (upd (upd (upd H5 pq (.dK [])) l1 (.tup ys1)) l2 (.tup ys2)) l3 (.tup ys3) = HX at *
    refine ⟨_, rfl, a7, rfl, ⟨xs7, hs7⟩, fun D nD => lc_rel walk_list (fun i y Hh => ∃ (t : Addr) (xs : List V) (l : List PyData), y = .ref t ∧ Hh t = some (.tup xs) ∧ rds[i]? = some (.list l) ∧ DpAll K HX xs l) nD (sz1000 (by omega)) (fun H2 s => s.seq hs7) yat_same ?_ ?_ ?_⟩
    · rintro i y Ha Hb acc e bt ⟨t, xs, l, rfl, h1, h2, h3⟩
      exact ⟨t, xs, l, rfl, bt _ _ h1 (fun z => by subst z; rw [h1] at e; cases e), h2, h3⟩
    · rintro i x H' H2 lt s y Q' k
      obtain ⟨rfl, e⟩ := y
      obtain ⟨d, e2, hd2⟩ := ha7.get' e
      obtain ⟨l, rfl⟩ := rall d (List.mem_of_getElem? e2)
      cases hd2 with
      | @lst a xs _ hs ha =>
      refine q_gname ?_
      refine ⟨rfl, ?_⟩
      walk_at "st"
      exact ⟨a, xs, rfl, .inl ⟨s.seq hs, fun l2 nl => k _ _ (same_new nl) ⟨l2, xs, l, rfl, upd_same, e2, ha⟩⟩⟩
    intro ys7 H8 s8 e8 l8 r8
    refine ⟨D, ys7, rfl, .inl ⟨SqL.of e8, fun l77 n7 => ?_⟩⟩
    have m7 := s8.trans (same_new (o := .tup ys7) n7)
    have T7 : Dp K (upd H8 l77 (.tup ys7)) (.ref l77) (.tuple (rds.map tupOf)) := by
      refine .tup (SqT.of upd_same) (dpAll_of (by rw [List.length_map]; omega) fun i x d ex ed2 => ?_)
      obtain ⟨t, xs, l, rfl, h1, h2, h3⟩ := r8 i x ex
      rw [List.getElem?_map, h2] at ed2
      cases ed2
      exact .tup (SqT.of (same_new n7 _ _ h1)) (L2.DpAll.mono m7 h3)
    replace s6 := s6.trans m7
    replace e6 := m7 _ _ e6
    replace ec6 := m7 _ _ ec6
    replace T1 := L2.Dp.mono m7 T1
    replace T2 := L2.Dp.mono m7 T2
    replace T3 := L2.Dp.mono m7 T3
    generalize upd H8 l77 (.tup ys7) = HY at *
    unfold tPairs
    walk_at "st"
    obtain ⟨lds, el, _⟩ := okLinesL ok.lines
    have G8 := L2.Dp.mono s6 D8
    rw [el] at G8
    cases G8 with
    | @lst a8 xs8 _ hs8 ha8 =>
    refine ⟨a8, xs8, rfl, .inl ⟨hs8, fun l88 n8 => ?_⟩⟩
    have m8 := same_new (o := .tup xs8) n8
    have T8 : Dp K (upd HY l88 (.tup xs8)) (.ref l88) (.tuple lds) := .tup (SqT.of upd_same) (L2.DpAll.mono m8 ha8)
    replace s6 := s6.trans m8
    replace e6 := m8 _ _ e6
    replace ec6 := m8 _ _ ec6
    replace T1 := L2.Dp.mono m8 T1
    replace T2 := L2.Dp.mono m8 T2
    replace T3 := L2.Dp.mono m8 T3
    replace T7 := L2.Dp.mono m8 T7
    generalize upd HY l88 (.tup xs8) = HZ at *
    unfold tPairs; walk_at "st"; unfold tPairs; walk_at "st"
    obtain ⟨z, e, epl, hz⟩ := okPlanL ok.plan
    have G10 := L2.Dp.mono s6 D10
    rw [epl] at G10
    cases G10 with
    | @tup a10 xs10 _ hs10 ha10 =>
    cases ha10 with
    | @cons y0 r0 _ _ b0 ha10 => cases ha10 with
      | @cons y1 r1 _ _ b1 ha10 =>
        cases ha10
        cases b0
        refine q_ixT hs10 (atI0 rfl) ?_
        walk_at "st"
        refine q_ixT hs10 (atI0 rfl) ?_
        walk_at "st"
        refine q_eq rfl ?_
        rcases hz with ⟨rfl, i, rfl, _⟩ | ⟨rfl, hz⟩
        · rw [decide_eq_false (fun q => slots_ne (V.str.inj q))]
          walk_at "st"
          refine iteF ?_
          walk_at "st"
          refine q_ixT hs10 (atI1 rfl) ?_
          walk_at "st"
          refine ⟨by show 2 ≤ sizeLine; decide, fun l99 n9 => ?_⟩
          have m9 := same_new (o := .tup [.str "levels", y1]) n9
          have T10 : Dp K (upd HZ l99 (.tup [.str "levels", y1])) (.ref l99) (planT b.plan) := by
            rw [epl]
            simp only [planT]
            rw [if_neg slots_ne]
            exact .tup (SqT.of upd_same) (.cons (.str _) (.cons (L2.Dp.mono m9 b1) .nil))
          replace s6 := s6.trans m9
          replace e6 := m9 _ _ e6
          replace ec6 := m9 _ _ ec6
          replace T1 := L2.Dp.mono m9 T1
          replace T2 := L2.Dp.mono m9 T2
          replace T3 := L2.Dp.mono m9 T3
          replace T7 := L2.Dp.mono m9 T7
          replace T8 := L2.Dp.mono m9 T8
          generalize upd HZ l99 (.tup [.str "levels", y1]) = HV at *
          unfold tPairs; walk_at "st"
          unfold tPairs
          refine ⟨e6, [(Sum.inr "tasks", .ref l1), (Sum.inr "pages", .ref l2), (Sum.inr "ports", .ref l3), (Sum.inr "locks", .int kn), (Sum.inr "frames", x5), (Sum.inr "disk", .int dn), (Sum.inr "rights", .ref l77), (Sum.inr "lines", .ref l88), (Sum.inr "costs", x9), (Sum.inr "plan", .ref l99), (Sum.inr "outside", x11)], rfl, by simp, ?_⟩
          rw [em11]
          walk_at "st"
          have nc : c4 ≠ pq := ne_of_none ec5 nq
          refine ⟨c4, [(Sum.inr "wipe", x12), (Sum.inr "pad", x13), (Sum.inr "lend", x14), (Sum.inr "share", x15)], rfl, nc, .inl (by rw [upd_ne nc]; exact ec6), upd_same, by simp, by simp, ?_⟩
          rw [em15]
          walk_at "st"
          have k4 : KeepD HV (upd (upd HV pq (.dK [(Sum.inr "tasks", .ref l1), (Sum.inr "pages", .ref l2), (Sum.inr "ports", .ref l3), (Sum.inr "locks", .int kn), (Sum.inr "frames", x5), (Sum.inr "disk", .int dn), (Sum.inr "rights", .ref l77), (Sum.inr "lines", .ref l88), (Sum.inr "costs", x9), (Sum.inr "plan", .ref l99), (Sum.inr "outside", x11)])) pq (.dK [(Sum.inr "tasks", .ref l1), (Sum.inr "pages", .ref l2), (Sum.inr "ports", .ref l3), (Sum.inr "locks", .int kn), (Sum.inr "frames", x5), (Sum.inr "disk", .int dn), (Sum.inr "rights", .ref l77), (Sum.inr "lines", .ref l88), (Sum.inr "costs", x9), (Sum.inr "plan", .ref l99), (Sum.inr "outside", x11), (Sum.inr "wipe", x12), (Sum.inr "pad", x13), (Sum.inr "lend", x14), (Sum.inr "share", x15)])) := fun a o ha _ nd => by
            have na : a ≠ pq := fun z => by subst z; rw [e6] at ha; cases ha; exact nd _ rfl
            rw [upd_ne na, upd_ne na]; exact ha
          have nqH : H pq = none := (s5.free nq)
          refine build_end T ok hP upd_same ?_ (fun a o ha => ?_) q rfl
          · refine .cons ⟨rfl, ?_⟩ (.cons ⟨rfl, ?_⟩ (.cons ⟨rfl, ?_⟩ (.cons ⟨rfl, ?_⟩ (.cons ⟨rfl, ?_⟩ (.cons ⟨rfl, ?_⟩ (.cons ⟨rfl, ?_⟩ (.cons ⟨rfl, ?_⟩ (.cons ⟨rfl, ?_⟩ (.cons ⟨rfl, ?_⟩ (.cons ⟨rfl, ?_⟩ (.cons ⟨rfl, ?_⟩ (.cons ⟨rfl, ?_⟩ (.cons ⟨rfl, ?_⟩ (.cons ⟨rfl, ?_⟩ .nil))))))))))))))
            · show Dp K _ (.ref l1) (tupOf b.tasks); rw [et]; exact dpKeepD k4 T1
            · show Dp K _ (.ref l2) (tupOf b.pages); rw [ep]; exact dpKeepD k4 T2
            · show Dp K _ (.ref l3) (tupOf b.ports); rw [eq]; exact dpKeepD k4 T3
            · exact dpKeepD k4 (L2.Dp.mono s6 D4)
            · exact dpKeepD k4 (L2.Dp.mono s6 D5)
            · exact dpKeepD k4 (L2.Dp.mono s6 D6)
            · show Dp K _ (.ref l77) (rowsT b.rights); rw [er]; exact dpKeepD k4 T7
            · show Dp K _ (.ref l88) (tupOf b.lines); rw [el]; exact dpKeepD k4 T8
            · exact dpKeepD k4 (L2.Dp.mono s6 D9)
            · exact dpKeepD k4 T10
            · exact dpKeepD k4 (L2.Dp.mono s6 D11)
            · exact dpKeepD k4 (L2.Dp.mono s6 D12)
            · exact dpKeepD k4 (L2.Dp.mono s6 D13)
            · exact dpKeepD k4 (L2.Dp.mono s6 D14)
            · exact dpKeepD k4 (L2.Dp.mono s6 D15)
          · have na := ne_of_none ha nqH
            rw [upd_ne na, upd_ne na]; exact s6 _ _ ha
        · rw [decide_eq_true rfl]
          walk_at "st"
          refine iteT ?_
          obtain ⟨srs, rfl, _⟩ := okSlotsL hz
          cases b1 with
          | @lst a98 xs98 _ hs98 ha98 =>
          walk_at "st"
          refine q_ixT hs10 (atI1 rfl) ?_
          walk_at "st"
          refine ⟨a98, xs98, rfl, .inl ⟨hs98, fun l98 n98 => ?_⟩⟩
          have m98 := same_new (o := .tup xs98) n98
          have T98 : Dp K (upd HZ l98 (.tup xs98)) (.ref l98) (.tuple srs) := .tup (SqT.of upd_same) (L2.DpAll.mono m98 ha98)
          replace s6 := s6.trans m98
          replace e6 := m98 _ _ e6
          replace ec6 := m98 _ _ ec6
          replace T1 := L2.Dp.mono m98 T1
          replace T2 := L2.Dp.mono m98 T2
          replace T3 := L2.Dp.mono m98 T3
          replace T7 := L2.Dp.mono m98 T7
          replace T8 := L2.Dp.mono m98 T8
          generalize upd HZ l98 (.tup xs98) = HW at *
          walk_at "st"
          refine ⟨by show 2 ≤ sizeLine; decide, fun l99 n9 => ?_⟩
          have m9 := same_new (o := .tup [.str "slots", .ref l98]) n9
          have T10 : Dp K (upd HW l99 (.tup [.str "slots", .ref l98])) (.ref l99) (planT b.plan) := by
            rw [epl]
            simp only [planT]
            rw [if_pos trivial]
            exact .tup (SqT.of upd_same) (.cons (.str _) (.cons (L2.Dp.mono m9 T98) .nil))
          replace s6 := s6.trans m9
          replace e6 := m9 _ _ e6
          replace ec6 := m9 _ _ ec6
          replace T1 := L2.Dp.mono m9 T1
          replace T2 := L2.Dp.mono m9 T2
          replace T3 := L2.Dp.mono m9 T3
          replace T7 := L2.Dp.mono m9 T7
          replace T8 := L2.Dp.mono m9 T8
          generalize upd HW l99 (.tup [.str "slots", .ref l98]) = HV at *
          unfold tPairs; walk_at "st"
          unfold tPairs
          refine ⟨e6, [(Sum.inr "tasks", .ref l1), (Sum.inr "pages", .ref l2), (Sum.inr "ports", .ref l3), (Sum.inr "locks", .int kn), (Sum.inr "frames", x5), (Sum.inr "disk", .int dn), (Sum.inr "rights", .ref l77), (Sum.inr "lines", .ref l88), (Sum.inr "costs", x9), (Sum.inr "plan", .ref l99), (Sum.inr "outside", x11)], rfl, by simp, ?_⟩
          rw [em11]
          walk_at "st"
          have nc : c4 ≠ pq := ne_of_none ec5 nq
          refine ⟨c4, [(Sum.inr "wipe", x12), (Sum.inr "pad", x13), (Sum.inr "lend", x14), (Sum.inr "share", x15)], rfl, nc, .inl (by rw [upd_ne nc]; exact ec6), upd_same, by simp, by simp, ?_⟩
          rw [em15]
          walk_at "st"
          have k4 : KeepD HV (upd (upd HV pq (.dK [(Sum.inr "tasks", .ref l1), (Sum.inr "pages", .ref l2), (Sum.inr "ports", .ref l3), (Sum.inr "locks", .int kn), (Sum.inr "frames", x5), (Sum.inr "disk", .int dn), (Sum.inr "rights", .ref l77), (Sum.inr "lines", .ref l88), (Sum.inr "costs", x9), (Sum.inr "plan", .ref l99), (Sum.inr "outside", x11)])) pq (.dK [(Sum.inr "tasks", .ref l1), (Sum.inr "pages", .ref l2), (Sum.inr "ports", .ref l3), (Sum.inr "locks", .int kn), (Sum.inr "frames", x5), (Sum.inr "disk", .int dn), (Sum.inr "rights", .ref l77), (Sum.inr "lines", .ref l88), (Sum.inr "costs", x9), (Sum.inr "plan", .ref l99), (Sum.inr "outside", x11), (Sum.inr "wipe", x12), (Sum.inr "pad", x13), (Sum.inr "lend", x14), (Sum.inr "share", x15)])) := fun a o ha _ nd => by
            have na : a ≠ pq := fun z => by subst z; rw [e6] at ha; cases ha; exact nd _ rfl
            rw [upd_ne na, upd_ne na]; exact ha
          have nqH : H pq = none := (s5.free nq)
          refine build_end T ok hP upd_same ?_ (fun a o ha => ?_) q rfl
          · refine .cons ⟨rfl, ?_⟩ (.cons ⟨rfl, ?_⟩ (.cons ⟨rfl, ?_⟩ (.cons ⟨rfl, ?_⟩ (.cons ⟨rfl, ?_⟩ (.cons ⟨rfl, ?_⟩ (.cons ⟨rfl, ?_⟩ (.cons ⟨rfl, ?_⟩ (.cons ⟨rfl, ?_⟩ (.cons ⟨rfl, ?_⟩ (.cons ⟨rfl, ?_⟩ (.cons ⟨rfl, ?_⟩ (.cons ⟨rfl, ?_⟩ (.cons ⟨rfl, ?_⟩ (.cons ⟨rfl, ?_⟩ .nil))))))))))))))
            · show Dp K _ (.ref l1) (tupOf b.tasks); rw [et]; exact dpKeepD k4 T1
            · show Dp K _ (.ref l2) (tupOf b.pages); rw [ep]; exact dpKeepD k4 T2
            · show Dp K _ (.ref l3) (tupOf b.ports); rw [eq]; exact dpKeepD k4 T3
            · exact dpKeepD k4 (L2.Dp.mono s6 D4)
            · exact dpKeepD k4 (L2.Dp.mono s6 D5)
            · exact dpKeepD k4 (L2.Dp.mono s6 D6)
            · show Dp K _ (.ref l77) (rowsT b.rights); rw [er]; exact dpKeepD k4 T7
            · show Dp K _ (.ref l88) (tupOf b.lines); rw [el]; exact dpKeepD k4 T8
            · exact dpKeepD k4 (L2.Dp.mono s6 D9)
            · exact dpKeepD k4 T10
            · exact dpKeepD k4 (L2.Dp.mono s6 D11)
            · exact dpKeepD k4 (L2.Dp.mono s6 D12)
            · exact dpKeepD k4 (L2.Dp.mono s6 D13)
            · exact dpKeepD k4 (L2.Dp.mono s6 D14)
            · exact dpKeepD k4 (L2.Dp.mono s6 D15)
          · have na := ne_of_none ha nqH
            rw [upd_ne na, upd_ne na]; exact s6 _ _ ha))) only [↓Hk.hold_s]
end
end T
set_option Elab.async false
set_option linter.all false
set_option maxRecDepth 100000
set_option maxHeartbeats 4000000
namespace Hk
open PySem PySem.Spec PyProof.Rows L2 L2H
/-- the exception that a suite holds, at p: of the class at D, its own dict at d (where it has one) -/
structure ExA (K : PySem.W.Frag) (p : Addr × Obj) (D : Addr) (d : Option Addr) : Prop where
  z : Zc (.ref D) d p.2
  f : ∃ vs, p.2.data = .fields vs
  c : L2.ExcC K D
/-- its dict stands there -/
def XdAt (H : Hp) : Option Addr → List (Str × V) → Prop
  | none, fs => fs = []
  | some dd, fs => H dd = some (.xd fs)
section
variable {X : Cx} {k : Nat} {f C : Addr} {fd : FuncData} {ps : List Str} {sp : Addr × Obj → Sp} {x m : Str} {q pos apos : Pos} {e o : Expr} {es : List Expr} {ta : TE} {t : TA} {p : Addr × Obj}
theorem ExA.at {X : Cx} {p : Addr × Obj} {D : Addr} {d : Option Addr} {fs : List (Str × V)} {pins : List (Addr × Obj)} {σ : L2.St} {H : Hp} {s : Shared} (EA : ExA X.K p D d) (xd : XdAt H d fs) (hp : p ∈ X.pn) (I : Inv X pins σ H s) :
    ∃ od, PySem.W.InstAt s.heap p.1 p.2 D od ∧ (d.isSome = true → ∃ (ob : Obj) (mA : Str → Option Value), od = some ob ∧ (∀ y, PySem.W.lookIn y ob = some (mA y)) ∧ ∀ y, RelO (fs.lookup y) (mA y)) := by
  obtain ⟨here, _⟩ := I.pin p (List.mem_append.mpr (Or.inl hp))
  obtain ⟨ws, hw⟩ := EA.f
  have plain : PySem.W.notCls p.2 = true := by unfold PySem.W.notCls; rw [hw]
  rcases d with _ | dd
  · exact ⟨none, ⟨here, EA.z.1, plain, by rw [EA.z.2]; trivial⟩, fun z => by cases z⟩
  · obtain ⟨mA, hn, rel⟩ : ∃ mA, s.heap.Ns1 dd mA ∧ ∀ y, RelO (fs.lookup y) (mA y) := I.hok dd _ xd
    obtain ⟨ob, e1, e2⟩ := lookIn_ns hn
    exact ⟨some ob, ⟨here, EA.z.1, plain, by rw [EA.z.2]; exact e1⟩, fun _ => ⟨ob, mA, rfl, e2, rel⟩⟩
end
theorem q_gname {σ : L2.St} {H : Hp} {i : Nat} {v : V} {q : L2.St → Hp → Prop} (h : q (σ.set i (some v)) H) : gName i v σ H q := h
theorem q_app {K : PySem.W.Frag} {σ : L2.St} {H : Hp} {D : Ends} {i : Nat} {te : TE} {a : Addr} {acc : List V} (hv : σ[i]? = some (some (.ref a))) (ha : H a = some (.lst acc)) (h : te σ H fun y H2 => ∃ l xs z, V.ref a = .ref l ∧ [y] = [z] ∧ H2 l = some (.lst xs) ∧ xs.length < sizeLine ∧ D.nx σ (upd H2 l (.lst (xs ++ [z])))) : tDrop (tBM K "list" rAppend (tVar i) (tCons te tNil)) D σ H :=
  ⟨_, hv, .inl ⟨rfl, acc, SqL.of ha⟩, h⟩
/-- a loop over a range, its bound told already -/
def ForR (n : Nat) (g : TG) (tb : TS) (D : Ends) (σ : L2.St) (H1 : Hp) : Prop := ∃ W : Nat → Nat → L2.St → Hp → Prop, (∃ m, W 0 m σ H1) ∧ ∀ i m σ H, W i m σ H →
    ((Itr 0 n).stop i H ∧ D.nx σ H) ∨ ((Itr 0 n).go i H ∧ ∃ N : L2.St → Hp → Prop, (∀ σ' H', N σ' H' → ∃ m', m' < m ∧ W (i + 1) m' σ' H') ∧ ∀ x H', (Itr 0 n).yld i H x H' → g x σ H' fun σ2 H2 => tb { D with nx := N, ct := N, bk := D.nx } σ2 H2)
theorem q_forRA {ta : TA} {g : TG} {tb : TS} {D : Ends} {σ : L2.St} {H : Hp} (h : ta σ H fun vs H1 => ∃ j : Int, vs = [.int j] ∧ -(2 ^ 62) ≤ j ∧ j < 2 ^ 62 ∧ ForR j.toNat g tb D σ H1) : tFor (iRng1 ta) g tb D σ H := h
theorem forR {n : Nat} {g : TG} {tb : TS} {D : Ends} {σ : L2.St} {H : Hp} (Pv : Nat → L2.St → Hp → Prop) (h0 : Pv 0 σ H)
    (hs : ∀ i σ H, i < n → Pv i σ H → g (.int (0 + (i : Int))) σ H fun σ2 H2 => tb { D with nx := Pv (i + 1), ct := Pv (i + 1), bk := D.nx } σ2 H2) (hd : ∀ σ H, Pv n σ H → D.nx σ H) : ForR n g tb D σ H := for_range Pv h0 hs hd
theorem seq_if {c : TT} {t u R : TS} {D : Ends} {σ : L2.St} {H : Hp} (Pa : L2.St → Hp → Prop) (h2 : ∀ σ H, Pa σ H → R D σ H) (h1 : ∀ N : L2.St → Hp → Prop, (∀ σ H, Pa σ H → N σ H) → tIfS c t u { D with nx := N } σ H) : tSeq (tIfS c t u) R D σ H := h1 (R D) h2
end Hk
set_option Elab.async false
set_option linter.all false
set_option maxRecDepth 100000
set_option maxHeartbeats 4000000
namespace Hk
open PySem PySem.Spec PyProof.Rows L2
/-- an error class of the module: directly under the class at KE, which stands under ValueError -/
structure ECls (K : PySem.W.Frag) (mg : Str → Option Value) (KE : Addr) (x : Str) (C : Addr) : Prop where
  g : mg x = some (.ref C)
  L : ∃ (nm q : Str) (N : Addr) (bs : List Value) (sn : List Str) (sub : List Value) (ab : Bool) (col : Option Bool) (dd : Option Addr) (k0 k1 k2 k3 k5 : Option Value), K.lookup C = some (excClassObj nm q C N bs (.ref KE :: PySem.HandSPX.veTail) true sn sub ab col dd k0 k1 k2 k3 k5 "ValueError.__new__")
  ga : PySem.W.findIn K (.ref C) "__getattribute__" = some (some (.builtin "BaseException.__getattribute__"))
  gg : PySem.W.findIn K (.ref C) "__getattr__" = some none
  gc : PySem.W.findIn K (.ref C) "__class__" = some (some (.builtin "object.__class__"))
  kp : PySem.W.keepIn K (.ref C) = true
section
variable {K : PySem.W.Frag} {mg : Str → Option Value} {KE C : Addr} {x : Str}
theorem ECls.cls (E : ECls K mg KE x C) : ∃ cd : ClassData, PySem.W.clsIn K C = some cd ∧ cd.mro = .ref C :: .ref KE :: PySem.HandSPX.veTail ∧ cd.hasDict = true := by
  obtain ⟨nm, q, N, bs, sn, sub, ab, col, dd, k0, k1, k2, k3, k5, h⟩ := E.L
  refine ⟨_, by unfold PySem.W.clsIn; rw [h], rfl, rfl⟩
theorem ECls.mro (E : ECls K mg KE x C) (v : Value) : PySem.W.mroIn K C v = some ((Value.ref C :: .ref KE :: PySem.HandSPX.veTail).contains v) := by
  obtain ⟨cd, h1, h2, _⟩ := E.cls
  unfold PySem.W.mroIn
  rw [h1, Option.bind_some, h2]
  rfl
theorem ECls.sub (E : ECls K mg KE x C) (v : Value) : PySem.W.subIn K (.ref C) v = some ((Value.ref C :: .ref KE :: PySem.HandSPX.veTail).contains v) := E.mro v
theorem ECls.ty (E : ECls K mg KE x C) : PySem.W.typeIn K (.ref C) = some (.type "type") := by
  obtain ⟨nm, q, N, bs, sn, sub, ab, col, dd, k0, k1, k2, k3, k5, h⟩ := E.L
  show (K.lookup C).map (·.cls) = _
  rw [h]; rfl
theorem ECls.hd (E : ECls K mg KE x C) : PySem.W.hasDictIn K C = true := by
  obtain ⟨cd, h1, _, h3⟩ := E.cls
  unfold PySem.W.hasDictIn
  rw [h1]; exact h3
theorem ECls.isSome (E : ECls K mg KE x C) : (PySem.W.clsIn K C).isSome = true := by
  obtain ⟨cd, h1, _⟩ := E.cls
  rw [h1]; rfl
end
end Hk
set_option Elab.async false
set_option linter.all false
set_option maxRecDepth 100000
set_option maxHeartbeats 4000000
namespace Hk
open PySem PySem.Spec PyProof.Rows L2
theorem vals_si {z : Str} {i : Int} {us : List Value} (r : Vals [.str z, .int i] us) : ∃ t u, us = [.str z t, .int i u] := by
  match us, r with
  | [_, _], .cons ⟨t, e⟩ (.cons ⟨u, f⟩ .nil) => exact ⟨t, u, by rw [e, f]⟩
theorem iteF' {c : Bool} {A B : Prop} (h : c = false) (b : B) : if c = true then A else B := by rw [h]; exact iteF b
theorem q_eqI {i j : Int} {Q : VK} {H : Hp} (q : Q (.bl (decide (i = j))) H) : rEq (.int i) (.int j) H Q := ⟨rfl, by
  have e : decide (V.int i = V.int j) = decide (i = j) := decide_eq_decide.mpr ⟨fun h => V.int.inj h, fun h => by rw [h]⟩
  rw [e]; exact q⟩
end Hk
set_option Elab.async false
set_option linter.all false
set_option maxRecDepth 100000
namespace Hk
open L2
open PySem PySem.Spec PyProof.Rows
mutual
theorem dp_plain {K : PySem.W.Frag} {H : Hp} : ∀ {v : V} {d : PyData}, Dp K H v d → d.plain = true
  | _, _, .non => rfl
  | _, _, .bl b => rfl
  | _, _, .int i => rfl
  | _, _, .str x => rfl
  | _, _, .lst h a => by simp only [PyData.plain]; exact dpAll_plain a
  | _, _, .tup h a => by simp only [PyData.plain]; exact dpAll_plain a
theorem dpAll_plain {K : PySem.W.Frag} {H : Hp} : ∀ {vs : List V} {ds : List PyData}, DpAll K H vs ds → PyData.plainAll ds = true
  | _, _, .nil => rfl
  | _, _, .cons h t => by simp only [PyData.plainAll, Bool.and_eq_true]; exact ⟨dp_plain h, dpAll_plain t⟩
end
section
variable {X : Cx} {H : Hp} {pins : List (Addr × Obj)} {σ : L2.St} {s : Shared}
theorem data_eqP (I : Inv X pins σ H s) {A : Around} {x y : V} {v u : Value} {d e : PyData} (hd : Dp X.K H x d) (he : Dp X.K H y e) (rx : RelV x v) (ry : RelV y u) (hu : A.units + min d.depth e.depth < cLine) : SeqAt.EqP X.prog X.w A s v u (PyData.eqv d e) := by
  have readX := Dp.reads I d x v hd rx
  have readY := Dp.reads I e y u he ry
  exact (SeqAt.eqAt_plain d e A s v u _ _ readX.choose_spec readY.choose_spec (dp_plain hd) (dp_plain he) hu).eqP
/-- the entries of two dicts with data, by the first's keys -/
def allEqv (l1 l2 : List (Str × PyData)) : Bool := l1.all fun p => match l2.lookup p.1 with
  | some e => PyData.eqv p.2 e
  | none => false
theorem hits_data (I : Inv X pins σ H s) {A : Around} {ls : List (Key × V)} {vb : List (Key × Value)} (rb : KV ls vb) {l2 : List (Str × PyData)} (hb : Paired (fun p q => p.1 = Sum.inr q.1 ∧ Dp X.K H p.2 q.2) ls l2) {ks : List (Key × V)} {va : List (Key × Value)} (ra : KV ks va) :
    ∀ {l1 : List (Str × PyData)}, Paired (fun p q => p.1 = Sum.inr q.1 ∧ Dp X.K H p.2 q.2) ks l1 → (∀ p ∈ l1, ∃ e, l2.lookup p.1 = some e ∧ A.units + min p.2.depth e.depth < cLine) → PySem.W.KeqHitsP X.prog X.w A s vb va (allEqv l1 l2) := by
  unfold KV at ra
  induction ra with
  | nil => intro l1 h1 _; cases h1; exact .nil
  | @cons p q ps qs h t k =>
    intro l1 h1 hp
    cases h1 with
    | @cons _ q1 _ l1 g g2 =>
    obtain ⟨h1, h2⟩ := h
    obtain ⟨e, el, hu⟩ := hp q1 List.mem_cons_self
    obtain ⟨z, zv, zd⟩ := pairedKV_get hb el
    have rr : RelO (some z) (valueAt vb p.1) := by rw [← zv, ← g.1]; exact rb.val p.1
    obtain ⟨yv, hy, ry⟩ := rr.some_of
    obtain ⟨key, v⟩ := q
    have h1' : p.1 = key := h1
    rw [h1'] at hy
    have ee : allEqv (q1 :: l1) l2 = (PyData.eqv q1.2 e && allEqv l1 l2) := by
      simp [allEqv, el]
    rw [ee]
    exact .hit hy (data_eqP I g.2 zd h2 ry hu) (k g2 fun p' hm => hp p' (List.mem_cons_of_mem _ hm))
end
section
variable {X : Cx}
/-- a == b, two dicts of data under the same keys -/
def rEqKV (K : PySem.W.Frag) : R2 := fun x y H Q => ∃ (a b : Addr) (ks ls : List (Key × V)) (l1 l2 : List (Str × PyData)), x = .ref a ∧ y = .ref b ∧ H a = some (.dK ks) ∧ H b = some (.dK ls) ∧ Paired (fun p q => p.1 = Sum.inr q.1 ∧ Dp K H p.2 q.2) ks l1 ∧ Paired (fun p q => p.1 = Sum.inr q.1 ∧ Dp K H p.2 q.2) ls l2 ∧
  l1.length = l2.length ∧ (∀ p ∈ l1, ∃ e, l2.lookup p.1 = some e ∧ p.2.depth ≤ 60) ∧ Q (.bl (allEqv l1 l2)) H
theorem op_eqKV (hu : X.A.units + 64 < cLine) : OpR X (compareOp .Eq) (rEqKV X.K) := by
 refine Hk.hold ?_
 simp (disch := with_unfolding_all (
 exact Hk.disch (by
  intro pn sh σ Hh xv yv v u Qk I relX relY told
  obtain ⟨d1, d2, ks, ls, l1, l2, rfl, rfl, at1, at2, p1, p2, hl, hp, q⟩ := told
  obtain rfl : v = .ref d1 := relX
  obtain rfl : u = .ref d2 := relY
  have ok1 : ObjOk X.prog X.w Hh sh.heap d1 (.dK ks) := I.hok d1 _ at1
  have ok2 : ObjOk X.prog X.w Hh sh.heap d2 (.dK ls) := I.hok d2 _ at2
  obtain ⟨_, n1, vs1, kv1, of1⟩ := ok1
  obtain ⟨_, n2, vs2, kv2, of2⟩ := ok2
  have e : vs1.length = vs2.length := by rw [← kv1.length, ← kv2.length, Paired.length p1, Paired.length p2, hl]
  refine PySem.W.rcP_dicts (knd := mixKind X.prog X.w) (r := allEqv l1 l2) n1 n2 of1 of2 (by omega) (fun _ => hits_data I kv2 p2 kv1 p1 fun p hm => ?_) X.xe _ ?_
  · obtain ⟨e, el, hd⟩ := hp p hm
    refine ⟨e, el, ?_⟩
    show X.A.units + 1 + _ < cLine
    omega
  · rw [show (vs1.length == vs2.length && allEqv l1 l2) = allEqv l1 l2 from by rw [e]; simp]
    exact ⟨.bl _, Hh, I, rfl, q⟩))) only [↓Hk.hold_s]
/-- a == b by an own __eq__ that answers with a bool -/
def rEqI (C : Addr) (sp : Sp) : R2 := fun x y H Q => ∃ a b dx dy fs gs, x = .ref a ∧ y = .ref b ∧ H a = some (.ins C dx fs) ∧ H b = some (.ins C dy gs) ∧ sp [.ref a, .ref b] H (fun v H' => ∃ k, v = .bl k ∧ Q (.bl k) H') E0
theorem op_eqI {k : Nat} {C : Addr} {ps : List Str} {sp : Sp} (c : MCal X.prog X.w X.K X.mg X.base k C "__eq__" ps sp) (hr : Room k X.A) (hu : X.A.units < cLine) : OpR X (compareOp .Eq) (rEqI C sp) := by
 refine Hk.hold ?_
 simp (disch := with_unfolding_all (
 exact Hk.disch (by
  intro pn sh σ Hh xv yv v u Qk I relX relY told
  obtain ⟨o1, o2, dx, dy, fs, gs, rfl, rfl, at1, at2, promise⟩ := told
  cases relX
  cases relY
  obtain ⟨f, fd, M, bound, F⟩ := c.ex
  obtain ⟨_, inst1, _⟩ := ins_get I.hok at1
  obtain ⟨_, inst2, _⟩ := ins_get I.hok at2
  obtain ⟨_, look1, _⟩ := inst1.look
  obtain ⟨_, look2, _⟩ := inst2.look
  obtain ⟨_, frame⟩ := I.fr
  refine PySem.W.cmp_K (op := .Eq) (tb := .ref C) hu frame I.ok.mod.kin look1 look2.type (by simp [PySem.W.notFirst]) M.at_ M.fn ?_
  have len := F.len _ _ _ _ promise
  have pair : Vals [V.ref o1, V.ref o2] [Value.ref o1, Value.ref o2] := Paired.cons rfl (Paired.cons rfl Paired.nil)
  have given := bound sh [.ref o1, .ref o2] I.kIn (by simpa using len)
  rw [List.append_nil] at given
  refine wpAny_call (codeAny_mono (F.run X.A X.stack sh Hh ⟨[.ref o1, .ref o2], []⟩ [.ref o1, .ref o2] [.ref o1, .ref o2] _ E0 hr I.env0 given pair promise) fun out sh2 back => ?_)
  match out, back with
  | .error e, back => exact pass0 pn σ Hh sh e sh2 I back
  | .ok (.ret w), back =>
    obtain ⟨z, H2, I2, rz, k, ez, qk⟩ := I.after back
    subst ez
    cases rz
    exact ⟨.bl k, H2, I2, rfl, qk⟩
  | .ok .next, back => exact back.elim
  | .ok .brk, back => exact back.elim
  | .ok .cont, back => exact back.elim))) only [↓Hk.hold_s]
end
end Hk
set_option Elab.async false
set_option linter.all false
set_option maxRecDepth 100000
namespace Hk
open L2
open PySem PySem.Spec PyProof.Rows
/-- all but what stands at Z is as it was -/
def OffZ (Z : List Addr) (H H' : Hp) : Prop := ∀ b o, H b = some o → b ∉ Z → H' b = some o
theorem OffZ.refl {Z : List Addr} {H : Hp} : OffZ Z H H := fun _ _ h _ => h
theorem OffZ.of {Z : List Addr} {H H' : Hp} (s : Same H H') : OffZ Z H H' := fun b o h _ => s b o h
theorem OffZ.trans {Z : List Addr} {H H1 H2 : Hp} (a : OffZ Z H H1) (b : OffZ Z H1 H2) : OffZ Z H H2 := fun x o h n => b x o (a x o h n) n
theorem OffZ.mono {Z Z' : List Addr} {H H' : Hp} (a : OffZ Z H H') (h : ∀ x ∈ Z, x ∈ Z') : OffZ Z' H H' := fun b o e n => a b o e fun z => n (h b z)
/-- what was not there stands in the way of nothing -/
theorem OffZ.same {Z : List Addr} {H H' : Hp} (h : OffZ Z H H') (n : ∀ x ∈ Z, H x = none) : Same H H' := fun b o e => h b o e fun z => by rw [n b z] at e; cases e
def leafD : PyData → Prop | .none => True | .bool _ => True | .int _ => True | .str _ => True | _ => False
inductive OwnsAll (F : V → PyData → List Addr → Prop) : List V → List PyData → List Addr → Prop
  | nil : OwnsAll F [] [] []
  | cons {x : V} {xs : List V} {d : PyData} {ds : List PyData} {S T : List Addr} : F x d S → OwnsAll F xs ds T → (∀ a ∈ S, a ∉ T) → OwnsAll F (x :: xs) (d :: ds) (S ++ T)
/-- v tells d in H; its lists are S, each once; k deep -/
def OwnV (K : PySem.W.Frag) : Nat → Hp → V → PyData → List Addr → Prop
  | 0, _, _, _, _ => False
  | k + 1, H, v, d, S => (leafD d ∧ Dp K H v d ∧ S = []) ∨
      (∃ a xs ds T, v = .ref a ∧ d = .list ds ∧ H a = some (.lst xs) ∧ ds.length ≤ 1000 ∧ S = a :: T ∧ a ∉ T ∧ OwnsAll (OwnV K k H) xs ds T) ∨
      (∃ a xs ds, v = .ref a ∧ d = .tuple ds ∧ SqT K H a xs ∧ ds.length ≤ 1000 ∧ OwnsAll (OwnV K k H) xs ds S)
section
variable {K : PySem.W.Frag} {H H' : Hp} {Z : List Addr}
theorem OwnsAll.imp {F G : V → PyData → List Addr → Prop} {xs : List V} {ds : List PyData} {T : List Addr} (h : OwnsAll F xs ds T) : (∀ x d S, F x d S → (∀ a ∈ S, a ∈ T) → G x d S) → OwnsAll G xs ds T := by
  induction h with
  | nil => intro _; exact .nil
  | cons f t n ih =>
    intro k
    exact .cons (k _ _ _ f fun a ha => List.mem_append_left _ ha) (ih fun x d S g hs => k x d S g fun a ha => List.mem_append_right _ (hs a ha)) n
theorem OwnsAll.length {F : V → PyData → List Addr → Prop} {xs : List V} {ds : List PyData} {T : List Addr} (h : OwnsAll F xs ds T) : xs.length = ds.length := by
  induction h with
  | nil => rfl
  | cons f t n ih => simp [ih]
theorem dp_leaf {v : V} {d : PyData} (l : leafD d) (h : Dp K H v d) : Dp K H' v d := by
  cases h with
  | non => exact .non
  | bl b => exact .bl b
  | int i => exact .int i
  | str z => exact .str z
  | lst _ _ => exact l.elim
  | tup _ _ => exact l.elim
theorem offZ_seqT {a : Addr} {xs : List V} (hZ : ∀ x ∈ Z, ∃ ys, H x = some (.lst ys)) (o : OffZ Z H H') (h : SqT K H a xs) : SqT K H' a xs := by
  rcases h with h | h
  · rcases h with h | ⟨u, h⟩
    · exact .inl (.inl (o _ _ h fun z => by obtain ⟨ys, e⟩ := hZ _ z; rw [h] at e; cases e))
    · exact .inl (.inr ⟨u, o _ _ h fun z => by obtain ⟨ys, e⟩ := hZ _ z; rw [h] at e; cases e⟩)
  · exact .inr h
/-- elsewhere lists have changed -/
theorem OwnV.off (hZ : ∀ x ∈ Z, ∃ ys, H x = some (.lst ys)) (o : OffZ Z H H') : ∀ {k : Nat} {v : V} {d : PyData} {S : List Addr}, (∀ a ∈ S, a ∉ Z) → OwnV K k H v d S → OwnV K k H' v d S
  | k + 1, v, d, S, hS, .inl ⟨l, h, e⟩ => .inl ⟨l, dp_leaf l h, e⟩
  | k + 1, v, d, S, hS, .inr (.inl ⟨a, xs, ds, T, e1, e2, e3, e4, e5, e6, e7⟩) => by
    subst e5
    exact .inr (.inl ⟨a, xs, ds, T, e1, e2, o _ _ e3 (hS a List.mem_cons_self), e4, rfl, e6, e7.imp fun x d S' h hs => OwnV.off hZ o (fun b hb => hS b (List.mem_cons_of_mem _ (hs b hb))) h⟩)
  | k + 1, v, d, S, hS, .inr (.inr ⟨a, xs, ds, e1, e2, e3, e4, e5⟩) => .inr (.inr ⟨a, xs, ds, e1, e2, offZ_seqT hZ o e3, e4, e5.imp fun x d S' h hs => OwnV.off hZ o (fun b hb => hS b (hs b hb)) h⟩)
theorem OwnV.mono (s : Same H H') {k : Nat} {v : V} {d : PyData} {S : List Addr} (h : OwnV K k H v d S) : OwnV K k H' v d S := OwnV.off (Z := []) (fun _ h => by cases h) (OffZ.of s) (fun _ _ h => by cases h) h
theorem OwnsAll.off {k : Nat} (hZ : ∀ x ∈ Z, ∃ ys, H x = some (.lst ys)) (o : OffZ Z H H') {xs : List V} {ds : List PyData} {T : List Addr} (hT : ∀ a ∈ T, a ∉ Z) (h : OwnsAll (OwnV K k H) xs ds T) : OwnsAll (OwnV K k H') xs ds T :=
  h.imp fun x d S' h hs => OwnV.off hZ o (fun b hb => hT b (hs b hb)) h
theorem OwnsAll.mono {k : Nat} (s : Same H H') {xs : List V} {ds : List PyData} {T : List Addr} (h : OwnsAll (OwnV K k H) xs ds T) : OwnsAll (OwnV K k H') xs ds T := h.imp fun x d S' h hs => h.mono s
theorem OwnsAll.all {F : V → PyData → List Addr → Prop} {P : Addr → Prop} {xs : List V} {ds : List PyData} {T : List Addr} (h : OwnsAll F xs ds T) : (∀ x d S, F x d S → ∀ a ∈ S, P a) → ∀ a ∈ T, P a := by
  induction h with
  | nil => intro _ a ha; cases ha
  | cons f t n ih =>
    intro k a ha
    rcases List.mem_append.mp ha with h | h
    · exact k _ _ _ f a h
    · exact ih k a h
/-- as data -/
theorem OwnsAll.dpAll {F : V → PyData → List Addr → Prop} {xs : List V} {ds : List PyData} {T : List Addr} (h : OwnsAll F xs ds T) : (∀ x d S, F x d S → Dp K H x d) → DpAll K H xs ds := by
  induction h with
  | nil => intro _; exact .nil
  | cons f t n ih => intro k; exact .cons (k _ _ _ f) (ih k)
theorem OwnV.dp : ∀ {k : Nat} {v : V} {d : PyData} {S : List Addr}, OwnV K k H v d S → Dp K H v d
  | k + 1, v, d, S, .inl ⟨_, h, _⟩ => h
  | k + 1, v, d, S, .inr (.inl ⟨b, xs, ds, T, e1, e2, e3, e4, e5, e6, e7⟩) => by
    subst e1 e2
    exact .lst (SqL.of e3) (e7.dpAll fun x d S f => OwnV.dp f)
  | k + 1, v, d, S, .inr (.inr ⟨b, xs, ds, e1, e2, e3, e4, e5⟩) => by
    subst e1 e2
    exact .tup e3 (e5.dpAll fun x d S f => OwnV.dp f)
theorem OwnV.nodup_nil {k : Nat} {v : V} {d : PyData} (l : leafD d) (h : Dp K H v d) : OwnV K (k + 1) H v d [] := .inl ⟨l, h, rfl⟩
theorem OwnsAll.app {F : V → PyData → List Addr → Prop} {xs ys : List V} {ds es : List PyData} {S T : List Addr} (a : OwnsAll F xs ds S) (b : OwnsAll F ys es T) (n : ∀ x ∈ S, x ∉ T) : OwnsAll F (xs ++ ys) (ds ++ es) (S ++ T) := by
  induction a with
  | nil => exact b
  | @cons x xs d ds S1 S2 f t m ih =>
    rw [List.append_assoc]
    exact .cons f (ih fun x hx => n x (List.mem_append_right _ hx)) fun c hc hd => by
      rcases List.mem_append.mp hd with h | h
      · exact m c hc h
      · exact n c (List.mem_append_left _ hc) h
theorem OwnsAll.snoc {F : V → PyData → List Addr → Prop} {xs : List V} {ds : List PyData} {S T : List Addr} {y : V} {e : PyData} (a : OwnsAll F xs ds S) (b : F y e T) (n : ∀ x ∈ S, x ∉ T) : OwnsAll F (xs ++ [y]) (ds ++ [e]) (S ++ T) := by
  have h : OwnsAll F [y] [e] (T ++ []) := .cons b .nil fun _ _ h => by cases h
  rw [List.append_nil] at h
  exact a.app h n
/-- a thing without lists: it stays where lists change -/
def noList : PyData → Prop | .list _ => False | .tuple ds => ∀ d ∈ ds, leafD d | .dict _ => False | _ => True
end
end Hk
set_option Elab.async false
set_option linter.all false
set_option maxRecDepth 100000
namespace Hk
open L2
open PySem PySem.Spec PyProof.Rows
end Hk
set_option Elab.async false
set_option linter.all false
set_option maxRecDepth 100000
namespace Hk
open L2
open PySem PySem.Spec PyProof.Rows
section
variable {X : Cx}
def rCatR (K : PySem.W.Frag) : R2 := fun x y H Q => ∃ l b xs zs, x = .ref l ∧ y = .ref b ∧ SqL K H l xs ∧ SqL K H b zs ∧ xs.length + zs.length ≤ sizeLine ∧ ∀ p, H p = none → Q (.ref p) (upd H p (.lst (xs ++ zs)))
theorem op_catR : OpR X (binaryOp .Add) (rCatR X.K) := by
 refine Hk.hold ?_
 simp (disch := with_unfolding_all (
 exact Hk.disch (by
  intro pins s σ H x y v u Q I rx ry h
  obtain ⟨l, b, xs, zs, rfl, rfl, hH, hB, hz, q⟩ := h
  cases rx
  cases ry
  obtain ⟨its, r, pl, _⟩ := I.list hH
  obtain ⟨its2, r2, pl2, _⟩ := I.list hB
  obtain ⟨⟨cls, dd, data, sl⟩, ho, hc, n, hd⟩ := pl.isList
  obtain ⟨⟨cls2, dd2, data2, sl2⟩, ho2, hc2, n2, hd2⟩ := pl2.isList
  simp only at hc hd hc2 hd2
  subst hc hd hc2 hd2
  have hl := r.length
  have hl2 := r2.length
  have e : its.toArray ++ its2.toArray = (its ++ its2).toArray := by simp
  refine concat_meets ⟨_, ho, rfl⟩ ⟨_, ho2, rfl⟩ noFill_list_add seq_list_add PySem.F.slot_list_add PySem.F.entry_list_add (PySem.F.args_list_add_2 _ _)
    (list_addW l b its.toArray its2.toArray n n2 dd dd2 sl sl2 (by simp; omega)) ⟨ho, ho2, ?_⟩
  rw [e]
  exact ⟨.ref _, _, I.lnew (t' := s.toks) (r.append r2) (by rw [List.length_append]; omega), rfl, q _ I.fresh⟩))) only [↓Hk.hold_s]
end
end Hk
set_option Elab.async false
set_option linter.all false
set_option maxRecDepth 100000
set_option maxHeartbeats 4000000
namespace Hk
open PySem PySem.Spec PyProof.Rows L2
theorem meets_enum1 {v : Value} {o : Obj} {H : Heap → Prop} (B : Begins v o H) :
    Meets (Builtin.«enumerate.__new__» ⟨[.type "enumerate", v], []⟩) (fun _ R s => H s.heap ∧
      R (.ok (.ret (.ref (s.heap.push o).objs.size))) { s with heap := (s.heap.push o).push { cls := .type "enumerate", data := .fields #[.none, .bool false, .ref s.heap.objs.size, rawInt 0, .none, .none] } }) := by
 refine Hk.hold ?_
 simp (disch := with_unfolding_all (
 exact Hk.disch (.of_wp fun prog w A R s h => by
    obtain ⟨hp, g, d, tk, os⟩ := s; obtain ⟨h1, h⟩ := h
    have hsub := sub_enumerate
    have q1 : ∀ {A' : Around} {E : Value → Shared → Prop} {Q : Value → Shared → Prop}, Q (.ref hp.objs.size) ⟨hp.push o, g, d, tk, os⟩ → wpAny (model prog w) A' (pyIter v) Q E ⟨hp, g, d, tk, os⟩ :=
      fun q => B.iter prog w _ _ ⟨hp, g, d, tk, os⟩ _ h1 q
    wp_walk using q1
    refine wpAny_stack_any fun st => wpAny_pure ?_
    split
    · rename_i c _ _ _ _ _
      cases (c == Value.type "enumerate")
      · wp_walk using q1
        exact ⟨_, rfl, h⟩
      · wp_walk using q1
        exact ⟨_, rfl, h⟩
    · wp_walk using q1
      exact ⟨_, rfl, h⟩))) only [↓Hk.hold_s]
section
variable {prog : Program} {w : World} {A : Around} {E : Value → Shared → Prop} {s : Shared}
theorem call_enumT {t : Addr} {items : Array Value} {Q : Value → Shared → Prop} (ht : s.heap.IsTuple t items)
    (h : ∀ h', IsEnum h' (s.heap.objs.size + 1) s.heap.objs.size 0 .none → h'.IsTupleIter s.heap.objs.size t 0 → h'.objs.size = s.heap.objs.size + 2 →
      (∀ b o, s.heap.get? b = some o → h'.get? b = some o) → Q (.ref (s.heap.objs.size + 1)) { s with heap := h' }) :
    wpAny (model prog w) A (call (.type "enumerate") [.ref t]) Q E s := by
 refine Hk.hold ?_
 simp (disch := with_unfolding_all (
 exact Hk.disch (by
  refine callType_new F.called_enumerate (by decide) (F.typeCall_enumerate_1 _) (F.newCall_enumerate_1 _) (fun obj => F.args_object_init_2 obj _) F.entry_enumerate_new
    (meets_enum1 (begins_tuple t items)) ⟨ht, ?_⟩
  have hz : (s.heap.push { cls := .type "tuple_iterator", data := .fields #[.ref t, .int 0 0] }).objs.size = s.heap.objs.size + 1 := Heap.size_push ..
  show _ ∧ _
  rw [hz]
  have he : IsEnum ((s.heap.push { cls := .type "tuple_iterator", data := .fields #[.ref t, .int 0 0] }).push { cls := .type "enumerate", data := .fields #[.none, .bool false, .ref s.heap.objs.size, rawInt 0, .none, .none] }) (s.heap.objs.size + 1) s.heap.objs.size 0 .none := by
    have := Heap.get?_push_size (s.heap.push { cls := .type "tuple_iterator", data := .fields #[.ref t, .int 0 0] }) (o := { cls := .type "enumerate", data := .fields #[.none, .bool false, .ref s.heap.objs.size, rawInt 0, .none, .none] }) rfl
    rw [hz] at this; exact this
  refine ⟨⟨_, he, rfl⟩, h _ he ⟨_, Heap.get?_push_of_some _ (Heap.get?_push_size _ rfl), rfl, rfl⟩ (by rw [Heap.size_push, hz]) fun b o x => Heap.get?_push_of_some _ (Heap.get?_push_of_some _ x)⟩))) only [↓Hk.hold_s]
end
/-- the tuple at a, each item in a new pair -/
def IteT (K : PySem.W.Frag) (a : Addr) : It :=
  ⟨fun i H => ∃ (xs : List V) (x : V), SqT K H a xs ∧ xs[i]? = some x, fun i H v H' => ∃ T x, v = .ref T ∧ H T = none ∧ H' = upd H T (.tup [.int (i : Nat), x]) ∧ ∀ xs, SqT K H a xs → xs[i]? = some x, fun i H => ∃ xs : List V, SqT K H a xs ∧ xs.length ≤ i⟩
theorem turn_enumT {P : Program} {w : World} {K : PySem.W.Frag} {elts : List Expr} {kk : Nat} {tpos : Pos} (a e it : Addr) :
    Turn P w K (.Tuple elts kk tpos) (IteT K a) [e, it] e (fun i h => (∃ old, IsEnum h e it ((i : Nat) : Int) old) ∧ h.IsTupleIter it a i ∧ e ≠ it) where
  mem := by simp
  obj := fun i h st b hb => by
    obtain ⟨⟨old, he⟩, ⟨o, ho, hc, hd⟩, _⟩ := st
    have e' : b = e ∨ b = it := by simpa using hb
    rcases e' with z | z
    · rw [z]; exact ⟨_, he, fun v q => nomatch q⟩
    · rw [z]; exact ⟨o, ho, fun v q => by rw [hd] at q; cases q⟩
  keep := fun i h h' st k => let ⟨⟨old, he⟩, hi, hne⟩ := st; ⟨⟨old, k e (by simp) _ he⟩, hi.at fun o q => k it (by simp) o q, hne⟩
  item := by
    intro X hP hw hK hc i pins s σ H E I hf st hg
    subst hP hw hK
    obtain ⟨⟨old, he⟩, hit, hne⟩ := st
    obtain ⟨xs, x, hq, hx⟩ := hg
    obtain ⟨its, rv, p, hz⟩ := I.tuple hq
    obtain ⟨u, hu, ru⟩ := rv.get hx
    have hel : e < s.heap.objs.size := Heap.lt_size he
    have hil : it < s.heap.objs.size := by obtain ⟨_, q, _⟩ := hit; exact Heap.lt_size q
    have pt : s.heap.IsTuple a its.toArray := p
    have hat : a ≠ it := fun z => by
      subst z
      obtain ⟨o1, q1, c1, _⟩ := hit
      obtain ⟨o2, q2, c2, _⟩ := pt
      rw [q1] at q2
      cases q2
      rw [c1] at c2
      exact absurd c2 (by decide +kernel)
    have hae : e ≠ a := fun z => by
      subst z
      obtain ⟨o2, q2, c2, _⟩ := pt
      have q3 : s.heap.get? e = _ := he
      rw [q3] at q2
      cases q2
      have c3 : Value.type "enumerate" = Value.type "tuple" := c2
      exact absurd c3 (by decide +kernel)
    have D := Draws.tuple (prog := X.prog) (w := X.w) (A := X.A.in1) (I.ok.hd hc) it a hat its.toArray
    have ilt : i < its.toArray.size := by
      rw [List.size_toArray]
      exact (List.getElem?_eq_some_iff.mp hu).1
    refine wpAny_pyNext_enum_itemD D he ⟨hit, pt⟩ ilt hne (by simp [hne, hae]) fun y h' tk hP ho hs' hT hsz hk => ?_
    have ey : y = u := by
      have z1 : its[i]? = some y := by simpa using hP
      rw [hu] at z1
      exact (Option.some.inj z1).symm
    subst ey
    refine ⟨_, rfl, wpAny_letOwnedTupleGo_enum (s := { s with heap := h', toks := tk + 1 }) ho fun h'' he' sb => ?_⟩
    have hT2 : h''.get? s.heap.objs.size = some { cls := .type "tuple", data := .seq #[.int i tk, y] } := (sb.2 _ (Nat.ne_of_gt hel)).trans hT
    have new : ObjOk X.prog X.w (upd H s.heap.objs.size (.tup [.int (i : Nat), x])) h'' s.heap.objs.size (.tup [.int (i : Nat), x]) :=
      ⟨by show 2 ≤ sizeLine; decide, [.int i tk, y], .cons ⟨_, rfl⟩ (.cons ru .nil), ⟨_, hT2, rfl, _, rfl⟩⟩
    have I1 : Inv X pins σ (upd H s.heap.objs.size (.tup [.int (i : Nat), x])) { s with heap := h'', toks := tk + 1 } :=
      I.turnedNew (ch := [e, it]) (fun b ob hb q => (sb.2 b (fun z => hb (by simp [z]))).trans (hk b ob (fun z => hb (by simp [z])) (fun z => hb (by simp [z])) q)) hf (Nat.le_refl _) new
    refine ⟨.ref s.heap.objs.size, _, I1, rfl, ⟨_, x, rfl, I.hok.fresh (Nat.le_refl _), rfl, fun ys hy => by rw [I.tuple_inj hy hq]; exact hx⟩, ⟨⟨y, ?_⟩, hs'.1.at fun o q => (sb.2 it (Ne.symm hne)).trans q, hne⟩, fun b hb => ?_⟩
    · have e1 : ((i + 1 : Nat) : Int) = (i : Int) + 1 := by omega
      rw [e1]; exact he'
    · have hb' : b < s.heap.objs.size := by
        have e' : b = e ∨ b = it := by simpa using hb
        rcases e' with z | z
        · rw [z]; exact hel
        · rw [z]; exact hil
      rw [upd_ne (Nat.ne_of_lt hb')]
      exact (hf b hb).1
  done := by
    intro X hP hw hK hc i pins s σ H E I hf st hg
    subst hP hw hK
    obtain ⟨⟨old, he⟩, hit, hne⟩ := st
    obtain ⟨xs, hq, hx⟩ := hg
    obtain ⟨its, rv, p, hz⟩ := I.tuple hq
    obtain ⟨f0, f1, f2, f3, f4, f5⟩ := hf it (by simp)
    have hl := rv.length
    have hT : s.TypeIs (.ref e) "enumerate" := ⟨_, he, rfl⟩
    have hno : its.toArray[i]? = none := by simp; omega
    unfold pyNext
    refine wpAny_bind (wpAny_attempt (wpAny_callSpecial?_slot (name := Str.ofString "__next__") hT F.slot_enumerate_next
      (wpAny_call_entry F.slot_enumerate_next hT F.entry_enumerate_next ?_ (F.args_enumerate_next_1 _))))
    show wpAny _ _ (field (.ref e) 2 >>= _) _ _ _
    refine wpAny_bind (wpAny_field he rfl (x := .ref it) rfl ?_)
    refine wpAny_bind (wpAny_nextOf_tuple_end (I.ok.hd hc) hit (show s.heap.IsTuple a its.toArray from p) hno fun h' x he' hx' => ?_)
    obtain ⟨o, ho, hcc⟩ := hx'
    refine wpAny_bind (wpAny_isInstance (T := "StopIteration") (b := true) ⟨o, ho, hcc⟩ isSubtype_stop ?_)
    exact wpAny_pure ⟨rfl, I.turned (t' := s.toks) (fun b o hb q => he' b o hb q) f0 f1 f3 f4 f5⟩
  self := fun A i s Q E st h => let ⟨⟨_, he⟩, _⟩ := st; wpAny_pyIter_enum he h
def iEnumT (K : PySem.W.Frag) (ta : TA) : TI := fun σ H R => ta σ H fun vs H1 => ∃ a xs, vs = [.ref a] ∧ SqT K H1 a xs ∧ R (IteT K a) H1
theorem pi_enumT {X : Cx} {e : Expr} {ta : TA} {p pos tpos : Pos} {elts : List Expr} {kk : Nat} (hg : Gl X "enumerate") (hm : X.mg "enumerate" = none) (ha : PA X [e] ta) (hs : starEach [e] X.env = [(false, eval e X.env)] := by rfl) :
    PI X (.Tuple elts kk tpos) (.Call (.Name "enumerate" p) [e] [] pos) (iEnumT X.K ta) := by
 refine Hk.hold ?_
 simp (disch := with_unfolding_all (
 exact Hk.disch (by
  refine ⟨fun pins s σ H R I h => ?_⟩
  refine Call_ (ld_blt I hg hm boot_enumerate (PyProof.Rows.callWith_type1 (thn (ha.run pos pins s σ H _ I h) fun us s1 ⟨vs, H1, I1, r1, q1⟩ => ?_) hs rfl))
  obtain ⟨a, xs, ex, hq, q⟩ := q1
  subst ex
  cases r1 with
  | cons r rr =>
    cases rr
    cases r
    obtain ⟨its, rv, p', hz⟩ := I1.tuple hq
    refine call_enumT (show s1.heap.IsTuple a its.toArray from p') fun h' he hit hsz hk => wpAny_pyIter_enum he ?_
    have I2 : Inv X pins σ H1 { s1 with heap := h' } := I1.kept (t' := s1.toks) hk
    refine ⟨s1.heap.objs.size + 1, [s1.heap.objs.size + 1, s1.heap.objs.size], _, _, H1, rfl, I2, turn_enumT a (s1.heap.objs.size + 1) s1.heap.objs.size, ⟨⟨.none, he⟩, hit, Nat.succ_ne_self _⟩, fun b hb => ?_, q⟩
    have e' : b = s1.heap.objs.size + 1 ∨ b = s1.heap.objs.size := by simpa using hb
    have hle : s1.heap.objs.size ≤ b := by
      rcases e' with z | z
      · rw [z]; exact Nat.le_add_right _ _
      · rw [z]; exact Nat.le_refl _
    exact I1.fpOk hle (I1.hok.fresh hle)))) only [↓Hk.hold_s]
theorem walk_enumT {K : PySem.W.Frag} {a : Addr} {xs : List V} : L2.Walk (IteT K a) xs.length (fun H => SqT K H a xs) (YPair (fun i => some (.int (i : Nat))) (fun i => xs[i]?)) :=
  ⟨fun i H hi h => ⟨xs, xs[i], h, List.getElem?_eq_getElem hi⟩, fun H h => ⟨xs, h, Nat.le_refl _⟩, fun i H x H' hi h y => by
    obtain ⟨T, z, rfl, n, rfl, e⟩ := y
    exact ⟨T, _, z, rfl, n, rfl, rfl, e xs h⟩⟩
theorem q_lcT {K : PySem.W.Frag} {ta : TA} {g : TG} {tt : TT} {te : TE} {vs : List Nat} {σ : L2.St} {H : Hp} {Q : VK} (h : ta σ H fun ws H1 => ∃ a xs, ws = [.ref a] ∧ SqT K H1 a xs ∧ tLc (fun _ H2 R => R (IteT K a) H2) g tt te vs σ H1 Q) : tLc (iEnumT K ta) g tt te vs σ H Q := h
/-- what a comprehension with a test keeps: each item told by R -/
theorem lc_keep {J : It} {n : Nat} {G : Hp → Prop} {Y : Nat → Hp → V → Hp → Prop} {g : TG} {te : TE} {tt : TT} {vs : List Nat} {σ : L2.St} {H1 : Hp} {D : Addr} {Qd : Hp → Prop} (w : L2.Walk J n G Y) (p : Nat → Bool) (f : Nat → V) (hD : H1 D = none) (few : n < sizeLine) (hG : ∀ H', Same H1 H' → G H') (hY : ∀ i H x H', Y i H x H' → Same H H')
    (body : ∀ i x H' H2, i < n → Same H1 H' → Y i H' x H2 → ∀ Q' : Bool → L2.St → Hp → Prop, (∀ σ2 H3, Same H2 H3 → wipe σ2 vs = wipe σ vs → (∀ H4 (Q2 : VK), Same H2 H4 → p i = true → (∀ H5, Same H4 H5 → Q2 (f i) H5) → te σ2 H4 Q2) → Q' (p i) σ2 H3) → g x (wipe σ vs) H2 fun σ2 H3 => wipe σ2 vs = wipe σ vs ∧ tt σ2 H3 fun b H4 => Q' b σ2 H4)
    (done : ∀ H', Same H1 H' → H' D = some (.lst (((List.range n).filter p).map f)) → Qd H') :
    ∃ W : Nat → Nat → Hp → Prop, (∃ m, W 0 m (upd H1 D (.lst []))) ∧ ∀ i m H, W i m H →
      (J.stop i H ∧ Qd H) ∨ (J.go i H ∧ ∃ Nx : Hp → Prop, (∀ H', Nx H' → ∃ m', m' < m ∧ W (i + 1) m' H') ∧ ∀ x H', J.yld i H x H' → g x (wipe σ vs) H' fun σ2 H2 => wipe σ2 vs = wipe σ vs ∧ tt σ2 H2 fun b H3 =>
        if b = true then te σ2 H3 fun y H4 => ∃ acc, H4 D = some (.lst acc) ∧ acc.length < sizeLine ∧ Nx (upd H4 D (.lst (acc ++ [y]))) else Nx H3) := by
 refine Hk.hold ?_
 simp (disch := with_unfolding_all (
 exact Hk.disch (by
  refine ⟨fun i m H => m = n - i ∧ i ≤ n ∧ Same H1 H ∧ H D = some (.lst (((List.range i).filter p).map f)), ⟨n, by simp, Nat.zero_le _, same_new hD, by rw [upd_same]; rfl⟩, ?_⟩
  rintro i m H ⟨rfl, hi, s1, eD⟩
  by_cases hlt : i < n
  · refine .inr ⟨w.goes i H hlt (hG H s1), fun H' => i + 1 ≤ n ∧ Same H1 H' ∧ H' D = some (.lst (((List.range (i + 1)).filter p).map f)), fun H' z => ⟨n - (i + 1), by omega, rfl, z⟩, fun x H' y => ?_⟩
    have yy := w.yields i H x H' hlt (hG H s1) y
    have s2 := hY i H x H' yy
    refine body i x H H' hlt s1 yy (fun b σ2 H3 => if b = true then te σ2 H3 fun y H4 => ∃ acc, H4 D = some (.lst acc) ∧ acc.length < sizeLine ∧ (i + 1 ≤ n ∧ Same H1 (upd H4 D (.lst (acc ++ [y]))) ∧ upd H4 D (.lst (acc ++ [y])) D = some (.lst (((List.range (i + 1)).filter p).map f))) else i + 1 ≤ n ∧ Same H1 H3 ∧ H3 D = some (.lst (((List.range (i + 1)).filter p).map f))) fun σ2 H3 s3 ew k => ?_
    rw [List.range_succ, List.filter_append]
    by_cases hp : p i = true
    · rw [if_pos hp]
      refine k H3 _ s3 hp fun H5 s5 => ?_
      have e5 := s5 _ _ (s3 _ _ (s2 _ _ eD))
      refine ⟨_, e5, ?_, hlt, fun b o h => ?_, ?_⟩
      · rw [List.length_map]
        have z := List.length_filter_le p (List.range i)
        rw [List.length_range] at z
        omega
      · rw [upd_ne (ne_of_none h hD)]
        exact s5 _ _ (s3 _ _ (s2 _ _ (s1 _ _ h)))
      · rw [upd_same, List.map_append]
        simp [hp]
    · have hpf : p i = false := by simpa using hp
      rw [if_neg hp]
      refine ⟨hlt, s1.trans (s2.trans s3), ?_⟩
      rw [s3 _ _ (s2 _ _ eD)]
      simp [hpf]
  · have e : i = n := by omega
    subst e
    exact .inl ⟨w.stops H (hG H s1), done H s1 eD⟩))) only [↓Hk.hold_s]
end Hk
set_option Elab.async false
set_option linter.all false
set_option maxRecDepth 100000
set_option maxHeartbeats 4000000
namespace Hk
open PySem PySem.Spec PyProof.Rows L2
theorem zip_lookup : ∀ {ps : List Str} {us : List Value}, us.length = ps.length → ∀ n ∈ ps, ((ps.zip us).lookup n).isSome = true
  | [], _, _, n, h => by simp at h
  | p :: ps, [], l, _, _ => by simp at l
  | p :: ps, u :: us, l, n, h => by
    rw [List.zip_cons_cons, List.lookup_cons]
    cases e : n == p with
    | true => rfl
    | false =>
      have h2 : n ∈ ps := by
        rcases List.mem_cons.mp h with rfl | h
        · simp at e
        · exact h
      exact zip_lookup (by simpa using l) n h2
theorem fm_congr {α β : Type} {f g : α → Option β} : ∀ {l : List α}, (∀ x ∈ l, f x = g x) → l.filterMap f = l.filterMap g
  | [], _ => rfl
  | x :: l, h => by rw [List.filterMap_cons, List.filterMap_cons, h x List.mem_cons_self, fm_congr fun y hy => h y (List.mem_cons_of_mem _ hy)]
theorem zip_back : ∀ {ps : List Str} {us : List Value}, us.length = ps.length → ps.Nodup → (ps.filterMap fun n => ((ps.zip us).lookup n).map (n, ·)) = ps.zip us
  | [], us, l, _ => rfl
  | p :: ps, [], l, _ => by simp at l
  | p :: ps, u :: us, l, nd => by
    rw [List.nodup_cons] at nd
    rw [List.zip_cons_cons, List.filterMap_cons]
    simp only [List.lookup_cons, beq_self_eq_true, Option.map_some]
    congr 1
    have ih := zip_back (ps := ps) (us := us) (by simpa using l) nd.2
    refine Eq.trans (fm_congr fun n hn => ?_) ih
    have ne : (n == p) = false := by
      cases e : n == p with
      | false => rfl
      | true => exact absurd (by rw [← eq_of_beq e]; exact hn) nd.1
    rw [ne]
theorem bindArgs_plain {fd : FuncData} {as : List Arg} {us : List Value} (hp : fd.params = ⟨[], as, none, [], [], none, []⟩) (hd : fd.defaults = .none) (nd : (as.map (·.arg)).Nodup) (l : us.length = (as.map (·.arg)).length) : bindArgs fd ⟨us, []⟩ = pure ((as.map (·.arg)).zip us) := by
 refine Hk.hold ?_
 simp (disch := with_unfolding_all (
 exact Hk.disch (by
  have e1 : (List.filter (fun n => (((as.map (·.arg)).zip us).lookup n).isNone) (List.take (as.map (·.arg)).length (as.map (·.arg)))) = [] := by
    rw [List.take_length, List.filter_eq_nil_iff]
    intro n hn
    have z := zip_lookup l n hn
    rw [Option.isSome_iff_ne_none] at z
    simp [Option.isNone_iff_eq_none, z]
  have e2 := zip_back l nd
  have e3 : notAStandIn Value.none = pure () := rfl
  unfold bindArgs
  rw [hp, hd]
  simp only [List.map_nil, List.nil_append, List.append_nil, l, Nat.lt_irrefl, gt_iff_lt, Bool.false_and, decide_false, seqItems?, e3, pure_bind, Option.getD_none, List.drop_nil, List.length_nil, Nat.sub_zero, List.zip_nil_right, List.forIn_nil, e1, List.isEmpty_nil, Bool.not_true, e2, Bool.false_eq_true, if_false]))) only [↓Hk.hold_s]
theorem _root_.L2.Fun.bindsP {K : PySem.W.Frag} {x qual : Str} {st : Stmt} {f : Addr} {fd : FuncData} {as : List Arg} {ps : List Str} (F : Fun K x qual st f fd) (h : defArgs st = ⟨[], as, none, [], [], none, []⟩) (hp : as.map (·.arg) = ps) (nd : ps.Nodup) : Binds K fd ps [] :=
  F.binds fun kV doc pm an cdv ct us hl => by
    subst hp
    exact bindArgs_plain (fd := PySem.W.fnOf x qual (defArgs st) (defBody st) (defScope st) .none kV doc pm an cdv ct) h rfl nd hl
end Hk
set_option Elab.async false
set_option linter.all false
set_option maxRecDepth 100000
set_option maxHeartbeats 4000000
namespace Hk
open PySem PySem.Spec PyProof.Rows L2
theorem str_cps {a b : Str} (h : a.cps.toList = b.cps.toList) : a = b := by
  cases a with | _ x => cases b with | _ y => cases x; cases y; cases h; rfl
theorem cps_tri (a b : Str) : a.cps.toList < b.cps.toList ∨ a = b ∨ b.cps.toList < a.cps.toList := by
  by_cases h1 : a.cps.toList < b.cps.toList
  · exact .inl h1
  · by_cases h2 : b.cps.toList < a.cps.toList
    · exact .inr (.inr h2)
    · exact .inr (.inl (str_cps (List.le_antisymm (List.not_lt.mp h2) (List.not_lt.mp h1))))
def ltWIp (a b : Str × Int) : Prop := a.1.cps.toList < b.1.cps.toList ∨ (a.1 = b.1 ∧ a.2 < b.2)
theorem ltWI_iff {a b : Str × Int} : ltWI a b = true ↔ ltWIp a b := by
  unfold ltWI ltWIp
  by_cases e : a.1 = b.1
  · rw [if_pos e, decide_eq_true_eq, e]
    have n := List.lt_irrefl b.1.cps.toList
    exact ⟨fun h => .inr ⟨rfl, h⟩, fun h => h.elim (fun z => absurd z n) (·.2)⟩
  · rw [if_neg e, decide_eq_true_eq]
    exact ⟨.inl, fun h => h.elim id fun z => absurd z.1 e⟩
theorem ltWI_no {a b : Str × Int} : ltWI a b = false ↔ ¬ ltWIp a b := by
  rw [← ltWI_iff]; cases ltWI a b <;> simp
theorem ltWIp_irrefl (a : Str × Int) : ¬ ltWIp a a := fun h => h.elim (List.lt_irrefl _) fun z => Int.lt_irrefl _ z.2
theorem ltWIp_trans {a b c : Str × Int} (h1 : ltWIp a b) (h2 : ltWIp b c) : ltWIp a c := by
  rcases h1 with h1 | ⟨e1, h1⟩
  · rcases h2 with h2 | ⟨e2, h2⟩
    · exact .inl (List.lt_trans h1 h2)
    · exact .inl (by rw [← e2]; exact h1)
  · rcases h2 with h2 | ⟨e2, h2⟩
    · exact .inl (by rw [e1]; exact h2)
    · exact .inr ⟨e1.trans e2, by omega⟩
theorem ltWIp_tri (a b : Str × Int) : ltWIp a b ∨ a = b ∨ ltWIp b a := by
  rcases cps_tri a.1 b.1 with h | h | h
  · exact .inl (.inl h)
  · rcases Int.lt_trichotomy a.2 b.2 with i | i | i
    · exact .inl (.inr ⟨h, i⟩)
    · exact .inr (.inl (Prod.ext h i))
    · exact .inr (.inr (.inr ⟨h.symm, i⟩))
  · exact .inr (.inr (.inl h))
theorem ltWIp_ge {a b c : Str × Int} (h1 : ¬ ltWIp b a) (h2 : ¬ ltWIp c b) : ¬ ltWIp c a := by
  intro h
  rcases ltWIp_tri a b with z | z | z
  · rcases ltWIp_tri b c with y | y | y
    · exact ltWIp_irrefl _ (ltWIp_trans h (ltWIp_trans z y))
    · subst y; exact ltWIp_irrefl _ (ltWIp_trans h z)
    · exact h2 y
  · subst z; exact h2 h
  · exact h1 z
theorem swo_WI {α : Type} (k : α → Str × Int) : SrtO.Swo fun v u => ltWI (k v) (k u) :=
  ⟨fun x y h => ltWI_no.mpr fun z => ltWIp_irrefl _ (ltWIp_trans (ltWI_iff.mp h) z), fun x y z h1 h2 => ltWI_no.mpr (ltWIp_ge (ltWI_no.mp h1) (ltWI_no.mp h2))⟩
def IsWI (h : Heap) (v : Value) (p : Str × Int) : Prop := ∃ a o t u n, v = .ref a ∧ h.get? a = some o ∧ o.cls = .type "tuple" ∧ o.data = .seq #[.str p.1 t, .int p.2 u] n
theorem IsWI.keeps {h h' : Heap} {v : Value} {q : Str × Int} (p : IsWI h v q) (k : ∀ b o, h.get? b = some o → o.cls = .type "tuple" → h'.get? b = some o) : IsWI h' v q := by
  obtain ⟨a, o, t, u, n, e, ho, hc, hd⟩ := p
  exact ⟨a, o, t, u, n, e, k _ _ ho hc, hc, hd⟩
section
variable {prog : Program} {w : World} {A : Around} {E : Value → Shared → Prop} {s : Shared}
theorem wi_cmp {vs : List Value} {k : Value → Str × Int} (hp : ∀ v ∈ vs, IsWI s.heap v (k v)) : SrtO.Cmp prog w A s (tuples' true) (fun p => p.1 ∈ vs) (SrtO.lt2 fun v u => ltWI (k v) (k u)) := by
 refine Hk.hold ?_
 simp (disch := with_unfolding_all (
 exact Hk.disch (by
  intro p q hm hm'
  have h1 := hp _ hm
  have h2 := hp _ hm'
  show wpAny (model prog w) A (keyLt' (tuples' true) p.1 q.1) (fun r s' => s' = s ∧ r = ltWI (k p.1) (k q.1)) (fun _ _ => False) s
  unfold ltWI
  generalize (k p.1) = kx at h1 ⊢
  generalize (k q.1) = ky at h2 ⊢
  obtain ⟨x, y⟩ := kx
  obtain ⟨x', y'⟩ := ky
  obtain ⟨a, o, t, u, n, e, ho, hc, hd⟩ := h1
  obtain ⟨a', o', t', u', n', e', ho', hc', hd'⟩ := h2
  rw [e, e']
  refine PySem.W.kat_lt ho hd ho' hd' ?_
  show PySem.W.KatLex prog w A true (decide (2 < 2)) _ [(.str x t, .str x' t'), (.int y u, .int y' u')] 0 s
  refine PySem.W.kat_cons (SeqAt.EqAt.str_str x t x' t' prog w _ _ ?_)
  refine PySem.W.kat_go (fun e1 => ?_) (fun e1 => ?_)
  · have ex : x = x' := by simpa using e1
    refine PySem.W.kat_yes (PySem.W.kat_cons (SeqAt.EqAt.int_int y u y' u' prog w _ _ ?_))
    refine PySem.W.kat_go (fun e2 => ?_) (fun e2 => ?_)
    · have ey : y = y' := by simpa using e2
      have e3 : (if x = x' then decide (y < y') else decide (x.cps.toList < x'.cps.toList)) = false := by
        rw [if_pos ex, ey]
        exact decide_eq_false (Int.lt_irrefl _)
      exact PySem.W.kat_yes (PySem.W.kat_nil ⟨rfl, e3.symm⟩)
    · have e3 : (if x = x' then decide (y < y') else decide (x.cps.toList < x'.cps.toList)) = decide (y < y') := if_pos ex
      refine PySem.W.kat_no (PySem.W.kat_one _ _ (PyProof.Rows.lt_int ?_))
      exact (show s = s ∧ decide (y < y') = (if x = x' then decide (y < y') else decide (x.cps.toList < x'.cps.toList)) from ⟨rfl, e3.symm⟩)
  · have ex : ¬ x = x' := by simpa using e1
    have e3 : (if x = x' then decide (y < y') else decide (x.cps.toList < x'.cps.toList)) = decide (x.cps.toList < x'.cps.toList) := if_neg ex
    exact PySem.W.kat_no (oneLt_str ⟨rfl, e3.symm⟩)))) only [↓Hk.hold_s]
theorem wi_firsts {h : Heap} {k : Value → Str × Int} : ∀ {vs : List Value}, (∀ v ∈ vs, IsWI h v (k v)) → ∃ fs : List Value, PySem.W.KatTups h vs fs ∧ fs.length = vs.length ∧ ∀ f ∈ fs, ∃ x t, f = Value.str x t
  | [], _ => ⟨[], PySem.W.KatTups.nil, rfl, fun _ hm => by simp at hm⟩
  | v :: vs, hp => by
    obtain ⟨fs, h1, h2, h3⟩ := wi_firsts (vs := vs) fun v' hm => hp v' (List.mem_cons_of_mem _ hm)
    obtain ⟨a, o, t, u, n, e, ho, hc, hd⟩ := hp v (List.mem_cons_self ..)
    subst e
    refine ⟨.str _ t :: fs, PySem.W.KatTups.cons ho hc hd rfl h1, by rw [List.length_cons, List.length_cons, h2], fun f hm => ?_⟩
    rcases List.mem_cons.mp hm with rfl | hm
    · exact ⟨_, t, rfl⟩
    · exact h3 f hm
theorem wi_sortable {a : Addr} {vs : List Value} {k : Value → Str × Int} (h0 : 0 < vs.length) (hp : ∀ v ∈ vs, IsWI s.heap v (k v)) (ha : ∀ o, s.heap.get? a = some o → o.cls ≠ .type "tuple") : SrtO.SortableO prog w A s a vs fun v u => ltWI (k v) (k u) := by
  intro h' keep
  have hp' : ∀ v ∈ vs, IsWI h' v (k v) := fun v hm => (hp v hm).keeps fun b o e c => keep b o (fun z => by subst z; exact ha o e c) e
  obtain ⟨fs, h1, h2, h3⟩ := wi_firsts hp'
  refine ⟨tuples' true, fun Q E hq => ?_, wi_cmp hp'⟩
  refine PySem.W.kat_kind (T := .type "str") h1 (by omega) (fun f hm => ?_) (by rfl) ?_
  · obtain ⟨x, t, rfl⟩ := h3 f hm
    exact PySem.W.Looks.now
  · have e : (Value.type "str" != Value.type "tuple") = true := by first | decide +kernel | rfl | decide
    rw [e]
    exact hq
/-- sorted(l), l a list or a tuple of pairs (text, int) -/
theorem sorted_wi {l : Addr} {T : String} {o : Obj} {n : Nat} {vs : List Value} {k : Value → Str × Int} {Q : Value → Shared → Prop} (hT : T = "list" ∨ T = "tuple") (ho : s.heap.get? l = some o) (hc : o.cls = .type T) (hd : o.data = .seq vs.toArray n) (hz : vs.length ≤ sizeLine) (hp : ∀ v ∈ vs, IsWI s.heap v (k v))
    (h : ∀ (h' : Heap) (d : Addr) (out : List Value), SrtO.Srtd (fun v u => ltWI (k v) (k u)) out → out.Perm vs → (∀ b o, s.heap.get? b = some o → h'.get? b = some o) → s.heap.get? d = none → (∀ H : Hp, HOk prog w H s.heap → H d = none) → (∃ n, h'.get? d = some (seqObj "list" out.toArray n)) → Q (.ref d) { s with heap := h' }) :
    wpAny (model prog w) A (call (.builtin "sorted") [.ref l]) Q E s := by
 refine Hk.hold ?_
 simp (disch := with_unfolding_all (
 exact Hk.disch (by
  refine Calls.call_function_entry kind_sorted plain_sorted entry_sorted (args_sorted1 _) ?_
  unfold Builtin.«sorted»
  refine wpAny_bind (m := checkCount "sorted" 1 1 _) (wpAny_pure ?_)
  refine wpAny_bind (wpAny_collect_seq (items := vs.toArray) l hT ho hc hd (fun h1 k1 => ?_) (by rw [List.size_toArray]; exact hz))
  refine wpAny_bind (wpAny_newList ?_ hz)
  have hoL : (h1.push (seqObj "list" vs.toArray 0)).get? h1.objs.size = some (seqObj "list" vs.toArray 0) := Heap.get?_push_size _ rfl
  have hsn : s.heap.get? h1.objs.size = none := by
    cases e : s.heap.get? h1.objs.size with
    | none => rfl
    | some u => exact absurd (Heap.lt_size (k1 _ _ e)) (Nat.lt_irrefl _)
  have old : ∀ b u, s.heap.get? b = some u → b ≠ h1.objs.size ∧ (h1.push (seqObj "list" vs.toArray 0)).get? b = some u := fun b u e =>
    ⟨fun z => (by rw [z, hsn] at e; cases e), Heap.get?_push_of_some _ (k1 _ _ e)⟩
  show wpAny _ _ _ _ _ { s with heap := h1.push (seqObj "list" vs.toArray 0) }
  refine wpAny_bind (wpAny_holding (wpAny_call_entry slot_list_sort ⟨_, hoL, rfl⟩ entry_list_sort (SrtO.list_sort_ord (swo_WI k) hoL hz (fun h2 => ?_) fun out hs hb => ⟨_, rfl, ?_⟩) (args_list_sort _)))
  · refine wi_sortable (s := { s with heap := h1.push (seqObj "list" vs.toArray 0) }) (by omega) (fun v hv => (hp v hv).keeps fun b u e _ => (old b u e).2) fun u e c => ?_
    obtain rfl : u = seqObj "list" vs.toArray 0 := Option.some.inj (e.symm.trans hoL)
    exact absurd (Value.type.inj c) (by decide)
  · refine wpAny_pure ⟨_, rfl, h _ _ out hs hb.perm (fun b u e => ?_) hsn (fun H ok => (ok.kept k1).fresh (Nat.le_refl _)) (sortedHeap_at hoL)⟩
    obtain ⟨e1, e2⟩ := old b u e
    exact (sortedHeap_old e1 (Heap.lt_size e2)).trans e2))) only [↓Hk.hold_s]
end
abbrev Rt := Str × Int
def leR (a b : Rt) : Bool := !ltWI b a
def srt (l : List Rt) : List Rt := l.mergeSort leR
theorem leR_iff {a b : Rt} : leR a b = true ↔ ¬ ltWIp b a := by
  unfold leR
  rw [Bool.not_eq_true', ltWI_no]
theorem srt_perm (l : List Rt) : (srt l).Perm l := List.mergeSort_perm l leR
theorem srt_pw (l : List Rt) : (srt l).Pairwise fun a b => ¬ ltWIp b a :=
  (List.pairwise_mergeSort (le := leR) (fun a b c h1 h2 => leR_iff.mpr (ltWIp_ge (leR_iff.mp h1) (leR_iff.mp h2))) (fun a b => by
    rcases ltWIp_tri a b with h | h | h
    · have : leR a b = true := leR_iff.mpr fun z => ltWIp_irrefl _ (ltWIp_trans h z)
      rw [this]; rfl
    · subst h
      have : leR a a = true := leR_iff.mpr (ltWIp_irrefl a)
      rw [this]; rfl
    · have : leR b a = true := leR_iff.mpr fun z => ltWIp_irrefl _ (ltWIp_trans h z)
      rw [this, Bool.or_true]) l).imp fun h => leR_iff.mp h
theorem pw_uniq : ∀ {l m : List Rt}, l.Perm m → (l.Pairwise fun a b => ¬ ltWIp b a) → (m.Pairwise fun a b => ¬ ltWIp b a) → l = m
  | [], m, p, _, _ => (List.Perm.eq_nil p.symm).symm
  | x :: l, [], p, _, _ => absurd p.length_eq (by simp)
  | x :: l, y :: m, p, hl, hm => by
    obtain ⟨l1, l2⟩ := List.pairwise_cons.mp hl
    obtain ⟨m1, m2⟩ := List.pairwise_cons.mp hm
    have h1 : ¬ ltWIp x y := by
      rcases List.mem_cons.mp (p.mem_iff.mp (List.mem_cons_self (a := x))) with e | hx
      · rw [e]; exact ltWIp_irrefl y
      · exact m1 x hx
    have h2 : ¬ ltWIp y x := by
      rcases List.mem_cons.mp (p.mem_iff.mpr (List.mem_cons_self (a := y))) with e | hy
      · rw [e]; exact ltWIp_irrefl x
      · exact l1 y hy
    have e : x = y := by
      rcases ltWIp_tri x y with z | z | z
      · exact absurd z h1
      · exact z
      · exact absurd z h2
    subst e
    rw [pw_uniq p.cons_inv l2 m2]
theorem srt_eq {l m : List Rt} (p : l.Perm m) (h : l.Pairwise fun a b => ¬ ltWIp b a) : l = srt m := pw_uniq (p.trans (srt_perm m).symm) h (srt_pw m)
def PairR (K : PySem.W.Frag) (H : Hp) (x : V) (r : Rt) : Prop := ∃ t, x = V.ref t ∧ SqT K H t [.str r.1, .int r.2]
/-- sorted(xs), xs a list or a tuple of pairs (text, int): a new list -/
def rSortedR (K : PySem.W.Frag) : List V → Hp → VK → Prop := fun vs H Q => ∃ (a : Addr) (xs : List V) (l : List Rt), vs = [V.ref a] ∧ (SqL K H a xs ∨ SqT K H a xs) ∧ Paired (PairR K H) xs l ∧
  ∀ ys p, Paired (PairR K H) ys (srt l) → H p = none → Q (.ref p) (upd H p (.lst ys))
theorem paired_mem {α β : Type} {P : α → β → Prop} {xs : List α} {l : List β} (h : Paired P xs l) : ∀ x ∈ xs, ∃ r, P x r := by
  induction h with
  | nil => intro x hx; cases hx
  | cons a t ih =>
    intro x hx
    rcases List.mem_cons.mp hx with e | hx
    · rw [e]; exact ⟨_, a⟩
    · exact ih x hx
theorem paired_map {α β : Type} {P : α → β → Prop} {k : α → β} (u : ∀ x r, P x r → k x = r) {xs : List α} {l : List β} (h : Paired P xs l) : xs.map k = l := by
  induction h with
  | nil => rfl
  | cons a t ih => rw [List.map_cons, u _ _ a, ih]
theorem paired_of {α β : Type} {P : α → β → Prop} {k : α → β} : ∀ {xs : List α}, (∀ x ∈ xs, P x (k x)) → Paired P xs (xs.map k)
  | [], _ => .nil
  | x :: r, h => .cons (h x List.mem_cons_self) (paired_of fun y hy => h y (List.mem_cons_of_mem _ hy))
section
variable {X : Cx}
theorem cr_sortedR : CallR X (.builtin "sorted") (rSortedR X.K) := by
 refine Hk.hold ?_
 simp (disch := with_unfolding_all (
 exact Hk.disch (by
  rintro pins s σ H vs us Q I r ⟨a, xs, l, rfl, hs, hx, q⟩
  obtain ⟨u, rfl, ru⟩ := vals1 r
  obtain rfl : u = Value.ref a := ru
  have inj : ∀ x (r r' : Rt), PairR X.K H x r → PairR X.K H x r' → r = r' := fun x r r' ⟨t, e, h1⟩ ⟨t', e', h2⟩ => by
    subst e
    cases e'
    have e := I.tuple_inj h1 h2
    exact Prod.ext (V.str.inj (List.cons.inj e).1) (V.int.inj (List.cons.inj (List.cons.inj e).2).1)
  obtain ⟨k, hk⟩ : ∃ k : V → Rt, ∀ x r, PairR X.K H x r → k x = r := by
    refine ⟨fun x => (Classical.epsilon fun r => PairR X.K H x r), fun x r h => ?_⟩
    exact inj x _ _ (Classical.epsilon_spec (p := fun r => PairR X.K H x r) ⟨r, h⟩) h
  have hxk : ∀ x ∈ xs, PairR X.K H x (k x) := fun x m => by
    obtain ⟨r, hr⟩ := paired_mem hx x m
    rw [hk x r hr]; exact hr
  obtain ⟨its, T, o, n, rv, hz, hT, ho, hc, hd⟩ : ∃ (its : List Value) (T : String) (o : Obj) (n : Nat), Vals xs its ∧ xs.length ≤ sizeLine ∧ (T = "list" ∨ T = "tuple") ∧ s.heap.get? a = some o ∧ o.cls = .type T ∧ o.data = .seq its.toArray n := by
    rcases hs with hs | hs
    · obtain ⟨its, rv, ⟨o, n, h1, h2, _, h3⟩, hz⟩ := I.list hs
      exact ⟨its, "list", o, n, rv, hz, .inl rfl, h1, h2, h3⟩
    · obtain ⟨its, rv, ⟨o, h1, h2, n, h3⟩, hz⟩ := I.tuple hs
      exact ⟨its, "tuple", o, n, rv, hz, .inr rfl, h1, h2, h3⟩
  obtain ⟨e1, e2⟩ := refs_back rv fun x m => by
    obtain ⟨t, e, _⟩ := hxk x m
    exact ⟨t, e⟩
  refine sorted_wi (k := fun u => k (backV u)) hT ho hc hd (by rw [← rv.length]; exact hz) (fun v hv => ?_) fun h' d out h1 h2 kp hd1 hd2 hn => ?_
  · obtain ⟨t, rfl⟩ := e2 v hv
    have hm : V.ref t ∈ xs := by rw [e1]; exact List.mem_map.mpr ⟨_, hv, rfl⟩
    obtain ⟨t', e, ht⟩ := hxk _ hm
    cases e
    obtain ⟨its2, r2, ⟨o2, p1, p2, n2, p3⟩, _⟩ := I.tuple ht
    obtain ⟨t1, t2, rfl⟩ := vals_si r2
    exact ⟨t, o2, t1, t2, n2, rfl, p1, p2, p3⟩
  · have h3 : ∀ u ∈ out, ∃ a, u = Value.ref a := fun u hu => e2 u (h2.mem_iff.mp hu)
    obtain ⟨m, hm⟩ := hn
    have hb : (out.map backV).Perm xs := by rw [e1]; exact h2.map backV
    have hp : Paired (PairR X.K H) (out.map backV) (srt l) := by
      have e3 : (out.map backV).map k = srt l := by
        refine srt_eq ?_ (List.pairwise_map.mpr (List.pairwise_map.mpr (h1.imp fun z => ltWI_no.mp z)))
        rw [← paired_map hk hx]
        exact hb.map k
      rw [← e3]
      exact paired_of fun x m => hxk x (hb.mem_iff.mp m)
    exact ⟨.ref d, upd H d (.lst (out.map backV)), I.laidN (t' := s.toks) kp hd1 (hd2 H I.hok) ⟨by rw [hb.length_eq]; exact hz, out, m, vals_back h3, hm⟩, rfl, q _ d hp (hd2 H I.hok)⟩))) only [↓Hk.hold_s]
end
end Hk
set_option Elab.async false
set_option linter.all false
set_option maxRecDepth 100000
set_option maxHeartbeats 4000000
namespace Hk
open PySem PySem.Spec PyProof.Rows L2
end Hk
set_option Elab.async false
set_option linter.all false
set_option maxRecDepth 100000
set_option maxHeartbeats 4000000
namespace Hk
open PySem PySem.Spec PyProof.Rows L2
end Hk
set_option Elab.async false
set_option linter.all false
set_option maxRecDepth 100000
set_option maxHeartbeats 4000000
namespace Hk
open PySem PySem.Spec PyProof.Rows L2
section
variable {X : Cx}
/-- repr(x), x a list or a tuple of data -/
def rShow (K : PySem.W.Frag) (n : Nat) : List V → Hp → VK → Prop := fun vs H Q => ∃ (a : Addr) (d : PyData), vs = [.ref a] ∧ Dp K H (.ref a) d ∧ d.showable = true ∧ d.hasDict = false ∧ d.shown.length ≤ sizeLine ∧ d.depth ≤ n ∧ Q (.str d.shown) H
theorem cr_show {n : Nat} (gn : X.A.guards = some []) (hu : X.A.units + (n + 1) < cLine) : CallR X (.builtin "repr") (rShow X.K n) := by
  rintro pins s σ H vs us Q I r ⟨a, d, rfl, hd, h1, h2, h3, h4, q⟩
  obtain ⟨u, rfl, ru⟩ := r.one
  obtain rfl : u = Value.ref a := ru
  obtain ⟨as, rd⟩ := Dp.reads I d _ _ hd rfl
  exact repr_of_reads' rd h1 (PyData.noDict_hsm h2) gn (by omega) (fun _ _ e => e) (fun h' u tk hk => ⟨.str d.shown, H, I.kept (t' := tk) hk, ⟨u, rfl⟩, q⟩) h3
end
/-- d's text is of n signs at most and can be told; d is k deep at most -/
structure Shw (d : PyData) (n k : Nat) : Prop where
  len : d.shown.length ≤ n
  can : d.showable = true
  lay : d.canLay0 = true
  dep : d.depth ≤ k
theorem Shw.mono {d : PyData} {m n j k : Nat} (h : Shw d m j) (l : m ≤ n) (l2 : j ≤ k) : Shw d n k := ⟨Nat.le_trans h.len l, h.can, h.lay, Nat.le_trans h.dep l2⟩
theorem shw_non : Shw .none 5 0 := ⟨by decide +kernel, by simp only [PyData.showable], rfl, by simp [PyData.depth]⟩
theorem shw_bl (b : Bool) : Shw (.bool b) 5 0 := by cases b <;> exact ⟨by decide +kernel, by simp only [PyData.showable], rfl, by simp [PyData.depth]⟩
theorem shw_str {x : Str} {n : Nat} (h : PyData.strOk x = true) (l : (reprText x).length ≤ n) : Shw (.str x) n 0 := ⟨by simp only [PyData.shown]; exact l, by simp only [PyData.showable], h, by simp [PyData.depth]⟩
theorem shw_nat : ∀ k ∈ List.range 100, (PyData.int (Int.ofNat k)).shown.length ≤ 5 ∧ (PyData.int (Int.ofNat k)).showable = true := by decide +kernel
theorem shw_int {i : Int} (h0 : 0 ≤ i) (h1 : i < 100) : Shw (.int i) 5 0 := by
  obtain ⟨k, rfl⟩ : ∃ k : Nat, i = Int.ofNat k := ⟨i.toNat, by simp; omega⟩
  have z := shw_nat k (List.mem_range.mpr (by have : ((k : Nat) : Int) < 100 := h1; omega))
  exact ⟨z.1, z.2, rfl, by simp [PyData.depth]⟩
theorem can_all : ∀ {ds : List PyData}, (∀ d ∈ ds, d.showable = true) → PyData.showableAll ds = true
  | [], _ => by simp only [PyData.showableAll]
  | d :: ds, h => by
    simp only [PyData.showableAll]
    rw [h d List.mem_cons_self, can_all fun e he => h e (List.mem_cons_of_mem _ he)]; rfl
theorem lay_all : ∀ {ds : List PyData}, (∀ d ∈ ds, d.canLay0 = true) → PyData.canLayAll0 ds = true
  | [], _ => rfl
  | d :: ds, h => by
    show (d.canLay0 && PyData.canLayAll0 ds) = true
    rw [h d List.mem_cons_self, lay_all fun e he => h e (List.mem_cons_of_mem _ he)]; rfl
theorem dep_all {k : Nat} : ∀ {ds : List PyData}, (∀ d ∈ ds, d.depth ≤ k) → PyData.depthAll ds ≤ k
  | [], _ => by simp [PyData.depthAll]
  | d :: ds, h => by
    have a := h d List.mem_cons_self
    have b := dep_all (ds := ds) fun e he => h e (List.mem_cons_of_mem _ he)
    simp only [PyData.depthAll]
    omega
theorem piled_all {n k : Nat} : ∀ {ds : List PyData}, (∀ d ∈ ds, Shw d n k) → piled (PyData.shownAll ds) ≤ ds.length * (n + 2)
  | [], _ => by simp [PyData.shownAll, piled]
  | d :: ds, h => by
    have h1 := (h d List.mem_cons_self).len
    have h2 := piled_all (ds := ds) fun e he => h e (List.mem_cons_of_mem _ he)
    simp only [PyData.shownAll]
    rw [piled_cons, List.length_cons, Nat.add_mul, Nat.one_mul]
    omega
theorem listText_le : ∀ ts : List Str, (listText ts).length ≤ piled ts + 2
  | [] => by decide +kernel
  | u :: more => by
    have far := textFrom_length_pos more 1 (("[" : Str) ++ (if (0 : Nat) > 0 then ", " else "" : String) ++ u) (Nat.succ_pos 0)
    have one : ((("[" : Str) ++ (if (0 : Nat) > 0 then ", " else "" : String) ++ u)).length = 1 + u.length := by
      simp only [strLen_append]; rfl
    have all : (listText (u :: more)).length = (textFrom 1 (("[" : Str) ++ (if (0 : Nat) > 0 then ", " else "" : String) ++ u) more).length + 1 := by
      unfold listText; rw [strLen_append]; rfl
    rw [all, far, one, piled_cons]; omega
theorem tupleText_le (ts : List Str) : (tupleText ts).length ≤ piled ts + 3 := by
  unfold tupleText
  rw [strLen_append]
  rw [strLen_append]
  have a : (("(" : Str)).length = 1 := rfl
  have b : ((if ts.length == 1 then ",)" else ")" : String) : Str).length ≤ 2 := by split <;> decide
  cases ts with
  | nil =>
    have z : (Str.join ", " []).length = 0 := rfl
    omega
  | cons t r =>
    have z := join_length_add (t :: r) (by simp)
    omega
theorem shw_list {ds : List PyData} {n k m : Nat} (h : ∀ d ∈ ds, Shw d n k) (l : ds.length ≤ m) : Shw (.list ds) (2 + m * (n + 2)) (k + 1) := by
  refine ⟨?_, by simp only [PyData.showable]; exact can_all fun d hd => (h d hd).can, lay_all fun d hd => (h d hd).lay, ?_⟩
  · have h1 := listText_le (PyData.shownAll ds)
    have h2 := piled_all h
    have h3 := Nat.mul_le_mul_right (n + 2) l
    simp only [PyData.shown]
    omega
  · have z := dep_all (ds := ds) fun d hd => (h d hd).dep
    simp only [PyData.depth]
    omega
theorem shw_tup {ds : List PyData} {n k m : Nat} (h : ∀ d ∈ ds, Shw d n k) (l : ds.length ≤ m) : Shw (.tuple ds) (3 + m * (n + 2)) (k + 1) := by
  refine ⟨?_, by simp only [PyData.showable]; exact can_all fun d hd => (h d hd).can, lay_all fun d hd => (h d hd).lay, ?_⟩
  · have h1 := tupleText_le (PyData.shownAll ds)
    have h2 := piled_all h
    have h3 := Nat.mul_le_mul_right (n + 2) l
    simp only [PyData.shown]
    omega
  · have z := dep_all (ds := ds) fun d hd => (h d hd).dep
    simp only [PyData.depth]
    omega
theorem Shw.shaped {d : PyData} {n k : Nat} (h : Shw d n k) (l : k ≤ 64) : SeqAt.shaped d = true := by
  unfold SeqAt.shaped
  rw [h.lay, decide_eq_true (Nat.le_trans h.dep l)]; rfl
/-- the promise of such a def -/
structure ShFn (P : Program) (w : World) (K : PySem.W.Frag) (mg : Str → Option Value) (base : Heap) (k : Nat) (f : Addr) (fd : FuncData) (ps : List Str) (sp : Sp) : Prop where
  ar : ∀ vs H Q E, sp vs H Q E → vs.length = ps.length
  go : ∀ (B : Around) (up : List Env) (t : Shared) (H : Hp) (gv : Args) (ws : List Value) (vs : List V) (Q : VK) (E : XK), B.guards = some [] → Room k B → Env0 P w K mg base B up t H → BindsTo t fd gv (ps.zip ws) → Vals vs ws → sp vs H Q E →
    codeAny (model P w) B (.call (.ref f) gv) (CR CX0 up P w H t Q E) t
theorem cellLocal {ps : List Str} {N : List Str} {sc : Scope} (S : FnScope N ps sc) (n : Nat) {x : Str} (hx : x ∈ ps) : sc.names.lookup x = some .local ∨ (sc.names.lookup x = some .cell ∧ ((cellsFrom n sc.names []).lookup x).isSome = true) :=
  (S.par x hx).imp id fun z => ⟨z, PySem.W.cellsFrom_some _ _ _ (.inl z)⟩
theorem shFn_of {P : Program} {w : World} {K : PySem.W.Frag} {mg : Str → Option Value} {base : Heap} {x qual : Str} {st : Stmt} {f : Addr} {fd : FuncData} {N ps : List Str} {k : Nat} {sp : Sp} (F : Fun K x qual st f fd) (S : FnScope N ps (defScope st))
    (ar : ∀ vs H Q E, sp vs H Q E → vs.length = ps.length)
    (bd : ∀ (cdv : Value) (B : Around) (up : List Env) (t : Shared) (H : Hp) (vs : List V) (Q : VK) (E : XK), B.guards = some [] → Room k (B.deeper (envOfC qual (defScope st) t.heap.objs.size f cdv)) → sp vs H Q E →
      ∃ r, PSs (cxOf CX0 P w K mg base N qual (defScope st) f cdv B up t H E).nox (defBody st) r ∧ r { nx := fun _ H' => Q .non H', rt := Q } (start N vs) H) : ShFn P w K mg base (k + 1) f fd ps sp := by
 refine Hk.hold ?_
 simp (disch := with_unfolding_all (
 exact Hk.disch (by
  obtain ⟨oc, od, kv, dc, pm, an, cdv, ct, sl, rfl, lk, hcd⟩ := F.ex
  refine ⟨ar, fun B up t H gv ws vs Q E gn room en bi va want => ?_⟩
  have inK : K.In t.heap := en.mod.kin.keeps fun b o z => (en.bs b o z).1
  refine codeAny_call_function room.depth (inK _ _ lk) rfl S.co S.gen rfl (PySem.W.codeRec_of inK hcd) (bi _ _ _ _ ?_)
  refine wpAny_newFunctionEnv_cells S.kind (fun y hy => cellLocal S _ (List.of_mem_zip (show (y.1, y.2) ∈ ps.zip ws from hy)).1) fun env he t1 ic => ?_
  subst he
  refine ⟨(en.mod.nolimit.keeps fun b o z => (en.bs b o z).1).keeps ic.toInCall.keep, codeAny_func ?_⟩
  obtain ⟨r, hr, hq⟩ := bd cdv B up t H vs Q E gn (room.deeper _) want
  refine wpAny_mono (hr.nox.run [] t1 (start N vs) H _ (inv_start S room.hd en (ar _ _ _ _ want) va ic) hq) (fun fl t2 out => ?_) fun _ _ z => z
  match fl, out with
  | .ret u, ⟨v, _, H', J, rv, q⟩ => exact ⟨v, H', J.os, J.bare, J.base, J.hok, rv, q⟩
  | .next, ⟨_, H', J, q⟩ => exact ⟨.non, H', J.os, J.bare, J.base, J.hok, rfl, q⟩
  | .brk, ⟨_, _, _, q⟩ => exact q.elim
  | .cont, ⟨_, _, _, q⟩ => exact q.elim))) only [↓Hk.hold_s]
/-- such a def that can be called -/
structure ShCal (P : Program) (w : World) (K : PySem.W.Frag) (mg : Str → Option Value) (base : Heap) (k : Nat) (x : Str) (ps : List Str) (sp : Sp) : Prop where
  ex : ∃ f fd, mg x = some (.ref f) ∧ PySem.W.keepIn K (.ref f) = true ∧ Binds K fd ps [] ∧ ShFn P w K mg base k f fd ps sp
theorem _root_.Hk.DefAt.shCal {P : Program} {w : World} {K : PySem.W.Frag} {mg : Str → Option Value} {base : Heap} {k : Nat} {x : Str} {st : Stmt} {ps : List Str} {sp : Sp} (d : DefAt K mg x st ps)
    (h : ∀ f fd, Fun K x x st f fd → ShFn P w K mg base k f fd ps sp) : ShCal P w K mg base k x ps sp := by
  obtain ⟨f, fd, F, g, b⟩ := d.ex
  exact ⟨f, fd, g, F.kp, b, h f fd F⟩
section
variable {X : Cx} {k : Nat} {x : Str} {ps : List Str} {sp : Sp} {p pos : Pos} {e : Expr} {es : List Expr} {t : TA}
theorem pe_shCal (c : ShCal X.prog X.w X.K X.mg X.base k x ps sp) (gn : X.A.guards = some []) (room : Room k X.A) (hg : Gl X x) (ha : PA X (e :: es) t) (hdb : (x == ("__debug__" : Str)) = false := by decide)
    (he : starEach (e :: es) X.env = (false, eval e X.env) :: starEach es X.env := by rfl) (hpl : (backTo pos (starEach es X.env)).any (·.1) = false := by rfl) : PE X (.Call (.Name x p) (e :: es) [] pos) (tCall sp [] E0 t) := by
 refine Hk.hold ?_
 simp (disch := with_unfolding_all (
 exact Hk.disch (by
  obtain ⟨f, fd, g, kp, b, F⟩ := c.ex
  refine ⟨fun pins s σ H Q I want => wpAny_Call_Name_kw (ld_glob I hg g ?_ hdb)⟩
  refine PySem.W.callWith_K (h₀ := X.base) I.ok.mod.kin kp (thn (ha.run pos pins s σ H _ I want) fun us s1 ⟨vs, H1, I1, r, q⟩ => ⟨I1.kIn, ?_⟩) he hpl
  have q' : sp vs H1 Q E0 := by
    have z : sp (vs ++ []) H1 Q E0 := q
    rwa [List.append_nil] at z
  have bi := b s1 us I1.kIn (by rw [List.append_nil, ← r.length]; exact F.ar _ _ _ _ q')
  rw [List.append_nil] at bi
  refine wpAny_call (codeAny_mono (F.go X.A X.stack s1 H1 ⟨us, []⟩ us vs Q _ gn room I1.env0 bi r q') fun o s2 out => ?_)
  match o, out with
  | .ok (.ret u), z => exact I1.after z
  | .error y, z => exact (pass0 pins σ H1 s1 y s2 I1 z)))) only [↓Hk.hold_s]
end
section
variable {P : Program} {w : World} {K : PySem.W.Frag} {mg mb : Str → Option Value} {k : Nat} {fa c : Addr} {fd : FuncData} {x : Str} {sp : Sp} {t : Shared} {ws : List Value} {ns : List Int}
/-- the end that a law's call must come to -/
def LawEnd (t : Shared) : Result → Shared → Prop := fun r t' => r = .ok (.ret (.bool true)) ∧ OldK t.heap t'.heap ∧ t'.os = t.os ∧ AllBare t'.gens
theorem shCall_at (KT : K.In t.heap) (nsT : t.heap.Ns mainGlobals mg) (bT : t.heap.Ns builtinsNs mb) (bbT : ∀ z : Str, z ≠ "__name__" → mb z = bootBuiltins z) (limT : t.heap.NoLimit) (gT : t.gens = #[])
    (ec : t.heap.get? c = some { cls := .type "list", data := .seq ws.toArray }) (room : Room k callerA) (F : ∀ base : Heap, K.In base → base.Ns mainGlobals mg → ShFn P w K mg base k fa fd [x] sp) (bd : ∀ (s : Shared) (u : Value), BindsTo s fd ⟨[u], []⟩ [(x, u)])
    {H : Hp} (only : ∀ b u, H b = some u → b = c ∧ K.lookup c = none ∧ ∃ o xs, u = .frz o (.lst xs)) (hok : HOk P w H t.heap) (want : sp [.ref c] H (fun v _ => v = .bl true) fun _ _ _ => False) :
    codeAny (model P w) callerA (.call (.ref fa) ⟨[.ref c], []⟩) (LawEnd t) t := by
 refine Hk.hold ?_
 simp (disch := with_unfolding_all (
 exact Hk.disch (by
  have notDict : ∀ b o es ep, t.heap.get? b = some o → o.data = .dict es ep → H b = none := fun b o es ep g d => by
    cases z : H b with
    | none => rfl
    | some u =>
      obtain ⟨rfl, _⟩ := only b u z
      rw [ec] at g
      cases g
      exact nomatch d
  have names : ∀ {b : Addr} {m : Str → Option Value}, t.heap.Ns b m → (hidT t.heap H).Ns b m := fun {b m} z => by
    obtain ⟨o, es, ep, g, d, r⟩ := z
    exact ⟨o, es, ep, hidT_get g (notDict b o es ep g d), d, r⟩
  have KB : K.In (hidT t.heap H) := fun b o l => hidT_get (KT b o l) (by
    cases z : H b with
    | none => rfl
    | some u =>
      obtain ⟨rfl, n, _⟩ := only b u z
      rw [n] at l
      cases l)
  have M : Mod K mg (hidT t.heap H) := ⟨KB, names nsT, ⟨mb, names bT, bbT⟩, by
    obtain ⟨m, z1, z2⟩ := limT
    exact ⟨m, names z1, z2⟩⟩
  have en : Env0 P w K mg (hidT t.heap H) callerA [] t H := ⟨rfl, M, fun b o z => of_hidT z, Nat.le_of_eq (hidT_size _ _), trivial, fun b z => (nomatch z), hok, .of_eq gT⟩
  refine codeAny_mono ((F _ KB (names nsT)).go callerA [] t H ⟨[.ref c], []⟩ [.ref c] [.ref c] _ _ rfl room en (bd t (.ref c)) (.cons rfl .nil) want) fun r t' out => ?_
  match r, out with
  | .ok (.ret u), ⟨v, H', os, bare, un, hok', rel, is⟩ =>
    obtain rfl : v = .bl true := is
    obtain rfl : u = Value.bool true := rel
    refine ⟨rfl, OldK.of_keep fun b o g => ?_, os, bare⟩
    cases z : H b with
    | none => exact un.keep b o g z (fun y => (nomatch (show b ∈ ([] : List Addr) from y))) (by simp)
    | some u =>
      obtain ⟨_, _, ob, xs, rfl⟩ := only b u z
      have g0 := (hok b _ z).1
      rw [g] at g0
      cases g0
      exact (hok' b _ (un.frzs b _ _ z)).1))) only [↓Hk.hold_s]
theorem shCall (KT : K.In t.heap) (nsT : t.heap.Ns mainGlobals mg) (bT : t.heap.Ns builtinsNs mb) (bbT : ∀ z : Str, z ≠ "__name__" → mb z = bootBuiltins z) (limT : t.heap.NoLimit) (gT : t.gens = #[])
    (ec : t.heap.get? c = some { cls := .type "list", data := .seq ws.toArray }) (ic : IntsAre ws ns) (lc : ns.length ≤ sizeLine) (room : Room k callerA) (F : ∀ base : Heap, K.In base → base.Ns mainGlobals mg → ShFn P w K mg base k fa fd [x] sp) (bd : ∀ (s : Shared) (u : Value), BindsTo s fd ⟨[u], []⟩ [(x, u)])
    (want : ∀ H : Hp, SqL K H c (ns.map V.int) → sp [.ref c] H (fun v _ => v = .bl true) fun _ _ _ => False) :
    codeAny (model P w) callerA (.call (.ref fa) ⟨[.ref c], []⟩) (LawEnd t) t := by
 refine Hk.hold ?_
 simp (disch := with_unfolding_all (
 exact Hk.disch (by
  have rv := vals_ints ic
  have lw := ic.length
  cases hk : K.lookup c with
  | some o =>
    have g := KT c o hk
    rw [ec] at g
    cases g
    exact shCall_at (H := fun _ => none) KT nsT bT bbT limT gT ec room F bd (fun b u z => (nomatch (show (none : Option HO) = some u from z))) (fun b u z => (nomatch (show (none : Option HO) = some u from z))) (want _ (.inr ⟨_, ws.toArray, _, hk, rfl, rfl, rfl, by rw [List.size_toArray, lw]; exact lc, by simpa using rv⟩))
  | none =>
    have at_ : ∀ b u, (if b = c then some (HO.frz { cls := .type "list", data := .seq ws.toArray } (.lst (ns.map V.int))) else none) = some u → b = c ∧ u = .frz { cls := .type "list", data := .seq ws.toArray } (.lst (ns.map V.int)) := fun b u z => by
      by_cases e : b = c
      · rw [if_pos e] at z
        cases z
        exact ⟨e, rfl⟩
      · rw [if_neg e] at z
        cases z
    refine shCall_at (H := fun b => if b = c then some (.frz { cls := .type "list", data := .seq ws.toArray } (.lst (ns.map V.int))) else none) KT nsT bT bbT limT gT ec room F bd (fun b u z => ?_) (fun b u z => ?_) (want _ (.inl (.inr ⟨_, if_pos rfl⟩)))
    · obtain ⟨e1, e2⟩ := at_ b u z
      exact ⟨e1, hk, _, _, e2⟩
    · obtain ⟨rfl, rfl⟩ := at_ b u z
      exact ⟨ec, by rw [List.length_map]; exact lc, ws, _, rv, ec⟩))) only [↓Hk.hold_s]
end
theorem shWalk {l : PySem.W.OpenLaw} {n k : Nat} {q : Program} {loose : List Str} {XP : (Str → Option Value) → Heap → Prop} {YP : World → Heap → Prop} {d : DefRec} {K : Params → PySem.W.Frag} {sp : World → Sp} {x : Str}
    (most : l.most = some n) (small : n ≤ sizeLine) (plain : d.params.defaults = []) (room : Room k callerA) (inK : ∀ (w : World) (h : Heap), YP w h → (K w.params).In h)
    (F : ∀ (w : World) (mg : Str → Option Value) (fa : Addr) (h : Heap), (K w.params).In h → h.Ns mainGlobals mg → mg d.name = some (.ref fa) →
      ∃ fd : FuncData, (∀ (s : Shared) (u : Value), BindsTo s fd ⟨[u], []⟩ [(x, u)]) ∧ ∀ base : Heap, (K w.params).In base → base.Ns mainGlobals mg → ShFn l.prog w (K w.params) mg base k fa fd [x] (sp w))
    (want : ∀ (w : World) (H : Hp) (c : Addr) (ns : List Int), ns.length ≤ n → SqL (K w.params) H c (ns.map V.int) → sp w [.ref c] H (fun v _ => v = .bl true) fun _ _ _ => False) :
    PySem.W.WalkO q loose XP YP l.row.toRowW d [] (fun f vs => PySem.call f vs) := by
  refine Att.attach_call most plain fun w s0 t mg mb fa o pm cd doc c ws ns G Y fo fdo fc here ec ic lc gT => ?_
  have KT := inK w _ Y
  obtain ⟨fd, bd, hF⟩ := F w mg fa _ KT G.T.g here
  exact shCall KT G.T.g G.T.b G.T.builtins G.T.nolimit gT ec ic (Nat.le_trans lc small) room hF bd fun H hs => want w H c ns lc hs
end Hk
namespace T
section
variable {P : Program} {w : World} {K : PySem.W.Frag} {mg : Str → Option Value} {base : Heap} {C : Addr}
section
variable {J : It} {n : Nat} {G : Hp → Prop} {Y : Nat → Hp → V → Hp → Prop} {g : TG} {te : TE} {vs : List Nat} {σ : L2.St} {H1 : Hp} {D : Addr} {Qd : Hp → Prop}
/-- as lc_rel; the body knows the list under way -/
theorem lc_relD (w : L2.Walk J n G Y) (R : Nat → V → Hp → Prop) (hD : H1 D = none) (few : n < sizeLine) (hG : ∀ H', Same H1 H' → G H') (hY : ∀ i H x H', Y i H x H' → Same H H')
    (hR : ∀ i y H H' acc, H D = some (.lst acc) → But D H H' → R i y H → R i y H')
    (body : ∀ i x H' H2 acc, i < n → Same H1 H' → Y i H' x H2 → H2 D = some (.lst acc) → ∀ Q' : VK, (∀ y H3, Same H2 H3 → R i y H3 → Q' y H3) → g x (wipe σ vs) H2 fun σ2 H3 => wipe σ2 vs = wipe σ vs ∧ te σ2 H3 Q')
    (done : ∀ ys H', Same H1 H' → H' D = some (.lst ys) → ys.length = n → (∀ i y, ys[i]? = some y → R i y H') → Qd H') :
    ∃ W : Nat → Nat → Hp → Prop, (∃ m, W 0 m (upd H1 D (.lst []))) ∧ ∀ i m H, W i m H →
      (J.stop i H ∧ Qd H) ∨ (J.go i H ∧ ∃ Nx : Hp → Prop, (∀ H', Nx H' → ∃ m', m' < m ∧ W (i + 1) m' H') ∧ ∀ x H', J.yld i H x H' → g x (wipe σ vs) H' fun σ2 H2 => wipe σ2 vs = wipe σ vs ∧ tYes σ2 H2 fun b H3 =>
        if b = true then te σ2 H3 fun y H4 => ∃ acc, H4 D = some (.lst acc) ∧ acc.length < sizeLine ∧ Nx (upd H4 D (.lst (acc ++ [y]))) else Nx H3) := by
 refine Hk.hold ?_
 simp (disch := with_unfolding_all (
 exact Hk.disch (by
  refine lc_it w (fun i H => Same H1 H ∧ ∃ ys, H D = some (.lst ys) ∧ ys.length = i ∧ ∀ j y, ys[j]? = some y → R j y H) ⟨same_new hD, [], upd_same, rfl, fun j y e => by simp at e⟩ (fun i H _ h => hG H h.1) ?_ ?_
  · rintro i x H H2 lt ⟨s1, ys, e, l, r⟩ y
    have s2 := hY i H x H2 y
    have z := body i x H H2 ys lt s1 y (s2 _ _ e) (fun y H4 => ∃ acc, H4 D = some (.lst acc) ∧ acc.length < sizeLine ∧ (Same H1 (upd H4 D (.lst (acc ++ [y]))) ∧ ∃ ys, upd H4 D (.lst (acc ++ [y])) D = some (.lst ys) ∧ ys.length = i + 1 ∧ ∀ j y', ys[j]? = some y' → R j y' (upd H4 D (.lst (acc ++ [y]))))) ?_
    · exact z
    · intro y H4 s4 ry
      have e4 : H4 D = some (.lst ys) := s4 _ _ (s2 _ _ e)
      have bt : ∀ o, But D H4 (upd H4 D o) := fun o b u h hb => by rw [upd_ne hb]; exact h
      refine ⟨ys, e4, by omega, fun b o h => ?_, ys ++ [y], upd_same, by simp [l], fun j y' hj => ?_⟩
      · have hb : b ≠ D := ne_of_none h hD
        rw [upd_ne hb]
        exact s4 _ _ (s2 _ _ (s1 _ _ h))
      · refine hR j y' H4 _ ys e4 (bt _) ?_
        rw [List.getElem?_append] at hj
        split at hj
        · refine hR j y' H H4 ys e (fun b o h hb => s4 _ _ (s2 _ _ h)) (r j y' hj)
        · rename_i hge
          have : j = i := by
            rcases Nat.lt_trichotomy j i with z | z | z
            · omega
            · exact z
            · rw [List.getElem?_eq_none (by simp; omega)] at hj; cases hj
          subst this
          simp [l] at hj
          subst hj
          exact ry
  · rintro H ⟨s1, ys, e, l, r⟩
    exact done ys H s1 e l r))) only [↓Hk.hold_s]
end
abbrev rListOf (K : PySem.W.Frag) : List V → Hp → VK → Prop := fun xs H Q => ∃ p ys, xs = [V.ref p] ∧ (SqL K H p ys ∨ SqT K H p ys) ∧ ∀ l, H l = none → Q (.ref l) (upd H l (.lst ys))
theorem ok_Build_rights (B : Bl mg) (T : BCls K C) (d : MethAt K C "rights" "Build.rights" s_Build_rights ["self"]) : MCal P w K mg base 1 C "rights" ["self"] (spGet K C fun b H v H' => Dp K H' v b.rights) := by
 refine Hk.hold ?_
 simp (disch := with_unfolding_all (
 exact Hk.disch (d.cal fun f fd F => by
  refine F.ok sc_Build_rights (fun vs H Q E h => ?_) (fun cdv A outer s H vs Q E hr h => ?_)
  · obtain ⟨p, b, rfl, _⟩ := h; rfl
  · obtain ⟨p, b, rfl, ⟨ok, dx, fs, q0, kvs, e1, e2, e3, e4, e5⟩, q⟩ := h
    have hu := hu_of hr
    refine ⟨_, (pss_one (ps_ret (pe_lc (own := [("row", 1)]) (tt := tYes) rfl sc_Build_rights.nd (pi_tup (pe_dget hu (pe_fld (pv 0) rfl) pe_str (fun _ _ => rfl))) (blkOk_by (N := ["self", "row"]) (sc := defScope s_Build_rights) (by decide +kernel)) (fun _ _ _ _ _ => (pg_name (i := 1) sc_Build_rights.nd rfl (Or.inl rfl))) (fun _ _ _ _ _ => pts_nil) (fun _ _ _ _ _ => (pe_callTy (show CallR _ _ (rListOf K) from call_list_of) rfl B.list_ hb_list (pa_cons (pv 1) pa_nil)))))), ?_⟩
    walk_at "st0"
    obtain ⟨v, g1, g2⟩ := pairedKV_get (z := "rights") e4 rfl
    obtain ⟨rds, er, rl, rall⟩ := okRightsL ok.rights
    have ln : rds.length ≤ 1000 := by
      have z : cnt (cOf b) "task" ≤ 100 := by
        obtain ⟨tds, et, _, t4, _⟩ := okTasksL ok.tasks
        unfold cOf
        split
        · rename_i t p q l d h1 h2 h3 h4 h5
          rw [et] at h1; cases h1
          show (tds.length : Int) ≤ 100
          omega
        · show (0 : Int) ≤ 100
          omega
      omega
    rw [er] at g2
    cases g2 with
    | @tup a xs _ hs ha =>
    have lx := ha.length
    rw [List.length_map] at lx
    refine ⟨.ref p, rfl, ⟨p, C, dx, fs, _, rfl, e1, T.cls, T.n_parts, e2, ?_⟩⟩
    walk_at "st"
    refine ⟨q0, _, rfl, by rw [← g1]; exact DGet.k (k := Sum.inr "rights") e3, a, rfl, ⟨xs, hs⟩, fun D nD => lc_relD walk_tup (fun i y Hh => ∃ (l : Addr) (ys : List V) (es : List PyData), y = .ref l ∧ l ≠ D ∧ Hh l = some (.lst ys) ∧ rds[i]? = some (.list es) ∧ DpAll K H ys es) nD (sz1000 (by omega)) (fun H2 s => Same.sqT s hs) yat_same ?_ ?_ ?_⟩
    · rintro i y Ha Hb acc e bt ⟨l, ys, es, rfl, nl, h1, h2, h3⟩
      exact ⟨l, ys, es, rfl, nl, bt _ _ h1 nl, h2, h3⟩
    · rintro i x H' H2 acc lt s y eD Q' k
      obtain ⟨rfl, e⟩ := y
      obtain ⟨d2, ed, hd2⟩ := ha.get' e
      rw [List.getElem?_map] at ed
      cases er2 : rds[i]? with
      | none => rw [er2] at ed; cases ed
      | some d3 =>
        rw [er2] at ed
        cases ed
        obtain ⟨es, rfl⟩ := rall d3 (List.mem_of_getElem? er2)
        cases hd2 with
        | @tup ta ys _ ht hta =>
        refine q_gname ⟨rfl, ?_⟩
        walk_at "st"
        refine ⟨ta, ys, rfl, .inr (Same.sqT s ht), fun l nl => ?_⟩
        refine k _ _ (same_new nl) ⟨l, ys, es, rfl, fun z => ?_, upd_same, er2, hta⟩
        rw [z, eD] at nl; cases nl
    · intro ys H3 s3 eD lD hR
      refine q _ _ s3 ?_
      show Dp K H3 (.ref D) b.rights
      rw [er]
      refine .lst (SqL.of eD) (dpAll_of (by omega) fun i x d ex ed => ?_)
      obtain ⟨l, zs, es, rfl, _, h1, h2, h3⟩ := hR i x ex
      rw [h2] at ed; cases ed
      exact .lst (SqL.of h1) (L2.DpAll.mono s3 h3)))) only [↓Hk.hold_s]
end
end T
namespace T
mutual
def noL : PyData → Bool
  | .none => true
  | .bool _ => true
  | .int _ => true
  | .str _ => true
  | .list _ => false
  | .tuple xs => noLs xs
  | .dict _ => false
def noLs : List PyData → Bool
  | [] => true
  | d :: ds => noL d && noLs ds
end
theorem noLs_all : ∀ ds, noLs ds = true ↔ ∀ d ∈ ds, noL d = true
  | [] => by simp [noLs]
  | d :: ds => by simp [noLs, noLs_all ds]
/-- all but lists is as it was -/
def KeepL (H H' : Hp) : Prop := ∀ b o, H b = some o → (∀ xs, o ≠ .lst xs) → H' b = some o
theorem KeepL.put {H : Hp} {a : Addr} {xs ys : List V} (e : H a = some (.lst xs)) : KeepL H (upd H a (.lst ys)) := fun b o h n => by
  have hb : b ≠ a := fun z => by subst z; rw [e] at h; cases h; exact n xs rfl
  rw [upd_ne hb]; exact h
section
variable {K : PySem.W.Frag} {C CR CM : Addr}
theorem KeepL.sqT {H H' : Hp} {a : Addr} {xs : List V} (s : KeepL H H') (h : SqT K H a xs) : SqT K H' a xs := by
  rcases h with (h | ⟨o, h⟩) | h
  · exact .inl (.inl (s _ _ h (by simp)))
  · exact .inl (.inr ⟨o, s _ _ h (by simp)⟩)
  · exact .inr h
theorem noL_list {ds : List PyData} (h : noL (.list ds) = true) : False := by
  rw [noL] at h; cases h
theorem noL_tup {ds : List PyData} (h : noL (.tuple ds) = true) : noLs ds = true := by
  rw [noL] at h; exact h
theorem noLs_cons {d : PyData} {ds : List PyData} (h : noLs (d :: ds) = true) : noL d = true ∧ noLs ds = true := by
  rw [noLs] at h; exact Bool.and_eq_true_iff.mp h
set_option maxHeartbeats 400000 in
mutual
theorem dpKeepL {H H' : Hp} (s : KeepL H H') : ∀ {v : V} {d : PyData}, Dp K H v d → noL d = true → Dp K H' v d
  | _, _, .non, _ => .non
  | _, _, .bl b, _ => .bl b
  | _, _, .int i, _ => .int i
  | _, _, .str x, _ => .str x
  | _, _, .lst _ _, h => (noL_list h).elim
  | _, _, .tup t a, h => .tup (KeepL.sqT s t) (dpAllKeepL s a (noL_tup h))
theorem dpAllKeepL {H H' : Hp} (s : KeepL H H') : ∀ {vs : List V} {ds : List PyData}, DpAll K H vs ds → noLs ds = true → DpAll K H' vs ds
  | _, _, .nil, _ => .nil
  | _, _, .cons a t, h => .cons (dpKeepL s a (noLs_cons h).1) (dpAllKeepL s t (noLs_cons h).2)
end
theorem pairedKV_keepL {H H' : Hp} (s : KeepL H H') : ∀ {kvs : List (Key × V)} {l : List (Str × PyData)}, (∀ p ∈ l, noL p.2 = true) → Paired (fun p q => p.1 = Sum.inr q.1 ∧ Dp K H p.2 q.2) kvs l → Paired (fun p q => p.1 = Sum.inr q.1 ∧ Dp K H' p.2 q.2) kvs l
  | [], [], _, .nil => .nil
  | _ :: _, q :: l, h, .cons a t => .cons ⟨a.1, dpKeepL s a.2 (h _ List.mem_cons_self)⟩ (pairedKV_keepL s (fun p hp => h p (List.mem_cons_of_mem _ hp)) t)
/-- all that a build holds is without lists -/
structure NoB (b : BD) : Prop where
  parts : ∀ p ∈ b.parts, noL p.2 = true
  rules : ∀ f, noL (rulesD b f) = true
theorem BuildAt.keepL {H H' : Hp} {p : Addr} {b : BD} (h : BuildAt K C CR H p b) (N : NoB b) (s : KeepL H H') : BuildAt K C CR H' p b := by
  obtain ⟨⟨ok, dx2, fs2, q, kvs, e1, e2, e3, e4, e5⟩, dx, fs, r, f1, f2, dxr, fsr, g1, g2, g3, c, g4, g5⟩ := h
  exact ⟨⟨ok, dx2, fs2, q, kvs, s _ _ e1 (by simp), e2, s _ _ e3 (by simp), pairedKV_keepL s N.parts e4, e5⟩, dx, fs, r, s _ _ f1 (by simp), f2, dxr, fsr, s _ _ g1 (by simp), g2, fun f hf => by
    obtain ⟨v, a1, a2⟩ := g3 f hf
    exact ⟨v, a1, dpKeepL s a2 (N.rules f)⟩, c, g4, s _ _ g5 (by simp)⟩
end
theorem noL_ints {f : PyData → Int} (l : List PyData) : noLs (l.map fun d => PyData.int (f d)) = true := by
  rw [noLs_all]
  intro d hd
  obtain ⟨x, _, rfl⟩ := List.mem_map.mp hd
  rfl
end T
local macro_rules | `(tactic| walk_at "s1") => `(tactic| first | with_reducible refine q_sl ?_ | with_reducible refine q_np ?_ | with_reducible refine q_pt ?_)
namespace T
def rtd (p : Rt) : PyData := .tuple [.str p.1, .int p.2]
theorem srt_mem {l : List Rt} {p : Rt} : p ∈ srt l ↔ p ∈ l := (srt_perm l).mem_iff
theorem srt_len (l : List Rt) : (srt l).length = l.length := (srt_perm l).length_eq
theorem eqv_rtd (a b : Rt) : PyData.eqv (rtd a) (rtd b) = decide (a = b) := by
  obtain ⟨z, i⟩ := a
  obtain ⟨y, j⟩ := b
  show PyData.eqv (.tuple [.str z, .int i]) (.tuple [.str y, .int j]) = _
  simp only [PyData.eqv, PyData.eqvAll, Bool.and_true]
  rw [Bool.eq_iff_iff, Bool.and_eq_true, beq_iff_eq, beq_iff_eq, decide_eq_true_iff, Prod.mk.injEq]
theorem any_rtd (l : List Rt) (p : Rt) : ((l.map rtd).any fun z => PyData.eqv z (rtd p)) = decide (p ∈ l) := by
  rw [List.any_map]
  have e : ((fun z => PyData.eqv z (rtd p)) ∘ rtd) = fun z => decide (z = p) := funext fun z => eqv_rtd z p
  rw [e, Bool.eq_iff_iff, List.any_eq_true, decide_eq_true_iff]
  constructor
  · rintro ⟨x, hx, h⟩
    rw [← of_decide_eq_true h]; exact hx
  · intro h
    exact ⟨p, h, decide_eq_true rfl⟩
theorem shaped_rtd {p : Rt} (h : PyData.strOk p.1 = true) : SeqAt.shaped (rtd p) = true := by
  show (PyData.strOk p.1 && (true && true) && decide (_ ≤ 64)) = true
  rw [h]
  rfl
theorem lay_rtds : ∀ {l : List Rt}, (∀ p ∈ l, PyData.strOk p.1 = true) → PyData.canLayAll0 (l.map rtd) = true ∧ PyData.depthAll (l.map rtd) ≤ 1
  | [], _ => ⟨rfl, by decide⟩
  | p :: r, h => by
    obtain ⟨h1, h2⟩ := lay_rtds (l := r) fun q hq => h q (List.mem_cons_of_mem _ hq)
    have h0 := h p List.mem_cons_self
    refine ⟨?_, ?_⟩
    · show ((PyData.strOk p.1 && (true && true)) && PyData.canLayAll0 (r.map rtd)) = true
      rw [h0, h1]; rfl
    · show max (max 0 (max 0 0) + 1) (PyData.depthAll (r.map rtd)) ≤ 1
      omega
theorem shaped_rtds {l : List Rt} (h : ∀ p ∈ l, PyData.strOk p.1 = true) : SeqAt.shaped (.tuple (l.map rtd)) = true ∧ SeqAt.shaped (.list (l.map rtd)) = true := by
  obtain ⟨h1, h2⟩ := lay_rtds h
  have e : (PyData.canLayAll0 (l.map rtd) && decide (PyData.depthAll (l.map rtd) + 1 ≤ 64)) = true := by
    rw [h1, decide_eq_true (by omega)]; rfl
  exact ⟨e, e⟩
section
variable {K : PySem.W.Frag}
theorem pair_of_dp {H : Hp} : ∀ {xs : List V} {l : List Rt}, DpAll K H xs (l.map rtd) → Paired (PairR K H) xs l
  | _, [], h => by cases h; exact .nil
  | _, (z, i) :: r, h => by
    cases h with
    | cons a t =>
      refine .cons ?_ (pair_of_dp t)
      have a' : Dp K H _ (.tuple [.str z, .int i]) := a
      cases a' with
      | @tup b ys _ hb hys =>
      cases hys with
      | @cons y0 q0 _ _ a0 hys =>
      cases hys with
      | @cons y1 q1 _ _ a1 hys =>
      cases hys
      cases a0; cases a1
      exact ⟨b, rfl, hb⟩
theorem dp_of_pair {H : Hp} {xs : List V} {l : List Rt} (h : Paired (PairR K H) xs l) : DpAll K H xs (l.map rtd) := by
  induction h with
  | nil => exact .nil
  | cons a t ih =>
    obtain ⟨b, rfl, hb⟩ := a
    exact .cons (.tup hb (.cons (.str _) (.cons (.int _) .nil))) ih
theorem pair_mono {H H' : Hp} (s : Same H H') {xs : List V} {l : List Rt} (h : Paired (PairR K H) xs l) : Paired (PairR K H') xs l :=
  Paired.mapP h fun _ _ ⟨t, e, q⟩ => ⟨t, e, Same.sqT s q⟩
end
end T
namespace T
section
variable {P : Program} {w : World} {K : PySem.W.Frag} {mg : Str → Option Value} {base : Heap}
def RowAt (K : PySem.W.Frag) (H : Hp) (ra : Addr) (row : List Rt) : Prop := ∃ ys, H ra = some (.lst ys) ∧ DpAll K H ys (row.map rtd)
theorem noLs_rtd (l : List Rt) : noLs (l.map rtd) = true := by
  rw [noLs_all]
  intro d hd
  obtain ⟨p, _, rfl⟩ := List.mem_map.mp hd
  rfl
theorem RowAt.mono {H H' : Hp} {a : Addr} {row : List Rt} (s : Same H H') (r : RowAt K H a row) : RowAt K H' a row := by
  obtain ⟨ys, e, d⟩ := r
  exact ⟨ys, s _ _ e, L2.DpAll.mono s d⟩
theorem pairR_get {α β : Type} {Pr : α → β → Prop} {xs : List α} {l : List β} (h : Paired Pr xs l) : ∀ {i : Nat} {y : β}, l[i]? = some y → ∃ x, xs[i]? = some x ∧ Pr x y := by
  induction h with
  | nil => intro i y e; simp at e
  | cons a t ih =>
    intro i y e
    cases i with
    | zero =>
      simp only [List.getElem?_cons_zero, Option.some.injEq] at e
      subst e
      exact ⟨_, rfl, a⟩
    | succ i =>
      simp only [List.getElem?_cons_succ] at e ⊢
      exact ih e
theorem pairR_len {α β : Type} {Pr : α → β → Prop} {xs : List α} {l : List β} (h : Paired Pr xs l) : xs.length = l.length := by
  induction h with
  | nil => rfl
  | cons _ _ ih => simp [ih]
end
end T
namespace T
section
variable {J : It} {n : Nat} {G : Hp → Prop} {Y : Nat → Hp → V → Hp → Prop} {g : TG} {te : TE} {vs : List Nat} {σ : L2.St} {H1 : Hp} {D : Addr} {Qd : Hp → Prop}
/-- [e for x in ..], each e a new list, each another: what is told of each -/
theorem lc_freshR (w : L2.Walk J n G Y) (R : Nat → Addr → Hp → Prop) (hD : H1 D = none) (few : n < sizeLine) (hG : ∀ H', Same H1 H' → G H') (hY : ∀ i H x H', Y i H x H' → Same H H')
    (hRs : ∀ i l H H', Same H H' → R i l H → R i l H') (hRb : ∀ i l H H' acc, l ≠ D → H D = some (.lst acc) → But D H H' → R i l H → R i l H') (hRn : ∀ i l H, R i l H → H l ≠ none)
    (body : ∀ i x H' H2, i < n → Same H1 H' → Y i H' x H2 → ∀ Q' : VK, (∀ l H3, Same H2 H3 → H2 l = none → R i l H3 → Q' (.ref l) H3) → g x (wipe σ vs) H2 fun σ2 H3 => wipe σ2 vs = wipe σ vs ∧ te σ2 H3 Q')
    (done : ∀ (ls : List Addr) H', Same H1 H' → H' D = some (.lst (ls.map V.ref)) → ls.length = n → ls.Nodup → (∀ l ∈ ls, H1 l = none ∧ l ≠ D) → (∀ i l, ls[i]? = some l → R i l H') → Qd H') :
    ∃ W : Nat → Nat → Hp → Prop, (∃ m, W 0 m (upd H1 D (.lst []))) ∧ ∀ i m H, W i m H →
      (J.stop i H ∧ Qd H) ∨ (J.go i H ∧ ∃ Nx : Hp → Prop, (∀ H', Nx H' → ∃ m', m' < m ∧ W (i + 1) m' H') ∧ ∀ x H', J.yld i H x H' → g x (wipe σ vs) H' fun σ2 H2 => wipe σ2 vs = wipe σ vs ∧ tYes σ2 H2 fun b H3 =>
        if b = true then te σ2 H3 fun y H4 => ∃ acc, H4 D = some (.lst acc) ∧ acc.length < sizeLine ∧ Nx (upd H4 D (.lst (acc ++ [y]))) else Nx H3) := by
 refine Hk.hold ?_
 simp (disch := with_unfolding_all (
 exact Hk.disch (by
  refine lc_it w (fun i H => Same H1 H ∧ ∃ ls : List Addr, H D = some (.lst (ls.map V.ref)) ∧ ls.length = i ∧ ls.Nodup ∧ (∀ l ∈ ls, H1 l = none ∧ l ≠ D) ∧ ∀ j l, ls[j]? = some l → R j l H) ⟨same_new hD, [], upd_same, rfl, List.nodup_nil, fun l h => by simp at h, fun j y e => by simp at e⟩ (fun i H _ h => hG H h.1) ?_ ?_
  · rintro i x H H2 lt ⟨s1, ls, e, ll, nd, fr, r⟩ y
    have s2 := hY i H x H2 y
    refine body i x H H2 lt s1 y (fun y H4 => ∃ acc, H4 D = some (.lst acc) ∧ acc.length < sizeLine ∧ (Same H1 (upd H4 D (.lst (acc ++ [y]))) ∧ ∃ ls : List Addr, upd H4 D (.lst (acc ++ [y])) D = some (.lst (ls.map V.ref)) ∧ ls.length = i + 1 ∧ ls.Nodup ∧ (∀ l ∈ ls, H1 l = none ∧ l ≠ D) ∧ ∀ j l, ls[j]? = some l → R j l (upd H4 D (.lst (acc ++ [y]))))) ?_
    intro l H3 s3 nl rl
    have e3 : H3 D = some (.lst (ls.map V.ref)) := s3 _ _ (s2 _ _ e)
    have nlD : l ≠ D := Ne.symm (ne_of_none (s2 _ _ e) nl)
    have s13 : Same H1 H3 := fun b o h => s3 _ _ (s2 _ _ (s1 _ _ h))
    have old : ∀ j k, ls[j]? = some k → H2 k ≠ none := fun j k hj z => by
      cases q : H k with
      | none => exact hRn j k H (r j k hj) q
      | some o => rw [s2 _ _ q] at z; cases z
    have nin : l ∉ ls := fun h => by
      obtain ⟨j, hj⟩ := List.mem_iff_getElem?.mp h
      exact old j l hj nl
    have bt : But D H3 (upd H3 D (.lst (ls.map V.ref ++ [V.ref l]))) := fun b o hb n => by rw [upd_ne n]; exact hb
    refine ⟨ls.map V.ref, e3, by rw [List.length_map]; omega, fun b o h => ?_, ls ++ [l], by rw [upd_same, List.map_append]; rfl, by simp [ll], ?_, ?_, ?_⟩
    · rw [upd_ne (ne_of_none h hD)]
      exact s13 _ _ h
    · rw [List.nodup_append]
      exact ⟨nd, by simp, fun a ha b hb h => by rw [List.mem_singleton] at hb; exact nin (by rw [← hb, ← h]; exact ha)⟩
    · intro k hk
      rcases List.mem_append.mp hk with hk | hk
      · exact fr k hk
      · rw [List.mem_singleton] at hk
        subst hk
        exact ⟨(s1.trans s2).free nl, nlD⟩
    · intro j k hj
      rw [List.getElem?_append] at hj
      split at hj
      · exact hRb j k H3 _ _ (fr k (List.mem_of_getElem? hj)).2 e3 bt (hRs j k H H3 (s2.trans s3) (r j k hj))
      · rename_i hge
        have : j = i := by
          rcases Nat.lt_trichotomy j i with z | z | z
          · omega
          · exact z
          · rw [List.getElem?_eq_none (by simp; omega)] at hj; cases hj
        subst this
        simp [ll] at hj
        subst hj
        exact hRb j l H3 _ _ nlD e3 bt rl
  · rintro H ⟨s1, ls, e, ll, nd, fr, r⟩
    exact done ls H s1 e ll nd fr r))) only [↓Hk.hold_s]
end
theorem keepL_of_but {D : Addr} {H H' : Hp} {acc : List V} (e : H D = some (.lst acc)) (bt : But D H H') : KeepL H H' := fun b o hb n => bt b o hb fun z => by subst z; rw [e] at hb; cases hb; exact n _ rfl
section
variable {K : PySem.W.Frag}
theorem RowAt.but {D a : Addr} {H H' : Hp} {acc : List V} {row : List Rt} (n : a ≠ D) (e : H D = some (.lst acc)) (bt : But D H H') (r : RowAt K H a row) : RowAt K H' a row := by
  obtain ⟨ys, ea, d⟩ := r
  exact ⟨ys, bt _ _ ea n, dpAllKeepL (keepL_of_but e bt) d (noLs_rtd _)⟩
theorem RowAt.some {a : Addr} {H : Hp} {row : List Rt} (r : RowAt K H a row) : H a ≠ none := fun z => by
  obtain ⟨ys, ea, _⟩ := r
  rw [ea] at z; cases z
theorem paired_ex {α β : Type} {P Q : α → β → Prop} {G : β → Prop} : ∀ {xs : List α}, (∀ (i : Nat) (x : α), xs[i]? = some x → ∃ y, P x y ∧ G y) → ∃ l : List β, Paired P xs l ∧ ∀ y ∈ l, G y
  | [], _ => ⟨[], .nil, fun y hy => by cases hy⟩
  | x :: xs, h => by
    obtain ⟨y, h1, h2⟩ := h 0 x rfl
    obtain ⟨l, p, g⟩ := paired_ex (P := P) (Q := Q) (G := G) (xs := xs) fun i z e => h (i + 1) z (by simpa using e)
    exact ⟨y :: l, .cons h1 p, fun z hz => (List.mem_cons.mp hz).elim (fun e => by rw [e]; exact h2) (g z)⟩
end
end T
namespace T
section
variable {P : Program} {w : World} {K : PySem.W.Frag} {mg : Str → Option Value} {base : Heap} {C : Addr}
theorem depthAll_le {m : Nat} : ∀ {ds : List PyData}, (∀ d ∈ ds, d.depth ≤ m) → PyData.depthAll ds ≤ m
  | [], _ => by simp [PyData.depthAll]
  | d :: ds, h => by
    have h1 := h d List.mem_cons_self
    have h2 := depthAll_le (ds := ds) fun x hx => h x (List.mem_cons_of_mem _ hx)
    simp only [PyData.depthAll]
    omega
theorem depth_leaf {d : PyData} (h : leafD d) : d.depth = 0 := by cases d <;> first | (simp [PyData.depth]; done) | exact h.elim
theorem depth_tup {m : Nat} {ds : List PyData} (h : ∀ d ∈ ds, d.depth ≤ m) : (PyData.tuple ds).depth ≤ m + 1 := by
  simp only [PyData.depth]
  have := depthAll_le h
  omega
theorem depth_flat {ds : List PyData} (h : ∀ d ∈ ds, leafD d) : (PyData.tuple ds).depth ≤ 1 := depth_tup fun d hd => by rw [depth_leaf (h d hd)]; omega
theorem rows_flat {c : Cnt} {d : PyData} {rds : List PyData} (ok : okRights c d = true) (e : d = .list rds) : ∀ es, PyData.list es ∈ rds → es.length ≤ 1000 ∧ ∀ x ∈ es, noList x ∧ ∀ zs, x = .tuple zs → zs.length ≤ 1000 := by
  subst e
  intro es he
  unfold okRights at ok
  rw [Bool.and_eq_true] at ok
  have z := List.all_eq_true.mp ok.2 _ he
  unfold okRow at z
  rw [Bool.and_eq_true] at z
  obtain ⟨ds, e2, h0, h1⟩ := dListOf_list z.1
  cases e2
  obtain ⟨z1, z2⟩ := z
  have z3 := z2
  rw [Bool.and_eq_true] at z3
  refine ⟨by omega, fun x hx => ?_⟩
  obtain ⟨w, i, rfl⟩ := dRight_shape (List.all_eq_true.mp z3.1 x hx)
  exact ⟨fun y hy => by simp at hy; rcases hy with rfl | rfl <;> trivial, fun zs hz => by cases hz; simp⟩
theorem parts_depth {b : BD} (ok : BOk b) : ∀ p ∈ b.parts, p.2.depth ≤ 60 := by
 refine Hk.hold ?_
 simp (disch := with_unfolding_all (
 exact Hk.disch (by
  obtain ⟨tds, et, _, _, tall⟩ := okTasksL ok.tasks
  obtain ⟨pds, ep, _, pall⟩ := okList ok.pages
  obtain ⟨qds, eq, _, qall⟩ := okList ok.ports
  obtain ⟨kn, ek, _⟩ := okBetween ok.locks
  obtain ⟨fn, ef, _⟩ := okBetween ok.frames
  have okd := ok.disk
  unfold okDisk at okd
  rw [Bool.and_eq_true] at okd
  obtain ⟨dn, ed, _⟩ := okBetween okd.1
  obtain ⟨lds, el, _, lall⟩ := okLinesL ok.lines
  obtain ⟨c1, c2, c3, ec, _⟩ := okCostsL ok.costs
  obtain ⟨z, e, epl, hz⟩ := okPlanL ok.plan
  obtain ⟨rds, er, rl, rall⟩ := okRightsL ok.rights
  have hrow := rows_flat ok.rights er
  have bl : ∀ {d : PyData}, isBool d = true → d.depth = 0 := fun {d} h => by cases d <;> first | (simp [PyData.depth]; done) | cases h
  intro p hp
  unfold BD.parts at hp
  rw [et, ep, eq, ek, ef, ed, er, el, ec, epl] at hp
  simp only [List.mem_cons, List.not_mem_nil, or_false] at hp
  rcases hp with rfl | rfl | rfl | rfl | rfl | rfl | rfl | rfl | rfl | rfl | rfl | rfl | rfl | rfl | rfl
  · refine Nat.le_trans (depth_tup (m := 1) fun d hd => ?_) (by omega)
    obtain ⟨s, l, rfl, _⟩ := okTask_shape (tall d hd)
    exact depth_flat fun x hx => by simp at hx; rcases hx with rfl | rfl <;> trivial
  · refine Nat.le_trans (depth_flat fun d hd => ?_) (by omega)
    obtain ⟨i, rfl, _⟩ := pall d hd
    trivial
  · refine Nat.le_trans (depth_flat fun d hd => ?_) (by omega)
    obtain ⟨i, rfl, _⟩ := qall d hd
    trivial
  · simp [PyData.depth]
  · simp [PyData.depth]
  · simp [PyData.depth]
  · show (PyData.tuple (rds.map tupOf)).depth ≤ 60
    refine Nat.le_trans (depth_tup (m := 2) fun d hd => ?_) (by omega)
    obtain ⟨r, hr, rfl⟩ := List.mem_map.mp hd
    obtain ⟨es, rfl⟩ := rall r hr
    show (PyData.tuple es).depth ≤ 2
    refine depth_tup (m := 1) fun x hx => ?_
    have n := ((hrow es hr).2 x hx).1
    cases x with
    | tuple xs => exact depth_flat n
    | list xs => exact n.elim
    | dict xs => exact n.elim
    | _ => simp [PyData.depth]
  · refine Nat.le_trans (depth_flat fun d hd => ?_) (by omega)
    have z := lall d hd
    cases d <;> first | trivial | (simp [okLine, dBetween] at z; done)
  · refine Nat.le_trans (depth_flat fun d hd => ?_) (by omega)
    simp at hd
    rcases hd with rfl | rfl | rfl <;> trivial
  · rcases hz with ⟨rfl, i, rfl, _⟩ | ⟨rfl, hz⟩
    · show (PyData.tuple [.str "levels", _]).depth ≤ 60
      rw [if_neg slots_ne]
      exact Nat.le_trans (depth_flat fun x hx => by simp at hx; rcases hx with rfl | rfl <;> trivial) (by omega)
    · obtain ⟨rs, rfl, hrs⟩ := okSlotsL hz
      show (PyData.tuple [.str "slots", _]).depth ≤ 60
      rw [if_pos rfl]
      refine Nat.le_trans (depth_tup (m := 2) fun x hx => ?_) (by omega)
      simp at hx
      rcases hx with rfl | rfl
      · simp [PyData.depth]
      · refine depth_tup (m := 1) fun d hd => ?_
        obtain ⟨t, k, rfl, _⟩ := hrs.2.2 d hd
        exact depth_flat fun x hx => by simp at hx; rcases hx with rfl | rfl <;> trivial
  · rcases okOutsideL ok.outside with h | ⟨p, e, h, _⟩
    · rw [h]; simp [PyData.depth]
    · rw [h]
      exact Nat.le_trans (depth_flat fun x hx => by simp at hx; rcases hx with rfl | rfl <;> trivial) (by omega)
  · rw [bl ok.wipe]; omega
  · rw [bl ok.pad]; omega
  · rw [bl ok.lend]; omega
  · rw [bl ok.share]; omega))) only [↓Hk.hold_s]
theorem parts_look {b c : BD} : ∀ p ∈ b.parts, ∃ e, c.parts.lookup p.1 = some e := by
  intro p hp
  unfold BD.parts at hp
  simp only [List.mem_cons, List.not_mem_nil, or_false] at hp
  rcases hp with rfl | rfl | rfl | rfl | rfl | rfl | rfl | rfl | rfl | rfl | rfl | rfl | rfl | rfl | rfl <;> exact ⟨_, rfl⟩
theorem hu64 {k : Nat} {A : Around} (hr : Room k A) : A.units + 64 < cLine := by have := hr.un; omega
def spEqB (K : PySem.W.Frag) (C : Addr) : Sp := fun vs H Q _ => ∃ (p q : Addr) (b c : BD), vs = [.ref p, .ref q] ∧ PartsAt K C H p b ∧ PartsAt K C H q c ∧ Q (.bl (allEqv b.parts c.parts)) H
theorem ok_Build_eq (B : Bl mg) (T : BCls K C) (gB : mg "Build" = some (.ref C)) (IC : C8.InsC K C) (d : MethAt K C "__eq__" "Build.__eq__" s_Build___eq__ ["self", "other"]) : MCal P w K mg base 1 C "__eq__" ["self", "other"] (spEqB K C) := by
 refine Hk.hold ?_
 simp (disch := with_unfolding_all (
 exact Hk.disch (d.cal fun f fd F => by
  refine F.ok sc_Build___eq__ (fun vs H Q E h => ?_) (fun cdv A outer s H vs Q E hr h => ?_)
  · obtain ⟨p, q, b, c, rfl, _⟩ := h; rfl
  · obtain ⟨p, q, b, c, rfl, pb, pc, k⟩ := h
    refine ⟨_, (pss_one (ps_ret (pe_and (pe_callB (C8.call_isC IC) rfl B.isinstance hb_isinstance (pa_cons (pv 1) (pa_cons (pe_glob (v := .ref C) rfl gB rfl) pa_nil))) (pe_one (pe_cmpR (show OpR _ _ (rEqKV K) from op_eqKV (hu64 hr)) (pe_fld (pv 0) rfl) (pe_fld (pv 1) rfl) (nomark _)))))), ?_⟩
    walk_at "st0"
    obtain ⟨okb, dx, fs, q0, kvs, e1, e2, e3, e4, e5⟩ := pb
    obtain ⟨okc, dy, gs, q1, lvs, f1, f2, f3, f4, f5⟩ := pc
    refine ⟨q, dy, gs, rfl, f1, true, rfl, iteT ?_⟩
    walk_at "st"
    refine ⟨p, C, dx, fs, _, rfl, e1, T.cls, T.n_parts, e2, ?_⟩
    walk_at "st"
    refine ⟨q, C, dy, gs, _, rfl, f1, T.cls, T.n_parts, f2, ?_⟩
    exact ⟨q0, q1, kvs, lvs, b.parts, c.parts, rfl, rfl, e3, f3, e4, f4, rfl, fun z hz => by
      obtain ⟨e, he⟩ := parts_look (c := c) z hz
      exact ⟨e, he, parts_depth okb z hz⟩, k⟩))) only [↓Hk.hold_s]
end
end T
namespace T
def _root_.Hk.BD.list (b : BD) : List PyData := [b.tasks, b.pages, b.ports, b.locks, b.frames, b.disk, b.rights, b.lines, b.costs, b.plan, b.outside, b.wipe, b.pad, b.lend, b.share]
mutual
def nbD : PyData → Bool
  | .none | .int _ | .str _ => true
  | .list xs | .tuple xs => nbAll xs
  | .bool _ => false
  | .dict _ => false
def nbAll : List PyData → Bool
  | [] => true
  | x :: xs => nbD x && nbAll xs
end
mutual
theorem eqv_nb : ∀ (d e : PyData), nbD d = true → nbD e = true → (PyData.eqv d e = true ↔ d = e)
  | .none, e, _, he => by cases e <;> simp_all [PyData.eqv, nbD]
  | .int i, e, _, he => by cases e <;> simp_all [PyData.eqv, nbD]
  | .str i, e, _, he => by cases e <;> simp_all [PyData.eqv, nbD]
  | .list xs, e, hd, he => by
    cases e with
    | list ys =>
      simp only [PyData.eqv, PyData.list.injEq]
      exact eqv_nbAll xs ys (by simpa [nbD] using hd) (by simpa [nbD] using he)
    | _ => simp_all [PyData.eqv, nbD]
  | .tuple xs, e, hd, he => by
    cases e with
    | tuple ys =>
      simp only [PyData.eqv, PyData.tuple.injEq]
      exact eqv_nbAll xs ys (by simpa [nbD] using hd) (by simpa [nbD] using he)
    | _ => simp_all [PyData.eqv, nbD]
  | .bool _, _, h, _ => by simp [nbD] at h
  | .dict _, _, h, _ => by simp [nbD] at h
theorem eqv_nbAll : ∀ (xs ys : List PyData), nbAll xs = true → nbAll ys = true → (PyData.eqvAll xs ys = true ↔ xs = ys)
  | [], [], _, _ => by simp [PyData.eqvAll]
  | [], y :: ys, _, _ => by simp [PyData.eqvAll]
  | x :: xs, [], _, _ => by simp [PyData.eqvAll]
  | x :: xs, y :: ys, h1, h2 => by
    simp only [nbAll, Bool.and_eq_true] at h1 h2
    simp only [PyData.eqvAll, Bool.and_eq_true, List.cons.injEq]
    rw [eqv_nb x y h1.1 h2.1, eqv_nbAll xs ys h1.2 h2.2]
end
theorem nbAll_of : ∀ {xs : List PyData}, (∀ x ∈ xs, nbD x = true) → nbAll xs = true
  | [], _ => rfl
  | x :: xs, h => by simp only [nbAll, Bool.and_eq_true]; exact ⟨h x List.mem_cons_self, nbAll_of fun y hy => h y (List.mem_cons_of_mem _ hy)⟩
/-- the kept form of a part -/
structure PartNb (f : BD → PyData) (g : PyData → PyData) : Prop where
  nb : ∀ b, BOk b → nbD (g (f b)) = true
  inj : ∀ b c, BOk b → BOk c → g (f b) = g (f c) → f b = f c
theorem PartNb.eqv {f : BD → PyData} {g : PyData → PyData} (h : PartNb f g) {b c : BD} (okb : BOk b) (okc : BOk c) : PyData.eqv (g (f b)) (g (f c)) = true ↔ f b = f c :=
  (eqv_nb _ _ (h.nb b okb) (h.nb c okc)).trans ⟨h.inj b c okb okc, fun e => by rw [e]⟩
theorem pn_int {f : BD → PyData} (h : ∀ b, BOk b → ∃ i, f b = .int i) : PartNb f id := ⟨fun b ok => by obtain ⟨i, e⟩ := h b ok; show nbD (f b) = true; rw [e]; rfl, fun b c _ _ e => e⟩
theorem pn_list {f : BD → PyData} (h : ∀ b, BOk b → ∃ ds, f b = .list ds ∧ ∀ d ∈ ds, nbD d = true) : PartNb f tupOf := ⟨fun b ok => by
  obtain ⟨ds, e, hd⟩ := h b ok
  rw [e]
  show nbAll ds = true
  exact nbAll_of hd, fun b c okb okc e => by
  obtain ⟨ds, e1, _⟩ := h b okb
  obtain ⟨es, e2, _⟩ := h c okc
  rw [e1, e2] at e ⊢
  cases e
  rfl⟩
theorem pn_tasks : PartNb (·.tasks) tupOf := pn_list fun b ok => by
  obtain ⟨ds, e, _, _, hall⟩ := okTasksL ok.tasks
  refine ⟨ds, e, fun d hd => ?_⟩
  obtain ⟨s, l, rfl, _⟩ := okTask_shape (hall d hd)
  rfl
theorem pn_pages : PartNb (·.pages) tupOf := pn_list fun b ok => by
  obtain ⟨ds, e, _, hall⟩ := okList ok.pages
  refine ⟨ds, e, fun d hd => ?_⟩
  obtain ⟨i, rfl, _⟩ := hall d hd
  rfl
theorem pn_ports : PartNb (·.ports) tupOf := pn_list fun b ok => by
  obtain ⟨ds, e, _, hall⟩ := okList ok.ports
  refine ⟨ds, e, fun d hd => ?_⟩
  obtain ⟨i, rfl, _⟩ := hall d hd
  rfl
theorem pn_lines : PartNb (·.lines) tupOf := pn_list fun b ok => by
  obtain ⟨ds, e, _, hall⟩ := okLinesL ok.lines
  refine ⟨ds, e, fun d hd => ?_⟩
  have z := hall d hd
  cases d <;> first | rfl | (simp [okLine, dBetween] at z; done)
theorem pn_disk : PartNb (·.disk) id := pn_int fun b ok => by
  have okd := ok.disk
  unfold okDisk at okd
  rw [Bool.and_eq_true] at okd
  obtain ⟨i, e, _⟩ := okBetween okd.1
  exact ⟨i, e⟩
theorem pn_costs : PartNb (·.costs) id := ⟨fun b ok => by
  obtain ⟨x, y, z, e, _⟩ := okCostsL ok.costs
  show nbD b.costs = true
  rw [e]; rfl, fun b c _ _ e => e⟩
theorem pn_outside : PartNb (·.outside) id := ⟨fun b ok => by
  show nbD b.outside = true
  rcases okOutsideL ok.outside with e | ⟨p, q, e, _⟩ <;> rw [e] <;> rfl, fun b c _ _ e => e⟩
theorem pn_rights : PartNb (·.rights) rowsT := by
 refine Hk.hold ?_
 simp (disch := with_unfolding_all (
 exact Hk.disch (⟨fun b ok => by
  obtain ⟨rds, er, _, rall⟩ := okRightsL ok.rights
  have hrow := ok.rights
  unfold okRights at hrow
  rw [Bool.and_eq_true] at hrow
  rw [er] at hrow
  show nbD (rowsT b.rights) = true
  rw [er]
  show nbAll (rds.map tupOf) = true
  refine nbAll_of fun d hd => ?_
  obtain ⟨r, hr, rfl⟩ := List.mem_map.mp hd
  have z := List.all_eq_true.mp hrow.2 r hr
  obtain ⟨es, rfl⟩ := rall r hr
  unfold okRow at z
  rw [Bool.and_eq_true] at z
  have z2 := z.2
  rw [Bool.and_eq_true] at z2
  show nbAll es = true
  refine nbAll_of fun x hx => ?_
  obtain ⟨w, i, rfl⟩ := dRight_shape (List.all_eq_true.mp z2.1 x hx)
  rfl, fun b c okb okc e => by
  obtain ⟨rds, er, lr, rall⟩ := okRightsL okb.rights
  obtain ⟨sds, es, ls, sall⟩ := okRightsL okc.rights
  have e' : rowsT b.rights = rowsT c.rights := e
  show b.rights = c.rights
  rw [er, es] at e' ⊢
  have e2 : rds.map tupOf = sds.map tupOf := PyData.tuple.inj e'
  congr 1
  clear e e' er es okb okc lr ls
  induction rds generalizing sds with
  | nil => cases sds with
    | nil => rfl
    | cons => simp at e2
  | cons r rs ih => cases sds with
    | nil => simp at e2
    | cons s ss =>
      simp only [List.map_cons, List.cons.injEq] at e2
      obtain ⟨x, rfl⟩ := rall r List.mem_cons_self
      obtain ⟨y, rfl⟩ := sall s List.mem_cons_self
      have : x = y := PyData.tuple.inj e2.1
      rw [this, ih (fun r hr => rall r (List.mem_cons_of_mem _ hr)) _ (fun r hr => sall r (List.mem_cons_of_mem _ hr)) e2.2]⟩))) only [↓Hk.hold_s]
theorem pn_plan : PartNb (·.plan) planT := by
 refine Hk.hold ?_
 simp (disch := with_unfolding_all (
 exact Hk.disch (⟨fun b ok => by
  obtain ⟨z, e, epl, hz⟩ := okPlanL ok.plan
  show nbD (planT b.plan) = true
  rw [epl]
  rcases hz with ⟨rfl, i, rfl, _⟩ | ⟨rfl, hz⟩
  · show nbD (PyData.tuple [.str "levels", _]) = true
    rw [if_neg slots_ne]; rfl
  · obtain ⟨rs, rfl, hrs⟩ := okSlotsL hz
    show nbD (PyData.tuple [.str "slots", _]) = true
    rw [if_pos rfl]
    have : nbAll rs = true := nbAll_of fun d hd => by
      obtain ⟨t, k, rfl, _⟩ := hrs.2.2 d hd
      rfl
    simp [nbD, nbAll, tupOf, this], fun b c okb okc e => by
  obtain ⟨z, d, epl, hz⟩ := okPlanL okb.plan
  obtain ⟨y, d2, epl2, hy⟩ := okPlanL okc.plan
  have e' : planT b.plan = planT c.plan := e
  show b.plan = c.plan
  rw [epl, epl2] at e' ⊢
  have e2 : PyData.tuple [.str z, if z = "slots" then tupOf d else d] = PyData.tuple [.str y, if y = "slots" then tupOf d2 else d2] := e'
  simp only [PyData.tuple.injEq, List.cons.injEq, PyData.str.injEq, and_true] at e2
  obtain ⟨rfl, e3⟩ := e2
  rcases hz with ⟨rfl, i, rfl, _⟩ | ⟨rfl, hz⟩
  · rw [if_neg slots_ne, if_neg slots_ne] at e3
    rw [e3]
  · rw [if_pos rfl, if_pos rfl] at e3
    obtain ⟨rs, rfl, _⟩ := okSlotsL hz
    rcases hy with ⟨h, _⟩ | ⟨_, hy⟩
    · exact absurd h.symm slots_ne
    · obtain ⟨ss, rfl, _⟩ := okSlotsL hy
      cases e3
      rfl⟩))) only [↓Hk.hold_s]
theorem bool_eqv {d e : PyData} (h1 : isBool d = true) (h2 : isBool e = true) : PyData.eqv d e = true ↔ d = e := by
  cases d <;> first | (cases h1; done) | skip
  cases e <;> first | (cases h2; done) | skip
  simp [PyData.eqv]
theorem allEqv_iff {b c : BD} (okb : BOk b) (okc : BOk c) : allEqv b.parts c.parts = true ↔ b.list = c.list := by
 refine Hk.hold ?_
 simp (disch := with_unfolding_all (
 exact Hk.disch (by
  have e : allEqv b.parts c.parts = (PyData.eqv (tupOf b.tasks) (tupOf c.tasks) && (PyData.eqv (tupOf b.pages) (tupOf c.pages) && (PyData.eqv (tupOf b.ports) (tupOf c.ports) && (PyData.eqv (id b.locks) (id c.locks) && (PyData.eqv (id b.frames) (id c.frames) && (PyData.eqv (id b.disk) (id c.disk) && (PyData.eqv (rowsT b.rights) (rowsT c.rights) && (PyData.eqv (tupOf b.lines) (tupOf c.lines) && (PyData.eqv (id b.costs) (id c.costs) && (PyData.eqv (planT b.plan) (planT c.plan) && (PyData.eqv (id b.outside) (id c.outside) && (PyData.eqv b.wipe c.wipe && (PyData.eqv b.pad c.pad && (PyData.eqv b.lend c.lend && (PyData.eqv b.share c.share && true))))))))))))))) := rfl
  rw [e]
  simp only [Bool.and_eq_true, Bool.and_true]
  rw [pn_tasks.eqv okb okc, pn_pages.eqv okb okc, pn_ports.eqv okb okc, (pn_int (f := (·.locks)) fun b ok => by obtain ⟨i, e, _⟩ := okBetween ok.locks; exact ⟨i, e⟩).eqv okb okc, (pn_int (f := (·.frames)) fun b ok => by obtain ⟨i, e, _⟩ := okBetween ok.frames; exact ⟨i, e⟩).eqv okb okc, pn_disk.eqv okb okc, pn_rights.eqv okb okc, pn_lines.eqv okb okc, pn_costs.eqv okb okc, pn_plan.eqv okb okc, pn_outside.eqv okb okc, bool_eqv okb.wipe okc.wipe, bool_eqv okb.pad okc.pad, bool_eqv okb.lend okc.lend, bool_eqv okb.share okc.share]
  unfold BD.list
  simp only [List.cons.injEq, and_true]))) only [↓Hk.hold_s]
section
variable {K : PySem.W.Frag} {C : Addr}
/-- == of two builds -/
theorem q_eqB {x y : Addr} {b c : BD} {H : Hp} {Q : VK} (hx : PartsAt K C H x b) (hy : PartsAt K C H y c) (q : Q (.bl (allEqv b.parts c.parts)) H) : rEqI C (spEqB K C) (.ref x) (.ref y) H Q := by
  have hx' := hx
  have hy' := hy
  obtain ⟨okb, dx, fs, q0, kvs, e1, e2, e3, e4, e5⟩ := hx
  obtain ⟨okc, dy, gs, q1, lvs, f1, f2, f3, f4, f5⟩ := hy
  exact ⟨x, y, dx, dy, fs, gs, rfl, rfl, e1, f1, x, y, b, c, rfl, hx', hy', _, rfl, q⟩
theorem hu1 {k : Nat} {A : Around} (hr : Room k A) : A.units < cLine := by have := hu64 hr; omega
end
end T
namespace T
section
variable {P : Program} {w : World} {K : PySem.W.Frag} {mg : Str → Option Value} {base : Heap}
theorem q_dputW {td ty tv : TE} {D : Ends} {σ : L2.St} {H : Hp} (h : tv σ H fun v H1 => td σ H1 fun x H2 => ty σ H2 fun y H3 => ∃ a H4, x = .ref a ∧ DPut H3 a y v H4 ∧ D.nx σ H4) : sDPut td ty tv D σ H := h
local macro_rules | `(tactic| walk_at "s1") => `(tactic| first | with_reducible refine q_dputW ?_ | with_reducible refine q_sl ?_ | with_reducible refine q_np ?_ | with_reducible refine q_pt ?_)
theorem q_putD {W : Addr} {H : Hp} {kv kv' : List (Key × V)} {z : Str} {v : V} {q : Hp → Prop} (e : H W = some (.dK kv)) (l : kv.length < sizeLine) (ek : putK kv (Sum.inr z) v = kv') (h : q (upd H W (.dK kv'))) : ∃ a H4, V.ref W = .ref a ∧ DPut H a (.str z) v H4 ∧ q H4 :=
  ⟨W, _, rfl, DPut.k (k := Sum.inr z) e l, by rw [ek]; exact h⟩
theorem q_getD {W : Addr} {H : Hp} {kv : List (Key × V)} {z : Str} {v : V} (h : H W = some (.dK kv)) (e : valV kv (Sum.inr z) = some v) {Q : V → Prop} (q : Q v) : ∃ a v, V.ref W = .ref a ∧ DGet H a (.str z) (some v) ∧ Q v :=
  ⟨W, v, rfl, by rw [← e]; exact DGet.k (k := Sum.inr z) h, q⟩
theorem hb_sum : bootBuiltins "sum" = some (.builtin "sum") := by with_unfolding_all rfl
theorem keepD_dk {D : Addr} {H H' : Hp} {kv : List (Key × V)} (e : H D = some (.dK kv)) (bt : But D H H') : KeepD H H' := fun b o h _ n => bt _ _ h fun z => by subst z; rw [e] at h; cases h; exact n _ rfl
def plKV (LC : Addr) (at_ rest left turn cell : Int) : List (Key × V) := [(Sum.inr "cells", .ref LC), (Sum.inr "at", .int at_), (Sum.inr "rest", .int rest), (Sum.inr "left", .int left), (Sum.inr "turn", .int turn), (Sum.inr "cell", .int cell)]
def PoolAt (H : Hp) (p LC : Addr) (n : Nat) : Prop := ∃ (ns : List Int) (at_ : Nat) (rest left turn cell : Int), H p = some (.dK (plKV LC at_ rest left turn cell)) ∧ H LC = some (.lst (ns.map V.int)) ∧ ns.length ≤ 63 ∧ at_ ≤ n ∧ 0 ≤ rest ∧ 0 ≤ left ∧ left ≤ 8 ∧ 0 ≤ turn ∧ turn ≤ n ∧ 0 ≤ cell ∧ cell < 1000000007
theorem PoolAt.le {H : Hp} {p LC : Addr} {n m : Nat} (h : PoolAt H p LC n) (l : n ≤ m) : PoolAt H p LC m := by
  obtain ⟨ns, a, r, le, t, c, h1, h2, h3, h4, h5, h6, h7, h8, h9, h10⟩ := h
  exact ⟨ns, a, r, le, t, c, h1, h2, h3, by omega, h5, h6, h7, h8, by omega, h10⟩
theorem PoolAt.dk {H : Hp} {p LC : Addr} {n : Nat} (h : PoolAt H p LC n) : ∃ kv, H p = some (.dK kv) := by
  obtain ⟨ns, a, r, le, t, c, h1, _⟩ := h
  exact ⟨_, h1⟩
theorem PoolAt.same {H H' : Hp} {p LC : Addr} {n : Nat} (h : PoolAt H p LC n) (s : Same H H') : PoolAt H' p LC n := by
  obtain ⟨ns, a, r, le, t, c, h1, h2, h3⟩ := h
  exact ⟨ns, a, r, le, t, c, s _ _ h1, s _ _ h2, h3⟩
theorem PoolAt.some {H : Hp} {p LC : Addr} {n : Nat} (h : PoolAt H p LC n) : H p ≠ none ∧ H LC ≠ none := by
  obtain ⟨ns, a, r, le, t, c, h1, h2, _⟩ := h
  exact ⟨(fun z => by rw [z] at h1; cases h1), (fun z => by rw [z] at h2; cases h2)⟩
/-- what is new is none of the two -/
theorem PoolAt.new {H : Hp} {p LC X : Addr} {n : Nat} (h : PoolAt H p LC n) (nX : H X = none) : p ≠ X ∧ LC ≠ X := ⟨fun z => h.some.1 (by rw [z]; exact nX), fun z => h.some.2 (by rw [z]; exact nX)⟩
/-- another object changes -/
theorem PoolAt.but {H H' : Hp} {p LC q : Addr} {n : Nat} (h : PoolAt H p LC n) (n1 : p ≠ q) (n2 : LC ≠ q) (bt : But q H H') : PoolAt H' p LC n := by
  obtain ⟨ns, a, r, le, t, c, h1, h2, h3⟩ := h
  exact ⟨ns, a, r, le, t, c, bt _ _ h1 n1, bt _ _ h2 n2, h3⟩
/-- data stay where numbers are drawn -/
theorem PoolAt.keepD {H H' : Hp} {p LC : Addr} {n : Nat} (h : PoolAt H p LC n) (bt : But p H H') : KeepD H H' := by
  obtain ⟨kv, e⟩ := h.dk
  exact keepD_dk e bt
def spPool (K : PySem.W.Frag) : Sp := fun vs H Q _ => ∃ (a : Addr) (ns : List Int), vs = [.ref a] ∧ SqL K H a (ns.map V.int) ∧ ns.length ≤ 63 ∧ ∀ p LC H', Same H H' → H p = none → H LC = none → PoolAt H' p LC 0 → Q (.ref p) H'
theorem ok_law_pool (B : Bl mg) (cc : DefAt K mg "_law_pool" s__law_pool ["_law_script"]) : Cal P w K mg base 1 "_law_pool" ["_law_script"] (spPool K) := by
 refine Hk.hold ?_
 simp (disch := with_unfolding_all (
 exact Hk.disch (cc.cal fun f fd F => by
  refine F.ok sc__law_pool (fun vs H Q E h => ?_) (fun cdv A outer s H vs Q E hr h => ?_)
  · obtain ⟨a, ns, rfl, _⟩ := h; rfl
  · obtain ⟨a, ns, rfl, hs, l63, q⟩ := h
    have hu := hu_of hr
    refine ⟨_, (pss_one (ps_ret (pe_disp (pps_cons pe_str (pe_callTy call_list_of rfl B.list_ hb_list (pa_cons (pv 0) pa_nil)) (pps_cons pe_str pe_int (pps_cons pe_str pe_int (pps_cons pe_str pe_int (pps_cons pe_str pe_int (pps_cons pe_str pe_int pps_nil)))))) rfl rfl (by simp) (by decide)))), ?_⟩
    walk_at "st0"
    intro p np
    have sp := same_new (o := .dK []) np
    have ep : upd H p (.dK []) p = some (.dK []) := upd_same
    generalize upd H p (.dK []) = H1 at *
    unfold tPairs
    walk_at "st"
    refine ⟨a, _, rfl, .inl (sp.seq hs), fun LC nLC => ?_⟩
    have sc := same_new (o := .lst (ns.map V.int)) nLC
    have eLC : upd H1 LC (.lst (ns.map V.int)) LC = some (.lst (ns.map V.int)) := upd_same
    generalize upd H1 LC (.lst (ns.map V.int)) = H2 at *
    have ep2 := sc _ _ ep
    unfold tPairs
    walk_at "st"
    unfold tPairs
    walk_at "st"
    unfold tPairs
    walk_at "st"
    unfold tPairs
    walk_at "st"
    unfold tPairs
    walk_at "st"
    unfold tPairs
    walk_at "st"
    refine ⟨ep2, plKV LC 0 0 0 0 0, rfl, by simp [plKV], ?_⟩
    rw [show mergeK [] (plKV LC 0 0 0 0 0) = plKV LC 0 0 0 0 0 from rfl]
    have nLp : LC ≠ p := fun z => by rw [z, ep2] at eLC; cases eLC
    have bt : But p H2 (upd H2 p (.dK (plKV LC 0 0 0 0 0))) := But.put
    exact q p LC _ (fun b o hb => bt _ _ (sc _ _ (sp _ _ hb)) (ne_of_none hb np)) np (sp.free nLC) ⟨ns, 0, 0, 0, 0, 0, upd_same, bt _ _ eLC nLp, l63, by omega, by omega, by omega, by omega, by omega, by omega, by omega, by omega⟩))) only [↓Hk.hold_s]
theorem cut_to1 (l : List Int) : cutV (l.map V.int) none (some 1) = (l.take 1).map V.int := by
  unfold cutV
  rw [HT.sIx_none, show HT.sIx (l.map V.int).length (l.map V.int).length (some 1) = min 1 (l.map V.int).length from HT.sIx_nat _ _ 1, List.drop_zero, List.map_take, List.take_eq_take_iff]
  simp
/-- the next cell -/
def spRefill (K : PySem.W.Frag) : Sp := fun vs H Q _ => ∃ (p LC : Addr) (ns : List Int) (at_ : Nat) (rest left turn cell : Int), vs = [.ref p] ∧ H p = some (.dK (plKV LC at_ rest left turn cell)) ∧ H LC = some (.lst (ns.map V.int)) ∧ ns.length ≤ 63 ∧ at_ ≤ 100000 ∧ 0 ≤ rest ∧ ∀ rest' cell' H', But p H H' → H' p = some (.dK (plKV LC ((at_ + 1 : Nat) : Int) rest' 8 turn cell')) → 0 ≤ rest' → 0 ≤ cell' → cell' < 1000000007 → Q .non H'
theorem ok_law_refill (B : Bl mg) (g_sum : mg "sum" = none) (cc : DefAt K mg "_law_refill" s__law_refill ["_law_pool_here"]) : Cal P w K mg base 1 "_law_refill" ["_law_pool_here"] (spRefill K) := by
 refine Hk.hold ?_
 simp (disch := with_unfolding_all (
 exact Hk.disch (cc.cal fun f fd F => by
  refine F.ok sc__law_refill (fun vs H Q E h => ?_) (fun cdv A outer s H vs Q E hr h => ?_)
  · obtain ⟨p, LC, ns, at_, rest, left, turn, cell, rfl, _⟩ := h; rfl
  · obtain ⟨p, LC, ns, at_, rest, left, turn, cell, rfl, e, eL, l63, la, r0, q⟩ := h
    have hu := hu_of hr
    refine ⟨_, (pss_cons (ps_set (i := 1) sc__law_refill.nd rfl (Or.inl rfl) (pe_dget hu (pv 0) pe_str (fun _ _ => rfl)))
      (pss_cons (ps_set (i := 2) sc__law_refill.nd rfl (Or.inl rfl) (pe_op op_add (pe_op op_mod (pe_callTy call_int1 rfl B.int_ hb_int (pa_cons (pe_callB (cr_sum rfl) rfl g_sum hb_sum (pa_cons (pe_slice sl_list (pe_dget hu (pv 0) pe_str (fun _ _ => rfl)) po_none (po_some pe_int)) pa_nil)) pa_nil)) pe_int) (pe_op op_mulW pe_int (pv 1))))
      (pss_cons (ps_if (pt_cmpR op_lt (pv 1) (pe_callB call_len_seq rfl B.len hb_len (pa_cons (pe_dget hu (pv 0) pe_str (fun _ _ => rfl)) pa_nil)) (nomark _)) (pss_one (ps_set (i := 2) sc__law_refill.nd rfl (Or.inl rfl) (pe_ix ix_list (pe_dget hu (pv 0) pe_str (fun _ _ => rfl)) (pv 1) (fun _ _ => rfl)))) pss_nil)
      (pss_cons (ps_if (pt_cmpR op_ge (pv 2) (pe_op op_pow pe_int pe_int) (nomark _)) (pss_one (ps_dput hu (pv 0) pe_str (pe_op op_sub (pv 2) (pe_op op_pow pe_int pe_int)) rfl)) pss_nil)
      (pss_cons (ps_dput hu (pv 0) pe_str (pe_op op_mod (pe_callTy call_int1 rfl B.int_ hb_int (pa_cons (pv 2) pa_nil)) pe_int) rfl)
      (pss_cons (ps_dput hu (pv 0) pe_str pe_int rfl)
      (pss_one (ps_dput hu (pv 0) pe_str (pe_op op_add (pv 1) pe_int) rfl)))))))), ?_⟩
    walk_at "st0"
    refine q_getD e (by rfl) ?_
    walk_at "st"
    refine q_getD e (by rfl) ?_
    walk_at "st"
    refine ⟨1, rfl, ?_⟩
    refine ⟨LC, _, rfl, SqL.of eL, fun pl nl => ?_⟩
    rw [cut_to1 ns]
    have sl := same_new (o := .lst ((ns.take 1).map V.int)) nl
    have epl : upd H pl (.lst ((ns.take 1).map V.int)) pl = some (.lst ((ns.take 1).map V.int)) := upd_same
    generalize upd H pl (.lst ((ns.take 1).map V.int)) = H1 at *
    have e1 := sl _ _ e
    have eL1 := sl _ _ eL
    refine ⟨pl, _, rfl, SqL.of epl, ?_⟩
    walk_at "st"
    refine .inl ⟨_, rfl, ?_⟩
    walk_at "st"
    refine ⟨_, _, rfl, rfl, by omega, ?_⟩
    walk_at "st"
    refine ⟨_, _, rfl, rfl, wide_mul (a := 17) (b := 20) (by omega) (by omega) (by omega) (by omega) (by omega), ?_⟩
    walk_at "s1"
    show tSeq _ _ _ _ _
    generalize (ns.take 1).sum % 1000003 + 104729 * (at_ : Int) = c0
    refine seq_if (fun σ Hy => ∃ c : Int, σ = [some (.ref p), some (.int at_), some (.int c)] ∧ Hy = H1) (fun σ Hy hy => ?_) (fun N hN => ?_)
    · obtain ⟨c, rfl, rfl⟩ := hy
      refine seq_if (fun σ Hz => ∃ rest' : Int, σ = [some (.ref p), some (.int at_), some (.int c)] ∧ But p H Hz ∧ Hz p = some (.dK (plKV LC at_ rest' left turn cell)) ∧ 0 ≤ rest') (fun σ Hz hz => ?_) (fun N hN => ?_)
      · obtain ⟨rest', rfl, bt, ez, r0'⟩ := hz
        walk_at "st"
        refine .inl ⟨_, rfl, ?_⟩
        walk_at "st"
        refine ⟨_, _, rfl, rfl, by omega, ?_⟩
        have m0 := Int.emod_nonneg c (show (1000000007 : Int) ≠ 0 by decide)
        have m1 := Int.emod_lt_of_pos c (show (0 : Int) < 1000000007 by decide)
        walk_at "st"
        refine q_putD ez (sz1000 (by show 6 < 100000; decide)) (kv' := plKV LC at_ rest' left turn (c % 1000000007)) (by rfl) ?_
        walk_at "st"
        refine q_putD upd_same (sz1000 (by show 6 < 100000; decide)) (kv' := plKV LC at_ rest' 8 turn (c % 1000000007)) (by rfl) ?_
        walk_at "st"
        refine q_putD upd_same (sz1000 (by show 6 < 100000; decide)) (kv' := plKV LC ((at_ : Int) + 1) rest' 8 turn (c % 1000000007)) (by rfl) ?_
        have e0 : ((at_ : Int) + 1) = ((at_ + 1 : Nat) : Int) := by omega
        rw [e0]
        exact q rest' (c % 1000000007) _ (bt.trans (But.put.trans (But.put.trans But.put))) upd_same r0' m0 m1
      · walk_at "st"
        refine ⟨10, 18, rfl, rfl, ⟨by decide, by decide, by decide⟩, ?_⟩
        walk_at "st"
        have bs : But p H Hy := fun b o hb _ => sl _ _ hb
        refine q_if (fun hc => ?_) (fun hc => ?_)
        · have hc' : (10 : Int) ^ (18 : Int).toNat ≤ c := by simpa using hc
          walk_at "st"
          refine ⟨10, 18, rfl, rfl, ⟨by decide, by decide, by decide⟩, ?_⟩
          walk_at "st"
          refine q_putD e1 (sz1000 (by show 6 < 100000; decide)) (kv' := plKV LC at_ (c - 10 ^ (18 : Int).toNat) left turn cell) (by rfl) ?_
          exact hN _ _ ⟨_, rfl, bs.trans But.put, upd_same, by omega⟩
        · walk_at "st"
          exact hN _ _ ⟨_, rfl, bs, e1, r0⟩
    · walk_at "st"
      refine q_getD e1 (by rfl) ?_
      walk_at "st"
      refine ⟨LC, _, rfl, .inl (SqL.of eL1), ?_⟩
      rw [List.length_map]
      walk_at "st"
      refine q_if (fun hc => ?_) (fun hc => ?_)
      · have lt : at_ < ns.length := by
          have := of_decide_eq_true hc
          omega
        walk_at "st"
        refine q_getD e1 (by rfl) ?_
        walk_at "st"
        refine q_ixL (SqL.of eL1) (atI_nat (v := .int ns[at_]) (by rw [List.getElem?_map, List.getElem?_eq_getElem lt]; rfl)) ?_
        exact hN _ _ ⟨_, rfl, rfl⟩
      · walk_at "st"
        exact hN _ _ ⟨_, rfl, rfl⟩))) only [↓Hk.hold_s]
/-- a number below many -/
def spDraw (K : PySem.W.Frag) : Sp := fun vs H Q _ => ∃ (p LC : Addr) (n : Nat) (many : Int), vs = [.ref p, .int many] ∧ PoolAt H p LC n ∧ n ≤ 50000 ∧ 1 ≤ many ∧ many ≤ 1000 ∧ ∀ r H', But p H H' → PoolAt H' p LC (n + 1) → 0 ≤ r → r < many → Q (.int r) H'
theorem ok_law_draw (B : Bl mg) (c__law_refill : Cal P w K mg base 1 "_law_refill" ["_law_pool_here"] (spRefill K)) (cc : DefAt K mg "_law_draw" s__law_draw ["_law_pool_here", "_law_many"]) : Cal P w K mg base 2 "_law_draw" ["_law_pool_here", "_law_many"] (spDraw K) := by
 refine Hk.hold ?_
 simp (disch := with_unfolding_all (
 exact Hk.disch (cc.cal fun f fd F => by
  refine F.ok sc__law_draw (fun vs H Q E h => ?_) (fun cdv A outer s H vs Q E hr h => ?_)
  · obtain ⟨p, LC, n, many, rfl, _⟩ := h; rfl
  · obtain ⟨p, LC, n, many, rfl, ⟨ns, at_, rest, left, turn, cell, e, eL, l63, ha, r0, l0, l8, t0, tn, c0, c1⟩, n5, m1, m2, q⟩ := h
    have hu := hu_of hr
    have nL : LC ≠ p := fun z => by rw [z, e] at eL; cases eL
    refine ⟨_, (pss_cons (ps_dput hu (pv 0) pe_str (pe_op op_add (pe_dget hu (pv 0) pe_str (fun _ _ => rfl)) pe_int) rfl)
      (pss_cons (ps_if (PW.pt (pw_and (pt_cmpR op_eq (pe_dget hu (pv 0) pe_str (fun _ _ => rfl)) pe_int (nomark _)) (pw_and1 (pt_cmpR op_eq (pe_dget hu (pv 0) pe_str (fun _ _ => rfl)) pe_int (nomark _))))) (pss_one (ps_expr (pe_cal c__law_refill (hr.mono (by omega)) rfl (pa_cons (pv 0) pa_nil)))) pss_nil)
      (pss_cons (ps_if (pt_cmpR op_gt (pe_dget hu (pv 0) pe_str (fun _ _ => rfl)) pe_int (nomark _)) (pss_cons (ps_set (i := 2) sc__law_draw.nd rfl (Or.inl rfl) (pe_op op_mod (pe_callTy call_int1 rfl B.int_ hb_int (pa_cons (pe_dget hu (pv 0) pe_str (fun _ _ => rfl)) pa_nil)) (pv 1)))
      (pss_cons (ps_dput hu (pv 0) pe_str (pe_op op_fdivW (pe_dget hu (pv 0) pe_str (fun _ _ => rfl)) (pv 1)) rfl)
      (pss_one (ps_ret (pv 2))))) pss_nil)
      (pss_cons (ps_dput hu (pv 0) pe_str (pe_op op_sub (pe_dget hu (pv 0) pe_str (fun _ _ => rfl)) pe_int) rfl)
      (pss_cons (ps_set (i := 3) sc__law_draw.nd rfl (Or.inl rfl) (pe_op op_mod (pe_callTy call_int1 rfl B.int_ hb_int (pa_cons (pe_op op_add (pe_dget hu (pv 0) pe_str (fun _ _ => rfl)) (pe_op op_mulW (pe_dget hu (pv 0) pe_str (fun _ _ => rfl)) pe_int)) pa_nil)) pe_int))
      (pss_cons (ps_set (i := 3) sc__law_draw.nd rfl (Or.inl rfl) (pe_op op_mod (pe_callTy call_int1 rfl B.int_ hb_int (pa_cons (pe_op op_mulW (pv 3) (pe_op op_add (pe_op op_add (pe_op op_fdivW (pv 3) pe_int) pe_int) (pe_dget hu (pv 0) pe_str (fun _ _ => rfl)))) pa_nil)) pe_int))
      (pss_cons (ps_set (i := 3) sc__law_draw.nd rfl (Or.inl rfl) (pe_op op_mod (pe_callTy call_int1 rfl B.int_ hb_int (pa_cons (pe_op op_mulW (pv 3) (pe_op op_add (pe_op op_fdivW (pv 3) pe_int) pe_int)) pa_nil)) pe_int))
      (pss_one (ps_ret (pe_op op_mod (pe_callTy call_int1 rfl B.int_ hb_int (pa_cons (pe_op op_fdivW (pv 3) pe_int) pa_nil)) (pv 1))))))))))), ?_⟩
    walk_at "st0"
    refine q_getD e (by rfl) ?_
    walk_at "st"
    refine q_putD e (sz1000 (by show 6 < 100000; decide)) (kv' := plKV LC at_ rest left (turn + 1) cell) (by rfl) ?_
    have b1 : But p H (upd H p (.dK (plKV LC at_ rest left (turn + 1) cell))) := But.put
    have e1 : upd H p (.dK (plKV LC at_ rest left (turn + 1) cell)) p = some (.dK (plKV LC at_ rest left (turn + 1) cell)) := upd_same
    generalize upd H p (.dK (plKV LC at_ rest left (turn + 1) cell)) = H1 at *
    have eL1 := b1 _ _ eL nL
    try dsimp only
    refine seq_if (fun σ Hy => ∃ (o2 o3 : Option V) (at' : Nat) (rest' left' cell' : Int), σ = [some (.ref p), some (.int many), o2, o3] ∧ But p H Hy ∧ Hy p = some (.dK (plKV LC at' rest' left' (turn + 1) cell')) ∧ at' ≤ n + 1 ∧ 0 ≤ rest' ∧ 0 ≤ left' ∧ left' ≤ 8 ∧ (rest' = 0 → 1 ≤ left') ∧ 0 ≤ cell' ∧ cell' < 1000000007) (fun σ Hy hy => ?_) (fun N hN => ?_)
    · obtain ⟨o2, o3, at', rest', left', cell', rfl, bt, ey, a', r0', l0', l8', rl, c0', c1'⟩ := hy
      have eLy := bt _ _ eL nL
      have key : ∀ (rest2 left2 : Int) (Hz : Hp), But p H Hz → Hz p = some (.dK (plKV LC at' rest2 left2 (turn + 1) cell')) → 0 ≤ rest2 → 0 ≤ left2 → left2 ≤ 8 → PoolAt Hz p LC (n + 1) := fun rest2 left2 Hz bz ez h1 h2 h3 => ⟨ns, at', rest2, left2, turn + 1, cell', ez, bz _ _ eL nL, l63, a', h1, h2, h3, by omega, by omega, c0', c1'⟩
      try dsimp only
      refine seq_if (fun σ Hz => σ = [some (.ref p), some (.int many), o2, o3] ∧ Hz = Hy ∧ rest' = 0) (fun σ Hz hz => ?_) (fun N hN => ?_)
      · obtain ⟨rfl, rfl, rz⟩ := hz
        have lz := rl rz
        walk_at "st"
        refine q_getD ey (by rfl) ?_
        walk_at "st"
        refine q_putD ey (sz1000 (by show 6 < 100000; decide)) (kv' := plKV LC at' rest' (left' - 1) (turn + 1) cell') (by rfl) ?_
        have b2 : But p Hz (upd Hz p (.dK (plKV LC at' rest' (left' - 1) (turn + 1) cell'))) := But.put
        have e2 : upd Hz p (.dK (plKV LC at' rest' (left' - 1) (turn + 1) cell')) p = some (.dK (plKV LC at' rest' (left' - 1) (turn + 1) cell')) := upd_same
        generalize upd Hz p (.dK (plKV LC at' rest' (left' - 1) (turn + 1) cell')) = H2 at *
        walk_at "st"
        refine q_getD e2 (by rfl) ?_
        walk_at "st"
        refine q_getD e2 (by rfl) ?_
        walk_at "st"
        refine ⟨_, _, rfl, rfl, wide_mul (a := 20) (b := 13) (by omega) (by omega) (by omega) (by omega) (by omega), ?_⟩
        walk_at "st"
        refine .inl ⟨_, rfl, ?_⟩
        walk_at "st"
        refine ⟨_, _, rfl, rfl, by omega, ?_⟩
        have v0 := Int.emod_nonneg (cell' + (turn + 1) * 7919) (show (2147483629 : Int) ≠ 0 by decide)
        have v1 := Int.emod_lt_of_pos (cell' + (turn + 1) * 7919) (show (0 : Int) < 2147483629 by decide)
        walk_at "st"
        generalize (cell' + (turn + 1) * 7919) % 2147483629 = v at *
        refine ⟨_, _, rfl, rfl, wide_div (b := 10) (by omega) (by decide) (by omega) (by omega), ?_⟩
        walk_at "st"
        refine q_getD e2 (by rfl) ?_
        walk_at "st"
        refine ⟨_, _, rfl, rfl, wide_mul (a := 31) (b := 23) (by omega) (by omega) (by omega) (by omega) (by omega), ?_⟩
        walk_at "st"
        refine .inl ⟨_, rfl, ?_⟩
        walk_at "st"
        refine ⟨_, _, rfl, rfl, by omega, ?_⟩
        have y0 := Int.emod_nonneg (v * (v / 1009 + 69621 + (turn + 1))) (show (2147483647 : Int) ≠ 0 by decide)
        have y1 := Int.emod_lt_of_pos (v * (v / 1009 + 69621 + (turn + 1))) (show (0 : Int) < 2147483647 by decide)
        walk_at "st"
        generalize (v * (v / 1009 + 69621 + (turn + 1))) % 2147483647 = y at *
        refine ⟨_, _, rfl, rfl, wide_div (b := 11) (by omega) (by decide) (by omega) (by omega), ?_⟩
        walk_at "st"
        refine ⟨_, _, rfl, rfl, wide_mul (a := 31) (b := 22) (by omega) (by omega) (by omega) (by omega) (by omega), ?_⟩
        walk_at "st"
        refine .inl ⟨_, rfl, ?_⟩
        walk_at "st"
        refine ⟨_, _, rfl, rfl, by omega, ?_⟩
        have u0 := Int.emod_nonneg (y * (y / 2003 + 40692)) (show (2147483399 : Int) ≠ 0 by decide)
        have u1 := Int.emod_lt_of_pos (y * (y / 2003 + 40692)) (show (0 : Int) < 2147483399 by decide)
        walk_at "st"
        generalize (y * (y / 2003 + 40692)) % 2147483399 = u at *
        refine ⟨_, _, rfl, rfl, wide_div (b := 7) (by omega) (by decide) (by omega) (by omega), ?_⟩
        walk_at "st"
        refine .inl ⟨_, rfl, ?_⟩
        walk_at "st"
        refine ⟨_, _, rfl, rfl, by omega, ?_⟩
        exact q _ _ (bt.trans b2) (key _ _ _ (bt.trans b2) e2 r0' (by omega) (by omega)) (Int.emod_nonneg _ (by omega)) (Int.emod_lt_of_pos _ (by omega))
      · walk_at "st"
        refine q_getD ey (by rfl) ?_
        walk_at "st"
        refine q_if (fun hc => ?_) (fun hc => ?_)
        · have hc' : 0 < rest' := of_decide_eq_true hc
          walk_at "st"
          refine q_getD ey (by rfl) ?_
          walk_at "st"
          refine .inl ⟨_, rfl, ?_⟩
          walk_at "st"
          refine ⟨_, _, rfl, rfl, by omega, ?_⟩
          walk_at "st"
          refine q_getD ey (by rfl) ?_
          walk_at "st"
          refine ⟨_, _, rfl, rfl, wide_div (b := 10) (by omega) (by omega) (by omega) (by omega), ?_⟩
          walk_at "st"
          refine q_putD ey (sz1000 (by show 6 < 100000; decide)) (kv' := plKV LC at' (rest' / many) left' (turn + 1) cell') (by rfl) ?_
          walk_at "st"
          have b2 : But p Hy (upd Hy p (.dK (plKV LC at' (rest' / many) left' (turn + 1) cell'))) := But.put
          exact q _ _ (bt.trans b2) (key _ _ _ (bt.trans b2) upd_same (Int.ediv_nonneg r0' (by omega)) l0' l8') (Int.emod_nonneg _ (by omega)) (Int.emod_lt_of_pos _ (by omega))
        · have hc' : ¬ 0 < rest' := by simpa using hc
          walk_at "st"
          exact hN _ _ ⟨rfl, rfl, by omega⟩
    · walk_at "st"
      refine q_getD e1 (by rfl) ?_
      walk_at "st"
      refine q_eqI ?_
      refine ⟨_, rfl, ?_⟩
      by_cases cr : rest = 0
      · rw [decide_eq_true cr]
        refine iteT ?_
        walk_at "st"
        refine q_getD e1 (by rfl) ?_
        walk_at "st"
        refine q_eqI ?_
        refine ⟨_, rfl, ?_⟩
        by_cases cl : left = 0
        · rw [decide_eq_true cl]
          refine iteT ?_
          walk_at "st"
          refine ⟨p, LC, ns, at_, rest, left, turn + 1, cell, rfl, e1, eL1, l63, by omega, r0, fun rest' cell' H2 b2 e2 q1 q2 q3 => ?_⟩
          exact hN _ _ ⟨_, _, at_ + 1, rest', 8, cell', rfl, b1.trans b2, e2, by omega, q1, by omega, by omega, fun _ => by omega, q2, q3⟩
        · rw [decide_eq_false cl]
          refine iteF ?_
          exact hN _ _ ⟨_, _, at_, rest, left, cell, rfl, b1, e1, by omega, r0, l0, l8, fun _ => by omega, c0, c1⟩
      · rw [decide_eq_false cr]
        refine iteF ?_
        exact hN _ _ ⟨_, _, at_, rest, left, cell, rfl, b1, e1, by omega, r0, l0, l8, fun z => absurd z cr, c0, c1⟩))) only [↓Hk.hold_s]
end
end T
namespace T
theorem q_lcI {K : PySem.W.Frag} {te te2 : TE} {g : TG} {tt : TT} {vs : List Nat} {σ : L2.St} {H : Hp} {Q : VK} (h : te σ H fun x H1 => ∃ a, x = .ref a ∧ (∃ xs, SqL K H1 a xs) ∧ tLc (fun _ H2 R => R (Itl K a) H2) g tt te2 vs σ H1 Q) : tLc (iList K te) g tt te2 vs σ H Q := h
theorem q_lcR {ta : TA} {te2 : TE} {g : TG} {tt : TT} {vs : List Nat} {σ : L2.St} {H : Hp} {Q : VK} (h : ta σ H fun ws H1 => ∃ n : Int, ws = [.int n] ∧ -(2 ^ 62) ≤ n ∧ n < 2 ^ 62 ∧ tLc (fun _ H2 R => R (Itr 0 n.toNat) H2) g tt te2 vs σ H1 Q) : tLc (iRng1 ta) g tt te2 vs σ H Q := h
theorem seq_if {c : TT} {t u R : TS} {D : Ends} {σ : L2.St} {H : Hp} (Pa : L2.St → Hp → Prop) (h2 : ∀ σ H, Pa σ H → R D σ H) (h1 : ∀ N : L2.St → Hp → Prop, (∀ σ H, Pa σ H → N σ H) → tIfS c t u { D with nx := N } σ H) : tSeq (tIfS c t u) R D σ H := h1 (R D) h2
section
variable {P : Program} {w : World} {K : PySem.W.Frag} {mg : Str → Option Value} {base : Heap}
def wordL (z : Str) (n : Nat) : List Rt := (List.range n).map fun k => (z, ((k : Nat) : Int))
theorem wordL_len (z : Str) (n : Nat) : (wordL z n).length = n := by unfold wordL; rw [List.length_map, List.length_range]
def seekL (dk : Int) : List Rt := if dk > 0 then [("seek", 0)] else []
theorem seekL_le (dk : Int) : (seekL dk).length ≤ 1 := by unfold seekL; split <;> simp
def menuL (m np nq nl : Nat) (dk : Int) : List Rt := wordL "hand" m ++ wordL "lock" nl ++ wordL "read" np ++ seekL dk ++ wordL "send" nq ++ wordL "strip" m ++ wordL "take" nq ++ wordL "write" np
theorem word_dps {H : Hp} {z : Str} {n : Nat} {ys : List V} (l : ys.length = n) (h : ∀ (i : Nat) (y : V), ys[i]? = some y → ∃ t, y = .ref t ∧ H t = some (.tup [.str z, .int (i : Nat)])) : DpAll K H ys ((wordL z n).map rtd) := by
  refine dpAll_of (by rw [List.length_map, wordL_len, l]) fun i x d e1 e2 => ?_
  obtain ⟨t, rfl, et⟩ := h i x e1
  have hi := (List.getElem?_eq_some_iff.mp e1).1
  unfold wordL at e2
  rw [List.map_map, List.getElem?_map, List.getElem?_range (by omega)] at e2
  cases e2
  exact .tup (SqT.of et) (.cons (.str _) (.cons (.int _) .nil))
local macro_rules | `(tactic| walk_at "lw") => `(tactic| (first
  | (intro i y Ha Hb acc e bt h; obtain ⟨t, e0, h1⟩ := h; subst e0; exact ⟨t, Eq.refl _, bt _ _ h1 (fun z => by subst z; rw [h1] at e; cases e)⟩)
  | (intro i x H6 H7 lt s h Q' k; obtain ⟨e1, e2⟩ := h; subst e1; subst e2; refine q_gname ?_; refine ⟨Eq.refl _, ?_⟩; walk_at "st"; exact ⟨by show 2 ≤ sizeLine; decide, fun pt nt => k _ _ (same_new nt) ⟨pt, Eq.refl _, by rw [upd_same, Int.zero_add]⟩⟩)))
section
variable (xT xP xQ : V) (nl fr : Nat) (dk : Int)
def w1 : List (Key × V) := [(Sum.inr "tasks", xT)]
def w2 : List (Key × V) := [(Sum.inr "tasks", xT), (Sum.inr "pages", xP)]
def w3 : List (Key × V) := [(Sum.inr "tasks", xT), (Sum.inr "pages", xP), (Sum.inr "ports", xQ)]
def w4 : List (Key × V) := [(Sum.inr "tasks", xT), (Sum.inr "pages", xP), (Sum.inr "ports", xQ), (Sum.inr "locks", .int nl)]
def w5 : List (Key × V) := [(Sum.inr "tasks", xT), (Sum.inr "pages", xP), (Sum.inr "ports", xQ), (Sum.inr "locks", .int nl), (Sum.inr "frames", .int fr)]
def w6 : List (Key × V) := [(Sum.inr "tasks", xT), (Sum.inr "pages", xP), (Sum.inr "ports", xQ), (Sum.inr "locks", .int nl), (Sum.inr "frames", .int fr), (Sum.inr "disk", .int dk)]
end
def spMenu (K : PySem.W.Frag) : Sp := fun vs H Q _ => ∃ (W LT LP LQ : Addr) (zT zP zQ : List V) (m np nq nl fr : Nat) (dk : Int), vs = [.ref W] ∧ H W = some (.dK (w6 (.ref LT) (.ref LP) (.ref LQ) nl fr dk)) ∧ SqL K H LT zT ∧ SqL K H LP zP ∧ SqL K H LQ zQ ∧ zT.length = m ∧ zP.length = np ∧ zQ.length = nq ∧ m ≤ 4 ∧ np ≤ 4 ∧ nq ≤ 4 ∧ nl ≤ 4 ∧ ∀ l ys H', Same H H' → H l = none → H' l = some (.lst ys) → DpAll K H' ys ((menuL m np nq nl dk).map rtd) → Q (.ref l) H'
theorem ok_law_menu (B : Bl mg) (cc : DefAt K mg "_law_menu" s__law_menu ["_law_w"]) : Cal P w K mg base 1 "_law_menu" ["_law_w"] (spMenu K) := by
 refine Hk.hold ?_
 simp (disch := with_unfolding_all (
 exact Hk.disch (cc.cal fun f fd F => by
  refine F.ok sc__law_menu (fun vs H Q E h => ?_) (fun cdv A outer s H vs Q E hr h => ?_)
  · obtain ⟨W, LT, LP, LQ, zT, zP, zQ, m, np, nq, nl, fr, dk, rfl, _⟩ := h; rfl
  · obtain ⟨W, LT, LP, LQ, zT, zP, zQ, m, np, nq, nl, fr, dk, rfl, eW, hT, hP, hQ, lT, lP, lQ, m4, p4, q4, l4, q⟩ := h
    have hu := hu_of hr
    refine ⟨_, (pss_cons (ps_set (i := 1) sc__law_menu.nd rfl (Or.inl rfl) (pe_callB call_len_seq rfl B.len hb_len (pa_cons (pe_dget hu (pv 0) pe_str (fun _ _ => rfl)) pa_nil)))
      (pss_cons (ps_set (i := 2) sc__law_menu.nd rfl (Or.inl rfl) (pe_op op_cat (pe_lc (own := [("_law_t", 3)]) (tt := tYes) rfl sc__law_menu.nd (pi_range1 rfl B.range (pa_cons (pv 1) pa_nil)) (blkOk_by (N := ["_law_w", "_law_many", "_law_row", "_law_t"]) (sc := defScope s__law_menu) (by decide +kernel)) (fun _ _ _ _ _ => (pg_name (i := 3) sc__law_menu.nd rfl (Or.inl rfl))) (fun _ _ _ _ _ => pts_nil) (fun _ _ _ _ _ => (pe_tup (pa_cons pe_str (pa_cons (pv 3) pa_nil))))) (pe_lc (own := [("_law_t", 3)]) (tt := tYes) rfl sc__law_menu.nd (pi_range1 rfl B.range (pa_cons (pe_dget hu (pv 0) pe_str (fun _ _ => rfl)) pa_nil)) (blkOk_by (N := ["_law_w", "_law_many", "_law_row", "_law_t"]) (sc := defScope s__law_menu) (by decide +kernel)) (fun _ _ _ _ _ => (pg_name (i := 3) sc__law_menu.nd rfl (Or.inl rfl))) (fun _ _ _ _ _ => pts_nil) (fun _ _ _ _ _ => (pe_tup (pa_cons pe_str (pa_cons (pv 3) pa_nil)))))))
      (pss_cons (ps_set (i := 2) sc__law_menu.nd rfl (Or.inl rfl) (pe_op op_cat (pv 2) (pe_lc (own := [("_law_t", 3)]) (tt := tYes) rfl sc__law_menu.nd (pi_range1 rfl B.range (pa_cons (pe_callB call_len_seq rfl B.len hb_len (pa_cons (pe_dget hu (pv 0) pe_str (fun _ _ => rfl)) pa_nil)) pa_nil)) (blkOk_by (N := ["_law_w", "_law_many", "_law_row", "_law_t"]) (sc := defScope s__law_menu) (by decide +kernel)) (fun _ _ _ _ _ => (pg_name (i := 3) sc__law_menu.nd rfl (Or.inl rfl))) (fun _ _ _ _ _ => pts_nil) (fun _ _ _ _ _ => (pe_tup (pa_cons pe_str (pa_cons (pv 3) pa_nil)))))))
      (pss_cons (ps_if (pt_cmpR op_gt (pe_dget hu (pv 0) pe_str (fun _ _ => rfl)) pe_int (nomark _)) (pss_one (ps_expr (pe_bm PySem.F.plainAttrs_list PySem.F.slot_list_append PySem.F.type_list_append mt_append (pv 2) (pa_cons (pe_tup (pa_cons pe_str (pa_cons pe_int pa_nil))) pa_nil)))) pss_nil)
      (pss_cons (ps_set (i := 2) sc__law_menu.nd rfl (Or.inl rfl) (pe_op op_cat (pe_op op_cat (pv 2) (pe_lc (own := [("_law_t", 3)]) (tt := tYes) rfl sc__law_menu.nd (pi_range1 rfl B.range (pa_cons (pe_callB call_len_seq rfl B.len hb_len (pa_cons (pe_dget hu (pv 0) pe_str (fun _ _ => rfl)) pa_nil)) pa_nil)) (blkOk_by (N := ["_law_w", "_law_many", "_law_row", "_law_t"]) (sc := defScope s__law_menu) (by decide +kernel)) (fun _ _ _ _ _ => (pg_name (i := 3) sc__law_menu.nd rfl (Or.inl rfl))) (fun _ _ _ _ _ => pts_nil) (fun _ _ _ _ _ => (pe_tup (pa_cons pe_str (pa_cons (pv 3) pa_nil)))))) (pe_lc (own := [("_law_t", 3)]) (tt := tYes) rfl sc__law_menu.nd (pi_range1 rfl B.range (pa_cons (pv 1) pa_nil)) (blkOk_by (N := ["_law_w", "_law_many", "_law_row", "_law_t"]) (sc := defScope s__law_menu) (by decide +kernel)) (fun _ _ _ _ _ => (pg_name (i := 3) sc__law_menu.nd rfl (Or.inl rfl))) (fun _ _ _ _ _ => pts_nil) (fun _ _ _ _ _ => (pe_tup (pa_cons pe_str (pa_cons (pv 3) pa_nil)))))))
      (pss_cons (ps_set (i := 2) sc__law_menu.nd rfl (Or.inl rfl) (pe_op op_cat (pv 2) (pe_lc (own := [("_law_t", 3)]) (tt := tYes) rfl sc__law_menu.nd (pi_range1 rfl B.range (pa_cons (pe_callB call_len_seq rfl B.len hb_len (pa_cons (pe_dget hu (pv 0) pe_str (fun _ _ => rfl)) pa_nil)) pa_nil)) (blkOk_by (N := ["_law_w", "_law_many", "_law_row", "_law_t"]) (sc := defScope s__law_menu) (by decide +kernel)) (fun _ _ _ _ _ => (pg_name (i := 3) sc__law_menu.nd rfl (Or.inl rfl))) (fun _ _ _ _ _ => pts_nil) (fun _ _ _ _ _ => (pe_tup (pa_cons pe_str (pa_cons (pv 3) pa_nil)))))))
      (pss_one (ps_ret (pe_op op_cat (pv 2) (pe_lc (own := [("_law_t", 3)]) (tt := tYes) rfl sc__law_menu.nd (pi_range1 rfl B.range (pa_cons (pe_callB call_len_seq rfl B.len hb_len (pa_cons (pe_dget hu (pv 0) pe_str (fun _ _ => rfl)) pa_nil)) pa_nil)) (blkOk_by (N := ["_law_w", "_law_many", "_law_row", "_law_t"]) (sc := defScope s__law_menu) (by decide +kernel)) (fun _ _ _ _ _ => (pg_name (i := 3) sc__law_menu.nd rfl (Or.inl rfl))) (fun _ _ _ _ _ => pts_nil) (fun _ _ _ _ _ => (pe_tup (pa_cons pe_str (pa_cons (pv 3) pa_nil)))))))))))))), ?_⟩
    walk_at "st0"
    refine q_getD eW (by rfl) ?_
    walk_at "st"
    refine ⟨LT, zT, rfl, .inl hT, ?_⟩
    rw [lT]
    walk_at "st"
    try dsimp only
    refine q_lcR ?_
    walk_at "st"
    refine ⟨m, rfl, by omega, by omega, ?_⟩
    rw [Int.toNat_natCast]
    refine fun X1 nX1 => lc_rel walk_range (fun i y Hh => ∃ t, y = .ref t ∧ Hh t = some (.tup [.str "hand", .int (i : Nat)])) nX1 (sz1000 (by omega)) (fun H2 s => trivial) yfn_same ?_ ?_ ?_
    · walk_at "lw"
    · walk_at "lw"
    intro y1 H1 s1 e1 l1 r1
    have d1 := word_dps (K := K) l1 r1
    clear r1
    try dsimp only
    walk_at "st"
    try dsimp only
    refine q_lcR ?_
    walk_at "st"
    refine q_getD (s1 _ _ eW) (by rfl) ?_
    refine ⟨nl, rfl, by omega, by omega, ?_⟩
    rw [Int.toNat_natCast]
    refine fun X2 nX2 => lc_rel walk_range (fun i y Hh => ∃ t, y = .ref t ∧ Hh t = some (.tup [.str "lock", .int (i : Nat)])) nX2 (sz1000 (by omega)) (fun H2 s => trivial) yfn_same ?_ ?_ ?_
    · walk_at "lw"
    · walk_at "lw"
    intro y2 H2 s2 e2 l2 r2
    have d2 := word_dps (K := K) l2 r2
    clear r2
    try dsimp only
    refine ⟨X1, X2, y1, y2, rfl, rfl, s2 _ _ e1, e2, Nat.le_of_lt (sz1000 (by omega)), fun X3 nX3 => ?_⟩
    have t3 := same_new (o := .lst (y1 ++ y2)) nX3
    have e3 : upd H2 X3 (.lst (y1 ++ y2)) X3 = some (.lst (y1 ++ y2)) := upd_same
    have d3 : DpAll K (upd H2 X3 (.lst (y1 ++ y2))) (y1 ++ y2) ((wordL "hand" m ++ wordL "lock" nl).map rtd) := by
      rw [List.map_append]
      exact dpAll_app (L2.DpAll.mono (s2.trans t3) d1) (L2.DpAll.mono t3 d2)
    have l3 : (y1 ++ y2).length = m + nl := by rw [List.length_append]; omega
    have S3 : Same H (upd H2 X3 (.lst (y1 ++ y2))) := s1.trans (s2.trans t3)
    have N3 : H X3 = none := (s1.trans s2).free nX3
    generalize upd H2 X3 (.lst (y1 ++ y2)) = H3 at *
    generalize y1 ++ y2 = y3 at *
    try dsimp only
    walk_at "st"
    try dsimp only
    refine q_lcR ?_
    walk_at "st"
    refine q_getD (S3 _ _ eW) (by rfl) ?_
    refine ⟨LP, _, rfl, .inl (S3.seq hP), ?_⟩
    rw [lP]
    refine ⟨np, rfl, by omega, by omega, ?_⟩
    rw [Int.toNat_natCast]
    refine fun X4 nX4 => lc_rel walk_range (fun i y Hh => ∃ t, y = .ref t ∧ Hh t = some (.tup [.str "read", .int (i : Nat)])) nX4 (sz1000 (by omega)) (fun H2 s => trivial) yfn_same ?_ ?_ ?_
    · walk_at "lw"
    · walk_at "lw"
    intro y4 H4 s4 e4 l4 r4
    have d4 := word_dps (K := K) l4 r4
    clear r4
    try dsimp only
    refine ⟨X3, X4, y3, y4, rfl, rfl, s4 _ _ e3, e4, Nat.le_of_lt (sz1000 (by omega)), fun X5 nX5 => ?_⟩
    have t5 := same_new (o := .lst (y3 ++ y4)) nX5
    have e5 : upd H4 X5 (.lst (y3 ++ y4)) X5 = some (.lst (y3 ++ y4)) := upd_same
    have d5 : DpAll K (upd H4 X5 (.lst (y3 ++ y4))) (y3 ++ y4) ((wordL "hand" m ++ wordL "lock" nl ++ wordL "read" np).map rtd) := by
      rw [List.map_append]
      exact dpAll_app (L2.DpAll.mono (s4.trans t5) d3) (L2.DpAll.mono t5 d4)
    have l5 : (y3 ++ y4).length = m + nl + np := by rw [List.length_append]; omega
    have S5 : Same H (upd H4 X5 (.lst (y3 ++ y4))) := S3.trans (s4.trans t5)
    have N5 : H X5 = none := (S3.trans s4).free nX5
    generalize upd H4 X5 (.lst (y3 ++ y4)) = H5 at *
    generalize y3 ++ y4 = y5 at *
    try dsimp only
    refine seq_if (fun σ Hh => ∃ zs, σ = [some (.ref W), some (.int m), some (.ref X5), none] ∧ Same H Hh ∧ Hh X5 = some (.lst zs) ∧ DpAll K Hh zs ((wordL "hand" m ++ wordL "lock" nl ++ wordL "read" np ++ seekL dk).map rtd)) (fun σ Hh hp => ?_) (fun N hN => ?_)
    rotate_left
    · walk_at "st"
      refine q_getD (S5 _ _ eW) (by rfl) ?_
      walk_at "st"
      by_cases c : 0 < dk
      · rw [decide_eq_true c]
        refine iteT ?_
        walk_at "st"
        refine ⟨.inl ⟨rfl, _, SqL.of e5⟩, ?_⟩
        walk_at "st"
        refine ⟨by show 2 ≤ sizeLine; decide, fun pt npt => ?_⟩
        have sp := same_new (o := .tup [V.str "seek", V.int 0]) npt
        walk_at "st"
        refine ⟨X5, _, _, rfl, rfl, sp _ _ e5, sz1000 (by omega), ?_⟩
        have kl : KeepL (upd H5 pt (.tup [V.str "seek", V.int 0])) (upd (upd H5 pt (.tup [V.str "seek", V.int 0])) X5 (.lst (y5 ++ [V.ref pt]))) := KeepL.put (sp _ _ e5)
        refine hN _ _ ⟨_, rfl, fun b o e => ?_, upd_same, ?_⟩
        · rw [upd_ne (ne_of_none e N5)]
          exact sp _ _ (S5 _ _ e)
        · refine dpAllKeepL kl ?_ (noLs_rtd _)
          rw [List.map_append]
          refine dpAll_app (L2.DpAll.mono sp d5) ?_
          have es : seekL dk = [((("seek" : Str), (0 : Int)) : Rt)] := by unfold seekL; rw [if_pos c]
          rw [es]
          exact .cons (.tup (SqT.of upd_same) (.cons (.str _) (.cons (.int _) .nil))) .nil
      · rw [decide_eq_false c]
        refine iteF ?_
        refine hN _ _ ⟨_, rfl, S5, e5, ?_⟩
        have es : seekL dk = [] := by unfold seekL; rw [if_neg c]
        rw [es, List.append_nil]
        exact d5
    obtain ⟨zs, rfl, Sz, ez, dz⟩ := hp
    have lz : zs.length = m + nl + np + (seekL dk).length := by
      have := dz.length
      rw [List.length_map, List.length_append, List.length_append, List.length_append, wordL_len, wordL_len, wordL_len] at this
      omega
    have lk := seekL_le dk
    generalize (seekL dk).length = sk at *
    walk_at "st"
    try dsimp only
    refine q_lcR ?_
    walk_at "st"
    refine q_getD (Sz _ _ eW) (by rfl) ?_
    refine ⟨LQ, _, rfl, .inl (Sz.seq hQ), ?_⟩
    rw [lQ]
    refine ⟨nq, rfl, by omega, by omega, ?_⟩
    rw [Int.toNat_natCast]
    refine fun X6 nX6 => lc_rel walk_range (fun i y Hh => ∃ t, y = .ref t ∧ Hh t = some (.tup [.str "send", .int (i : Nat)])) nX6 (sz1000 (by omega)) (fun H2 s => trivial) yfn_same ?_ ?_ ?_
    · walk_at "lw"
    · walk_at "lw"
    intro y6 H6 s6 e6 l6 r6
    have d6 := word_dps (K := K) l6 r6
    clear r6
    try dsimp only
    refine ⟨X5, X6, zs, y6, rfl, rfl, s6 _ _ ez, e6, Nat.le_of_lt (sz1000 (by omega)), fun X7 nX7 => ?_⟩
    have t7 := same_new (o := .lst (zs ++ y6)) nX7
    have e7 : upd H6 X7 (.lst (zs ++ y6)) X7 = some (.lst (zs ++ y6)) := upd_same
    have d7 : DpAll K (upd H6 X7 (.lst (zs ++ y6))) (zs ++ y6) ((wordL "hand" m ++ wordL "lock" nl ++ wordL "read" np ++ seekL dk ++ wordL "send" nq).map rtd) := by
      rw [List.map_append]
      exact dpAll_app (L2.DpAll.mono (s6.trans t7) dz) (L2.DpAll.mono t7 d6)
    have l7 : (zs ++ y6).length = m + nl + np + sk + nq := by rw [List.length_append]; omega
    have S7 : Same H (upd H6 X7 (.lst (zs ++ y6))) := Sz.trans (s6.trans t7)
    have N7 : H X7 = none := (Sz.trans s6).free nX7
    generalize upd H6 X7 (.lst (zs ++ y6)) = H7 at *
    generalize zs ++ y6 = y7 at *
    try dsimp only
    walk_at "st"
    try dsimp only
    refine q_lcR ?_
    walk_at "st"
    refine ⟨m, rfl, by omega, by omega, ?_⟩
    rw [Int.toNat_natCast]
    refine fun X8 nX8 => lc_rel walk_range (fun i y Hh => ∃ t, y = .ref t ∧ Hh t = some (.tup [.str "strip", .int (i : Nat)])) nX8 (sz1000 (by omega)) (fun H2 s => trivial) yfn_same ?_ ?_ ?_
    · walk_at "lw"
    · walk_at "lw"
    intro y8 H8 s8 e8 l8 r8
    have d8 := word_dps (K := K) l8 r8
    clear r8
    try dsimp only
    refine ⟨X7, X8, y7, y8, rfl, rfl, s8 _ _ e7, e8, Nat.le_of_lt (sz1000 (by omega)), fun X9 nX9 => ?_⟩
    have t9 := same_new (o := .lst (y7 ++ y8)) nX9
    have e9 : upd H8 X9 (.lst (y7 ++ y8)) X9 = some (.lst (y7 ++ y8)) := upd_same
    have d9 : DpAll K (upd H8 X9 (.lst (y7 ++ y8))) (y7 ++ y8) ((wordL "hand" m ++ wordL "lock" nl ++ wordL "read" np ++ seekL dk ++ wordL "send" nq ++ wordL "strip" m).map rtd) := by
      rw [List.map_append]
      exact dpAll_app (L2.DpAll.mono (s8.trans t9) d7) (L2.DpAll.mono t9 d8)
    have l9 : (y7 ++ y8).length = m + nl + np + sk + nq + m := by rw [List.length_append]; omega
    have S9 : Same H (upd H8 X9 (.lst (y7 ++ y8))) := S7.trans (s8.trans t9)
    have N9 : H X9 = none := (S7.trans s8).free nX9
    generalize upd H8 X9 (.lst (y7 ++ y8)) = H9 at *
    generalize y7 ++ y8 = y9 at *
    try dsimp only
    walk_at "st"
    try dsimp only
    refine q_lcR ?_
    walk_at "st"
    refine q_getD (S9 _ _ eW) (by rfl) ?_
    refine ⟨LQ, _, rfl, .inl (S9.seq hQ), ?_⟩
    rw [lQ]
    refine ⟨nq, rfl, by omega, by omega, ?_⟩
    rw [Int.toNat_natCast]
    refine fun X10 nX10 => lc_rel walk_range (fun i y Hh => ∃ t, y = .ref t ∧ Hh t = some (.tup [.str "take", .int (i : Nat)])) nX10 (sz1000 (by omega)) (fun H2 s => trivial) yfn_same ?_ ?_ ?_
    · walk_at "lw"
    · walk_at "lw"
    intro y10 H10 s10 e10 l10 r10
    have d10 := word_dps (K := K) l10 r10
    clear r10
    try dsimp only
    refine ⟨X9, X10, y9, y10, rfl, rfl, s10 _ _ e9, e10, Nat.le_of_lt (sz1000 (by omega)), fun X11 nX11 => ?_⟩
    have t11 := same_new (o := .lst (y9 ++ y10)) nX11
    have e11 : upd H10 X11 (.lst (y9 ++ y10)) X11 = some (.lst (y9 ++ y10)) := upd_same
    have d11 : DpAll K (upd H10 X11 (.lst (y9 ++ y10))) (y9 ++ y10) ((wordL "hand" m ++ wordL "lock" nl ++ wordL "read" np ++ seekL dk ++ wordL "send" nq ++ wordL "strip" m ++ wordL "take" nq).map rtd) := by
      rw [List.map_append]
      exact dpAll_app (L2.DpAll.mono (s10.trans t11) d9) (L2.DpAll.mono t11 d10)
    have l11 : (y9 ++ y10).length = m + nl + np + sk + nq + m + nq := by rw [List.length_append]; omega
    have S11 : Same H (upd H10 X11 (.lst (y9 ++ y10))) := S9.trans (s10.trans t11)
    have N11 : H X11 = none := (S9.trans s10).free nX11
    generalize upd H10 X11 (.lst (y9 ++ y10)) = H11 at *
    generalize y9 ++ y10 = y11 at *
    try dsimp only
    walk_at "st"
    try dsimp only
    refine q_lcR ?_
    walk_at "st"
    refine q_getD (S11 _ _ eW) (by rfl) ?_
    refine ⟨LP, _, rfl, .inl (S11.seq hP), ?_⟩
    rw [lP]
    refine ⟨np, rfl, by omega, by omega, ?_⟩
    rw [Int.toNat_natCast]
    refine fun X12 nX12 => lc_rel walk_range (fun i y Hh => ∃ t, y = .ref t ∧ Hh t = some (.tup [.str "write", .int (i : Nat)])) nX12 (sz1000 (by omega)) (fun H2 s => trivial) yfn_same ?_ ?_ ?_
    · walk_at "lw"
    · walk_at "lw"
    intro y12 H12 s12 e12 l12 r12
    have d12 := word_dps (K := K) l12 r12
    clear r12
    try dsimp only
    refine ⟨X11, X12, y11, y12, rfl, rfl, s12 _ _ e11, e12, Nat.le_of_lt (sz1000 (by omega)), fun X13 nX13 => ?_⟩
    have t13 := same_new (o := .lst (y11 ++ y12)) nX13
    have e13 : upd H12 X13 (.lst (y11 ++ y12)) X13 = some (.lst (y11 ++ y12)) := upd_same
    have d13 : DpAll K (upd H12 X13 (.lst (y11 ++ y12))) (y11 ++ y12) ((wordL "hand" m ++ wordL "lock" nl ++ wordL "read" np ++ seekL dk ++ wordL "send" nq ++ wordL "strip" m ++ wordL "take" nq ++ wordL "write" np).map rtd) := by
      rw [List.map_append]
      exact dpAll_app (L2.DpAll.mono (s12.trans t13) d11) (L2.DpAll.mono t13 d12)
    have l13 : (y11 ++ y12).length = m + nl + np + sk + nq + m + nq + np := by rw [List.length_append]; omega
    have S13 : Same H (upd H12 X13 (.lst (y11 ++ y12))) := S11.trans (s12.trans t13)
    have N13 : H X13 = none := (S11.trans s12).free nX13
    generalize upd H12 X13 (.lst (y11 ++ y12)) = H13 at *
    generalize y11 ++ y12 = y13 at *
    try dsimp only
    exact q _ _ _ S13 N13 e13 d13))) only [↓Hk.hold_s]
end
end T
namespace T
section
variable {P : Program} {w : World} {K : PySem.W.Frag} {mg : Str → Option Value} {base : Heap}
local macro_rules | `(tactic| walk_at "s1") => `(tactic| first | with_reducible refine q_sl ?_ | with_reducible refine q_np ?_ | with_reducible refine q_pt ?_)
/-- a loop over a list, the list told already -/
def ForL (K : PySem.W.Frag) (a : Addr) (g : TG) (tb : TS) (D : Ends) (σ : L2.St) (H1 : Hp) : Prop := ∃ W : Nat → Nat → L2.St → Hp → Prop, (∃ m, W 0 m σ H1) ∧ ∀ i m σ H, W i m σ H →
    ((Itl K a).stop i H ∧ D.nx σ H) ∨ ((Itl K a).go i H ∧ ∃ N : L2.St → Hp → Prop, (∀ σ' H', N σ' H' → ∃ m', m' < m ∧ W (i + 1) m' σ' H') ∧ ∀ x H', (Itl K a).yld i H x H' → g x σ H' fun σ2 H2 => tb { D with nx := N, ct := N, bk := D.nx } σ2 H2)
theorem q_forLA {te : TE} {g : TG} {tb : TS} {D : Ends} {σ : L2.St} {H : Hp} (h : te σ H fun x H1 => ∃ a, x = .ref a ∧ (∃ xs, SqL K H1 a xs) ∧ ForL K a g tb D σ H1) : tFor (iList K te) g tb D σ H := h
theorem forL {a : Addr} {g : TG} {tb : TS} {D : Ends} {σ : L2.St} {H : Hp} (xs : List V) (Pv : Nat → L2.St → Hp → Prop) (h0 : Pv 0 σ H) (hl : ∀ i σ H, i ≤ xs.length → Pv i σ H → SqL K H a xs)
    (hs : ∀ i x σ H, xs[i]? = some x → Pv i σ H → g x σ H fun σ2 H2 => tb { D with nx := Pv (i + 1), ct := Pv (i + 1), bk := D.nx } σ2 H2) (hd : ∀ σ H, Pv xs.length σ H → D.nx σ H) : ForL K a g tb D σ H := L2.for_list Pv h0 hl hs hd
structure RowB (menu row : List Rt) : Prop where
  srt : (row.Pairwise fun a b => ¬ ltWIp b a)
  nd : row.Nodup
  inm : ∀ p ∈ row, p ∈ menu
  few : row.length ≤ 8
theorem cut_to (l : List V) (n : Nat) : cutV l none (some (n : Int)) = l.take n := by
  unfold cutV
  rw [HT.sIx_none, show HT.sIx l.length l.length (some (n : Int)) = min n l.length from HT.sIx_nat _ _ n, List.drop_zero, List.take_eq_take_iff]
  simp
theorem cut_from (l : List V) (n : Nat) : cutV l (some (n : Int)) none = l.drop n := by
  unfold cutV
  rw [HT.sIx_none, show HT.sIx l.length 0 (some (n : Int)) = min n l.length from HT.sIx_nat _ _ n, List.take_of_length_le (by rw [List.length_drop]; omega)]
  by_cases h : n ≤ l.length
  · rw [Nat.min_eq_left h]
  · rw [Nat.min_eq_right (by omega), List.drop_length, List.drop_eq_nil_of_le (by omega)]
theorem dpAll_take {H : Hp} {xs : List V} {ds : List PyData} (h : DpAll K H xs ds) : ∀ n, DpAll K H (xs.take n) (ds.take n) := by
  intro n
  induction n generalizing xs ds with
  | zero => exact .nil
  | succ n ih => cases h with
    | nil => exact .nil
    | cons a t => exact .cons a (ih t)
theorem dpAll_drop {H : Hp} {xs : List V} {ds : List PyData} (h : DpAll K H xs ds) : ∀ n, DpAll K H (xs.drop n) (ds.drop n) := by
  intro n
  induction n generalizing xs ds with
  | zero => exact h
  | succ n ih => cases h with
    | nil => exact .nil
    | cons a t => exact ih t
/-- the menu from one place on, and then its beginning -/
def rot (menu : List Rt) (n : Nat) : List Rt := menu.drop n ++ menu.take n
theorem rot_perm (menu : List Rt) (n : Nat) : (rot menu n).Perm menu := by
  unfold rot
  have := List.perm_append_comm (l₁ := menu.drop n) (l₂ := menu.take n)
  rw [List.take_append_drop] at this
  exact this
def spRights (K : PySem.W.Frag) : Sp := fun vs H Q _ => ∃ (p LC : Addr) (n : Nat) (lm : Addr) (ms : List V) (menu : List Rt), vs = [.ref p, .ref lm] ∧ PoolAt H p LC n ∧ n ≤ 40000 ∧ SqL K H lm ms ∧ DpAll K H ms (menu.map rtd) ∧ 1 ≤ menu.length ∧ menu.length ≤ 100 ∧ menu.Nodup ∧ (∀ p ∈ menu, PyData.strOk p.1 = true) ∧
  ∀ l ys H' row, But p H H' → PoolAt H' p LC (n + 102) → H l = none → H' l = some (.lst ys) → DpAll K H' ys (row.map rtd) → RowB menu row → Q (.ref l) H'
theorem ok_law_rights (B : Bl mg) (c__law_draw : Cal P w K mg base 2 "_law_draw" ["_law_pool_here", "_law_many"] (spDraw K)) (cc : DefAt K mg "_law_rights" s__law_rights ["_law_pool_here", "_law_menu_here"]) : Cal P w K mg base 3 "_law_rights" ["_law_pool_here", "_law_menu_here"] (spRights K) := by
 refine Hk.hold ?_
 simp (disch := with_unfolding_all (
 exact Hk.disch (cc.cal fun f fd F => by
  refine F.ok sc__law_rights (fun vs H Q E h => ?_) (fun cdv A outer s H vs Q E hr h => ?_)
  · obtain ⟨p, LC, n, lm, ms, menu, rfl, _⟩ := h; rfl
  · obtain ⟨p, LC, n, lm, ms, menu, rfl, PA, n4, hm, dm, m1, m100, nd, wd, q⟩ := h
    have lm' := dm.length
    rw [List.length_map] at lm'
    refine ⟨_, (pss_cons (ps_set (i := 2) sc__law_rights.nd rfl (Or.inl rfl) (pe_cal c__law_draw (hr.mono (by omega)) rfl (pa_cons (pv 0) (pa_cons (pe_callB call_len_seq rfl B.len hb_len (pa_cons (pv 1) pa_nil)) pa_nil))))
      (pss_cons (ps_set (i := 3) sc__law_rights.nd rfl (Or.inl rfl) (pe_op op_add pe_int (pe_cal c__law_draw (hr.mono (by omega)) rfl (pa_cons (pv 0) (pa_cons pe_int pa_nil)))))
      (pss_cons (ps_set (i := 4) sc__law_rights.nd rfl (Or.inl rfl) (pe_lst pa_nil))
      (pss_cons (ps_for PassesOwn.never rfl (pi_list (pe_op op_cat (pe_slice sl_list (pv 1) (po_some (pv 2)) po_none) (pe_slice sl_list (pv 1) po_none (po_some (pv 2))))) (pg_name (i := 5) sc__law_rights.nd rfl (Or.inl rfl)) (pss_one (ps_if (PW.pt (pw_and (pt_cmpR op_lt (pe_callB call_len_seq rfl B.len hb_len (pa_cons (pv 4) pa_nil)) pe_int (nomark _)) (pw_and1 (pt_cmpR op_eq (pe_cal c__law_draw (hr.mono (by omega)) rfl (pa_cons (pv 0) (pa_cons (pv 3) pa_nil))) pe_int (nomark _))))) (pss_one (ps_expr (pe_bm PySem.F.plainAttrs_list PySem.F.slot_list_append PySem.F.type_list_append mt_append (pv 4) (pa_cons (pv 5) pa_nil)))) pss_nil)))
      (pss_one (ps_ret (pe_callB (show CallR _ _ (rSortedR K) from cr_sortedR) rfl B.sorted hb_sorted (pa_cons (pv 4) pa_nil)))))))), ?_⟩
    walk_at "st0"
    refine ⟨lm, ms, rfl, .inl hm, ?_⟩
    rw [lm']
    walk_at "st"
    refine ⟨p, LC, n, _, rfl, PA, by omega, by omega, by omega, fun st H1 b1 P1 s0 s1 => ?_⟩
    walk_at "st"
    refine ⟨p, LC, n + 1, 4, rfl, P1, by omega, by omega, by omega, fun ev H2 b2 P2 v0 v1 => ?_⟩
    have b12 := b1.trans b2
    have k12 := PA.keepD b12
    have hm2 := KeepD.sqL k12 hm
    have dm2 := dpAllKeepD k12 dm
    obtain ⟨st, rfl⟩ : ∃ k : Nat, st = k := ⟨st.toNat, by omega⟩
    clear b1 b2 P1 k12
    walk_at "st"
    refine ⟨by show 0 ≤ sizeLine; decide, fun X nX => ?_⟩
    have sX := same_new (o := .lst []) nX
    have eX : upd H2 X (.lst []) X = some (.lst []) := upd_same
    generalize upd H2 X (.lst []) = H3 at *
    have nX0 : H X = none := by
      cases z : H X with
      | none => rfl
      | some o =>
        have := b12 _ _ z (fun y => by
          subst y
          obtain ⟨kv, e⟩ := P2.dk
          rw [nX] at e; cases e)
        rw [nX] at this; cases this
    have P3 := P2.same sX
    have hm3 := sX.seq hm2
    have dm3 := L2.DpAll.mono sX dm2
    have b03 : But p H H3 := fun b o hb hn => sX _ _ (b12 _ _ hb hn)
    obtain ⟨nPX, nLX⟩ := P2.new nX
    clear b12 P2 hm2 dm2 sX
    walk_at "st"
    refine q_forLA ?_
    walk_at "st"
    refine ⟨st, rfl, ?_⟩
    walk_at "st"
    refine ⟨lm, ms, rfl, hm3, fun l1 n1 => ?_⟩
    rw [cut_from]
    have t1 := same_new (o := .lst (ms.drop st)) n1
    have e1 : upd H3 l1 (.lst (ms.drop st)) l1 = some (.lst (ms.drop st)) := upd_same
    generalize upd H3 l1 (.lst (ms.drop st)) = H4 at *
    walk_at "st"
    refine ⟨st, rfl, ?_⟩
    refine ⟨lm, ms, rfl, t1.seq hm3, fun l2 n2 => ?_⟩
    rw [cut_to]
    have t2 := same_new (o := .lst (ms.take st)) n2
    have e2 : upd H4 l2 (.lst (ms.take st)) l2 = some (.lst (ms.take st)) := upd_same
    generalize upd H4 l2 (.lst (ms.take st)) = H5 at *
    refine ⟨l1, l2, _, _, rfl, rfl, t2 _ _ e1, e2, Nat.le_of_lt (sz1000 (by rw [List.length_drop, List.length_take]; omega)), fun LR nLR => ?_⟩
    have t3 := same_new (o := .lst (ms.drop st ++ ms.take st)) nLR
    have t35 := t1.trans (t2.trans t3)
    have dR : DpAll K (upd H5 LR (.lst (ms.drop st ++ ms.take st))) (ms.drop st ++ ms.take st) ((rot menu st).map rtd) := by
      unfold rot
      rw [List.map_append, List.map_drop, List.map_take]
      exact dpAll_app (L2.DpAll.mono t35 (dpAll_drop dm3 st)) (L2.DpAll.mono t35 (dpAll_take dm3 st))
    have eLR : upd H5 LR (.lst (ms.drop st ++ ms.take st)) LR = some (.lst (ms.drop st ++ ms.take st)) := upd_same
    generalize upd H5 LR (.lst (ms.drop st ++ ms.take st)) = H6 at *
    have lrv : (ms.drop st ++ ms.take st).length ≤ 100 := by rw [List.length_append, List.length_drop, List.length_take]; omega
    generalize ms.drop st ++ ms.take st = rv at *
    have P6 := P3.same t35
    have eX6 := t35 _ _ eX
    have nLRX : LR ≠ X := fun z => by
      have := ne_of_none ((t1.trans t2) _ _ eX) nLR
      exact this z.symm
    have b06 : But p H H6 := fun b o hb hn => t35 _ _ (b03 _ _ hb hn)
    have rp := rot_perm menu st
    generalize rot menu st = rl at *
    clear t1 t2 t3 e1 e2 P3 eX hm3 dm3 b03 n1 n2 t35
    let J : Nat → L2.St → Hp → Prop := fun j σ Hh => ∃ (o5 : Option V) (row : List Rt) (ys : List V), σ = [some (.ref p), some (.ref lm), some (.int st), some (.int (1 + ev)), some (.ref X), o5] ∧ But p H Hh ∧ PoolAt Hh p LC (n + 2 + j) ∧ Hh LR = some (.lst rv) ∧ DpAll K Hh rv (rl.map rtd) ∧ Hh X = some (.lst ys) ∧ DpAll K Hh ys (row.map rtd) ∧ row.Sublist (rl.take j) ∧ row.length ≤ 8
    refine ⟨LR, rfl, ⟨_, SqL.of eLR⟩, forL rv J ⟨_, [], [], rfl, b06, P6, eLR, dR, eX6, .nil, List.nil_sublist _, by simp⟩ (fun i σ Hh _ hJ => by obtain ⟨_, _, _, _, _, _, e, _⟩ := hJ; exact SqL.of e) (fun j x0 σ Hh ex hJ => ?_) (fun σ Hh hJ => ?_)⟩
    · obtain ⟨o5, row, ys, rfl, bJ, PJ, eJ, dJ, eXJ, dXJ, sub, l8⟩ := hJ
      have lj := (List.getElem?_eq_some_iff.mp ex).1
      have lys := dXJ.length
      rw [List.length_map] at lys
      obtain ⟨dd, g1, g2⟩ := dJ.get' ex
      rw [List.getElem?_map] at g1
      obtain ⟨pj, hpj, rfl⟩ := Option.map_eq_some_iff.mp g1
      have tk : rl.take (j + 1) = rl.take j ++ [pj] := by rw [List.take_add_one, hpj]; rfl
      have sub' : row.Sublist (rl.take (j + 1)) := by rw [tk]; exact sub.trans (List.sublist_append_left _ _)
      have P1' := PJ.le (m := n + 2 + (j + 1)) (by omega)
      refine q_gname ?_
      walk_at "st"
      refine ⟨X, ys, rfl, .inl (SqL.of eXJ), ?_⟩
      walk_at "st"
      by_cases c8 : (ys.length : Int) < 8
      · rw [decide_eq_true c8]
        refine iteT ?_
        walk_at "st"
        refine ⟨p, LC, n + 2 + j, 1 + ev, rfl, PJ, by omega, by omega, by omega, fun r H7 b7 P7 r0 r1 => ?_⟩
        have k7 := PJ.keepD b7
        have eX7 := b7 _ _ eXJ (Ne.symm nPX)
        have nPR : LR ≠ p := fun z => by
          obtain ⟨kv, e⟩ := PJ.dk
          rw [← z, eJ] at e; cases e
        have eR7 := b7 _ _ eJ nPR
        have dX7 := dpAllKeepD k7 dXJ
        have dR7 := dpAllKeepD k7 dJ
        have b07 := bJ.trans b7
        walk_at "st"
        refine q_eqI ?_
        refine ⟨_, rfl, ?_⟩
        by_cases cr : r = 0
        · rw [decide_eq_true cr]
          refine iteT ?_
          walk_at "st"
          refine ⟨.inl ⟨rfl, ys, SqL.of eX7⟩, ?_⟩
          walk_at "st"
          refine ⟨X, ys, _, rfl, rfl, eX7, sz1000 (by omega), ?_⟩
          have kl : KeepL H7 (upd H7 X (.lst (ys ++ [x0]))) := KeepL.put eX7
          refine ⟨_, row ++ [pj], ys ++ [x0], rfl, fun b o hb hn => by rw [upd_ne (ne_of_none hb nX0)]; exact b07 _ _ hb hn, P7.but nPX nLX But.put, by rw [upd_ne nLRX]; exact eR7, dpAllKeepL kl dR7 (noLs_rtd _), upd_same, ?_, ?_, by rw [List.length_append, List.length_singleton]; omega⟩
          · rw [List.map_append]
            exact dpAllKeepL kl (dpAll_app dX7 (.cons (dpKeepD k7 g2) .nil)) (by rw [noLs_all]; intro d hd; rcases List.mem_append.mp hd with hd | hd <;> (obtain ⟨q, _, rfl⟩ := List.mem_map.mp hd; rfl))
          · rw [tk]
            exact List.Sublist.append sub (List.Sublist.refl _)
        · rw [decide_eq_false cr]
          refine iteF ?_
          exact ⟨_, row, ys, rfl, b07, P7, eR7, dR7, eX7, dX7, sub', l8⟩
      · rw [decide_eq_false c8]
        refine iteF ?_
        exact ⟨_, row, ys, rfl, bJ, P1', eJ, dJ, eXJ, dXJ, sub', l8⟩
    · obtain ⟨o5, row, ys, rfl, bJ, PJ, eJ, dJ, eXJ, dXJ, sub, l8⟩ := hJ
      have lsb : row.Sublist rl := sub.trans (List.take_sublist _ _)
      walk_at "st"
      refine ⟨X, ys, row, rfl, .inl (SqL.of eXJ), pair_of_dp dXJ, fun zs2 pp hp npp => ?_⟩
      have s9 := same_new (o := .lst zs2) npp
      have npp0 : H pp = none := by
        cases z : H pp with
        | none => rfl
        | some o =>
          have := bJ _ _ z (PJ.new npp).1.symm
          rw [npp] at this; cases this
      exact q pp zs2 _ (srt row) (fun b o hb hn => s9 _ _ (bJ _ _ hb hn)) ((PJ.same s9).le (by omega)) npp0 upd_same (dp_of_pair (pair_mono s9 hp)) ⟨srt_pw row, (srt_perm row).nodup_iff.mpr (lsb.nodup (rp.nodup_iff.mpr nd)), fun p hp => rp.mem_iff.mp (lsb.subset (srt_mem.mp hp)), by rw [srt_len]; exact l8⟩))) only [↓Hk.hold_s]
end
end T
namespace T
section
variable {P : Program} {w : World} {K : PySem.W.Frag} {mg : Str → Option Value} {base : Heap}
theorem q_lsd {ta : TE} {σ : L2.St} {H : Hp} {Q : VK} (h : ta σ H fun x H1 => ∃ (l : Addr) (ns : List Int), x = V.ref l ∧ SqL K H1 l (ns.map V.int) ∧ ns.length < 60 ∧ Q (.int (distinct ns)) H1) : tLenSetD K ta σ H Q := h
theorem ixN_last {n : Nat} (h : 1 ≤ n) : ixN n (-1) = some (n - 1) := by
  unfold ixN
  rw [if_neg (by omega), if_pos (by omega)]
  congr 1
  omega
def tkD (p : Int × Int) : PyData := .tuple [.int p.1, .int p.2]
/-- the tasks' list, its pairs each told -/
def TsAt (H : Hp) (LT : Addr) (ts : List (Int × Int)) : Prop := ∃ ys : List V, H LT = some (.lst ys) ∧ ys.length = ts.length ∧ ∀ (i : Nat) y s, ys[i]? = some y → ts[i]? = some s → ∃ p, y = .ref p ∧ H p = some (.tup [.int s.1, .int s.2])
theorem TsAt.mono {H H' : Hp} {LT : Addr} {ts : List (Int × Int)} (h : TsAt H LT ts) (s : Same H H') : TsAt H' LT ts := by
  obtain ⟨ys, e, l, r⟩ := h
  exact ⟨ys, s _ _ e, l, fun i y x a b => by obtain ⟨p, e1, e2⟩ := r i y x a b; exact ⟨p, e1, s _ _ e2⟩⟩
theorem TsAt.dp {H : Hp} {LT : Addr} {ts : List (Int × Int)} (h : TsAt H LT ts) : Dp K H (.ref LT) (.list (ts.map tkD)) := by
  obtain ⟨ys, e, l, r⟩ := h
  refine .lst (SqL.of e) (dpAll_of (by rw [List.length_map, l]) fun i x d ex ed => ?_)
  rw [List.getElem?_map] at ed
  obtain ⟨s, es, rfl⟩ := Option.map_eq_some_iff.mp ed
  obtain ⟨p, rfl, ep⟩ := r i x s ex es
  exact .tup (SqT.of ep) (.cons (.int _) (.cons (.int _) .nil))
theorem TsAt.keepD {H H' : Hp} {LT : Addr} {ts : List (Int × Int)} (h : TsAt H LT ts) (s : KeepD H H') : TsAt H' LT ts := by
  obtain ⟨ys, e, l, r⟩ := h
  exact ⟨ys, s _ _ e (by simp) (by simp), l, fun i y x a b => by obtain ⟨p, e1, e2⟩ := r i y x a b; exact ⟨p, e1, s _ _ e2 (by simp) (by simp)⟩⟩
/-- what the if leaves of the tasks -/
structure TsOk (m : Nat) (ts : List (Int × Int)) : Prop where
  l : ts.length = m
  tb : ∀ x ∈ ts, 0 ≤ x.1 ∧ x.1 ≤ 3 ∧ 0 ≤ x.2 ∧ x.2 ≤ 2
  two : ∃ x ∈ ts, ∃ y ∈ ts, x.1 ≠ y.1
def spTasks (K : PySem.W.Frag) : Sp := fun vs H Q _ => ∃ (p LC : Addr) (n m : Nat), vs = [.ref p, .int m] ∧ PoolAt H p LC n ∧ n ≤ 40000 ∧ 2 ≤ m ∧ m ≤ 4 ∧ ∀ LT ts H', But p H H' → PoolAt H' p LC (n + 10) → H LT = none → TsAt H' LT ts → TsOk m ts → Q (.ref LT) H'
theorem free_but {p X : Addr} {H H' : Hp} (bt : But p H H') (n : p ≠ X) (h : H' X = none) : H X = none := by
  cases z : H X with
  | none => rfl
  | some o =>
    have := bt _ _ z (Ne.symm n)
    rw [h] at this; cases this
theorem ok_law_tasks (B : Bl mg) (c__law_draw : Cal P w K mg base 2 "_law_draw" ["_law_pool_here", "_law_many"] (spDraw K)) (cc : DefAt K mg "_law_tasks" s__law_tasks ["_law_pool_here", "_law_many"]) : Cal P w K mg base 3 "_law_tasks" ["_law_pool_here", "_law_many"] (spTasks K) := by
 refine Hk.hold ?_
 simp (disch := with_unfolding_all (
 exact Hk.disch (cc.cal fun f fd F => by
  refine F.ok sc__law_tasks (fun vs H Q E h => ?_) (fun cdv A outer s H vs Q E hr h => ?_)
  · obtain ⟨p, LC, n, m, rfl, _⟩ := h; rfl
  · obtain ⟨p, LC, n, m, rfl, PA, n4, m2, m4, q⟩ := h
    have hu := hu_of hr
    refine ⟨_, (pss_cons (ps_set (i := 2) sc__law_tasks.nd rfl (Or.inl rfl) (pe_lst pa_nil))
      (pss_cons (ps_for PassesOwn.never rfl (pi_range1 rfl B.range (pa_cons (pv 1) pa_nil)) (pg_name (i := 3) sc__law_tasks.nd rfl (Or.inl rfl)) (pss_cons (ps_set (i := 4) sc__law_tasks.nd rfl (Or.inl rfl) (pe_cal c__law_draw (hr.mono (by omega)) rfl (pa_cons (pv 0) (pa_cons pe_int pa_nil))))
      (pss_one (ps_expr (pe_bm PySem.F.plainAttrs_list PySem.F.slot_list_append PySem.F.type_list_append mt_append (pv 2) (pa_cons (pe_tup (pa_cons (pv 4) (pa_cons (pe_cal c__law_draw (hr.mono (by omega)) rfl (pa_cons (pv 0) (pa_cons pe_int pa_nil))) pa_nil))) pa_nil))))))
      (pss_cons (ps_if (pt_cmpR op_eq (pe_lenSetD rfl rfl B.len rfl B.set_ (pe_lc (own := [("_law_row", 5)]) (tt := tYes) rfl sc__law_tasks.nd (pi_list (pv 2)) (blkOk_by (N := ["_law_pool_here", "_law_many", "_law_tasks_here", "_law_t", "_law_side", "_law_row"]) (sc := defScope s__law_tasks) (by decide +kernel)) (fun _ _ _ _ _ => (pg_name (i := 5) sc__law_tasks.nd rfl (Or.inl rfl))) (fun _ _ _ _ _ => pts_nil) (fun _ _ _ _ _ => (pe_ix (show IxR _ (rIxT K) from ix_tup) (pv 5) pe_int (fun _ _ => rfl))))) pe_int (nomark _)) (pss_one (ps_asg (pe_tup (pa_cons (pe_op op_mod (pe_callTy call_int1 rfl B.int_ hb_int (pa_cons (pe_op op_add (pe_ix ix_tup (pe_ix ix_list (pv 2) (pe_un un_neg pe_int) (fun _ _ => rfl)) pe_int (fun _ _ => rfl)) pe_int) pa_nil)) pe_int) (pa_cons (pe_ix ix_tup (pe_ix ix_list (pv 2) (pe_un un_neg pe_int) (fun _ _ => rfl)) pe_int (fun _ _ => rfl)) pa_nil))) (pg_sub (pv 2) (pe_un un_neg pe_int) set_list))) pss_nil)
      (pss_one (ps_ret (pv 2)))))), ?_⟩
    walk_at "st0"
    refine ⟨by show 0 ≤ sizeLine; decide, fun LT nLT => ?_⟩
    have sT := same_new (o := .lst []) nLT
    have eT0 : upd H LT (.lst []) LT = some (.lst []) := upd_same
    obtain ⟨npT, nLT2⟩ := PA.new nLT
    have PA1 := PA.same sT
    generalize upd H LT (.lst []) = H1 at *
    walk_at "st"
    refine q_forRA ?_
    walk_at "st"
    let J : Nat → L2.St → Hp → Prop := fun j σ Hh => ∃ (o3 o4 : Option V) (ts : List (Int × Int)), σ = [some (.ref p), some (.int m), some (.ref LT), o3, o4, none] ∧ But p H Hh ∧ PoolAt Hh p LC (n + 2 * j) ∧ TsAt Hh LT ts ∧ ts.length = j ∧ ∀ x ∈ ts, 0 ≤ x.1 ∧ x.1 ≤ 3 ∧ 0 ≤ x.2 ∧ x.2 ≤ 2
    refine ⟨m, rfl, by omega, by omega, ?_⟩
    rw [Int.toNat_natCast]
    refine forR J ⟨_, _, [], rfl, (fun b o hb _ => sT _ _ hb), PA1, ⟨[], eT0, rfl, fun i y s h => by simp at h⟩, rfl, fun x hx => by cases hx⟩ (fun j σ Hh lj hJ => ?_) (fun σ Hh hJ => ?_)
    · obtain ⟨o3, o4, ts, rfl, bJ, PJ, ⟨ys, eJ, lJ, rJ⟩, lts, aJ⟩ := hJ
      refine q_gname ?_
      walk_at "st"
      refine ⟨p, LC, n + 2 * j, 4, rfl, PJ, by omega, by omega, by omega, fun r1 H2 b2 P2 u0 u1 => ?_⟩
      walk_at "st"
      have TS2 := (show TsAt Hh LT ts from ⟨ys, eJ, lJ, rJ⟩).keepD (PJ.keepD b2)
      have e2 := b2 _ _ eJ (Ne.symm npT)
      refine ⟨.inl ⟨rfl, ys, SqL.of e2⟩, ?_⟩
      walk_at "st"
      refine ⟨p, LC, n + 2 * j + 1, 3, rfl, P2, by omega, by omega, by omega, fun r2 H3 b3 P3 v0 v1 => ?_⟩
      walk_at "st"
      have TS3 := TS2.keepD (P2.keepD b3)
      refine ⟨by show 2 ≤ sizeLine; decide, fun t nt => ?_⟩
      have st := same_new (o := .tup [V.int r1, V.int r2]) nt
      have et : upd H3 t (.tup [V.int r1, V.int r2]) t = some (.tup [V.int r1, V.int r2]) := upd_same
      have TS4 := TS3.mono st
      have P4 := P3.same st
      have e3 := st _ _ (b3 _ _ e2 (Ne.symm npT))
      have b04 : But p H (upd H3 t (.tup [V.int r1, V.int r2])) := fun b o hb hn => st _ _ (b3 _ _ (b2 _ _ (bJ _ _ hb hn) hn) hn)
      generalize upd H3 t (.tup [V.int r1, V.int r2]) = H4 at *
      refine ⟨LT, ys, _, rfl, rfl, e3, sz1000 (by omega), ?_⟩
      obtain ⟨ys', e5, l5, r5⟩ := TS4
      rw [e3] at e5
      cases e5
      refine ⟨_, _, ts ++ [(r1, r2)], rfl, fun b o hb hn => by rw [upd_ne (ne_of_none hb nLT)]; exact b04 _ _ hb hn, (P4.but npT nLT2 But.put).le (by omega), ⟨ys ++ [.ref t], upd_same, by rw [List.length_append, List.length_append, l5]; rfl, fun i y s hy hs => ?_⟩, by rw [List.length_append, lts]; rfl, fun x hx => ?_⟩
      · rw [List.getElem?_append] at hy hs
        by_cases c : i < ys.length
        · rw [if_pos c] at hy
          rw [if_pos (by omega)] at hs
          obtain ⟨q0, rfl, e6⟩ := r5 i y s hy hs
          exact ⟨q0, rfl, by rw [upd_ne (fun z => by rw [z, e3] at e6; cases e6)]; exact e6⟩
        · rw [if_neg c] at hy
          rw [if_neg (by omega)] at hs
          have hi : i - ys.length = 0 := by
            have := (List.getElem?_eq_some_iff.mp hy).1
            simp at this
            omega
          have hi2 : i - ts.length = 0 := by omega
          rw [hi] at hy
          rw [hi2] at hs
          cases hy
          cases hs
          exact ⟨t, rfl, by rw [upd_ne (fun z => by rw [z, e3] at et; cases et)]; exact et⟩
      · rcases List.mem_append.mp hx with hx | hx
        · exact aJ x hx
        · simp only [List.mem_cons, List.not_mem_nil, or_false] at hx
          subst hx
          exact ⟨by show 0 ≤ r1; omega, by show r1 ≤ 3; omega, by show 0 ≤ r2; omega, by show r2 ≤ 2; omega⟩
    · obtain ⟨o3, o4, ts, rfl, bJ, PJ, TSJ, lts, tsb⟩ := hJ
      obtain ⟨ysT0, eT, lT, rT⟩ := TSJ
      rw [lts] at lT
      try dsimp only
      refine seq_if (fun σ Hx => ∃ (o5 : Option V) (ts2 : List (Int × Int)), σ = [some (.ref p), some (.int m), some (.ref LT), o3, o4, o5] ∧ But p H Hx ∧ PoolAt Hx p LC (n + 10) ∧ TsAt Hx LT ts2 ∧ TsOk m ts2) (fun σ Hx hp => ?_) (fun N hN => ?_)
      · obtain ⟨o5, ts2, rfl, bx, Px, TS, TO⟩ := hp
        walk_at "st"
        exact q LT ts2 _ bx Px nLT TS TO
      · walk_at "st"
        have gts : ∀ i, i < m → ∃ s p, ts[i]? = some s ∧ ysT0[i]? = some (.ref p) ∧ Hh p = some (.tup [.int s.1, .int s.2]) := fun i hi => by
          have g1 : ts[i]? = some ts[i] := List.getElem?_eq_getElem (by omega)
          have g2 : ysT0[i]? = some ysT0[i] := List.getElem?_eq_getElem (by omega)
          obtain ⟨p, e, hp⟩ := rT _ _ _ g2 g1
          exact ⟨_, p, g1, by rw [g2, e], hp⟩
        refine q_lsd ?_
        refine q_lcI ?_
        walk_at "st"
        refine ⟨LT, rfl, ⟨_, SqL.of eT⟩, fun X nX => lc_val (n := ysT0.length) walk_list (fun i => V.int (ts.getD i (0, 0)).1) nX (sz1000 (by omega)) (fun H2 s => s.seq (SqL.of eT)) yat_same ?_ ?_⟩
        · rintro i x H9 H10 lt s ⟨rfl, e⟩ Q2 k
          obtain ⟨s0, p, g1, g2, g3⟩ := gts i (by omega)
          rw [g2] at e
          cases e
          refine q_gname ?_
          refine ⟨rfl, ?_⟩
          walk_at "st"
          refine q_ixT (SqT.of (s _ _ g3)) (atI0 rfl) ?_
          have : ts.getD i (0, 0) = s0 := by rw [List.getD_eq_getElem?_getD, g1]; rfl
          rw [this] at k
          exact k _ (Same.refl _)
        intro HV sV eV
        have ens : (List.range ysT0.length).map (fun i => V.int (ts.getD i (0, 0)).1) = (ts.map (·.1)).map V.int := by
          rw [List.map_map, lT]
          apply List.ext_getElem?
          intro i
          rw [List.getElem?_map, List.getElem?_map]
          by_cases c : i < m
          · rw [List.getElem?_range (by omega), List.getElem?_eq_getElem (show i < ts.length by omega)]
            simp [List.getD_eq_getElem?_getD, List.getElem?_eq_getElem (show i < ts.length by omega)]
          · rw [List.getElem?_eq_none (by simp; omega), List.getElem?_eq_none (by omega)]; rfl
        rw [ens] at eV
        refine ⟨X, ts.map (·.1), rfl, SqL.of eV, by rw [List.length_map]; omega, ?_⟩
        have bV : But p H HV := fun b o hb hn => sV _ _ (bJ _ _ hb hn)
        have PV := PJ.same sV
        replace eT := sV _ _ eT
        have rV : ∀ (i : Nat) y s, ysT0[i]? = some y → ts[i]? = some s → ∃ p, y = .ref p ∧ HV p = some (.tup [.int s.1, .int s.2]) := fun i y s hy hs2 => by
          obtain ⟨p, e, hp⟩ := rT i y s hy hs2
          exact ⟨p, e, sV _ _ hp⟩
        walk_at "st"
        refine q_eqI ?_
        refine ⟨_, rfl, ?_⟩
        by_cases hd : ((distinct (ts.map (·.1)) : Nat) : Int) = 1
        · rw [decide_eq_true hd]
          refine iteT ?_
          have allEq : ∀ x ∈ ts, ∀ y ∈ ts, x.1 = y.1 := fun x hx y hy => by
            by_cases c : x.1 = y.1
            · exact c
            · have h3 : 1 < distinct (ts.map (·.1)) := distinct_gt.mpr ⟨x.1, List.mem_map_of_mem hx, y.1, List.mem_map_of_mem hy, c⟩
              omega
          obtain ⟨s0, p0, g1', g2', g3'⟩ := gts 0 (by omega)
          obtain ⟨s1, p1', g4, g5, g6⟩ := gts (m - 1) (by omega)
          have hb1 := tsb s1 (List.mem_of_getElem? g4)
          have e01 := allEq s0 (List.mem_of_getElem? g1') s1 (List.mem_of_getElem? g4)
          have el : atI ysT0 (-1) = some (.ref p1') := by
            unfold atI
            rw [ixN_last (by omega)]
            rw [show ysT0.length - 1 = m - 1 by omega]
            exact g5
          walk_at "st"
          refine q_ixL (SqL.of eT) el ?_
          walk_at "st"
          refine q_ixT (SqT.of (sV _ _ g6)) (atI0 rfl) ?_
          walk_at "st"
          refine .inl ⟨_, rfl, ?_⟩
          walk_at "st"
          refine ⟨_, _, rfl, rfl, (show (0 : Int) < 4 by decide), ?_⟩
          walk_at "st"
          refine q_ixL (SqL.of eT) el ?_
          walk_at "st"
          refine q_ixT (SqT.of (sV _ _ g6)) (atI1 rfl) ?_
          walk_at "st"
          refine ⟨by show 2 ≤ sizeLine; decide, fun pt npt => ?_⟩
          have spt := same_new (o := .tup [V.int ((s1.1 + 1) % 4), V.int s1.2]) npt
          have ept : upd HV pt (.tup [V.int ((s1.1 + 1) % 4), V.int s1.2]) pt = some (.tup [V.int ((s1.1 + 1) % 4), V.int s1.2]) := upd_same
          have eTp := spt _ _ eT
          have rP : ∀ (i : Nat) y s, ysT0[i]? = some y → ts[i]? = some s → ∃ p, y = .ref p ∧ upd HV pt (.tup [V.int ((s1.1 + 1) % 4), V.int s1.2]) p = some (.tup [.int s.1, .int s.2]) := fun i y s hy hs2 => by
            obtain ⟨p, e, hp⟩ := rV i y s hy hs2
            exact ⟨p, e, spt _ _ hp⟩
          have bP : But p H (upd HV pt (.tup [V.int ((s1.1 + 1) % 4), V.int s1.2])) := fun b o hb hn => spt _ _ (bV _ _ hb hn)
          have PP := PV.same spt
          generalize upd HV pt (.tup [V.int ((s1.1 + 1) % 4), V.int s1.2]) = HP at *
          walk_at "st"
          have bL := But.put (H := HP) (r := LT) (o := .lst (ysT0.set (m - 1) (.ref pt)))
          have lt0 : m - 1 < ts.length := by omega
          have ly0 : m - 1 < ysT0.length := by omega
          refine ⟨LT, ysT0, -1, m - 1, rfl, rfl, eTp, by rw [ixN_last (by omega)]; congr 1; omega, hN _ _ ⟨none, ts.set (m - 1) ((s1.1 + 1) % 4, s1.2), rfl, fun b o hb hn => bL _ _ (bP _ _ hb hn) (ne_of_none hb nLT), (PP.but npT nLT2 bL).le (by omega), ⟨_, upd_same, by rw [List.length_set, List.length_set]; omega, fun i y s hy hs2 => ?_⟩, by rw [List.length_set]; exact lts, fun x hx => ?_, ?_⟩⟩
          · by_cases c : i = m - 1
            · subst c
              rw [List.getElem?_set, if_pos rfl, if_pos ly0] at hy
              rw [List.getElem?_set, if_pos rfl, if_pos lt0] at hs2
              cases hy
              cases hs2
              exact ⟨pt, rfl, bL _ _ ept (fun z => by rw [z, eTp] at ept; cases ept)⟩
            · rw [List.getElem?_set_ne (Ne.symm c)] at hy hs2
              obtain ⟨p, e, hp⟩ := rP i y s hy hs2
              exact ⟨p, e, bL _ _ hp (fun z => by rw [z, eTp] at hp; cases hp)⟩
          · rcases List.mem_or_eq_of_mem_set hx with h | h
            · exact tsb x h
            · rw [h]
              exact ⟨by show 0 ≤ (s1.1 + 1) % 4; omega, by show (s1.1 + 1) % 4 ≤ 3; omega, hb1.2.2.1, hb1.2.2.2⟩
          · refine ⟨((s1.1 + 1) % 4, s1.2), List.mem_of_getElem? (i := m - 1) (by rw [List.getElem?_set, if_pos rfl, if_pos lt0]), s0, List.mem_of_getElem? (i := 0) (by rw [List.getElem?_set_ne (by omega)]; exact g1'), ?_⟩
            show (s1.1 + 1) % 4 ≠ s0.1
            omega
        · rw [decide_eq_false hd]
          refine iteF ?_
          have hgt : 1 < distinct (ts.map (·.1)) := by
            obtain ⟨s0, p0, g1, _⟩ := gts 0 (by omega)
            have hp : 0 < distinct (ts.map (·.1)) := by
              unfold distinct
              exact List.length_pos_of_mem (firstMet_mem.mpr (List.mem_map_of_mem (f := (·.1)) (List.mem_of_getElem? g1)))
            omega
          obtain ⟨x, hx, y, hy, ne⟩ := distinct_gt.mp hgt
          obtain ⟨x', hx', rfl⟩ := List.mem_map.mp hx
          obtain ⟨y', hy', rfl⟩ := List.mem_map.mp hy
          exact hN _ _ ⟨none, ts, rfl, bV, PV.le (by omega), ⟨ysT0, eT, by omega, rV⟩, ⟨lts, tsb, x', hx', y', hy', ne⟩⟩))) only [↓Hk.hold_s]
end
end T
namespace T
section
variable {P : Program} {w : World} {K : PySem.W.Frag} {mg : Str → Option Value} {base : Heap}
def okSl (many : Int) (d : PyData) : Prop := ∃ t k, d = .tuple [.int t, .int k] ∧ 0 ≤ t ∧ t ≤ many - 1 ∧ 1 ≤ k ∧ k ≤ 12
def planOk (m : Nat) (pl : PyData) : Prop := (∃ i, pl = .tuple [.str "levels", .int i] ∧ 1 ≤ i ∧ i ≤ 8) ∨ ∃ rds, pl = .tuple [.str "slots", .list rds] ∧ 1 ≤ rds.length ∧ rds.length ≤ 4 ∧ ∀ d ∈ rds, okSl m d
def outOk (nq : Nat) (od : PyData) : Prop := od = .none ∨ ∃ x e, od = .tuple [.int x, .int e] ∧ 0 ≤ x ∧ x ≤ (nq : Int) - 1 ∧ 1 ≤ e ∧ e ≤ 4
def spLPlan (K : PySem.W.Frag) : Sp := fun vs H Q _ => ∃ (p LC : Addr) (n : Nat) (W : Addr) (kv : List (Key × V)) (LT : Addr) (zT : List V) (m : Nat) (mo : Int) (ct : Addr) (c0 c1 : V) (c2 : Int), vs = [.ref p, .ref W] ∧ PoolAt H p LC n ∧ n ≤ 40000 ∧ W ≠ p ∧ H W = some (.dK kv) ∧ valV kv (Sum.inr "tasks") = some (.ref LT) ∧ SqL K H LT zT ∧ zT.length = m ∧ 2 ≤ m ∧ m ≤ 4 ∧
  valV kv (Sum.inr "most") = some (.int mo) ∧ 1 ≤ mo ∧ mo ≤ 20 ∧ valV kv (Sum.inr "costs") = some (.ref ct) ∧ SqT K H ct [c0, c1, .int c2] ∧ 0 ≤ c2 ∧ c2 ≤ 2 ∧ ∀ v pl H', But p H H' → PoolAt H' p LC (n + 20) → Dp K H' v pl → planOk m pl → Q v H'
theorem ok_law_plan (B : Bl mg) (c__law_draw : Cal P w K mg base 2 "_law_draw" ["_law_pool_here", "_law_many"] (spDraw K)) (cc : DefAt K mg "_law_plan" s__law_plan ["_law_pool_here", "_law_w"]) : Cal P w K mg base 3 "_law_plan" ["_law_pool_here", "_law_w"] (spLPlan K) := by
 refine Hk.hold ?_
 simp (disch := with_unfolding_all (
 exact Hk.disch (cc.cal fun f fd F => by
  refine F.ok sc__law_plan (fun vs H Q E h => ?_) (fun cdv A outer s H vs Q E hr h => ?_)
  · obtain ⟨p, LC, n, W, kv, LT, zT, m, mo, ct, c0, c1, c2, rfl, _⟩ := h; rfl
  · obtain ⟨p, LC, n, W, kv, LT, zT, m, mo, ct, c0, c1, c2, rfl, PA, n4, nWp, eW, vT, hT, lT, m2, m4, vM, mo1, mo2, vC, hC, c20, c22, q⟩ := h
    have hu := hu_of hr
    refine ⟨_, (pss_cons (ps_if (pt_cmpR op_eq (pe_cal c__law_draw (hr.mono (by omega)) rfl (pa_cons (pv 0) (pa_cons pe_int pa_nil))) pe_int (nomark _)) (pss_one (ps_ret (pe_tup (pa_cons pe_str (pa_cons (pe_op op_add pe_int (pe_cal c__law_draw (hr.mono (by omega)) rfl (pa_cons (pv 0) (pa_cons pe_int pa_nil)))) pa_nil))))) pss_nil)
      (pss_cons (ps_set (i := 2) sc__law_plan.nd rfl (Or.inl rfl) (pe_lst pa_nil))
      (pss_cons (ps_for PassesOwn.never rfl (pi_range1 rfl B.range (pa_cons (pe_op op_add pe_int (pe_cal c__law_draw (hr.mono (by omega)) rfl (pa_cons (pv 0) (pa_cons pe_int pa_nil)))) pa_nil)) (pg_name (i := 3) sc__law_plan.nd rfl (Or.inl rfl)) (pss_cons (ps_set (i := 4) sc__law_plan.nd rfl (Or.inl rfl) (pe_cal c__law_draw (hr.mono (by omega)) rfl (pa_cons (pv 0) (pa_cons (pe_callB call_len_seq rfl B.len hb_len (pa_cons (pe_dget hu (pv 1) pe_str (fun _ _ => rfl)) pa_nil)) pa_nil))))
      (pss_cons (ps_set (i := 5) sc__law_plan.nd rfl (Or.inl rfl) (pe_op op_add pe_int (pe_cal c__law_draw (hr.mono (by omega)) rfl (pa_cons (pv 0) (pa_cons pe_int pa_nil)))))
      (pss_cons (ps_if (pt_cmpR op_eq (pe_cal c__law_draw (hr.mono (by omega)) rfl (pa_cons (pv 0) (pa_cons pe_int pa_nil))) pe_int (nomark _)) (pss_one (ps_set (i := 5) sc__law_plan.nd rfl (Or.inl rfl) (pe_callB (call_min2 rfl) rfl B.min hb_min (pa_cons pe_int (pa_cons (pe_op op_add (pe_op op_add (pe_dget hu (pv 1) pe_str (fun _ _ => rfl)) (pe_ix ix_tup (pe_dget hu (pv 1) pe_str (fun _ _ => rfl)) pe_int (fun _ _ => rfl))) (pe_op op_mod (pe_callTy call_int1 rfl B.int_ hb_int (pa_cons (pv 5) pa_nil)) pe_int)) pa_nil))))) pss_nil)
      (pss_one (ps_expr (pe_bm PySem.F.plainAttrs_list PySem.F.slot_list_append PySem.F.type_list_append mt_append (pv 2) (pa_cons (pe_tup (pa_cons (pv 4) (pa_cons (pv 5) pa_nil))) pa_nil))))))))
      (pss_one (ps_ret (pe_tup (pa_cons pe_str (pa_cons (pv 2) pa_nil)))))))), ?_⟩
    walk_at "st0"
    refine ⟨p, LC, n, 3, rfl, PA, by omega, by omega, by omega, fun r0 H1 b1 P1 u0 u1 => ?_⟩
    walk_at "st"
    refine q_eqI ?_
    refine ⟨_, rfl, ?_⟩
    by_cases c : r0 = 0
    · rw [decide_eq_true c]
      refine iteT ?_
      walk_at "st"
      refine ⟨p, LC, n + 1, 8, rfl, P1, by omega, by omega, by omega, fun r1 H2 b2 P2 v0 v1 => ?_⟩
      walk_at "st"
      refine ⟨by show 2 ≤ sizeLine; decide, fun t nt => ?_⟩
      have st := same_new (o := .tup [V.str "levels", V.int (1 + r1)]) nt
      exact q _ _ _ (fun b o hb hn => st _ _ (b2 _ _ (b1 _ _ hb hn) hn)) ((P2.same st).le (by omega)) (.tup (SqT.of upd_same) (.cons (.str _) (.cons (.int _) .nil))) (.inl ⟨_, rfl, by omega, by omega⟩)
    · rw [decide_eq_false c]
      refine iteF ?_
      walk_at "st"
      refine ⟨by show 0 ≤ sizeLine; decide, fun LS nLS => ?_⟩
      have sS := same_new (o := .lst []) nLS
      have eS : upd H1 LS (.lst []) LS = some (.lst []) := upd_same
      obtain ⟨npS, nCS⟩ := P1.new nLS
      have nLS0 := free_but b1 npS nLS
      have P2 := P1.same sS
      have b2 : But p H (upd H1 LS (.lst [])) := fun b o hb hn => sS _ _ (b1 _ _ hb hn)
      generalize upd H1 LS (.lst []) = H2 at *
      walk_at "st"
      refine q_forRA ?_
      walk_at "st"
      refine ⟨p, LC, n + 1, 4, rfl, P2, by omega, by omega, by omega, fun r1 H3 b3 P3 v0 v1 => ?_⟩
      walk_at "st"
      obtain ⟨n8, e8, n80, n84⟩ : ∃ n8 : Nat, 1 + r1 = n8 ∧ 1 ≤ n8 ∧ n8 ≤ 4 := ⟨(1 + r1).toNat, by omega, by omega, by omega⟩
      rw [e8]
      let J : Nat → L2.St → Hp → Prop := fun j σ Hh => ∃ (o3 o4 o5 : Option V) (ys : List V) (rds : List PyData), σ = [some (.ref p), some (.ref W), some (.ref LS), o3, o4, o5] ∧ But p H Hh ∧ PoolAt Hh p LC (n + 2 + 3 * j) ∧ Hh LS = some (.lst ys) ∧ DpAll K Hh ys rds ∧ rds.length = j ∧ ∀ d ∈ rds, okSl m d
      refine ⟨n8, rfl, by omega, by omega, ?_⟩
      rw [Int.toNat_natCast]
      refine forR J ⟨_, _, _, [], [], rfl, b2.trans b3, P3, b3 _ _ eS (Ne.symm npS), .nil, rfl, fun d hd => by cases hd⟩ (fun j σ Hh lj hJ => ?_) (fun σ Hh hJ => ?_)
      · obtain ⟨o3, o4, o5, ys, rds, rfl, bJ, PJ, eJ, dJ, lJ, aJ⟩ := hJ
        have lyJ := dJ.length
        have kJ := PA.keepD bJ
        have eWJ := bJ _ _ eW nWp
        have hTJ := kJ.sqL hT
        have hCJ := kJ.sqT hC
        refine q_gname ?_
        walk_at "st"
        refine q_getD eWJ vT ?_
        refine ⟨LT, zT, rfl, .inl hTJ, ?_⟩
        rw [lT]
        refine ⟨p, LC, n + 2 + 3 * j, m, rfl, PJ, by omega, by omega, by omega, fun r2 H4 b4 P4 x0 x1 => ?_⟩
        walk_at "st"
        refine ⟨p, LC, n + 2 + 3 * j + 1, 12, rfl, P4, by omega, by omega, by omega, fun r3 H5 b5 P5 y0 y1 => ?_⟩
        walk_at "s1"
        have b45 := b4.trans b5
        have eJ5 := b45 _ _ eJ (Ne.symm npS)
        have k5 := PJ.keepD b45
        have dJ5 := dpAllKeepD k5 dJ
        have eW5 := b45 _ _ eWJ nWp
        have hC5 := k5.sqT hCJ
        have bH5 := bJ.trans b45
        refine seq_if (fun σ Hy => ∃ tk : Int, σ = [some (.ref p), some (.ref W), some (.ref LS), some (.int (0 + (j : Int))), some (.int r2), some (.int tk)] ∧ But p H5 Hy ∧ PoolAt Hy p LC (n + 2 + 3 * j + 3) ∧ 1 ≤ tk ∧ tk ≤ 12) (fun σ Hy hy => ?_) (fun N hN => ?_)
        · obtain ⟨tk, rfl, by_, Py, k1, k12⟩ := hy
          have eJy := by_ _ _ eJ5 (Ne.symm npS)
          have dJy := dpAllKeepD (P5.keepD by_) dJ5
          walk_at "st"
          refine ⟨.inl ⟨rfl, ys, SqL.of eJy⟩, ?_⟩
          walk_at "st"
          refine ⟨by show 2 ≤ sizeLine; decide, fun t nt => ?_⟩
          have st := same_new (o := .tup [V.int r2, V.int tk]) nt
          have dT : Dp K (upd Hy t (.tup [V.int r2, V.int tk])) (.ref t) (.tuple [.int r2, .int tk]) := .tup (SqT.of upd_same) (.cons (.int _) (.cons (.int _) .nil))
          generalize upd Hy t (.tup [V.int r2, V.int tk]) = H6 at *
          have eJ6 := st _ _ eJy
          refine ⟨LS, ys, _, rfl, rfl, eJ6, sz1000 (by omega), ?_⟩
          have kl : KeepL H6 (upd H6 LS (.lst (ys ++ [.ref t]))) := KeepL.put eJ6
          have all2 : ∀ d ∈ rds ++ [.tuple [.int r2, .int tk]], okSl m d := fun d hd => by
            rcases List.mem_append.mp hd with hd | hd
            · exact aJ d hd
            · simp only [List.mem_cons, List.not_mem_nil, or_false] at hd
              exact ⟨r2, tk, hd, x0, by omega, k1, k12⟩
          refine ⟨_, _, _, ys ++ [.ref t], rds ++ [.tuple [.int r2, .int tk]], rfl, fun b o hb hn => by rw [upd_ne (ne_of_none hb nLS0)]; exact st _ _ (by_ _ _ (bH5 _ _ hb hn) hn), ((Py.same st).but npS nCS But.put).le (by omega), upd_same, dpAllKeepL kl (dpAll_app (L2.DpAll.mono st dJy) (.cons dT .nil)) ?_, by rw [List.length_append, lJ]; rfl, all2⟩
          rw [noLs_all]
          intro d hd
          obtain ⟨t', k', rfl, _⟩ := all2 d hd
          rfl
        · walk_at "st"
          refine ⟨p, LC, n + 2 + 3 * j + 1 + 1, 2, rfl, P5, by omega, by omega, by omega, fun r6 H6 b6 P6 z0 z1 => ?_⟩
          walk_at "st"
          refine q_eqI ?_
          refine ⟨_, rfl, ?_⟩
          by_cases c6 : r6 = 1
          · rw [decide_eq_true c6]
            refine iteT ?_
            walk_at "st"
            have eW6 := b6 _ _ eW5 nWp
            refine q_getD eW6 vM ?_
            walk_at "st"
            refine q_getD eW6 vC ?_
            walk_at "st"
            refine q_ixT ((P5.keepD b6).sqT hC5) (atI_nat (j := 2) rfl) ?_
            walk_at "st"
            refine .inl ⟨_, rfl, ?_⟩
            walk_at "st"
            refine ⟨_, _, rfl, rfl, (show (0 : Int) < 3 by decide), ?_⟩
            have q0 := Int.emod_nonneg (1 + r3) (show (3 : Int) ≠ 0 by decide)
            walk_at "st"
            refine ⟨_, _, rfl, ?_⟩
            walk_at "st"
            exact hN _ _ ⟨_, rfl, b6, P6, by split <;> omega, by split <;> omega⟩
          · rw [decide_eq_false c6]
            refine iteF ?_
            exact hN _ _ ⟨_, rfl, b6, P6, by omega, by omega⟩
      · obtain ⟨o3, o4, o5, ys, rds, rfl, bJ, PJ, eJ, dJ, lJ, aJ⟩ := hJ
        walk_at "st"
        refine ⟨by show 2 ≤ sizeLine; decide, fun t nt => ?_⟩
        have st := same_new (o := .tup [V.str "slots", V.ref LS]) nt
        exact q _ _ _ (fun b o hb hn => st _ _ (bJ _ _ hb hn)) ((PJ.same st).le (by omega)) (.tup (SqT.of upd_same) (.cons (.str _) (.cons (.lst (SqL.of (st _ _ eJ)) (L2.DpAll.mono st dJ)) .nil))) (.inr ⟨rds, rfl, by omega, by omega, aJ⟩)))) only [↓Hk.hold_s]
end
end T
namespace T
section
variable {P : Program} {w : World} {K : PySem.W.Frag} {mg : Str → Option Value} {base : Heap}
local macro_rules | `(tactic| walk_at "s1") => `(tactic| first | with_reducible refine q_dputW ?_)
theorem rEq_st (a b : Str) (H : Hp) {Q : VK} (q : Q (.bl (decide (a = b))) H) : rEq (.str a) (.str b) H Q := by
  refine ⟨rfl, ?_⟩
  show Q (.bl (decide (V.str a = V.str b))) H
  have e : decide (V.str a = V.str b) = decide (a = b) := decide_eq_decide.mpr ⟨fun h => V.str.inj h, fun h => by rw [h]⟩
  rw [e]
  exact q
/-- a loop over a range with a step, its bounds told already -/
def ForC (i c : Int) (n : Nat) (g : TG) (tb : TS) (D : Ends) (σ : L2.St) (H1 : Hp) : Prop := ∃ W : Nat → Nat → L2.St → Hp → Prop, (∃ m, W 0 m σ H1) ∧ ∀ k m σ H, W k m σ H →
    ((Itc i c n).stop k H ∧ D.nx σ H) ∨ ((Itc i c n).go k H ∧ ∃ N : L2.St → Hp → Prop, (∀ σ' H', N σ' H' → ∃ m', m' < m ∧ W (k + 1) m' σ' H') ∧ ∀ x H', (Itc i c n).yld k H x H' → g x σ H' fun σ2 H2 => tb { D with nx := N, ct := N, bk := D.nx } σ2 H2)
theorem q_forC {ta : TA} {g : TG} {tb : TS} {D : Ends} {σ : L2.St} {H : Hp} (h : ta σ H fun vs H1 => ∃ (i j c : Int) (n : Nat), vs = [.int i, .int j, .int c] ∧ RgC i j c n ∧ ForC i c n g tb D σ H1) : tFor (iRng3 ta) g tb D σ H := h
theorem forC {i c : Int} {n : Nat} {g : TG} {tb : TS} {D : Ends} {σ : L2.St} {H : Hp} (Pv : Nat → L2.St → Hp → Prop) (h0 : Pv 0 σ H)
    (hs : ∀ k σ H, k < n → Pv k σ H → g (.int (i + (k : Int) * c)) σ H fun σ2 H2 => tb { D with nx := Pv (k + 1), ct := Pv (k + 1), bk := D.nx } σ2 H2) (hd : ∀ σ H, Pv n σ H → D.nx σ H) : ForC i c n g tb D σ H := L2.for_rangeC Pv h0 hs hd
section
variable (x0 x1 x2 x3 x4 x5 x6 x7 x8 x9 x10 x11 x12 x13 x14 x15 x16 : V) (r pe : Int)
def wk17 : List (Key × V) := [(Sum.inr "tasks", x0), (Sum.inr "pages", x1), (Sum.inr "ports", x2), (Sum.inr "locks", x3), (Sum.inr "frames", x4), (Sum.inr "disk", x5), (Sum.inr "menu", x6), (Sum.inr "rights", x7), (Sum.inr "lines", x8), (Sum.inr "costs", x9), (Sum.inr "most", x10), (Sum.inr "plan", x11), (Sum.inr "outside", x12), (Sum.inr "wipe", x13), (Sum.inr "pad", x14), (Sum.inr "lend", x15), (Sum.inr "share", x16)]
def wk18 : List (Key × V) := [(Sum.inr "tasks", x0), (Sum.inr "pages", x1), (Sum.inr "ports", x2), (Sum.inr "locks", x3), (Sum.inr "frames", x4), (Sum.inr "disk", x5), (Sum.inr "menu", x6), (Sum.inr "rights", x7), (Sum.inr "lines", x8), (Sum.inr "costs", x9), (Sum.inr "most", x10), (Sum.inr "plan", x11), (Sum.inr "outside", x12), (Sum.inr "wipe", x13), (Sum.inr "pad", x14), (Sum.inr "lend", x15), (Sum.inr "share", x16), (Sum.inr "round", .int r)]
def wk19 : List (Key × V) := [(Sum.inr "tasks", x0), (Sum.inr "pages", x1), (Sum.inr "ports", x2), (Sum.inr "locks", x3), (Sum.inr "frames", x4), (Sum.inr "disk", x5), (Sum.inr "menu", x6), (Sum.inr "rights", x7), (Sum.inr "lines", x8), (Sum.inr "costs", x9), (Sum.inr "most", x10), (Sum.inr "plan", x11), (Sum.inr "outside", x12), (Sum.inr "wipe", x13), (Sum.inr "pad", x14), (Sum.inr "lend", x15), (Sum.inr "share", x16), (Sum.inr "round", .int r), (Sum.inr "period", .int pe)]
end
theorem sum_le : ∀ (l : List Int), (∀ x ∈ l, 1 ≤ x ∧ x ≤ 12) → 0 ≤ l.sum ∧ l.sum ≤ 12 * l.length
  | [], _ => by simp
  | x :: r, h => by
    have h1 := h x List.mem_cons_self
    have h2 := sum_le r fun y hy => h y (List.mem_cons_of_mem _ hy)
    simp only [List.sum_cons, List.length_cons]
    omega
def tkOf : PyData → Int
  | .tuple [.int _, .int k] => k
  | _ => 0
def spFinish (K : PySem.W.Frag) : Sp := fun vs H Q _ => ∃ (W : Addr) (x0 x1 x2 x3 x4 x5 x6 x7 x8 x9 x10 x11 x12 x13 x14 x15 x16 : V) (pl od : PyData) (m nq : Nat), vs = [.ref W] ∧ H W = some (.dK (wk17 x0 x1 x2 x3 x4 x5 x6 x7 x8 x9 x10 x11 x12 x13 x14 x15 x16)) ∧ Dp K H x11 pl ∧ planOk m pl ∧ Dp K H x12 od ∧ outOk nq od ∧
  ∀ H' r pe, But W H H' → H' W = some (.dK (wk19 x0 x1 x2 x3 x4 x5 x6 x7 x8 x9 x10 x11 x12 x13 x14 x15 x16 r pe)) → Q (.ref W) H'
theorem ok_law_finish (B : Bl mg) (g_sum : mg "sum" = none) (cc : DefAt K mg "_law_finish" s__law_finish ["_law_w"]) : Cal P w K mg base 1 "_law_finish" ["_law_w"] (spFinish K) := by
 refine Hk.hold ?_
 simp (disch := with_unfolding_all (
 exact Hk.disch (cc.cal fun f fd F => by
  refine F.ok sc__law_finish (fun vs H Q E h => ?_) (fun cdv A outer s H vs Q E hr h => ?_)
  · obtain ⟨W, x0, x1, x2, x3, x4, x5, x6, x7, x8, x9, x10, x11, x12, x13, x14, x15, x16, pl, od, m, nq, rfl, _⟩ := h; rfl
  · obtain ⟨W, x0, x1, x2, x3, x4, x5, x6, x7, x8, x9, x10, x11, x12, x13, x14, x15, x16, pl, od, m, nq, rfl, e, dP, hpl, dO, hod, q⟩ := h
    have hu := hu_of hr
    refine ⟨_, (pss_cons (ps_dput hu (pv 0) pe_str pe_int rfl)
      (pss_cons (ps_if (pt_cmpR op_eq (pe_ix ix_tup (pe_dget hu (pv 0) pe_str (fun _ _ => rfl)) pe_int (fun _ _ => rfl)) pe_str (nomark _)) (pss_one (ps_dput hu (pv 0) pe_str (pe_callB (cr_sum rfl) rfl g_sum hb_sum (pa_cons (pe_lc (own := [("_law_row", 2)]) (tt := tYes) rfl sc__law_finish.nd (pi_list (pe_ix ix_tup (pe_dget hu (pv 0) pe_str (fun _ _ => rfl)) pe_int (fun _ _ => rfl))) (blkOk_by (N := ["_law_w", "_law_times", "_law_row"]) (sc := defScope s__law_finish) (by decide +kernel)) (fun _ _ _ _ _ => (pg_name (i := 2) sc__law_finish.nd rfl (Or.inl rfl))) (fun _ _ _ _ _ => pts_nil) (fun _ _ _ _ _ => (pe_ix (show IxR _ (rIxT K) from ix_tup) (pv 2) pe_int (fun _ _ => rfl)))) pa_nil)) rfl)) pss_nil)
      (pss_cons (ps_dput hu (pv 0) pe_str (pe_dget hu (pv 0) pe_str (fun _ _ => rfl)) rfl)
      (pss_cons (ps_if (pt_cmp (pc_notN (pe_dget hu (pv 0) pe_str (fun _ _ => rfl)))) (pss_one (ps_for PassesOwn.never rfl (pi_range3 rfl B.range (pa_cons pe_int (pa_cons pe_int (pa_cons (pe_un un_neg pe_int) pa_nil)))) (pg_name (i := 1) sc__law_finish.nd rfl (Or.inl rfl)) (pss_one (ps_if (pt_cmpR op_eq (pe_op op_mod (pe_callTy call_int1 rfl B.int_ hb_int (pa_cons (pe_op op_mulW (pe_dget hu (pv 0) pe_str (fun _ _ => rfl)) (pv 1)) pa_nil)) (pe_ix ix_tup (pe_dget hu (pv 0) pe_str (fun _ _ => rfl)) pe_int (fun _ _ => rfl))) pe_int (nomark _)) (pss_one (ps_dput hu (pv 0) pe_str (pe_op op_mulW (pe_dget hu (pv 0) pe_str (fun _ _ => rfl)) (pv 1)) rfl)) pss_nil)))) pss_nil)
      (pss_one (ps_ret (pv 0))))))), ?_⟩
    walk_at "st0"
    refine q_putD e (sz1000 (by show 17 < 100000; decide)) (kv' := wk18 x0 x1 x2 x3 x4 x5 x6 x7 x8 x9 x10 x11 x12 x13 x14 x15 x16 1) (by rfl) ?_
    have b1 : But W H (upd H W (.dK (wk18 x0 x1 x2 x3 x4 x5 x6 x7 x8 x9 x10 x11 x12 x13 x14 x15 x16 1))) := But.put
    have e1 : upd H W (.dK (wk18 x0 x1 x2 x3 x4 x5 x6 x7 x8 x9 x10 x11 x12 x13 x14 x15 x16 1)) W = some (.dK (wk18 x0 x1 x2 x3 x4 x5 x6 x7 x8 x9 x10 x11 x12 x13 x14 x15 x16 1)) := upd_same
    generalize upd H W (.dK (wk18 x0 x1 x2 x3 x4 x5 x6 x7 x8 x9 x10 x11 x12 x13 x14 x15 x16 1)) = H1 at *
    have k1 := keepD_dk e b1
    have dP1 := dpKeepD k1 dP
    have dO1 := dpKeepD k1 dO
    try dsimp only
    refine seq_if (fun σ Hx => ∃ (o1 o2 : Option V) (r : Int), σ = [some (.ref W), o1, o2] ∧ But W H Hx ∧ Hx W = some (.dK (wk18 x0 x1 x2 x3 x4 x5 x6 x7 x8 x9 x10 x11 x12 x13 x14 x15 x16 r)) ∧ 1 ≤ r ∧ r ≤ 48) (fun σ Hx hx => ?_) (fun N hN => ?_)
    · obtain ⟨o1, o2, r, rfl, bx, ex, r1, r48⟩ := hx
      have kx := keepD_dk e bx
      have dOx := dpKeepD kx dO
      walk_at "st"
      refine q_getD ex (v := .int r) (by rfl) ?_
      walk_at "s1"
      refine q_putD ex (sz1000 (by show 18 < 100000; decide)) (kv' := wk19 x0 x1 x2 x3 x4 x5 x6 x7 x8 x9 x10 x11 x12 x13 x14 x15 x16 r r) (by rfl) ?_
      have b2 : But W H (upd Hx W (.dK (wk19 x0 x1 x2 x3 x4 x5 x6 x7 x8 x9 x10 x11 x12 x13 x14 x15 x16 r r))) := bx.trans But.put
      have e2 : upd Hx W (.dK (wk19 x0 x1 x2 x3 x4 x5 x6 x7 x8 x9 x10 x11 x12 x13 x14 x15 x16 r r)) W = some (.dK (wk19 x0 x1 x2 x3 x4 x5 x6 x7 x8 x9 x10 x11 x12 x13 x14 x15 x16 r r)) := upd_same
      generalize upd Hx W (.dK (wk19 x0 x1 x2 x3 x4 x5 x6 x7 x8 x9 x10 x11 x12 x13 x14 x15 x16 r r)) = H2 at *
      have k2 := keepD_dk e b2
      have dO2 := dpKeepD k2 dO
      refine seq_if (fun σ Hy => ∃ (o1 o2 : Option V) (pe : Int), σ = [some (.ref W), o1, o2] ∧ But W H Hy ∧ Hy W = some (.dK (wk19 x0 x1 x2 x3 x4 x5 x6 x7 x8 x9 x10 x11 x12 x13 x14 x15 x16 r pe))) (fun σ Hy hy => ?_) (fun N hN => ?_)
      · obtain ⟨o1, o2, pe, rfl, by_, ey⟩ := hy
        walk_at "st"
        exact q _ _ _ by_ ey
      · walk_at "st"
        refine q_getD e2 (v := x12) (by rfl) ?_
        rcases hod with rfl | ⟨x, ev, rfl, hx0, hx1, he1, he4⟩
        · cases dO2
          walk_at "st"
          exact hN _ _ ⟨_, _, r, rfl, b2, e2⟩
        · obtain ⟨ot, rfl, hot⟩ : ∃ (ot : Addr), x12 = .ref ot ∧ SqT K H ot [.int x, .int ev] := by
            cases dO with
            | tup hp hs =>
              cases hs with
              | cons h1 h2 =>
                cases h2 with
                | cons h2 h3 => cases h1; cases h2; cases h3; exact ⟨_, rfl, hp⟩
          rw [decide_eq_false (by exact fun h => V.noConfusion h)]
          refine ⟨true, rfl, iteT ?_⟩
          refine q_forC ?_
          walk_at "st"
          refine ⟨4, 0, -1, _, rfl, RgC.neg (by decide) (by decide) (by decide) (by decide), ?_⟩
          refine forC (fun k σ Hy => ∃ (o1 o2 : Option V) (pe : Int), σ = [some (.ref W), o1, o2] ∧ But W H Hy ∧ Hy W = some (.dK (wk19 x0 x1 x2 x3 x4 x5 x6 x7 x8 x9 x10 x11 (.ref ot) x13 x14 x15 x16 r pe))) ⟨_, _, r, rfl, b2, e2⟩ (fun k σ Hy lk hk => ?_) (fun σ Hy hk => hN _ _ hk)
          obtain ⟨o1, o2, pe, rfl, by_, ey⟩ := hk
          have hoy := (keepD_dk e by_).sqT hot
          have lk4 : k < 4 := lk
          obtain ⟨c, ec, c1, c4⟩ : ∃ c : Int, 4 + (k : Int) * -1 = c ∧ 1 ≤ c ∧ c ≤ 4 := ⟨_, rfl, by omega, by omega⟩
          rw [ec]
          refine q_gname ?_
          have wm : CMulW r c := wide_mul (a := 6) (b := 3) (by omega) (by omega) (by decide) (by decide) (by decide)
          walk_at "st"
          refine q_getD ey (v := .int r) (by rfl) ?_
          walk_at "st"
          refine ⟨_, _, rfl, rfl, wm, ?_⟩
          walk_at "st"
          refine .inl ⟨_, rfl, ?_⟩
          walk_at "st"
          refine q_getD ey (v := .ref ot) (by rfl) ?_
          walk_at "st"
          refine q_ixT hoy (atI_nat (j := 1) rfl) ?_
          refine ⟨_, _, rfl, rfl, (show 0 < ev by omega), ?_⟩
          walk_at "st"
          refine q_eqI ?_
          refine ⟨_, rfl, ?_⟩
          by_cases cd : r * c % ev = 0
          · rw [decide_eq_true cd]
            refine iteT ?_
            walk_at "st"
            refine q_getD ey (v := .int r) (by rfl) ?_
            walk_at "st"
            refine ⟨_, _, rfl, rfl, wm, ?_⟩
            walk_at "s1"
            refine q_putD ey (sz1000 (by show 19 < 100000; decide)) (kv' := wk19 x0 x1 x2 x3 x4 x5 x6 x7 x8 x9 x10 x11 (.ref ot) x13 x14 x15 x16 r (r * c)) (by rfl) ?_
            exact ⟨_, _, _, rfl, by_.trans But.put, upd_same⟩
          · rw [decide_eq_false cd]
            refine iteF ?_
            exact ⟨_, _, _, rfl, by_, ey⟩
    · rcases hpl with ⟨i, rfl, hi1, hi8⟩ | ⟨rds, rfl, hl1, hl4, hrds⟩
      · obtain ⟨y0, y1, pt, rfl, hpt⟩ : ∃ (y0 y1 : V) (pt : Addr), x11 = .ref pt ∧ SqT K H1 pt [.str "levels", .int i] := by
          cases dP1 with
          | tup hp hs =>
            cases hs with
            | cons h1 h2 =>
              cases h2 with
              | cons h2 h3 => cases h1; cases h2; cases h3; exact ⟨.non, .non, _, rfl, hp⟩
        walk_at "st"
        refine q_getD e1 (v := .ref pt) (by rfl) ?_
        walk_at "st"
        refine q_ixT hpt (atI0 rfl) ?_
        walk_at "st"
        refine rEq_st _ _ _ ?_
        refine ⟨_, rfl, ?_⟩
        rw [decide_eq_false (by decide)]
        refine iteF ?_
        exact hN _ _ ⟨_, _, 1, rfl, b1, e1, by omega, by omega⟩
      · obtain ⟨ls, pt, ys, rfl, hpt, hls, dls⟩ : ∃ (ls pt : Addr) (ys : List V), x11 = .ref pt ∧ SqT K H1 pt [.str "slots", .ref ls] ∧ SqL K H1 ls ys ∧ DpAll K H1 ys rds := by
          cases dP1 with
          | tup hp hs =>
            cases hs with
            | cons h1 h2 =>
              cases h2 with
              | cons h2 h3 =>
                cases h1; cases h3
                cases h2 with
                | lst hl hd => exact ⟨_, _, _, rfl, hp, hl, hd⟩
        walk_at "st"
        refine q_getD e1 (v := .ref pt) (by rfl) ?_
        walk_at "st"
        refine q_ixT hpt (atI0 rfl) ?_
        walk_at "st"
        refine rEq_st _ _ _ ?_
        refine ⟨_, rfl, ?_⟩
        rw [decide_eq_true rfl]
        refine iteT ?_
        walk_at "st"
        refine q_lcI ?_
        walk_at "st"
        refine q_getD e1 (v := .ref pt) (by rfl) ?_
        walk_at "st"
        refine q_ixT hpt (atI_nat (j := 1) rfl) ?_
        refine ⟨ls, rfl, ⟨_, hls⟩, fun X nX => lc_map (ds := rds) (fun d => V.int (tkOf d)) hls dls (by omega) nX ?_ ?_⟩
        · intro x d H2 hd md s2 Q2 k
          obtain ⟨t, tk, rfl, _⟩ := hrds d md
          obtain ⟨xp, rfl, hxp⟩ : ∃ xp : Addr, x = .ref xp ∧ SqT K H2 xp [.int t, .int tk] := by
            cases hd with
            | tup hp hs =>
              cases hs with
              | cons h1 h2 =>
                cases h2 with
                | cons h2 h3 => cases h1; cases h2; cases h3; exact ⟨_, rfl, hp⟩
          refine q_gname ?_
          refine ⟨rfl, ?_⟩
          walk_at "st"
          refine q_ixT hxp (atI_nat (j := 1) rfl) ?_
          exact k _ (Same.refl _)
        intro H2 s2 eX
        walk_at "st"
        have eX' : H2 X = some (.lst ((rds.map tkOf).map V.int)) := by rw [List.map_map]; exact eX
        refine ⟨X, rds.map tkOf, rfl, SqL.of eX', ?_⟩
        have bs := sum_le (rds.map tkOf) fun y hy => by
          obtain ⟨d, hd, rfl⟩ := List.mem_map.mp hy
          obtain ⟨t, tk, rfl, _, _, h1, h12⟩ := hrds d hd
          exact ⟨h1, h12⟩
        walk_at "s1"
        refine q_putD (s2 _ _ e1) (sz1000 (by show 18 < 100000; decide)) (kv' := wk18 x0 x1 x2 x3 x4 x5 x6 x7 x8 x9 x10 (.ref pt) x12 x13 x14 x15 x16 (rds.map tkOf).sum) (by rfl) ?_
        refine hN _ _ ⟨_, _, _, rfl, (b1.trans (But.same s2)).trans But.put, upd_same, ?_, ?_⟩
        · obtain ⟨d0, rds', rfl⟩ : ∃ d rs, rds = d :: rs := by
            cases rds with
            | nil => exact absurd hl1 (by decide)
            | cons d rs => exact ⟨d, rs, rfl⟩
          have b0 := (sum_le (rds'.map tkOf) fun y hy => by
            obtain ⟨d, hd, rfl⟩ := List.mem_map.mp hy
            obtain ⟨t, tk, rfl, _, _, h1, h12⟩ := hrds d (List.mem_cons_of_mem _ hd)
            exact ⟨h1, h12⟩).1
          obtain ⟨t, tk, rfl, _, _, h1, h12⟩ := hrds _ List.mem_cons_self
          show 1 ≤ tk + (rds'.map tkOf).sum
          omega
        · have h := bs.2
          rw [List.length_map] at h
          have : (rds.length : Int) ≤ 4 := by exact_mod_cast hl4
          omega))) only [↓Hk.hold_s]
end
end T
namespace T
section
variable {P : Program} {w : World} {K : PySem.W.Frag} {mg : Str → Option Value} {base : Heap}
section
variable {J : It} {n : Nat} {G : Hp → Prop} {Y : Nat → Hp → V → Hp → Prop} {g : TG} {te : TE} {vs : List Nat} {σ : L2.St} {H1 : Hp} {D : Addr} {Qd : Hp → Prop}
/-- a new list, numbers drawn for each item -/
theorem lc_pool (w : L2.Walk J n G Y) {p LC : Addr} {N c : Nat} (R : Nat → V → Hp → Prop) (hD : H1 D = none) (few : n < sizeLine) (PA : PoolAt H1 p LC N) (hG : ∀ H', But p H1 H' → G H') (hY : ∀ i H x H', Y i H x H' → Same H H')
    (hRp : ∀ i y H H' kv, H p = some (.dK kv) → But p H H' → R i y H → R i y H') (hRD : ∀ i y H H' acc, H D = some (.lst acc) → But D H H' → R i y H → R i y H')
    (body : ∀ i x H' H2 acc, i < n → But p H1 H' → Y i H' x H2 → PoolAt H2 p LC (N + c * i) → H2 D = some (.lst acc) → ∀ Q' : VK, (∀ y H3, But p H2 H3 → PoolAt H3 p LC (N + c * (i + 1)) → R i y H3 → Q' y H3) → g x (wipe σ vs) H2 fun σ2 H3 => wipe σ2 vs = wipe σ vs ∧ te σ2 H3 Q')
    (done : ∀ ys H', But p H1 H' → PoolAt H' p LC (N + c * n) → H' D = some (.lst ys) → ys.length = n → (∀ i y, ys[i]? = some y → R i y H') → Qd H') :
    ∃ W : Nat → Nat → Hp → Prop, (∃ m, W 0 m (upd H1 D (.lst []))) ∧ ∀ i m H, W i m H →
      (J.stop i H ∧ Qd H) ∨ (J.go i H ∧ ∃ Nx : Hp → Prop, (∀ H', Nx H' → ∃ m', m' < m ∧ W (i + 1) m' H') ∧ ∀ x H', J.yld i H x H' → g x (wipe σ vs) H' fun σ2 H2 => wipe σ2 vs = wipe σ vs ∧ tYes σ2 H2 fun b H3 =>
        if b = true then te σ2 H3 fun y H4 => ∃ acc, H4 D = some (.lst acc) ∧ acc.length < sizeLine ∧ Nx (upd H4 D (.lst (acc ++ [y]))) else Nx H3) := by
 refine Hk.hold ?_
 simp (disch := with_unfolding_all (
 exact Hk.disch (by
  obtain ⟨npD, nCD⟩ := PA.new hD
  have bD : ∀ H o, But D H (upd H D o) := fun H o b u h hb => by rw [upd_ne hb]; exact h
  refine lc_it w (fun i H => But p H1 H ∧ PoolAt H p LC (N + c * i) ∧ ∃ ys, H D = some (.lst ys) ∧ ys.length = i ∧ ∀ j y, ys[j]? = some y → R j y H) ⟨But.same (same_new hD), by rw [Nat.mul_zero, Nat.add_zero]; exact PA.same (same_new hD), [], upd_same, rfl, fun j y e => by simp at e⟩ (fun i H _ h => hG H h.1) ?_ ?_
  · rintro i x H H2 lt ⟨s1, P1, ys, e, l, r⟩ y
    have s2 := hY i H x H2 y
    have z := body i x H H2 ys lt s1 y (P1.same s2) (s2 _ _ e) (fun y H4 => ∃ acc, H4 D = some (.lst acc) ∧ acc.length < sizeLine ∧ (But p H1 (upd H4 D (.lst (acc ++ [y]))) ∧ PoolAt (upd H4 D (.lst (acc ++ [y]))) p LC (N + c * (i + 1)) ∧ ∃ ys, upd H4 D (.lst (acc ++ [y])) D = some (.lst ys) ∧ ys.length = i + 1 ∧ ∀ j y', ys[j]? = some y' → R j y' (upd H4 D (.lst (acc ++ [y]))))) ?_
    · exact z
    · intro y H4 s4 P4 ry
      have b4 : But p H H4 := (But.same s2).trans s4
      have e4 : H4 D = some (.lst ys) := b4 _ _ e (Ne.symm npD)
      refine ⟨ys, e4, by omega, fun b o h hn => ?_, P4.but npD nCD (bD _ _), ys ++ [y], upd_same, by simp [l], fun j y' hj => ?_⟩
      · have hb : b ≠ D := ne_of_none h hD
        rw [upd_ne hb]
        exact b4 _ _ (s1 _ _ h hn) hn
      · refine hRD j y' H4 _ ys e4 (bD _ _) ?_
        rw [List.getElem?_append] at hj
        split at hj
        · obtain ⟨kv, ek⟩ := P1.dk
          exact hRp j y' H H4 kv ek b4 (r j y' hj)
        · rename_i hge
          have : j = i := by
            rcases Nat.lt_trichotomy j i with z | z | z
            · omega
            · exact z
            · rw [List.getElem?_eq_none (by simp; omega)] at hj; cases hj
          subst this
          simp [l] at hj
          subst hj
          exact ry
  · rintro H ⟨s1, P1, ys, e, l, r⟩
    exact done ys H s1 P1 e l r))) only [↓Hk.hold_s]
end
/-- the world under way: its dict and what stands in it, each a datum; numbers are drawn beside it -/
structure Wd (K : PySem.W.Frag) (H0 H : Hp) (p LC W : Addr) (n : Nat) (kv : List (Key × V)) (ds : List PyData) : Prop where
  b : But p H0 H
  pa : PoolAt H p LC n
  new : H0 W = none
  np : p ≠ W
  nc : LC ≠ W
  w : H W = some (.dK kv)
  da : DpAll K H (kv.map (·.2)) ds
theorem Wd.draw {H0 H H' : Hp} {p LC W : Addr} {n m : Nat} {kv : List (Key × V)} {ds : List PyData} (h : Wd K H0 H p LC W n kv ds) (bt : But p H H') (P2 : PoolAt H' p LC m) : Wd K H0 H' p LC W m kv ds :=
  ⟨h.b.trans bt, P2, h.new, h.np, h.nc, bt _ _ h.w (Ne.symm h.np), dpAllKeepD (h.pa.keepD bt) h.da⟩
theorem Wd.same {H0 H H' : Hp} {p LC W : Addr} {n : Nat} {kv : List (Key × V)} {ds : List PyData} (h : Wd K H0 H p LC W n kv ds) (s : Same H H') : Wd K H0 H' p LC W n kv ds :=
  ⟨h.b.trans (But.same s), h.pa.same s, h.new, h.np, h.nc, s _ _ h.w, L2.DpAll.mono s h.da⟩
theorem Wd.put {H0 H : Hp} {p LC W : Addr} {n : Nat} {kv kv' : List (Key × V)} {ds ds' : List PyData} (h : Wd K H0 H p LC W n kv ds) (hd : DpAll K H (kv'.map (·.2)) ds') : Wd K H0 (upd H W (.dK kv')) p LC W n kv' ds' :=
  have bt : But W H (upd H W (.dK kv')) := But.put
  ⟨fun b o hb hn => bt _ _ (h.b _ _ hb hn) (ne_of_none hb h.new), h.pa.but h.np h.nc bt, h.new, h.np, h.nc, upd_same, dpAllKeepD (keepD_dk h.w bt) hd⟩
theorem Wd.keepD {H0 H H' : Hp} {p LC W : Addr} {n : Nat} {kv : List (Key × V)} {ds : List PyData} (h : Wd K H0 H p LC W n kv ds) (bt : But W H H') : KeepD H H' := keepD_dk h.w bt
theorem Wd.snoc {H0 H : Hp} {p LC W : Addr} {n : Nat} {kv kv' : List (Key × V)} {ds : List PyData} (h : Wd K H0 H p LC W n kv ds) {v : V} {d : PyData} (hd : Dp K H v d) (e : kv'.map (·.2) = kv.map (·.2) ++ [v]) : Wd K H0 (upd H W (.dK kv')) p LC W n kv' (ds ++ [d]) :=
  h.put (by rw [e]; exact dpAll_app h.da (.cons hd .nil))
end
end T
namespace T
section
variable {P : Program} {w : World} {K : PySem.W.Frag} {mg : Str → Option Value} {base : Heap}
structure TP where
  ts : List (Int × Int)
  pis : List Int
  qis : List Int
  nl : Nat
  fr : Nat
  dk : Int
  rows : List (List Rt)
def TP.menu (p : TP) : List Rt := menuL p.ts.length p.pis.length p.qis.length p.nl p.dk
structure TP.Ok (p : TP) : Prop where
  t2 : 2 ≤ p.ts.length
  t4 : p.ts.length ≤ 4
  tb : ∀ x ∈ p.ts, 0 ≤ x.1 ∧ x.1 ≤ 3 ∧ 0 ≤ x.2 ∧ x.2 ≤ 2
  two : ∃ x ∈ p.ts, ∃ y ∈ p.ts, x.1 ≠ y.1
  p3 : p.pis.length ≤ 3
  pb : ∀ x ∈ p.pis, 0 ≤ x ∧ x ≤ 1
  q2 : p.qis.length ≤ 2
  qb : ∀ x ∈ p.qis, 1 ≤ x ∧ x ≤ 2
  nl : p.nl ≤ 2
  fr : p.fr ≤ 3
  dk : p.dk ∈ ([0, 2, 3, 4] : List Int)
  lr : p.rows.length = p.ts.length
  rb : ∀ r ∈ p.rows, RowB p.menu r
def rowD (r : List Rt) : PyData := .list (r.map rtd)
theorem menuG0 : ∀ m ∈ ([2, 3, 4] : List Nat), ∀ np ∈ ([0, 1, 2, 3] : List Nat), ∀ nq ∈ ([0, 1, 2] : List Nat), ∀ nl ∈ ([0, 1, 2] : List Nat), ∀ dk ∈ ([0, 2, 3, 4] : List Int),
    ((menuL m np nq nl dk).all fun p => dRight (cntOf m np nq nl dk) (rtd p) && PyData.strOk p.1) = true ∧ 1 ≤ (menuL m np nq nl dk).length ∧ (menuL m np nq nl dk).length ≤ 30 := by decide +kernel
theorem menuG {m np nq nl : Nat} {dk : Int} (h1 : 2 ≤ m ∧ m ≤ 4) (h2 : np ≤ 3) (h3 : nq ≤ 2) (h4 : nl ≤ 2) (h5 : dk ∈ ([0, 2, 3, 4] : List Int)) : (∀ r ∈ menuL m np nq nl dk, dRight (cntOf m np nq nl dk) (rtd r) = true ∧ PyData.strOk r.1 = true) ∧ 1 ≤ (menuL m np nq nl dk).length ∧ (menuL m np nq nl dk).length ≤ 30 := by
 refine Hk.hold ?_
 simp (disch := with_unfolding_all (
 exact Hk.disch (by
  have a1 : m ∈ ([2, 3, 4] : List Nat) := by rcases (show m = 2 ∨ m = 3 ∨ m = 4 by omega) with rfl | rfl | rfl <;> simp
  have a2 : np ∈ ([0, 1, 2, 3] : List Nat) := by rcases (show np = 0 ∨ np = 1 ∨ np = 2 ∨ np = 3 by omega) with rfl | rfl | rfl | rfl <;> simp
  have a3 : nq ∈ ([0, 1, 2] : List Nat) := by rcases (show nq = 0 ∨ nq = 1 ∨ nq = 2 by omega) with rfl | rfl | rfl <;> simp
  have a4 : nl ∈ ([0, 1, 2] : List Nat) := by rcases (show nl = 0 ∨ nl = 1 ∨ nl = 2 by omega) with rfl | rfl | rfl <;> simp
  obtain ⟨z1, z2, z3⟩ := menuG0 m a1 np a2 nq a3 nl a4 dk h5
  exact ⟨fun r hr => Bool.and_eq_true_iff.mp (List.all_eq_true.mp z1 r hr), z2, z3⟩))) only [↓Hk.hold_s]
/-- the build that is drawn -/
def bdOf (p : TP) (lds : List PyData) (c1 c2 c3 : Int) (pl od : PyData) (f0 f1 f2 f3 : Bool) : BD where
  tasks := .list (p.ts.map tkD)
  pages := .list (p.pis.map .int)
  ports := .list (p.qis.map .int)
  locks := .int p.nl
  frames := .int p.fr
  disk := .int p.dk
  rights := .list (p.rows.map rowD)
  lines := .list lds
  costs := .tuple [.int (1 + c1), .int c2, .int c3]
  plan := pl
  outside := od
  wipe := .bool f0
  pad := .bool f1
  lend := .bool f2
  share := .bool f3
theorem okNumbers_of {is : List Int} {m lo hi : Int} (l : (is.length : Int) ≤ m) (h : ∀ i ∈ is, lo ≤ i ∧ i ≤ hi) : okNumbers (.list (is.map .int)) m lo hi = true := by
  unfold okNumbers
  rw [Bool.and_eq_true]
  refine ⟨by simp [dListOf]; omega, List.all_eq_true.mpr fun d hd => ?_⟩
  obtain ⟨i, hi2, rfl⟩ := List.mem_map.mp hd
  have := h i hi2
  simp [dBetween, this]
theorem asc_of : ∀ {row : List Rt}, (row.Pairwise fun a b => ¬ ltWIp b a) → row.Nodup → ascWI row = true
  | [], _, _ => rfl
  | [_], _, _ => rfl
  | a :: b :: r, h, n => by
    obtain ⟨h1, h2⟩ := List.pairwise_cons.mp h
    obtain ⟨n1, n2⟩ := List.nodup_cons.mp n
    show (ltWI a b && ascWI (b :: r)) = true
    rw [asc_of h2 n2, Bool.and_true, ltWI_iff]
    rcases ltWIp_tri a b with z | z | z
    · exact z
    · exact absurd (by rw [z]; exact List.mem_cons_self) n1
    · exact absurd z (h1 b List.mem_cons_self)
theorem rowB_ok {c : Cnt} {menu row : List Rt} (R : RowB menu row) (hm : ∀ r ∈ menu, dRight c (rtd r) = true) : okRow c (.list (row.map rtd)) = true := by
  unfold okRow
  have fw := R.few
  have e1 : dListOf (.list (row.map rtd)) 0 8 = true := by simp [dListOf]; omega
  rw [e1, Bool.true_and]
  show ((row.map rtd).all (dRight c) && ascWI ((row.map rtd).map _)) = true
  have e2 : ∀ f : PyData → Str × Int, (∀ r : Rt, f (rtd r) = r) → (row.map rtd).map f = row := fun f h => by
    rw [List.map_map]
    refine Eq.trans (List.map_congr_left (g := id) fun r _ => h r) (List.map_id row)
  rw [e2 _ (fun _ => rfl), asc_of R.srt R.nd, Bool.and_true, List.all_map, List.all_eq_true]
  exact fun r hr => hm r (R.inm r hr)
theorem bdOf_ok {p : TP} {lds : List PyData} {c1 c2 c3 : Int} {pl od : PyData} {f0 f1 f2 f3 : Bool} (o : p.Ok) (ll : lds.length = p.pis.length) (okl : ∀ d ∈ lds, okLine d = true) (h1 : 0 ≤ c1 ∧ c1 < 3) (h2 : 0 ≤ c2 ∧ c2 < 4) (h3 : 0 ≤ c3 ∧ c3 < 3) (hp : planOk p.ts.length pl) (ho : outOk p.qis.length od) :
    BOk (bdOf p lds c1 c2 c3 pl od f0 f1 f2 f3) := by
 refine Hk.hold ?_
 simp (disch := with_unfolding_all (
 exact Hk.disch (by
  have ec : cOf (bdOf p lds c1 c2 c3 pl od f0 f1 f2 f3) = cntOf p.ts.length p.pis.length p.qis.length p.nl p.dk := by
    show cntOf (p.ts.map tkD).length (p.pis.map PyData.int).length (p.qis.map PyData.int).length p.nl p.dk = _
    rw [List.length_map, List.length_map, List.length_map]
  have t2 := o.t2
  have t4 := o.t4
  have p3 := o.p3
  have q2 := o.q2
  have hnl := o.nl
  have hfr := o.fr
  obtain ⟨mg1, mg2, mg3⟩ := menuG (m := p.ts.length) (np := p.pis.length) (nq := p.qis.length) (nl := p.nl) (dk := p.dk) ⟨t2, t4⟩ p3 q2 hnl o.dk
  have lr := o.lr
  refine ⟨?_, okNumbers_of (by omega) o.pb, okNumbers_of (by omega) o.qb, ?_, ?_, ?_, ?_, ?_, ?_, ?_, ?_, rfl, rfl, rfl, rfl⟩
  · show okTasks (.list (p.ts.map tkD)) = true
    unfold okTasks
    rw [Bool.and_eq_true]
    refine ⟨by simp [dListOf]; omega, ?_⟩
    show ((p.ts.map tkD).all okTask && decide (1 < distinct ((p.ts.map tkD).map sideD))) = true
    rw [Bool.and_eq_true]
    refine ⟨List.all_eq_true.mpr fun d hd => ?_, decide_eq_true ?_⟩
    · obtain ⟨x, hx, rfl⟩ := List.mem_map.mp hd
      have := o.tb x hx
      simp [tkD, okTask, dTupleOf, dBetween, this]
    · obtain ⟨x, hx, y, hy, ne⟩ := o.two
      exact distinct_gt.mpr ⟨x.1, List.mem_map.mpr ⟨tkD x, List.mem_map_of_mem hx, rfl⟩, y.1, List.mem_map.mpr ⟨tkD y, List.mem_map_of_mem hy, rfl⟩, ne⟩
  · show dBetween (.int p.nl) 0 2 = true
    simp [dBetween]; omega
  · show dBetween (.int p.fr) 0 3 = true
    simp [dBetween]; omega
  · show okDisk (.int p.dk) = true
    have := o.dk
    simp only [List.mem_cons, List.not_mem_nil, or_false] at this
    rcases this with e | e | e | e <;> rw [e] <;> decide +kernel
  · show okRights (cOf _) (.list (p.rows.map rowD)) = true
    rw [ec]
    unfold okRights
    rw [Bool.and_eq_true]
    have et : cnt (cntOf p.ts.length p.pis.length p.qis.length p.nl p.dk) "task" = (p.ts.length : Int) := rfl
    refine ⟨by rw [et]; simp [dListOf]; omega, List.all_eq_true.mpr fun d hd => ?_⟩
    obtain ⟨r, hr, rfl⟩ := List.mem_map.mp hd
    exact rowB_ok (o.rb r hr) fun x hx => (mg1 x hx).1
  · show okLines (cOf _) (.list lds) = true
    rw [ec]
    unfold okLines
    rw [Bool.and_eq_true]
    have et : cnt (cntOf p.ts.length p.pis.length p.qis.length p.nl p.dk) "page" = (p.pis.length : Int) := rfl
    exact ⟨by rw [et]; simp [dListOf]; omega, List.all_eq_true.mpr okl⟩
  · show okCosts (.tuple [.int (1 + c1), .int c2, .int c3]) = true
    simp [okCosts, dTupleOf, dBetween]; omega
  · show okPlan (cOf _) pl = true
    rw [ec]
    rcases hp with ⟨i, rfl, i1, i8⟩ | ⟨rds, rfl, l1, l4, hr⟩
    · simp [okPlan, dTupleOf, dBetween]; omega
    · have et : cnt (cntOf p.ts.length p.pis.length p.qis.length p.nl p.dk) "task" = (p.ts.length : Int) := rfl
      unfold okPlan
      rw [Bool.and_eq_true]
      refine ⟨rfl, ?_⟩
      show (if ("slots" : Str) = "levels" then _ else _) = true
      rw [if_neg (fun z => slots_ne z.symm)]
      show (decide (("slots" : Str) = "slots") && okSlots _ (.list rds)) = true
      rw [decide_eq_true rfl, Bool.true_and]
      unfold okSlots
      rw [Bool.and_eq_true]
      refine ⟨by simp [dListOf]; omega, List.all_eq_true.mpr fun d hd => ?_⟩
      obtain ⟨t, k, rfl, h0, h1, h2, h3⟩ := hr d hd
      unfold okSlot
      rw [et]
      simp [dTupleOf, dBetween]; omega
  · show okOutside (cOf _) od = true
    rw [ec]
    rcases ho with rfl | ⟨x, e, rfl, x0, x1, e1, e4⟩
    · rfl
    · have et : cnt (cntOf p.ts.length p.pis.length p.qis.length p.nl p.dk) "port" = (p.qis.length : Int) := rfl
      show okOut2 _ _ = true
      unfold okOut2
      rw [et]
      simp [dTupleOf, dBetween]; omega))) only [↓Hk.hold_s]
end
end T
namespace T
section
variable {P : Program} {w : World} {K : PySem.W.Frag} {mg : Str → Option Value} {base : Heap}
local macro_rules | `(tactic| walk_at "s1") => `(tactic| first | with_reducible refine q_dputW ?_)
section
variable (x0 x1 x2 x3 x4 x5 x6 x7 x8 x9 x10 x11 x12 : V)
def wk7 : List (Key × V) := [(Sum.inr "tasks", x0), (Sum.inr "pages", x1), (Sum.inr "ports", x2), (Sum.inr "locks", x3), (Sum.inr "frames", x4), (Sum.inr "disk", x5), (Sum.inr "menu", x6)]
def wk8 : List (Key × V) := [(Sum.inr "tasks", x0), (Sum.inr "pages", x1), (Sum.inr "ports", x2), (Sum.inr "locks", x3), (Sum.inr "frames", x4), (Sum.inr "disk", x5), (Sum.inr "menu", x6), (Sum.inr "rights", x7)]
def wk9 : List (Key × V) := [(Sum.inr "tasks", x0), (Sum.inr "pages", x1), (Sum.inr "ports", x2), (Sum.inr "locks", x3), (Sum.inr "frames", x4), (Sum.inr "disk", x5), (Sum.inr "menu", x6), (Sum.inr "rights", x7), (Sum.inr "lines", x8)]
def wk10 : List (Key × V) := [(Sum.inr "tasks", x0), (Sum.inr "pages", x1), (Sum.inr "ports", x2), (Sum.inr "locks", x3), (Sum.inr "frames", x4), (Sum.inr "disk", x5), (Sum.inr "menu", x6), (Sum.inr "rights", x7), (Sum.inr "lines", x8), (Sum.inr "costs", x9)]
def wk11 : List (Key × V) := [(Sum.inr "tasks", x0), (Sum.inr "pages", x1), (Sum.inr "ports", x2), (Sum.inr "locks", x3), (Sum.inr "frames", x4), (Sum.inr "disk", x5), (Sum.inr "menu", x6), (Sum.inr "rights", x7), (Sum.inr "lines", x8), (Sum.inr "costs", x9), (Sum.inr "most", x10)]
def wk12 : List (Key × V) := [(Sum.inr "tasks", x0), (Sum.inr "pages", x1), (Sum.inr "ports", x2), (Sum.inr "locks", x3), (Sum.inr "frames", x4), (Sum.inr "disk", x5), (Sum.inr "menu", x6), (Sum.inr "rights", x7), (Sum.inr "lines", x8), (Sum.inr "costs", x9), (Sum.inr "most", x10), (Sum.inr "plan", x11)]
def wk13 : List (Key × V) := [(Sum.inr "tasks", x0), (Sum.inr "pages", x1), (Sum.inr "ports", x2), (Sum.inr "locks", x3), (Sum.inr "frames", x4), (Sum.inr "disk", x5), (Sum.inr "menu", x6), (Sum.inr "rights", x7), (Sum.inr "lines", x8), (Sum.inr "costs", x9), (Sum.inr "most", x10), (Sum.inr "plan", x11), (Sum.inr "outside", x12)]
end
theorem dpAll_last {H : Hp} {xs : List V} {ds : List PyData} {y v : V} {e d : PyData} (h : DpAll K H (xs ++ [y]) (ds ++ [e])) (hd : Dp K H v d) (l : xs.length = ds.length) : DpAll K H (xs ++ [v]) (ds ++ [d]) := by
  refine dpAll_app ?_ (.cons hd .nil)
  have h1 := dpAll_take h xs.length
  rw [List.take_append_of_le_length (Nat.le_refl _), List.take_length, l, List.take_append_of_le_length (Nat.le_refl _), List.take_length] at h1
  exact h1
def flK (fs : List Bool) : List (Key × V) := ((["wipe", "pad", "lend", "share"] : List Str).zip fs).map fun p => (Sum.inr p.1, .bl p.2)
theorem menuND0 : ∀ m ∈ ([2, 3, 4] : List Nat), ∀ np ∈ ([0, 1, 2, 3] : List Nat), ∀ nq ∈ ([0, 1, 2] : List Nat), ∀ nl ∈ ([0, 1, 2] : List Nat), ∀ dk ∈ ([0, 2, 3, 4] : List Int), (menuL m np nq nl dk).Nodup := by decide +kernel
theorem menuND {m np nq nl : Nat} {dk : Int} (h1 : 2 ≤ m ∧ m ≤ 4) (h2 : np ≤ 3) (h3 : nq ≤ 2) (h4 : nl ≤ 2) (h5 : dk ∈ ([0, 2, 3, 4] : List Int)) : (menuL m np nq nl dk).Nodup := by
  have a1 : m ∈ ([2, 3, 4] : List Nat) := by rcases (show m = 2 ∨ m = 3 ∨ m = 4 by omega) with rfl | rfl | rfl <;> simp
  have a2 : np ∈ ([0, 1, 2, 3] : List Nat) := by rcases (show np = 0 ∨ np = 1 ∨ np = 2 ∨ np = 3 by omega) with rfl | rfl | rfl | rfl <;> simp
  have a3 : nq ∈ ([0, 1, 2] : List Nat) := by rcases (show nq = 0 ∨ nq = 1 ∨ nq = 2 by omega) with rfl | rfl | rfl <;> simp
  have a4 : nl ∈ ([0, 1, 2] : List Nat) := by rcases (show nl = 0 ∨ nl = 1 ∨ nl = 2 by omega) with rfl | rfl | rfl <;> simp
  exact menuND0 m a1 np a2 nq a3 nl a4 dk h5
theorem dline_ex {H0 : Hp} : ∀ {ys : List V}, (∀ (i : Nat) y, ys[i]? = some y → ∃ d, (∀ H', Dp K H' y d) ∧ okLine d = true) → ∃ lds : List PyData, (∀ H', DpAll K H' ys lds) ∧ ∀ d ∈ lds, okLine d = true
  | [], _ => ⟨[], fun _ => .nil, fun d hd => by cases hd⟩
  | y :: r, h => by
    obtain ⟨d, h1, h2⟩ := h 0 y rfl
    obtain ⟨lds, g1, g2⟩ := dline_ex (H0 := H0) (ys := r) fun i y hy => h (i + 1) y hy
    refine ⟨d :: lds, fun H' => .cons (h1 H') (g1 H'), fun x hx => ?_⟩
    rcases List.mem_cons.mp hx with rfl | hx
    · exact h2
    · exact g2 x hx
theorem ints_ex {lo hi : Int} : ∀ {ys : List V}, (∀ (i : Nat) y, ys[i]? = some y → ∃ z : Int, y = .int z ∧ lo ≤ z ∧ z ≤ hi) → ∃ zs : List Int, ys = zs.map V.int ∧ ∀ z ∈ zs, lo ≤ z ∧ z ≤ hi
  | [], _ => ⟨[], rfl, fun z h => by cases h⟩
  | y :: r, h => by
    obtain ⟨z, rfl, b⟩ := h 0 y rfl
    obtain ⟨zs, rfl, bs⟩ := ints_ex (ys := r) fun i y hy => h (i + 1) y hy
    refine ⟨z :: zs, rfl, fun x hx => ?_⟩
    rcases List.mem_cons.mp hx with rfl | hx
    · exact b
    · exact bs x hx
theorem dpInts_ {H : Hp} : ∀ ns : List Int, DpAll K H (ns.map V.int) (ns.map PyData.int)
  | [] => .nil
  | n :: r => .cons (.int n) (dpInts_ r)
def spWorld (K : PySem.W.Frag) : Sp := fun vs H Q _ => ∃ (p LC : Addr) (n : Nat), vs = [.ref p] ∧ PoolAt H p LC n ∧ n ≤ 1000 ∧
  ∀ W b r pe x0 x1 x2 x3 x4 x5 x6 x7 x8 x9 x10 x11 x12 x13 x14 x15 x16 dM mo H', But p H H' → PoolAt H' p LC (n + 1000) → H W = none → p ≠ W → LC ≠ W → H' W = some (.dK (wk19 x0 x1 x2 x3 x4 x5 x6 x7 x8 x9 x10 x11 x12 x13 x14 x15 x16 r pe)) →
    DpAll K H' [x0, x1, x2, x3, x4, x5, x6, x7, x8, x9, x10, x11, x12, x13, x14, x15, x16] [b.tasks, b.pages, b.ports, b.locks, b.frames, b.disk, dM, b.rights, b.lines, b.costs, mo, b.plan, b.outside, b.wipe, b.pad, b.lend, b.share] → BOk b → (∃ f0 f1 f2 f3, b.wipe = .bool f0 ∧ b.pad = .bool f1 ∧ b.lend = .bool f2 ∧ b.share = .bool f3) → mo = .int (greatOf b) → Q (.ref W) H'
set_option maxHeartbeats 8000000 in
theorem ok_law_world (B : Bl mg) (c__law_draw : Cal P w K mg base 2 "_law_draw" ["_law_pool_here", "_law_many"] (spDraw K)) (c__law_tasks : Cal P w K mg base 3 "_law_tasks" ["_law_pool_here", "_law_many"] (spTasks K)) (c__law_menu : Cal P w K mg base 1 "_law_menu" ["_law_w"] (spMenu K))
    (c__law_rights : Cal P w K mg base 3 "_law_rights" ["_law_pool_here", "_law_menu_here"] (spRights K)) (c__law_plan : Cal P w K mg base 3 "_law_plan" ["_law_pool_here", "_law_w"] (spLPlan K)) (c__law_finish : Cal P w K mg base 1 "_law_finish" ["_law_w"] (spFinish K))
    (cc : DefAt K mg "_law_world" s__law_world ["_law_pool_here"]) : Cal P w K mg base 4 "_law_world" ["_law_pool_here"] (spWorld K) := by
 refine Hk.hold ?_
 simp (disch := with_unfolding_all (
 exact Hk.disch (cc.cal fun f fd F => by
  refine F.ok sc__law_world (fun vs H Q E h => ?_) (fun cdv A outer s H vs Q E hr h => ?_)
  · obtain ⟨p, LC, n, rfl, _⟩ := h; rfl
  · obtain ⟨p, LC, n, rfl, PA, n4, q⟩ := h
    have hu := hu_of hr
    refine ⟨_, (pss_cons (ps_set (i := 1) sc__law_world.nd rfl (Or.inr rfl) (pe_disp (pps_cons pe_str (pe_cal c__law_tasks (hr.mono (by omega)) rfl (pa_cons (pv 0) (pa_cons (pe_op op_add pe_int (pe_cal c__law_draw (hr.mono (by omega)) rfl (pa_cons (pv 0) (pa_cons pe_int pa_nil)))) pa_nil))) pps_nil) rfl rfl (by simp) (by decide)))
      (pss_cons (ps_dput hu (pv 1) pe_str (pe_lc (own := [("_law_t", 5)]) (tt := tYes) rfl sc__law_world.nd (pi_range1 rfl B.range (pa_cons (pe_cal c__law_draw (hr.mono (by omega)) rfl (pa_cons (pv 0) (pa_cons pe_int pa_nil))) pa_nil)) (blkOk_by (N := ["_law_pool_here", "_law_w", "_law_plain", "_law_miss", "_law_flag", "_law_t"]) (sc := defScope s__law_world) (by decide +kernel)) (fun _ _ _ _ _ => (pg_name (i := 5) sc__law_world.nd rfl (Or.inl rfl))) (fun _ _ _ _ _ => pts_nil) (fun _ _ _ _ _ => (pe_cal c__law_draw (hr.mono (by omega)) rfl (pa_cons (pv 0) (pa_cons pe_int pa_nil))))) rfl)
      (pss_cons (ps_dput hu (pv 1) pe_str (pe_lc (own := [("_law_t", 5)]) (tt := tYes) rfl sc__law_world.nd (pi_range1 rfl B.range (pa_cons (pe_cal c__law_draw (hr.mono (by omega)) rfl (pa_cons (pv 0) (pa_cons pe_int pa_nil))) pa_nil)) (blkOk_by (N := ["_law_pool_here", "_law_w", "_law_plain", "_law_miss", "_law_flag", "_law_t"]) (sc := defScope s__law_world) (by decide +kernel)) (fun _ _ _ _ _ => (pg_name (i := 5) sc__law_world.nd rfl (Or.inl rfl))) (fun _ _ _ _ _ => pts_nil) (fun _ _ _ _ _ => (pe_op op_add pe_int (pe_cal c__law_draw (hr.mono (by omega)) rfl (pa_cons (pv 0) (pa_cons pe_int pa_nil)))))) rfl)
      (pss_cons (ps_dput hu (pv 1) pe_str (pe_cal c__law_draw (hr.mono (by omega)) rfl (pa_cons (pv 0) (pa_cons pe_int pa_nil))) rfl)
      (pss_cons (ps_dput hu (pv 1) pe_str (pe_cal c__law_draw (hr.mono (by omega)) rfl (pa_cons (pv 0) (pa_cons pe_int pa_nil))) rfl)
      (pss_cons (ps_dput hu (pv 1) pe_str (pe_ix ix_tup (pe_tup (pa_cons pe_int (pa_cons pe_int (pa_cons pe_int (pa_cons pe_int (pa_cons pe_int pa_nil)))))) (pe_cal c__law_draw (hr.mono (by omega)) rfl (pa_cons (pv 0) (pa_cons pe_int pa_nil))) (fun _ _ => rfl)) rfl)
      (pss_cons (ps_dput hu (pv 1) pe_str (pe_cal c__law_menu (hr.mono (by omega)) rfl (pa_cons (pv 1) pa_nil)) rfl)
      (pss_cons (ps_dput hu (pv 1) pe_str (pe_lc (own := [("_law_t", 5)]) (tt := tYes) rfl sc__law_world.nd (pi_list (pe_dget hu (pv 1) pe_str (fun _ _ => rfl))) (blkOk_by (N := ["_law_pool_here", "_law_w", "_law_plain", "_law_miss", "_law_flag", "_law_t"]) (sc := defScope s__law_world) (by decide +kernel)) (fun _ _ _ _ _ => (pg_name (i := 5) sc__law_world.nd rfl (Or.inl rfl))) (fun _ _ _ _ _ => pts_nil) (fun _ _ _ _ _ => (pe_cal c__law_rights (hr.mono (by omega)) rfl (pa_cons (pv 0) (pa_cons (pe_dget hu (pv 1) pe_str (fun _ _ => rfl)) pa_nil))))) rfl)
      (pss_cons (ps_dput hu (pv 1) pe_str (pe_lc (own := [("_law_t", 5)]) (tt := tYes) rfl sc__law_world.nd (pi_list (pe_dget hu (pv 1) pe_str (fun _ _ => rfl))) (blkOk_by (N := ["_law_pool_here", "_law_w", "_law_plain", "_law_miss", "_law_flag", "_law_t"]) (sc := defScope s__law_world) (by decide +kernel)) (fun _ _ _ _ _ => (pg_name (i := 5) sc__law_world.nd rfl (Or.inl rfl))) (fun _ _ _ _ _ => pts_nil) (fun _ _ _ _ _ => (pe_ix (show IxR _ (rIxT K) from ix_tup) (pe_tup (pa_cons pe_non (pa_cons pe_int (pa_cons pe_int pa_nil)))) (pe_cal c__law_draw (hr.mono (by omega)) rfl (pa_cons (pv 0) (pa_cons pe_int pa_nil))) (fun _ _ => rfl)))) rfl)
      (pss_cons (ps_set (i := 2) sc__law_world.nd rfl (Or.inl rfl) (pe_ix ix_tup (pe_tup (pa_cons pe_int (pa_cons pe_int (pa_cons pe_int (pa_cons pe_int pa_nil))))) (pe_cal c__law_draw (hr.mono (by omega)) rfl (pa_cons (pv 0) (pa_cons pe_int pa_nil))) (fun _ _ => rfl)))
      (pss_cons (ps_set (i := 3) sc__law_world.nd rfl (Or.inl rfl) (pe_cal c__law_draw (hr.mono (by omega)) rfl (pa_cons (pv 0) (pa_cons pe_int pa_nil))))
      (pss_cons (ps_dput hu (pv 1) pe_str (pe_tup (pa_cons (pv 2) (pa_cons (pv 3) (pa_cons (pe_ix ix_tup (pe_tup (pa_cons pe_int (pa_cons pe_int (pa_cons pe_int (pa_cons pe_int pa_nil))))) (pe_cal c__law_draw (hr.mono (by omega)) rfl (pa_cons (pv 0) (pa_cons pe_int pa_nil))) (fun _ _ => rfl)) pa_nil)))) rfl)
      (pss_cons (ps_dput hu (pv 1) pe_str (pe_op op_add (pv 2) (pe_callB (call_max2 rfl) rfl B.max hb_max (pa_cons (pv 3) (pa_cons (pe_op op_sub (pe_dget hu (pv 1) pe_str (fun _ _ => rfl)) pe_int) pa_nil)))) rfl)
      (pss_cons (ps_dput hu (pv 1) pe_str (pe_cal c__law_plan (hr.mono (by omega)) rfl (pa_cons (pv 0) (pa_cons (pv 1) pa_nil))) rfl)
      (pss_cons (ps_dput hu (pv 1) pe_str pe_non rfl)
      (pss_cons (ps_if (PW.pt (pw_and (pt_truth (pe_dget hu (pv 1) pe_str (fun _ _ => rfl)) (fun _ => rfl)) (pw_and1 (pt_cmpR op_eq (pe_cal c__law_draw (hr.mono (by omega)) rfl (pa_cons (pv 0) (pa_cons pe_int pa_nil))) pe_int (nomark _))))) (pss_one (ps_dput hu (pv 1) pe_str (pe_tup (pa_cons (pe_cal c__law_draw (hr.mono (by omega)) rfl (pa_cons (pv 0) (pa_cons (pe_callB call_len_seq rfl B.len hb_len (pa_cons (pe_dget hu (pv 1) pe_str (fun _ _ => rfl)) pa_nil)) pa_nil))) (pa_cons (pe_op op_add pe_int (pe_cal c__law_draw (hr.mono (by omega)) rfl (pa_cons (pv 0) (pa_cons pe_int pa_nil)))) pa_nil))) rfl)) pss_nil)
      (pss_cons (ps_for PassesOwn.never rfl (pi_list (pe_lst (pa_cons pe_str (pa_cons pe_str (pa_cons pe_str (pa_cons pe_str pa_nil)))))) (pg_name (i := 4) sc__law_world.nd rfl (Or.inl rfl)) (pss_one (ps_dput hu (pv 1) (pv 4) (pe_cmpR op_eq (pe_cal c__law_draw (hr.mono (by omega)) rfl (pa_cons (pv 0) (pa_cons pe_int pa_nil))) pe_int (nomark _)) rfl)))
      (pss_one (ps_ret (pe_cal c__law_finish (hr.mono (by omega)) rfl (pa_cons (pv 1) pa_nil))))))))))))))))))))), ?_⟩
    walk_at "st0"
    intro W nW
    have W0 : Wd K H (upd H W (.dK [])) p LC W n [] [] := ⟨But.same (same_new nW), PA.same (same_new nW), nW, (PA.new nW).1, (PA.new nW).2, upd_same, .nil⟩
    generalize upd H W (.dK []) = H0 at *
    unfold tPairs
    walk_at "st"
    refine ⟨p, LC, n, 3, rfl, W0.pa, by omega, by omega, by omega, fun r1 H1 b1 P1 u0 u1 => ?_⟩
    have W1 := W0.draw b1 P1
    walk_at "st"
    refine ⟨p, LC, n + 1, (2 + r1).toNat, by rw [Int.toNat_of_nonneg (by omega)], P1, by omega, by omega, by omega, fun LT ts H2 b2 P2 nLT TA TK => ?_⟩
    have W2 := W1.draw b2 P2
    obtain ⟨m, em, m2, m4⟩ : ∃ m : Nat, (2 + r1).toNat = m ∧ 2 ≤ m ∧ m ≤ 4 := ⟨_, rfl, by omega, by omega⟩
    rw [em] at TK
    have dT := TA.dp (K := K)
    unfold tPairs
    walk_at "st"
    refine ⟨W2.w, w1 (.ref LT), rfl, by simp [w1], ?_⟩
    rw [show mergeK [] (w1 (.ref LT)) = w1 (.ref LT) from rfl]
    replace W2 := W2.snoc (kv' := w1 (.ref LT)) dT rfl
    generalize upd H2 W (.dK (w1 (.ref LT))) = H3 at *
    clear b2 P2 W1 b1 P1 W0 nW dT TA
    walk_at "s1"
    refine q_lcR ?_
    walk_at "st"
    refine ⟨p, LC, n + 1 + 10, 4, rfl, W2.pa, by omega, by omega, by omega, fun r3 H4 b4 P4 v0 v1 => ?_⟩
    have W4 := W2.draw b4 P4
    walk_at "st"
    obtain ⟨np, rfl, np3⟩ : ∃ k : Nat, r3 = k ∧ k ≤ 3 := ⟨r3.toNat, by omega, by omega⟩
    refine ⟨np, rfl, by omega, by omega, ?_⟩
    rw [Int.toNat_natCast]
    refine fun LP nLP => lc_pool (c := 1) walk_range (fun i y _ => ∃ z : Int, y = .int z ∧ 0 ≤ z ∧ z ≤ 1) nLP (sz1000 (by omega)) P4 (fun _ _ => trivial) yfn_same (fun _ _ _ _ _ _ _ h => h) (fun _ _ _ _ _ _ _ h => h) ?_ ?_
    · rintro i x H6 H7 acc lt bt ⟨rfl, rfl⟩ P6 e6 Q' k
      refine q_gname ?_
      refine ⟨rfl, ?_⟩
      walk_at "st"
      refine ⟨p, LC, _, 2, rfl, P6, by omega, by omega, by omega, fun r H7 b7 P7 x0 x1 => ?_⟩
      exact k _ _ b7 (P7.le (by omega)) ⟨_, rfl, x0, by omega⟩
    intro yP H5 b5 P5 eP lP gP
    obtain ⟨pis, rfl, bP⟩ := ints_ex gP
    rw [List.length_map] at lP
    have W5 := W4.draw b5 P5
    have dP : Dp K H5 (.ref LP) (.list (pis.map .int)) := .lst (SqL.of eP) (dpInts_ pis)
    walk_at "st"
    refine q_putD W5.w (sz1000 (by show 1 < 100000; decide)) (kv' := w2 (.ref LT) (.ref LP)) (by rfl) ?_
    replace W5 := W5.snoc (kv' := w2 (.ref LT) (.ref LP)) dP rfl
    generalize upd H5 W (.dK (w2 (.ref LT) (.ref LP))) = H8 at *
    clear b4 P4 W4 b5 P5 dP eP gP W2
    walk_at "s1"
    refine q_lcR ?_
    walk_at "st"
    refine ⟨p, LC, n + 1 + 10 + 1 + 1 * np, 3, rfl, W5.pa, by omega, by omega, by omega, fun r3 H4 b4 P4 v0 v1 => ?_⟩
    have W4 := W5.draw b4 P4
    walk_at "st"
    obtain ⟨nq, rfl, nq2⟩ : ∃ k : Nat, r3 = k ∧ k ≤ 2 := ⟨r3.toNat, by omega, by omega⟩
    refine ⟨nq, rfl, by omega, by omega, ?_⟩
    rw [Int.toNat_natCast]
    refine fun LQ nLQ => lc_pool (c := 1) walk_range (fun i y _ => ∃ z : Int, y = .int z ∧ 1 ≤ z ∧ z ≤ 2) nLQ (sz1000 (by omega)) P4 (fun _ _ => trivial) yfn_same (fun _ _ _ _ _ _ _ h => h) (fun _ _ _ _ _ _ _ h => h) ?_ ?_
    · rintro i x H6 H7 acc lt bt ⟨rfl, rfl⟩ P6 e6 Q' k
      refine q_gname ?_
      refine ⟨rfl, ?_⟩
      walk_at "st"
      refine ⟨p, LC, _, 2, rfl, P6, by omega, by omega, by omega, fun r H7 b7 P7 x0 x1 => ?_⟩
      walk_at "st"
      exact k _ _ b7 (P7.le (by omega)) ⟨_, rfl, by omega, by omega⟩
    intro yP H5 b5 P5 eP lQ gP
    obtain ⟨qis, rfl, bQ⟩ := ints_ex gP
    rw [List.length_map] at lQ
    replace W5 := W4.draw b5 P5
    have dQ : Dp K H5 (.ref LQ) (.list (qis.map .int)) := .lst (SqL.of eP) (dpInts_ qis)
    walk_at "st"
    refine q_putD W5.w (sz1000 (by show 2 < 100000; decide)) (kv' := w3 (.ref LT) (.ref LP) (.ref LQ)) (by rfl) ?_
    replace W5 := W5.snoc (kv' := w3 (.ref LT) (.ref LP) (.ref LQ)) dQ rfl
    generalize upd H5 W (.dK (w3 (.ref LT) (.ref LP) (.ref LQ))) = H8 at *
    clear b4 P4 W4 b5 P5 dQ eP gP
    walk_at "st"
    refine ⟨p, LC, n + 1 + 10 + 1 + 1 * np + 1 + 1 * nq, 3, rfl, W5.pa, by omega, by omega, by omega, fun r3 H4 b4 P4 v0 v1 => ?_⟩
    have W4 := W5.draw b4 P4
    obtain ⟨nl, rfl, nl2⟩ : ∃ k : Nat, r3 = k ∧ k ≤ 2 := ⟨r3.toNat, by omega, by omega⟩
    walk_at "st"
    refine q_putD W4.w (sz1000 (by show 3 < 100000; decide)) (kv' := w4 (.ref LT) (.ref LP) (.ref LQ) nl) (by rfl) ?_
    replace W5 := W4.snoc (kv' := w4 (.ref LT) (.ref LP) (.ref LQ) nl) (.int _) rfl
    generalize upd H4 W (.dK (w4 (.ref LT) (.ref LP) (.ref LQ) nl)) = H8 at *
    clear b4 P4 W4
    walk_at "st"
    refine ⟨p, LC, n + 1 + 10 + 1 + 1 * np + 1 + 1 * nq + 1, 4, rfl, W5.pa, by omega, by omega, by omega, fun r3 H4 b4 P4 v0 v1 => ?_⟩
    have W4 := W5.draw b4 P4
    obtain ⟨fr, rfl, fr3⟩ : ∃ k : Nat, r3 = k ∧ k ≤ 3 := ⟨r3.toNat, by omega, by omega⟩
    walk_at "st"
    refine q_putD W4.w (sz1000 (by show 4 < 100000; decide)) (kv' := w5 (.ref LT) (.ref LP) (.ref LQ) nl fr) (by rfl) ?_
    replace W5 := W4.snoc (kv' := w5 (.ref LT) (.ref LP) (.ref LQ) nl fr) (.int _) rfl
    generalize upd H4 W (.dK (w5 (.ref LT) (.ref LP) (.ref LQ) nl fr)) = H8 at *
    clear b4 P4 W4
    walk_at "st"
    refine ⟨by show 5 ≤ sizeLine; decide, fun t1 nt1 => ?_⟩
    have W6 := W5.same (same_new (o := .tup [V.int 0, V.int 0, V.int 2, V.int 3, V.int 4]) nt1)
    have e1 : upd H8 t1 (.tup [V.int 0, V.int 0, V.int 2, V.int 3, V.int 4]) t1 = some (.tup [V.int 0, V.int 0, V.int 2, V.int 3, V.int 4]) := upd_same
    have np1 := (W5.pa.new nt1).1
    generalize upd H8 t1 (.tup [V.int 0, V.int 0, V.int 2, V.int 3, V.int 4]) = H9 at *
    walk_at "st"
    refine ⟨p, LC, n + 1 + 10 + 1 + 1 * np + 1 + 1 * nq + 2, 5, rfl, W6.pa, by omega, by omega, by omega, fun r3 H4 b4 P4 v0 v1 => ?_⟩
    have W4 := W6.draw b4 P4
    obtain ⟨dk, ed, hdk⟩ : ∃ dk : Int, atI [V.int 0, V.int 0, V.int 2, V.int 3, V.int 4] r3 = some (.int dk) ∧ dk ∈ ([0, 2, 3, 4] : List Int) := by
      rcases (show r3 = 0 ∨ r3 = 1 ∨ r3 = 2 ∨ r3 = 3 ∨ r3 = 4 by omega) with rfl | rfl | rfl | rfl | rfl
      · exact ⟨0, by rfl, by decide⟩
      · exact ⟨0, by rfl, by decide⟩
      · exact ⟨2, by rfl, by decide⟩
      · exact ⟨3, by rfl, by decide⟩
      · exact ⟨4, by rfl, by decide⟩
    refine q_ixT (SqT.of (b4 _ _ e1 (Ne.symm np1))) ed ?_
    walk_at "st"
    refine q_putD W4.w (sz1000 (by show 5 < 100000; decide)) (kv' := w6 (.ref LT) (.ref LP) (.ref LQ) nl fr dk) (by rfl) ?_
    replace W5 := W4.snoc (kv' := w6 (.ref LT) (.ref LP) (.ref LQ) nl fr dk) (.int _) rfl
    generalize upd H4 W (.dK (w6 (.ref LT) (.ref LP) (.ref LQ) nl fr dk)) = H10 at *
    clear b4 P4 W4 W6 e1 np1
    obtain ⟨zT, zP, zQ, hT, hP, hQ, lT, lzP, lzQ⟩ : ∃ zT zP zQ, SqL K H10 LT zT ∧ SqL K H10 LP zP ∧ SqL K H10 LQ zQ ∧ zT.length = m ∧ zP.length = np ∧ zQ.length = nq := by
      have z : DpAll K H10 [.ref LT, .ref LP, .ref LQ, .int nl, .int fr, .int dk] [.list (ts.map tkD), .list (pis.map .int), .list (qis.map .int), .int nl, .int fr, .int dk] := W5.da
      cases z with
      | cons d1 z =>
      cases z with
      | cons d2 z =>
      cases z with
      | cons d3 z =>
      cases d1 with
      | lst h1 g1 =>
      cases d2 with
      | lst h2 g2 =>
      cases d3 with
      | lst h3 g3 =>
      refine ⟨_, _, _, h1, h2, h3, by rw [g1.length, List.length_map]; exact TK.l, by rw [g2.length, List.length_map]; exact lP, by rw [g3.length, List.length_map]; exact lQ⟩
    walk_at "st"
    refine ⟨W, LT, LP, LQ, zT, zP, zQ, m, np, nq, nl, fr, dk, rfl, W5.w, hT, hP, hQ, lT, lzP, lzQ, by omega, by omega, by omega, by omega, fun LM zM H11 s11 nLM eLM dLM => ?_⟩
    have W11 := W5.same s11
    have k11 : KeepD H10 H11 := (W5.pa.keepD (But.same s11))
    obtain ⟨mg1, mg2, mg3⟩ := menuG (m := m) (np := np) (nq := nq) (nl := nl) (dk := dk) ⟨m2, m4⟩ (by omega) (by omega) (by omega) hdk
    walk_at "st"
    refine q_putD W11.w (sz1000 (by show 6 < 100000; decide)) (kv' := wk7 (.ref LT) (.ref LP) (.ref LQ) (.int nl) (.int fr) (.int dk) (.ref LM)) (by rfl) ?_
    replace W5 := W11.snoc (kv' := wk7 (.ref LT) (.ref LP) (.ref LQ) (.int nl) (.int fr) (.int dk) (.ref LM)) (.lst (SqL.of eLM) dLM) rfl
    have kd : KeepD H11 (upd H11 W (.dK (wk7 (.ref LT) (.ref LP) (.ref LQ) (.int nl) (.int fr) (.int dk) (.ref LM)))) := W11.keepD But.put
    have hM := kd.sqL (K := K) (SqL.of eLM)
    replace dLM := dpAllKeepD kd dLM
    replace hT := kd.sqL (k11.sqL hT)
    replace hP := kd.sqL (k11.sqL hP)
    replace hQ := kd.sqL (k11.sqL hQ)
    generalize upd H11 W (.dK (wk7 (.ref LT) (.ref LP) (.ref LQ) (.int nl) (.int fr) (.int dk) (.ref LM))) = H12 at *
    clear W11 s11 nLM eLM k11 kd
    walk_at "s1"
    refine q_lcI ?_
    walk_at "st"
    refine q_getD W5.w (v := .ref LT) (by rfl) ?_
    have ndM : (menuL m np nq nl dk).Nodup := menuND ⟨m2, m4⟩ (by omega) (by omega) (by omega) hdk
    have key5 := W5.pa
    refine ⟨LT, rfl, ⟨_, hT⟩, fun LR nLR => lc_pool (c := 102) walk_list (fun i y Hh => ∃ l row, y = .ref l ∧ l ≠ p ∧ l ≠ LR ∧ RowAt K Hh l row ∧ RowB (menuL m np nq nl dk) row) nLR (sz1000 (by omega)) W5.pa (fun Hx bx => (key5.keepD bx).sqL hT) yat_same ?_ ?_ ?_ ?_⟩
    · rintro i y Ha Hb kv ek bt ⟨l, row, rfl, n1, n2, ⟨zs, e, da⟩, r⟩
      exact ⟨l, row, rfl, n1, n2, ⟨zs, bt _ _ e n1, dpAllKeepD (keepD_dk ek bt) da⟩, r⟩
    · rintro i y Ha Hb acc e bt ⟨l, row, rfl, n1, n2, ra, r⟩
      exact ⟨l, row, rfl, n1, n2, ra.but n2 e bt, r⟩
    · rintro i x H6 H7 acc lt bt ⟨rfl, e⟩ P6 e6 Q' k
      refine q_gname ?_
      refine ⟨rfl, ?_⟩
      walk_at "st"
      refine q_getD (bt _ _ W5.w (Ne.symm W5.np)) (v := .ref LM) (by rfl) ?_
      have k6 := key5.keepD bt
      refine ⟨p, LC, _, LM, zM, menuL m np nq nl dk, rfl, P6, by omega, k6.sqL hM, dpAllKeepD k6 dLM, mg2, by omega, ndM, fun x hx => (mg1 x hx).2, fun l ys H7 row b7 P7 nl7 el7 dl7 rb7 => ?_⟩
      refine k _ _ b7 (P7.le (by omega)) ⟨l, row, rfl, (P6.new nl7).1.symm, fun z => ?_, ⟨ys, el7, dl7⟩, rb7⟩
      rw [z, e6] at nl7
      cases nl7
    intro yR H13 b13 P13 eR lR gR
    obtain ⟨R0, hR0, bR0⟩ := paired_ex (P := fun y row => ∃ l, y = V.ref l ∧ RowAt K H13 l row) (Q := fun _ _ => True) (G := RowB (menuL m np nq nl dk)) (xs := yR) fun i y hy => by
      obtain ⟨l, row, rfl, _, _, ra, rb⟩ := gR i y hy
      exact ⟨row, ⟨l, rfl, ra⟩, rb⟩
    have lR0 : R0.length = m := by
      have := pairR_len hR0
      omega
    have dR : Dp K H13 (.ref LR) (.list (R0.map rowD)) := by
      refine .lst (SqL.of eR) (dpAll_of (by rw [List.length_map]; exact pairR_len hR0) fun i x d ex ed => ?_)
      rw [List.getElem?_map] at ed
      obtain ⟨r, hr, rfl⟩ := Option.map_eq_some_iff.mp ed
      obtain ⟨l', e1, l, rfl, zs, e2, d2⟩ := pairR_get hR0 hr
      rw [ex] at e1
      cases e1
      exact .lst (SqL.of e2) d2
    have k13 := W5.pa.keepD b13
    have W13 := W5.draw b13 (P13.le (m := n + 430) (by omega))
    replace hT := k13.sqL hT
    replace hP := k13.sqL hP
    replace hQ := k13.sqL hQ
    walk_at "st"
    refine q_putD W13.w (sz1000 (by show 7 < 100000; decide)) (kv' := wk8 (.ref LT) (.ref LP) (.ref LQ) (.int nl) (.int fr) (.int dk) (.ref LM) (.ref LR)) (by rfl) ?_
    replace W5 := W13.snoc (kv' := wk8 (.ref LT) (.ref LP) (.ref LQ) (.int nl) (.int fr) (.int dk) (.ref LM) (.ref LR)) dR rfl
    have kd : KeepD H13 (upd H13 W (.dK (wk8 (.ref LT) (.ref LP) (.ref LQ) (.int nl) (.int fr) (.int dk) (.ref LM) (.ref LR)))) := W13.keepD But.put
    replace hT := kd.sqL hT
    replace hP := kd.sqL hP
    replace hQ := kd.sqL hQ
    generalize upd H13 W (.dK (wk8 (.ref LT) (.ref LP) (.ref LQ) (.int nl) (.int fr) (.int dk) (.ref LM) (.ref LR))) = H14 at *
    clear W13 k13 b13 P13 eR gR hR0 dR kd hM dLM key5
    walk_at "s1"
    refine q_lcI ?_
    walk_at "st"
    refine q_getD W5.w (v := .ref LP) (by rfl) ?_
    have key5 := W5.pa
    refine ⟨LP, rfl, ⟨_, hP⟩, fun LL nLL => lc_pool (c := 1) walk_list (fun i y Hh => ∃ d, (∀ H', Dp K H' y d) ∧ okLine d = true) nLL (sz1000 (by omega)) W5.pa (fun Hx bx => (key5.keepD bx).sqL hP) yat_same (fun _ _ _ _ _ _ _ h => h) (fun _ _ _ _ _ _ _ h => h) ?_ ?_⟩
    · rintro i x Hq H6 acc lt bt ⟨rfl, e⟩ P6 e6 Q' k
      refine q_gname ?_
      refine ⟨rfl, ?_⟩
      walk_at "st"
      refine ⟨by show 3 ≤ sizeLine; decide, fun t2 nt2 => ?_⟩
      have sX := same_new (o := .tup [V.non, V.int 0, V.int 1]) nt2
      have eX : upd H6 t2 (.tup [V.non, V.int 0, V.int 1]) t2 = some (.tup [V.non, V.int 0, V.int 1]) := upd_same
      have PX := P6.same sX
      have npX := (P6.new nt2).1
      generalize upd H6 t2 (.tup [V.non, V.int 0, V.int 1]) = HX at *
      walk_at "st"
      refine ⟨p, LC, _, 3, rfl, PX, by omega, by omega, by omega, fun r H7 b7 P7 x0 x1 => ?_⟩
      obtain ⟨y, d, ey, hy, ok⟩ : ∃ y d, atI [V.non, V.int 0, V.int 1] r = some y ∧ (∀ H', Dp K H' y d) ∧ okLine d = true := by
        rcases (show r = 0 ∨ r = 1 ∨ r = 2 by omega) with rfl | rfl | rfl
        · exact ⟨.non, .none, by rfl, fun _ => .non, by decide⟩
        · exact ⟨.int 0, .int 0, by rfl, fun _ => .int _, by decide⟩
        · exact ⟨.int 1, .int 1, by rfl, fun _ => .int _, by decide⟩
      refine q_ixT (SqT.of (b7 _ _ eX (Ne.symm npX))) ey ?_
      exact k _ _ ((But.same sX).trans b7) (P7.le (by omega)) ⟨d, hy, ok⟩
    intro yL H15 b15 P15 eL lL gL
    obtain ⟨lds, hlds, okl⟩ := dline_ex (H0 := H) gL
    have llds : lds.length = np := by
      have := (hlds H).length
      omega
    have dL : Dp K H15 (.ref LL) (.list lds) := .lst (SqL.of eL) (hlds _)
    have k15 := W5.pa.keepD b15
    have W15 := W5.draw b15 (P15.le (m := n + 440) (by omega))
    replace hT := k15.sqL hT
    replace hQ := k15.sqL hQ
    walk_at "st"
    refine q_putD W15.w (sz1000 (by show 8 < 100000; decide)) (kv' := wk9 (.ref LT) (.ref LP) (.ref LQ) (.int nl) (.int fr) (.int dk) (.ref LM) (.ref LR) (.ref LL)) (by rfl) ?_
    replace W5 := W15.snoc (kv' := wk9 (.ref LT) (.ref LP) (.ref LQ) (.int nl) (.int fr) (.int dk) (.ref LM) (.ref LR) (.ref LL)) dL rfl
    have kd : KeepD H15 (upd H15 W (.dK (wk9 (.ref LT) (.ref LP) (.ref LQ) (.int nl) (.int fr) (.int dk) (.ref LM) (.ref LR) (.ref LL)))) := W15.keepD But.put
    replace hT := kd.sqL hT
    replace hQ := kd.sqL hQ
    generalize upd H15 W (.dK (wk9 (.ref LT) (.ref LP) (.ref LQ) (.int nl) (.int fr) (.int dk) (.ref LM) (.ref LR) (.ref LL))) = H16 at *
    clear W15 k15 b15 P15 eL gL hlds dL kd key5 hP
    walk_at "st"
    refine ⟨by show 4 ≤ sizeLine; decide, fun t3 nt3 => ?_⟩
    have s3 := same_new (o := .tup [V.int 1, V.int 1, V.int 2, V.int 3]) nt3
    have e3 : upd H16 t3 (.tup [V.int 1, V.int 1, V.int 2, V.int 3]) t3 = some (.tup [V.int 1, V.int 1, V.int 2, V.int 3]) := upd_same
    have np3' := (W5.pa.new nt3).1
    have k16 : KeepD H16 (upd H16 t3 (.tup [V.int 1, V.int 1, V.int 2, V.int 3])) := W5.pa.keepD (But.same s3)
    replace hT := k16.sqL hT
    replace hQ := k16.sqL hQ
    have W16 := W5.same s3
    generalize upd H16 t3 (.tup [V.int 1, V.int 1, V.int 2, V.int 3]) = H17 at *
    clear W5 k16 s3 nt3
    walk_at "st"
    refine ⟨p, LC, n + 440, 4, rfl, W16.pa, by omega, by omega, by omega, fun r4 H18 b18 P18 a0 a1 => ?_⟩
    obtain ⟨c0, ec0, c01, c03⟩ : ∃ c0 : Int, atI [V.int 1, V.int 1, V.int 2, V.int 3] r4 = some (.int c0) ∧ 1 ≤ c0 ∧ c0 ≤ 3 := by
      rcases (show r4 = 0 ∨ r4 = 1 ∨ r4 = 2 ∨ r4 = 3 by omega) with rfl | rfl | rfl | rfl
      · exact ⟨1, by rfl, by decide, by decide⟩
      · exact ⟨1, by rfl, by decide, by decide⟩
      · exact ⟨2, by rfl, by decide, by decide⟩
      · exact ⟨3, by rfl, by decide, by decide⟩
    refine q_ixT (SqT.of (b18 _ _ e3 (Ne.symm np3'))) ec0 ?_
    have k18 := W16.pa.keepD b18
    have W18 := W16.draw b18 P18
    replace hT := k18.sqL hT
    replace hQ := k18.sqL hQ
    clear W16 k18 b18 P18 e3 np3'
    walk_at "st"
    refine ⟨p, LC, n + 440 + 1, 4, rfl, W18.pa, by omega, by omega, by omega, fun r5 H19 b19 P19 d0 d1 => ?_⟩
    have k19 := W18.pa.keepD b19
    have W19 := W18.draw b19 P19
    replace hT := k19.sqL hT
    replace hQ := k19.sqL hQ
    clear W18 k19 b19 P19
    walk_at "st"
    refine ⟨by show 4 ≤ sizeLine; decide, fun t4 nt4 => ?_⟩
    have s4 := same_new (o := .tup [V.int 0, V.int 0, V.int 1, V.int 2]) nt4
    have e4 : upd H19 t4 (.tup [V.int 0, V.int 0, V.int 1, V.int 2]) t4 = some (.tup [V.int 0, V.int 0, V.int 1, V.int 2]) := upd_same
    have np4' := (W19.pa.new nt4).1
    have k20 : KeepD H19 (upd H19 t4 (.tup [V.int 0, V.int 0, V.int 1, V.int 2])) := W19.pa.keepD (But.same s4)
    replace hT := k20.sqL hT
    replace hQ := k20.sqL hQ
    have W20 := W19.same s4
    generalize upd H19 t4 (.tup [V.int 0, V.int 0, V.int 1, V.int 2]) = H20 at *
    clear W19 k20 s4 nt4
    walk_at "st"
    refine ⟨p, LC, n + 440 + 1 + 1, 4, rfl, W20.pa, by omega, by omega, by omega, fun r6 H21 b21 P21 g0 g1 => ?_⟩
    obtain ⟨c2, ec2, c20, c22⟩ : ∃ c2 : Int, atI [V.int 0, V.int 0, V.int 1, V.int 2] r6 = some (.int c2) ∧ 0 ≤ c2 ∧ c2 ≤ 2 := by
      rcases (show r6 = 0 ∨ r6 = 1 ∨ r6 = 2 ∨ r6 = 3 by omega) with rfl | rfl | rfl | rfl
      · exact ⟨0, by rfl, by decide, by decide⟩
      · exact ⟨0, by rfl, by decide, by decide⟩
      · exact ⟨1, by rfl, by decide, by decide⟩
      · exact ⟨2, by rfl, by decide, by decide⟩
    refine q_ixT (SqT.of (b21 _ _ e4 (Ne.symm np4'))) ec2 ?_
    have k21 := W20.pa.keepD b21
    have W21 := W20.draw b21 P21
    replace hT := k21.sqL hT
    replace hQ := k21.sqL hQ
    clear W20 k21 b21 P21 e4 np4'
    walk_at "st"
    refine ⟨by show 3 ≤ sizeLine; decide, fun ct nct => ?_⟩
    have s5 := same_new (o := .tup [V.int c0, V.int r5, V.int c2]) nct
    have e5 : upd H21 ct (.tup [V.int c0, V.int r5, V.int c2]) ct = some (.tup [V.int c0, V.int r5, V.int c2]) := upd_same
    have k22 : KeepD H21 (upd H21 ct (.tup [V.int c0, V.int r5, V.int c2])) := W21.pa.keepD (But.same s5)
    replace hT := k22.sqL hT
    replace hQ := k22.sqL hQ
    have W22 := W21.same s5
    generalize upd H21 ct (.tup [V.int c0, V.int r5, V.int c2]) = H22 at *
    have dC : Dp K H22 (.ref ct) (.tuple [.int c0, .int r5, .int c2]) := .tup (SqT.of e5) (.cons (.int _) (.cons (.int _) (.cons (.int _) .nil)))
    clear W21 k22 s5 nct
    walk_at "st"
    refine q_putD W22.w (sz1000 (by show 9 < 100000; decide)) (kv' := wk10 (.ref LT) (.ref LP) (.ref LQ) (.int nl) (.int fr) (.int dk) (.ref LM) (.ref LR) (.ref LL) (.ref ct)) (by rfl) ?_
    have W23 := W22.snoc (kv' := wk10 (.ref LT) (.ref LP) (.ref LQ) (.int nl) (.int fr) (.int dk) (.ref LM) (.ref LR) (.ref LL) (.ref ct)) dC rfl
    have kd : KeepD H22 (upd H22 W (.dK (wk10 (.ref LT) (.ref LP) (.ref LQ) (.int nl) (.int fr) (.int dk) (.ref LM) (.ref LR) (.ref LL) (.ref ct)))) := W22.keepD But.put
    replace hT := kd.sqL hT
    replace hQ := kd.sqL hQ
    have hC := kd.sqT (K := K) (SqT.of e5)
    generalize upd H22 W (.dK (wk10 (.ref LT) (.ref LP) (.ref LQ) (.int nl) (.int fr) (.int dk) (.ref LM) (.ref LR) (.ref LL) (.ref ct))) = H23 at *
    clear W22 kd e5 dC
    walk_at "st"
    refine q_getD W23.w (v := .int dk) (by rfl) ?_
    walk_at "st"
    refine ⟨_, _, rfl, ?_⟩
    walk_at "st"
    obtain ⟨mo, emo, mo1, mo20⟩ : ∃ mo : Int, c0 + (if dk - 1 > r5 then dk - 1 else r5) = mo ∧ 1 ≤ mo ∧ mo ≤ 20 := by
      simp only [List.mem_cons, List.not_mem_nil, or_false] at hdk
      exact ⟨_, rfl, by split <;> omega, by split <;> omega⟩
    rw [emo]
    refine q_putD W23.w (sz1000 (by show 10 < 100000; decide)) (kv' := wk11 (.ref LT) (.ref LP) (.ref LQ) (.int nl) (.int fr) (.int dk) (.ref LM) (.ref LR) (.ref LL) (.ref ct) (.int mo)) (by rfl) ?_
    have W24 := W23.snoc (kv' := wk11 (.ref LT) (.ref LP) (.ref LQ) (.int nl) (.int fr) (.int dk) (.ref LM) (.ref LR) (.ref LL) (.ref ct) (.int mo)) (.int _) rfl
    have kd : KeepD H23 (upd H23 W (.dK (wk11 (.ref LT) (.ref LP) (.ref LQ) (.int nl) (.int fr) (.int dk) (.ref LM) (.ref LR) (.ref LL) (.ref ct) (.int mo)))) := W23.keepD But.put
    replace hT := kd.sqL hT
    replace hQ := kd.sqL hQ
    replace hC := kd.sqT hC
    generalize upd H23 W (.dK (wk11 (.ref LT) (.ref LP) (.ref LQ) (.int nl) (.int fr) (.int dk) (.ref LM) (.ref LR) (.ref LL) (.ref ct) (.int mo))) = H24 at *
    clear W23 kd
    walk_at "st"
    refine ⟨p, LC, n + 440 + 1 + 1 + 1, W, _, LT, zT, m, mo, ct, .int c0, .int r5, c2, rfl, W24.pa, by omega, Ne.symm W24.np, W24.w, by rfl, hT, lT, by omega, by omega, by rfl, mo1, mo20, by rfl, hC, c20, c22, fun vpl pl H25 b25 P25 dPl okPl => ?_⟩
    have W25 := W24.draw b25 P25
    have k25 := W24.pa.keepD b25
    replace hQ := k25.sqL hQ
    clear W24 k25 b25 P25 hT hC
    walk_at "st"
    refine q_putD W25.w (sz1000 (by show 11 < 100000; decide)) (kv' := wk12 (.ref LT) (.ref LP) (.ref LQ) (.int nl) (.int fr) (.int dk) (.ref LM) (.ref LR) (.ref LL) (.ref ct) (.int mo) vpl) (by rfl) ?_
    have W26 := W25.snoc (kv' := wk12 (.ref LT) (.ref LP) (.ref LQ) (.int nl) (.int fr) (.int dk) (.ref LM) (.ref LR) (.ref LL) (.ref ct) (.int mo) vpl) dPl rfl
    have kd : KeepD H25 (upd H25 W (.dK (wk12 (.ref LT) (.ref LP) (.ref LQ) (.int nl) (.int fr) (.int dk) (.ref LM) (.ref LR) (.ref LL) (.ref ct) (.int mo) vpl))) := W25.keepD But.put
    replace hQ := kd.sqL hQ
    generalize upd H25 W (.dK (wk12 (.ref LT) (.ref LP) (.ref LQ) (.int nl) (.int fr) (.int dk) (.ref LM) (.ref LR) (.ref LL) (.ref ct) (.int mo) vpl)) = H26 at *
    clear W25 kd dPl
    walk_at "st"
    refine q_putD W26.w (sz1000 (by show 12 < 100000; decide)) (kv' := wk13 (.ref LT) (.ref LP) (.ref LQ) (.int nl) (.int fr) (.int dk) (.ref LM) (.ref LR) (.ref LL) (.ref ct) (.int mo) vpl .non) (by rfl) ?_
    have W27 := W26.snoc (kv' := wk13 (.ref LT) (.ref LP) (.ref LQ) (.int nl) (.int fr) (.int dk) (.ref LM) (.ref LR) (.ref LL) (.ref ct) (.int mo) vpl .non) .non rfl
    have kd : KeepD H26 (upd H26 W (.dK (wk13 (.ref LT) (.ref LP) (.ref LQ) (.int nl) (.int fr) (.int dk) (.ref LM) (.ref LR) (.ref LL) (.ref ct) (.int mo) vpl .non))) := W26.keepD But.put
    replace hQ := kd.sqL hQ
    generalize upd H26 W (.dK (wk13 (.ref LT) (.ref LP) (.ref LQ) (.int nl) (.int fr) (.int dk) (.ref LM) (.ref LR) (.ref LL) (.ref ct) (.int mo) vpl .non)) = H27 at *
    clear W26 kd
    refine seq_if (fun σ Hx => ∃ (ov : V) (od : PyData), σ = [some (.ref p), some (.ref W), some (.int c0), some (.int r5), none, none] ∧ Wd K H Hx p LC W (n + 500) (wk13 (.ref LT) (.ref LP) (.ref LQ) (.int nl) (.int fr) (.int dk) (.ref LM) (.ref LR) (.ref LL) (.ref ct) (.int mo) vpl ov) [.list (ts.map tkD), .list (pis.map .int), .list (qis.map .int), .int nl, .int fr, .int dk, .list ((menuL m np nq nl dk).map rtd), .list (R0.map rowD), .list lds, .tuple [.int c0, .int r5, .int c2], .int mo, pl, od] ∧ outOk nq od) (fun σ Hx hx => ?_) (fun N hN => ?_)
    · obtain ⟨ov, od, rfl, WX, oko⟩ := hx
      refine q_seq ?_
      refine q_forLA ?_
      walk_at "st"
      refine ⟨by show 4 ≤ sizeLine; decide, fun LF nLF => ?_⟩
      have sF := same_new (o := .lst [V.str "wipe", V.str "pad", V.str "lend", V.str "share"]) nLF
      have eF : upd Hx LF (.lst [V.str "wipe", V.str "pad", V.str "lend", V.str "share"]) LF = some (.lst [V.str "wipe", V.str "pad", V.str "lend", V.str "share"]) := upd_same
      have WF := WX.same sF
      generalize upd Hx LF (.lst [V.str "wipe", V.str "pad", V.str "lend", V.str "share"]) = HF at *
      have nFp : LF ≠ p := (WX.pa.new nLF).1.symm
      have nFW : LF ≠ W := fun z => by rw [z, WX.w] at nLF; cases nLF
      clear WX sF nLF hQ
      refine ⟨LF, rfl, ⟨_, SqL.of eF⟩, forL [V.str "wipe", V.str "pad", V.str "lend", V.str "share"] (fun i σ Hy => ∃ (o4 o5 : Option V) (fs : List Bool), σ = [some (.ref p), some (.ref W), some (.int c0), some (.int r5), o4, o5] ∧ fs.length = i ∧ Hy LF = some (.lst [V.str "wipe", V.str "pad", V.str "lend", V.str "share"]) ∧ Wd K H Hy p LC W (n + 500 + i) (wk13 (.ref LT) (.ref LP) (.ref LQ) (.int nl) (.int fr) (.int dk) (.ref LM) (.ref LR) (.ref LL) (.ref ct) (.int mo) vpl ov ++ flK fs) ([.list (ts.map tkD), .list (pis.map .int), .list (qis.map .int), .int nl, .int fr, .int dk, .list ((menuL m np nq nl dk).map rtd), .list (R0.map rowD), .list lds, .tuple [.int c0, .int r5, .int c2], .int mo, pl, od] ++ fs.map PyData.bool)) ⟨_, _, [], rfl, rfl, eF, WF⟩ (fun i σ Hy _ h => by obtain ⟨_, _, _, _, _, e, _⟩ := h; exact SqL.of e) (fun i x0 σ Hy ex h => ?_) (fun σ Hy h => ?_)⟩
      · obtain ⟨o4, o5, fs, rfl, lf, eFy, WY⟩ := h
        refine q_gname ?_
        have li : i < 4 := (List.getElem?_eq_some_iff.mp ex).1
        walk_at "st"
        refine ⟨p, LC, _, 2, rfl, WY.pa, by omega, by omega, by omega, fun rf H28 b28 P28 h0 h1 => ?_⟩
        have WZ := WY.draw b28 P28
        have eFz := b28 _ _ eFy nFp
        walk_at "st"
        refine q_eqI ?_
        walk_at "st"
        have fin : ∀ (z : Str) (kv' : List (Key × V)), x0 = .str z → (wk13 (.ref LT) (.ref LP) (.ref LQ) (.int nl) (.int fr) (.int dk) (.ref LM) (.ref LR) (.ref LL) (.ref ct) (.int mo) vpl ov ++ flK fs).length < 100 → putK (wk13 (.ref LT) (.ref LP) (.ref LQ) (.int nl) (.int fr) (.int dk) (.ref LM) (.ref LR) (.ref LL) (.ref ct) (.int mo) vpl ov ++ flK fs) (Sum.inr z) (.bl (decide (rf = 1))) = wk13 (.ref LT) (.ref LP) (.ref LQ) (.int nl) (.int fr) (.int dk) (.ref LM) (.ref LR) (.ref LL) (.ref ct) (.int mo) vpl ov ++ flK (fs ++ [decide (rf = 1)]) → (wk13 (.ref LT) (.ref LP) (.ref LQ) (.int nl) (.int fr) (.int dk) (.ref LM) (.ref LR) (.ref LL) (.ref ct) (.int mo) vpl ov ++ flK (fs ++ [decide (rf = 1)])).map (·.2) = (wk13 (.ref LT) (.ref LP) (.ref LQ) (.int nl) (.int fr) (.int dk) (.ref LM) (.ref LR) (.ref LL) (.ref ct) (.int mo) vpl ov ++ flK fs).map (·.2) ++ [.bl (decide (rf = 1))] → ∃ a H4, V.ref W = .ref a ∧ DPut H28 a x0 (.bl (decide (rf = 1))) H4 ∧ ∃ (o4 o5' : Option V) (fs : List Bool), [some (.ref p), some (.ref W), some (.int c0), some (.int r5), some x0, o5] = [some (.ref p), some (.ref W), some (.int c0), some (.int r5), o4, o5'] ∧ fs.length = i + 1 ∧ H4 LF = some (.lst [V.str "wipe", V.str "pad", V.str "lend", V.str "share"]) ∧ Wd K H H4 p LC W (n + 500 + (i + 1)) (wk13 (.ref LT) (.ref LP) (.ref LQ) (.int nl) (.int fr) (.int dk) (.ref LM) (.ref LR) (.ref LL) (.ref ct) (.int mo) vpl ov ++ flK fs) ([.list (ts.map tkD), .list (pis.map .int), .list (qis.map .int), .int nl, .int fr, .int dk, .list ((menuL m np nq nl dk).map rtd), .list (R0.map rowD), .list lds, .tuple [.int c0, .int r5, .int c2], .int mo, pl, od] ++ fs.map PyData.bool) := by
          intro z _ ez lz ek em
          subst ez
          refine q_putD WZ.w (sz1000 (by omega)) ek ?_
          have WV := WZ.snoc (kv' := wk13 (.ref LT) (.ref LP) (.ref LQ) (.int nl) (.int fr) (.int dk) (.ref LM) (.ref LR) (.ref LL) (.ref ct) (.int mo) vpl ov ++ flK (fs ++ [decide (rf = 1)])) (v := .bl (decide (rf = 1))) (.bl _) em
          refine ⟨_, _, fs ++ [decide (rf = 1)], rfl, by rw [List.length_append, lf]; rfl, by rw [upd_ne nFW]; exact eFz, ?_⟩
          have e2 : [.list (ts.map tkD), .list (pis.map .int), .list (qis.map .int), .int nl, .int fr, .int dk, .list ((menuL m np nq nl dk).map rtd), .list (R0.map rowD), .list lds, .tuple [.int c0, .int r5, .int c2], .int mo, pl, od] ++ (fs ++ [decide (rf = 1)]).map PyData.bool = [.list (ts.map tkD), .list (pis.map .int), .list (qis.map .int), .int nl, .int fr, .int dk, .list ((menuL m np nq nl dk).map rtd), .list (R0.map rowD), .list lds, .tuple [.int c0, .int r5, .int c2], .int mo, pl, od] ++ fs.map PyData.bool ++ [.bool (decide (rf = 1))] := by rw [List.map_append, List.append_assoc]; rfl
          rw [e2]
          exact WV
        rcases (show i = 0 ∨ i = 1 ∨ i = 2 ∨ i = 3 by omega) with rfl | rfl | rfl | rfl
        · obtain rfl : fs = [] := List.eq_nil_of_length_eq_zero lf
          cases ex
          exact fin "wipe" [] rfl (by show 13 < 100; decide) (by rfl) (by rfl)
        · obtain ⟨f0, rfl⟩ : ∃ f0, fs = [f0] := List.length_eq_one_iff.mp lf
          cases ex
          exact fin "pad" [] rfl (by show 14 < 100; decide) (by rfl) (by rfl)
        · obtain ⟨f0, f1, rfl⟩ : ∃ f0 f1, fs = [f0, f1] := by
            match fs, lf with
            | [f0, f1], _ => exact ⟨_, _, rfl⟩
          cases ex
          exact fin "lend" [] rfl (by show 15 < 100; decide) (by rfl) (by rfl)
        · obtain ⟨f0, f1, f2, rfl⟩ : ∃ f0 f1 f2, fs = [f0, f1, f2] := by
            match fs, lf with
            | [f0, f1, f2], _ => exact ⟨_, _, _, rfl⟩
          cases ex
          exact fin "share" [] rfl (by show 16 < 100; decide) (by rfl) (by rfl)
      · obtain ⟨o4, o5, fs, rfl, lf, eFy, WY⟩ := h
        obtain ⟨f0, f1, f2, f3, rfl⟩ : ∃ f0 f1 f2 f3, fs = [f0, f1, f2, f3] := by
          match fs, lf with
          | [f0, f1, f2, f3], _ => exact ⟨_, _, _, _, rfl⟩
        walk_at "st"
        have eW : Hy W = some (.dK (wk17 (.ref LT) (.ref LP) (.ref LQ) (.int nl) (.int fr) (.int dk) (.ref LM) (.ref LR) (.ref LL) (.ref ct) (.int mo) vpl ov (.bl f0) (.bl f1) (.bl f2) (.bl f3))) := WY.w
        have da : DpAll K Hy [.ref LT, .ref LP, .ref LQ, .int nl, .int fr, .int dk, .ref LM, .ref LR, .ref LL, .ref ct, .int mo, vpl, ov, .bl f0, .bl f1, .bl f2, .bl f3] [.list (ts.map tkD), .list (pis.map .int), .list (qis.map .int), .int nl, .int fr, .int dk, .list ((menuL m np nq nl dk).map rtd), .list (R0.map rowD), .list lds, .tuple [.int c0, .int r5, .int c2], .int mo, pl, od, .bool f0, .bool f1, .bool f2, .bool f3] := WY.da
        obtain ⟨d, ed, hpl⟩ := da.get' (i := 11) rfl
        cases ed
        obtain ⟨d, ed, hod⟩ := da.get' (i := 12) rfl
        cases ed
        refine ⟨W, _, _, _, _, _, _, _, _, _, _, _, _, _, _, _, _, _, pl, od, m, nq, rfl, eW, hpl, okPl, hod, oko, fun H40 r pe b40 e40 => ?_⟩
        have da2 := dpAllKeepD (keepD_dk eW b40) da
        have P40 := WY.pa.but WY.np WY.nc b40
        have bF : But p H H40 := fun b o hb hn => b40 _ _ (WY.b _ _ hb hn) (ne_of_none hb WY.new)
        obtain ⟨c1, rfl⟩ : ∃ c1, c0 = 1 + c1 := ⟨c0 - 1, by omega⟩
        have lts := TK.l
        refine q W (bdOf ⟨ts, pis, qis, nl, fr, dk, R0⟩ lds c1 r5 c2 pl od f0 f1 f2 f3) r pe _ _ _ _ _ _ _ _ _ _ _ _ _ _ _ _ _ (.list ((menuL m np nq nl dk).map rtd)) (.int mo) H40 bF (P40.le (by show n + 500 + 4 ≤ n + 1000; omega)) WY.new WY.np WY.nc e40 da2 (bdOf_ok ⟨?_, ?_, TK.tb, TK.two, ?_, bP, ?_, bQ, ?_, ?_, hdk, ?_, fun r hr => ?_⟩ ?_ okl ⟨by omega, by omega⟩ ⟨d0, d1⟩ ⟨c20, by omega⟩ ?_ ?_) ⟨f0, f1, f2, f3, rfl, rfl, rfl, rfl⟩ (by rw [← emo]; rfl)
        · show 2 ≤ ts.length; omega
        · show ts.length ≤ 4; omega
        · show pis.length ≤ 3; omega
        · show qis.length ≤ 2; omega
        · show nl ≤ 2; omega
        · show fr ≤ 3; omega
        · show R0.length = ts.length; omega
        · show RowB (menuL ts.length pis.length qis.length nl dk) r
          rw [lts, lP, lQ]
          exact bR0 r hr
        · show lds.length = pis.length; omega
        · show planOk (ts.length : Nat) pl
          rw [lts]; exact okPl
        · show outOk qis.length od
          rw [lQ]; exact oko
    · walk_at "st"
      refine q_getD W27.w (v := .ref LQ) (by rfl) ?_
      refine ⟨!zQ.isEmpty, .inl ⟨_, hQ, rfl⟩, ?_⟩
      by_cases hq0 : zQ = []
      · rw [hq0]
        refine iteF ?_
        refine iteF ?_
        exact hN _ _ ⟨.non, .none, rfl, ⟨W27.b, W27.pa.le (by omega), W27.new, W27.np, W27.nc, W27.w, W27.da⟩, .inl rfl⟩
      · rw [show (!zQ.isEmpty) = true by cases zQ; exact absurd rfl hq0; rfl]
        refine iteT ?_
        have nq1 : 1 ≤ nq := by
          rw [← lzQ]
          exact List.length_pos_iff.mpr hq0
        walk_at "st"
        refine ⟨p, LC, _, 2, rfl, W27.pa, by omega, by omega, by omega, fun r7 H28 b28 P28 h0 h1 => ?_⟩
        have k28 := W27.pa.keepD b28
        have W28 := W27.draw b28 P28
        replace hQ := k28.sqL hQ
        clear W27 k28 b28 P28
        walk_at "st"
        refine q_eqI ?_
        refine ⟨_, rfl, ?_⟩
        by_cases c7 : r7 = 1
        · rw [decide_eq_true c7]
          refine iteT ?_
          walk_at "st"
          refine q_getD W28.w (v := .ref LQ) (by rfl) ?_
          refine ⟨LQ, zQ, rfl, .inl hQ, ?_⟩
          rw [lzQ]
          refine ⟨p, LC, _, nq, rfl, W28.pa, by omega, by omega, by omega, fun r8 H29 b29 P29 i0 i1 => ?_⟩
          have W29 := W28.draw b29 P29
          clear W28 b29 P29
          walk_at "st"
          refine ⟨p, LC, _, 4, rfl, W29.pa, by omega, by omega, by omega, fun r9 H30 b30 P30 j0 j1 => ?_⟩
          have W30 := W29.draw b30 P30
          clear W29 b30 P30
          walk_at "st"
          refine ⟨by show 2 ≤ sizeLine; decide, fun ot not => ?_⟩
          have W31 := W30.same (same_new (o := .tup [V.int r8, V.int (1 + r9)]) not)
          have dO : Dp K (upd H30 ot (.tup [V.int r8, V.int (1 + r9)])) (.ref ot) (.tuple [.int r8, .int (1 + r9)]) := .tup (SqT.of upd_same) (.cons (.int _) (.cons (.int _) .nil))
          generalize upd H30 ot (.tup [V.int r8, V.int (1 + r9)]) = H31 at *
          walk_at "st"
          refine q_putD W31.w (sz1000 (by show 13 < 100000; decide)) (kv' := wk13 (.ref LT) (.ref LP) (.ref LQ) (.int nl) (.int fr) (.int dk) (.ref LM) (.ref LR) (.ref LL) (.ref ct) (.int mo) vpl (.ref ot)) (by rfl) ?_
          have da : DpAll K H31 ((wk13 (.ref LT) (.ref LP) (.ref LQ) (.int nl) (.int fr) (.int dk) (.ref LM) (.ref LR) (.ref LL) (.ref ct) (.int mo) vpl (.ref ot)).map (·.2)) [.list (ts.map tkD), .list (pis.map .int), .list (qis.map .int), .int nl, .int fr, .int dk, .list ((menuL m np nq nl dk).map rtd), .list (R0.map rowD), .list lds, .tuple [.int c0, .int r5, .int c2], .int mo, pl, .tuple [.int r8, .int (1 + r9)]] :=
            dpAll_last (xs := [.ref LT, .ref LP, .ref LQ, .int nl, .int fr, .int dk, .ref LM, .ref LR, .ref LL, .ref ct, .int mo, vpl]) (y := .non) (e := .none) (ds := [.list (ts.map tkD), .list (pis.map .int), .list (qis.map .int), .int nl, .int fr, .int dk, .list ((menuL m np nq nl dk).map rtd), .list (R0.map rowD), .list lds, .tuple [.int c0, .int r5, .int c2], .int mo, pl]) W31.da dO rfl
          have W32 := W31.put da
          exact hN _ _ ⟨.ref ot, _, rfl, ⟨W32.b, W32.pa.le (by omega), W32.new, W32.np, W32.nc, W32.w, W32.da⟩, .inr ⟨r8, 1 + r9, rfl, i0, by omega, by omega, by omega⟩⟩
        · rw [decide_eq_false c7]
          refine iteF ?_
          exact hN _ _ ⟨.non, .none, rfl, ⟨W28.b, W28.pa.le (by omega), W28.new, W28.np, W28.nc, W28.w, W28.da⟩, .inl rfl⟩))) only [↓Hk.hold_s]
end
end T
namespace T
section
variable {P : Program} {w : World} {K : PySem.W.Frag} {mg : Str → Option Value} {base : Heap}
/-- the law's dict with a build's parts -/
def LwAt (K : PySem.W.Frag) (H : Hp) (W : Addr) (b : BD) : Prop := ∃ (x0 x1 x2 x3 x4 x5 x6 x7 x8 x9 x10 x11 x12 x13 x14 x15 x16 : V) (r pe : Int) (dM mo : PyData), H W = some (.dK (wk19 x0 x1 x2 x3 x4 x5 x6 x7 x8 x9 x10 x11 x12 x13 x14 x15 x16 r pe)) ∧
    DpAll K H [x0, x1, x2, x3, x4, x5, x6, x7, x8, x9, x10, x11, x12, x13, x14, x15, x16] [b.tasks, b.pages, b.ports, b.locks, b.frames, b.disk, dM, b.rights, b.lines, b.costs, mo, b.plan, b.outside, b.wipe, b.pad, b.lend, b.share]
theorem LwAt.mono {H H' : Hp} {W : Addr} {b : BD} (h : LwAt K H W b) (s : Same H H') : LwAt K H' W b := by
  obtain ⟨x0, x1, x2, x3, x4, x5, x6, x7, x8, x9, x10, x11, x12, x13, x14, x15, x16, r, pe, dM, mo, e, d⟩ := h
  exact ⟨x0, x1, x2, x3, x4, x5, x6, x7, x8, x9, x10, x11, x12, x13, x14, x15, x16, r, pe, dM, mo, s _ _ e, L2.DpAll.mono s d⟩
theorem LwAt.draw {H H' : Hp} {p LC W : Addr} {n : Nat} {b : BD} (h : LwAt K H W b) (P : PoolAt H p LC n) (ne : W ≠ p) (bt : But p H H') : LwAt K H' W b := by
  obtain ⟨x0, x1, x2, x3, x4, x5, x6, x7, x8, x9, x10, x11, x12, x13, x14, x15, x16, r, pe, dM, mo, e, d⟩ := h
  exact ⟨x0, x1, x2, x3, x4, x5, x6, x7, x8, x9, x10, x11, x12, x13, x14, x15, x16, r, pe, dM, mo, bt _ _ e ne, dpAllKeepD (P.keepD bt) d⟩
def spLSides (K : PySem.W.Frag) : Sp := fun vs H Q _ => ∃ (W : Addr) (b : BD), vs = [.ref W] ∧ LwAt K H W b ∧ BOk b ∧ ∀ (l : Addr) (ns : List Int) (H' : Hp), Same H H' → H l = none → H' l = some (.lst (ns.map V.int)) → ns.Pairwise (· < ·) → (∀ k, k ∈ ns ↔ k ∈ sidesOf b) → Q (.ref l) H'
theorem ok_law_sides (B : Bl mg) (cc : DefAt K mg "_law_sides" s__law_sides ["_law_w"]) : Cal P w K mg base 1 "_law_sides" ["_law_w"] (spLSides K) := by
 refine Hk.hold ?_
 simp (disch := with_unfolding_all (
 exact Hk.disch (cc.cal fun f fd F => by
  refine F.ok sc__law_sides (fun vs H Q E h => ?_) (fun cdv A outer s H vs Q E hr h => ?_)
  · obtain ⟨W, b, rfl, _⟩ := h; rfl
  · obtain ⟨W, b, rfl, hL, ok, q⟩ := h
    have hu := hu_of hr
    refine ⟨_, (pss_one (ps_ret (pe_callB (cr_sortedSet rfl) rfl B.sorted hb_sorted (pa_cons (pe_callTy (cr_setL rfl) rfl B.set_ hb_set (pa_cons (pe_lc (own := [("_law_row", 1)]) (tt := tYes) rfl sc__law_sides.nd (pi_list (pe_dget hu (pv 0) pe_str (fun _ _ => rfl))) (blkOk_by (N := ["_law_w", "_law_row"]) (sc := defScope s__law_sides) (by decide +kernel)) (fun _ _ _ _ _ => (pg_name (i := 1) sc__law_sides.nd rfl (Or.inl rfl))) (fun _ _ _ _ _ => pts_nil) (fun _ _ _ _ _ => (pe_ix (show IxR _ (rIxT K) from ix_tup) (pv 1) pe_int (fun _ _ => rfl)))) pa_nil)) pa_nil)))), ?_⟩
    obtain ⟨x0, x1, x2, x3, x4, x5, x6, x7, x8, x9, x10, x11, x12, x13, x14, x15, x16, r, pe, dM, mo, e, da⟩ := hL
    obtain ⟨ds, ed, l2, l4, hall⟩ := okTasksL ok.tasks
    obtain ⟨a, xs, rfl, hs, ha⟩ : ∃ a xs, x0 = .ref a ∧ SqL K H a xs ∧ DpAll K H xs ds := by
      cases da with
      | cons h t =>
        rw [ed] at h
        cases h with
        | lst h1 h2 => exact ⟨_, _, rfl, h1, h2⟩
    walk_at "st0"
    refine q_lcI ?_
    walk_at "st"
    refine q_getD e (by rfl) ?_
    refine ⟨a, rfl, ⟨_, hs⟩, fun D nD => lc_map (ds := ds) (fun d => V.int (sideD d)) hs ha (by omega) nD ?_ ?_⟩
    · intro x2 d2 H3 h2 hm s2 Q2 k2
      obtain ⟨sd, l, rfl, _⟩ := okTask_shape (hall d2 hm)
      cases h2 with
      | @tup t ys _ ht hb =>
      cases hb with
      | @cons x0 r0 _ _ a0 hb => cases hb with
        | @cons x1 r1 _ _ a1 hb =>
          cases hb
          cases a0
          refine q_gname ?_
          refine ⟨rfl, ?_⟩
          walk_at "st"
          refine q_ixT ht (atI0 rfl) ?_
          exact k2 _ (Same.refl _)
    · intro H3 s3 e3
      walk_at "st"
      refine ⟨D, ds.map sideD, rfl, SqL.of (by rw [e3, List.map_map]; rfl), by rw [List.length_map]; omega, fun c n nc ln => ?_⟩
      walk_at "st"
      rw [List.length_map] at ln
      refine ⟨c, _, n, rfl, upd_same, by omega, fun ns l asc mem len nl => ?_⟩
      have sc := same_new (o := SetO w c (fun j => decide (j ∈ ds.map sideD)) n) nc
      have nl3 : H3 l = none := sc.free nl
      refine q l ns _ (s3.trans (sc.trans (same_new nl))) (s3.free nl3) upd_same asc fun k => ?_
      rw [mem k, decide_eq_true_eq, sidesOf, ed]))) only [↓Hk.hold_s]
/-- the sides that tell, of all: not none and not all -/
def telP (mask : Nat) (i : Nat) : Bool := mask / (([1, 2, 4, 8] : List Nat).getD i 1) % 2 == 1
theorem telP_few : ∀ k ∈ ([2, 3, 4] : List Nat), ∀ mask ∈ List.range 15, 1 ≤ mask → mask ≤ 2 ^ k - 2 → 1 ≤ ((List.range k).filter (telP mask)).length ∧ ((List.range k).filter (telP mask)).length < k := by decide +kernel
theorem sides_len {ns : List Int} (asc : ns.Pairwise (· < ·)) (rng : ∀ x ∈ ns, 0 ≤ x ∧ x ≤ 3) (two : ∃ x ∈ ns, ∃ y ∈ ns, x ≠ y) : 2 ≤ ns.length ∧ ns.length ≤ 4 := by
 refine Hk.hold ?_
 simp (disch := with_unfolding_all (
 exact Hk.disch (by
  refine ⟨?_, ?_⟩
  · obtain ⟨x, hx, y, hy, ne⟩ := two
    match ns, hx, hy with
    | [], h, _ => cases h
    | [a], hx, hy =>
      simp only [List.mem_cons, List.not_mem_nil, or_false] at hx hy
      exact absurd (hx.trans hy.symm) ne
    | a :: b :: r, _, _ => simp
  · match ns, asc, rng with
    | [], _, _ => simp
    | [_], _, _ => simp
    | [_, _], _, _ => simp
    | [_, _, _], _, _ => simp
    | [_, _, _, _], _, _ => simp
    | a :: b :: c :: d :: e :: r, asc, rng =>
      have r1 := (List.pairwise_cons.mp asc).1 b (by simp)
      have a2 := (List.pairwise_cons.mp asc).2
      have r2 := (List.pairwise_cons.mp a2).1 c (by simp)
      have a3 := (List.pairwise_cons.mp a2).2
      have r3 := (List.pairwise_cons.mp a3).1 d (by simp)
      have a4 := (List.pairwise_cons.mp a3).2
      have r4 := (List.pairwise_cons.mp a4).1 e (by simp)
      have h0 := rng a (by simp)
      have h4 := rng e (by simp)
      omega))) only [↓Hk.hold_s]
def spTellers (K : PySem.W.Frag) : Sp := fun vs H Q _ => ∃ (p LC : Addr) (n : Nat) (W : Addr) (b : BD), vs = [.ref p, .ref W] ∧ PoolAt H p LC n ∧ n ≤ 40000 ∧ W ≠ p ∧ LwAt K H W b ∧ BOk b ∧ (∃ x ∈ sidesOf b, ∃ y ∈ sidesOf b, x ≠ y) ∧ (∀ x ∈ sidesOf b, 0 ≤ x ∧ x ≤ 3) ∧
  ∀ (l : Addr) (ns ts : List Int) (H' : Hp), But p H H' → PoolAt H' p LC (n + 1) → H l = none → H' l = some (.lst (ts.map V.int)) → ns.Pairwise (· < ·) → (∀ k, k ∈ ns ↔ k ∈ sidesOf b) → ts.Sublist ns → 1 ≤ ts.length → ts.length < ns.length → ns.length ≤ 4 → Q (.ref l) H'
theorem ok_law_tellers (B : Bl mg) (c__law_draw : Cal P w K mg base 2 "_law_draw" ["_law_pool_here", "_law_many"] (spDraw K)) (c__law_sides : Cal P w K mg base 1 "_law_sides" ["_law_w"] (spLSides K)) (cc : DefAt K mg "_law_tellers" s__law_tellers ["_law_pool_here", "_law_w"]) : Cal P w K mg base 3 "_law_tellers" ["_law_pool_here", "_law_w"] (spTellers K) := by
 refine Hk.hold ?_
 simp (disch := with_unfolding_all (
 exact Hk.disch (cc.cal fun f fd F => by
  refine F.ok sc__law_tellers (fun vs H Q E h => ?_) (fun cdv A outer s H vs Q E hr h => ?_)
  · obtain ⟨p, LC, n, W, b, rfl, _⟩ := h; rfl
  · obtain ⟨p, LC, n, W, b, rfl, PA, n4, nWp, hL, ok, two, rng, q⟩ := h
    have hu := hu_of hr
    refine ⟨_, (pss_cons (ps_set (i := 2) sc__law_tellers.nd rfl (Or.inr rfl) (pe_cal c__law_sides (hr.mono (by omega)) rfl (pa_cons (pv 1) pa_nil)))
      (pss_cons (ps_set (i := 3) sc__law_tellers.nd rfl (Or.inr rfl) (pe_op op_add pe_int (pe_cal c__law_draw (hr.mono (by omega)) rfl (pa_cons (pv 0) (pa_cons (pe_ix ix_tup (pe_tup (pa_cons pe_int (pa_cons pe_int (pa_cons pe_int pa_nil)))) (pe_op op_sub (pe_callB call_len_seq rfl B.len hb_len (pa_cons (pv 2) pa_nil)) pe_int) (fun _ _ => rfl)) pa_nil)))))
      (pss_one (ps_ret (pe_lc (own := [("_law_t", 4)]) rfl sc__law_tellers.nd (pi_range1 rfl B.range (pa_cons (pe_callB call_len_seq rfl B.len hb_len (pa_cons (pv 2) pa_nil)) pa_nil)) (blkOk_by (N := ["_law_pool_here", "_law_w", "_law_sides_here", "_law_mask", "_law_t"]) (sc := defScope s__law_tellers) (by decide +kernel)) (fun _ _ _ _ _ => (pg_name (i := 4) sc__law_tellers.nd rfl (Or.inl rfl))) (fun _ _ _ _ _ => (pts_one (pt_cmpR op_eq (pe_op op_mod (pe_callTy call_int1 rfl B.int_ hb_int (pa_cons (pe_op op_fdivW (pv 3) (pe_ix (show IxR _ (rIxT K) from ix_tup) (pe_tup (pa_cons pe_int (pa_cons pe_int (pa_cons pe_int (pa_cons pe_int pa_nil))))) (pv 4) (fun _ _ => rfl))) pa_nil)) pe_int) pe_int (nomark _)))) (fun _ _ _ _ _ => (pe_ix (show IxR _ (rIxL K) from ix_list) (pv 2) (pv 4) (fun _ _ => rfl)))))))), ?_⟩
    walk_at "st0"
    refine ⟨W, b, rfl, hL, ok, fun l ns H1 s1 nl el asc mem => ?_⟩
    have ln4 : 2 ≤ ns.length ∧ ns.length ≤ 4 := sides_len asc (fun x hx => rng x ((mem x).mp hx)) (by
      obtain ⟨x, hx, y, hy, ne⟩ := two
      exact ⟨x, (mem x).mpr hx, y, (mem y).mpr hy, ne⟩)
    walk_at "st"
    refine ⟨by show 3 ≤ sizeLine; decide, fun t1 nt1 => ?_⟩
    have sm := same_new (o := .tup [V.int 2, V.int 6, V.int 14]) nt1
    have e1 : upd H1 t1 (.tup [V.int 2, V.int 6, V.int 14]) t1 = some (.tup [V.int 2, V.int 6, V.int 14]) := upd_same
    have el2 := sm _ _ el
    have s2 := s1.trans sm
    have P2 := PA.same s2
    generalize upd H1 t1 (.tup [V.int 2, V.int 6, V.int 14]) = H2 at *
    walk_at "st"
    refine ⟨l, _, rfl, .inl (SqL.of el2), ?_⟩
    rw [List.length_map]
    obtain ⟨k, ek, k2, k4⟩ : ∃ k : Nat, ns.length = k ∧ 2 ≤ k ∧ k ≤ 4 := ⟨_, rfl, ln4.1, ln4.2⟩
    rw [ek]
    obtain ⟨mx, emx, hmx⟩ : ∃ mx : Nat, atI [V.int 2, V.int 6, V.int 14] ((k : Int) - 2) = some (.int mx) ∧ mx = 2 ^ k - 2 := by
      rcases (show k = 2 ∨ k = 3 ∨ k = 4 by omega) with rfl | rfl | rfl
      · exact ⟨2, by rfl, rfl⟩
      · exact ⟨6, by rfl, rfl⟩
      · exact ⟨14, by rfl, rfl⟩
    have mx14 : 1 ≤ mx ∧ mx ≤ 14 := by
      rcases (show k = 2 ∨ k = 3 ∨ k = 4 by omega) with rfl | rfl | rfl <;> omega
    walk_at "st"
    refine q_ixT (SqT.of e1) emx ?_
    walk_at "st"
    refine ⟨p, LC, n, mx, rfl, P2, by omega, by omega, by omega, fun r H3 b3 P3 r0 r1 => ?_⟩
    obtain ⟨mk, emk, mk1, mk2⟩ : ∃ mk : Nat, 1 + r = mk ∧ 1 ≤ mk ∧ mk ≤ 2 ^ k - 2 := ⟨(1 + r).toNat, by omega, by omega, by omega⟩
    have nlp : l ≠ p := fun z => by
      obtain ⟨kv, ekv⟩ := PA.dk
      rw [z, ekv] at nl
      cases nl
    have el3 := b3 _ _ el2 nlp
    have few := telP_few k (by rcases (show k = 2 ∨ k = 3 ∨ k = 4 by omega) with rfl | rfl | rfl <;> simp) mk (List.mem_range.mpr (by omega)) mk1 mk2
    walk_at "st"
    rw [emk]
    refine q_lcR ?_
    walk_at "st"
    refine ⟨l, _, rfl, .inl (SqL.of el3), ?_⟩
    rw [List.length_map, ek]
    refine ⟨k, rfl, by omega, by omega, ?_⟩
    rw [Int.toNat_natCast]
    refine fun X nX => lc_keep walk_range (telP mk) (fun i => V.int (ns.getD i 0)) nX (sz1000 (by omega)) (fun H2 s => trivial) yfn_same ?_ ?_
    · rintro i x H6 H7 lt s ⟨rfl, rfl⟩ Q' kk
      refine q_gname ?_
      refine ⟨rfl, ?_⟩
      walk_at "st"
      refine ⟨by show 4 ≤ sizeLine; decide, fun t2 nt2 => ?_⟩
      have st := same_new (o := .tup [V.int 1, V.int 2, V.int 4, V.int 8]) nt2
      have et : upd H7 t2 (.tup [V.int 1, V.int 2, V.int 4, V.int 8]) t2 = some (.tup [V.int 1, V.int 2, V.int 4, V.int 8]) := upd_same
      generalize upd H7 t2 (.tup [V.int 1, V.int 2, V.int 4, V.int 8]) = H8 at *
      obtain ⟨d, ed, hd1, hd8, ep⟩ : ∃ d : Nat, atI [V.int 1, V.int 2, V.int 4, V.int 8] (0 + (i : Int)) = some (.int d) ∧ 1 ≤ d ∧ d ≤ 8 ∧ telP mk i = (mk / d % 2 == 1) := by
        rcases (show i = 0 ∨ i = 1 ∨ i = 2 ∨ i = 3 by omega) with rfl | rfl | rfl | rfl
        · exact ⟨1, by rfl, by omega, by omega, by rfl⟩
        · exact ⟨2, by rfl, by omega, by omega, by rfl⟩
        · exact ⟨4, by rfl, by omega, by omega, by rfl⟩
        · exact ⟨8, by rfl, by omega, by omega, by rfl⟩
      walk_at "st"
      refine q_ixT (SqT.of et) ed ?_
      refine ⟨_, _, rfl, rfl, wide_div (b := 5) (by omega) (by omega) (by decide) (by decide), ?_⟩
      walk_at "st"
      refine .inl ⟨_, rfl, ?_⟩
      walk_at "st"
      refine ⟨_, _, rfl, rfl, (show (0 : Int) < 2 by decide), ?_⟩
      walk_at "st"
      refine q_eqI ?_
      refine ⟨_, rfl, ?_⟩
      have eb : decide ((mk : Int) / (d : Int) % 2 = 1) = telP mk i := by
        rw [ep]
        have h1 : (mk : Int) / (d : Int) % 2 = ((mk / d % 2 : Nat) : Int) := by push_cast; rfl
        rw [h1]
        by_cases c : mk / d % 2 = 1
        · rw [c]; rfl
        · rw [decide_eq_false (by omega)]
          simpa using c
      rw [eb]
      have er : ns.getD i 0 = ns.getD i 0 := rfl
      refine kk _ _ st (by rfl) fun H9 Q2 s9 _ k2 => ?_
      walk_at "st"
      refine q_ixL (SqL.of (s9 _ _ (s _ _ el3))) (z := .int (ns.getD i 0)) ?_ ?_
      · rw [Int.zero_add]
        refine atI_nat ?_
        rw [List.getElem?_map, List.getD_eq_getElem?_getD, List.getElem?_eq_getElem (show i < ns.length by omega)]
        rfl
      · exact k2 _ (Same.refl _)
    · intro H4 s4 eX
      have sub : (((List.range k).filter (telP mk)).map fun i => ns.getD i 0).Sublist ns := by
        have h1 : ((List.range k).map fun i => ns.getD i 0) = ns := by
          rw [← ek]
          refine List.ext_getElem (by simp) fun i h1 h2 => ?_
          simp [List.getD_eq_getElem?_getD, List.getElem?_eq_getElem h2]
        have h2 := (List.filter_sublist (p := telP mk) (l := List.range k)).map fun i => ns.getD i 0
        rw [h1] at h2
        exact h2
      refine q X ns (((List.range k).filter (telP mk)).map fun i => ns.getD i 0) H4 (((But.same s2).trans b3).trans (But.same s4)) (P3.same s4) ?_ (by rw [eX, List.map_map]; rfl) asc mem sub (by rw [List.length_map]; exact few.1) (by rw [List.length_map, ek]; exact few.2) (by omega)
      exact free_but ((But.same s2).trans b3) (fun z => by
        obtain ⟨kv, ekv⟩ := P3.dk
        rw [z, nX] at ekv; cases ekv) nX))) only [↓Hk.hold_s]
end
end T
namespace T
section
variable {P : Program} {w : World} {K : PySem.W.Frag} {mg : Str → Option Value} {base : Heap} {C CR CK CM KE NT NTs : Addr}
theorem cOf_forms {b : BD} (ok : BOk b) : ∃ (tds pds qds : List PyData) (l d : Int), b.tasks = .list tds ∧ b.pages = .list pds ∧ b.ports = .list qds ∧ b.locks = .int l ∧ b.disk = .int d ∧ cOf b = cntOf tds.length pds.length qds.length l d ∧ 2 ≤ tds.length ∧ tds.length ≤ 4 ∧ 0 ≤ l ∧ l ≤ 2 ∧ 0 ≤ d ∧ d ≤ 4 ∧ d ≠ 1 := by
  obtain ⟨tds, et, t2, t4, _⟩ := okTasksL ok.tasks
  obtain ⟨pds, ep, _, _⟩ := okList ok.pages
  obtain ⟨qds, eq, _, _⟩ := okList ok.ports
  obtain ⟨l, el, l0, l2⟩ := okBetween ok.locks
  have okd := ok.disk
  unfold okDisk at okd
  rw [Bool.and_eq_true] at okd
  obtain ⟨d, ed, d0, d4⟩ := okBetween okd.1
  refine ⟨tds, pds, qds, l, d, et, ep, eq, el, ed, by unfold cOf; rw [et, ep, eq, el, ed], t2, t4, l0, l2, d0, d4, fun z => ?_⟩
  have z2 := okd.2
  rw [ed, z] at z2
  simp at z2
theorem rights_noL {c : Cnt} {d : PyData} {rds es : List PyData} (ok : okRights c d = true) (e : d = .list rds) (he : PyData.list es ∈ rds) : noLs es = true := by
  subst e
  unfold okRights at ok
  rw [Bool.and_eq_true] at ok
  have z := List.all_eq_true.mp ok.2 _ he
  unfold okRow at z
  rw [Bool.and_eq_true] at z
  obtain ⟨z1, z2⟩ := z
  have z3 := z2
  rw [Bool.and_eq_true] at z3
  rw [noLs_all]
  intro x hx
  obtain ⟨w, i, rfl⟩ := dRight_shape (List.all_eq_true.mp z3.1 x hx)
  rfl
theorem q_makeK {n m : Nat} {sp : Sp} {gV : List V → List V → List V} {E : XK} {t tk : TA} {σ : L2.St} {H : Hp} {Q : VK} (h : t σ H fun vs H1 => tk σ H1 fun zs H2 => vs.length = n ∧ zs.length = m ∧ ∀ x dx, H2 x = none → H2 dx = none → dx ≠ x →
  sp (gV (.ref x :: vs) zs) (upd (upd H2 dx (.own x)) x (.ins C dx [])) (fun v H3 => v = .non ∧ Q (.ref x) H3) E) : tMakeK C n m sp gV E t tk σ H Q := h
def spLBuild (K : PySem.W.Frag) (C CR : Addr) : Sp := fun vs H Q _ => ∃ (D : Addr) (b : BD), vs = [.ref D] ∧ LwAt K H D b ∧ BOk b ∧ ∀ x H', Same H H' → H x = none → BuildAt K C CR H' x b → Q (.ref x) H'
theorem ok_law_build (B : Bl mg) (c_Build : MkKCal P w K mg base 10 C "Build" ["self", "tasks", "pages", "ports", "locks", "frames", "disk", "rights", "lines", "costs", "plan", "outside", "wipe", "pad", "lend", "share"] 11 ["wipe", "pad", "lend", "share"] (spBuild K C CR)) (cc : DefAt K mg "_law_build" s__law_build ["_law_w"]) : Cal P w K mg base 12 "_law_build" ["_law_w"] (spLBuild K C CR) := by
 refine Hk.hold ?_
 simp (disch := with_unfolding_all (
 exact Hk.disch (cc.cal fun f fd F => by
  refine F.ok sc__law_build (fun vs H Q E h => ?_) (fun cdv A outer s H vs Q E hr h => ?_)
  · obtain ⟨D, b, rfl, _⟩ := h; rfl
  · obtain ⟨D, b, rfl, hL, ok, q⟩ := h
    have hu := hu_of hr
    refine ⟨_, (pss_cons (ps_set (i := 1) sc__law_build.nd rfl (Or.inl rfl) (pe_dget hu (pv 0) pe_str (fun _ _ => rfl)))
      (pss_cons (ps_if (pt_cmpR op_eq (pe_ix ix_tup (pv 1) pe_int (fun _ _ => rfl)) pe_str (nomark _)) (pss_one (ps_set (i := 1) sc__law_build.nd rfl (Or.inl rfl) (pe_tup (pa_cons pe_str (pa_cons (pe_callTy call_list_of rfl B.list_ hb_list (pa_cons (pe_ix ix_tup (pv 1) pe_int (fun _ _ => rfl)) pa_nil)) pa_nil))))) pss_nil)
      (pss_one (ps_ret (pe_mkk c_Build (hr.mono (by omega)) rfl (pa_cons (pe_callTy call_list_of rfl B.list_ hb_list (pa_cons (pe_dget hu (pv 0) pe_str (fun _ _ => rfl)) pa_nil)) (pa_cons (pe_callTy call_list_of rfl B.list_ hb_list (pa_cons (pe_dget hu (pv 0) pe_str (fun _ _ => rfl)) pa_nil)) (pa_cons (pe_callTy call_list_of rfl B.list_ hb_list (pa_cons (pe_dget hu (pv 0) pe_str (fun _ _ => rfl)) pa_nil)) (pa_cons (pe_dget hu (pv 0) pe_str (fun _ _ => rfl)) (pa_cons (pe_dget hu (pv 0) pe_str (fun _ _ => rfl)) (pa_cons (pe_dget hu (pv 0) pe_str (fun _ _ => rfl)) (pa_cons (pe_lc (own := [("_law_row", 2)]) (tt := tYes) rfl sc__law_build.nd (pi_list (pe_dget hu (pv 0) pe_str (fun _ _ => rfl))) (blkOk_by (N := ["_law_w", "_law_plan_here", "_law_row"]) (sc := defScope s__law_build) (by decide +kernel)) (fun _ _ _ _ _ => (pg_name (i := 2) sc__law_build.nd rfl (Or.inl rfl))) (fun _ _ _ _ _ => pts_nil) (fun _ _ _ _ _ => (pe_callTy (show CallR _ _ (rListOf K) from call_list_of) rfl B.list_ hb_list (pa_cons (pv 2) pa_nil)))) (pa_cons (pe_callTy call_list_of rfl B.list_ hb_list (pa_cons (pe_dget hu (pv 0) pe_str (fun _ _ => rfl)) pa_nil)) (pa_cons (pe_dget hu (pv 0) pe_str (fun _ _ => rfl)) (pa_cons (pv 1) (pa_cons (pe_dget hu (pv 0) pe_str (fun _ _ => rfl)) pa_nil))))))))))) (pk_cons (pe_dget hu (pv 0) pe_str (fun _ _ => rfl)) (pk_cons (pe_dget hu (pv 0) pe_str (fun _ _ => rfl)) (pk_cons (pe_dget hu (pv 0) pe_str (fun _ _ => rfl)) (pk_cons (pe_dget hu (pv 0) pe_str (fun _ _ => rfl)) pk_nil))))))))), ?_⟩
    obtain ⟨x0, x1, x2, x3, x4, x5, x6, x7, x8, x9, x10, x11, x12, x13, x14, x15, x16, r, pe, dM, mo, e, da⟩ := hL
    cases da with | cons d0 da => cases da with | cons d1 da => cases da with | cons d2 da => cases da with | cons d3 da => cases da with | cons d4 da => cases da with | cons d5 da => cases da with | cons d6 da => cases da with | cons d7 da => cases da with | cons d8 da => cases da with | cons d9 da => cases da with | cons d10 da => cases da with | cons d11 da => cases da with | cons d12 da => cases da with | cons d13 da => cases da with | cons d14 da => cases da with | cons d15 da => cases da with | cons d16 da =>
    clear da d6 d10
    obtain ⟨tds, et, t2, t4, tall⟩ := okTasksL ok.tasks
    obtain ⟨pds, ep, _, _⟩ := okList ok.pages
    obtain ⟨qds, eq, _, _⟩ := okList ok.ports
    obtain ⟨lds, el, _, _⟩ := okLinesL ok.lines
    obtain ⟨rds, er, rl, rall⟩ := okRightsL ok.rights
    rw [et] at d0
    rw [ep] at d1
    rw [eq] at d2
    rw [el] at d8
    have lstF : ∀ {v : V} {es : List PyData}, Dp K H v (.list es) → ∃ a xs, v = .ref a ∧ SqL K H a xs ∧ DpAll K H xs es := fun {v es} h => by
      cases h with
      | lst h1 h2 => exact ⟨_, _, rfl, h1, h2⟩
    obtain ⟨a0, z0, rfl, h0, g0⟩ := lstF d0
    obtain ⟨a1, z1, rfl, h1, g1⟩ := lstF d1
    obtain ⟨a2, z2, rfl, h2, g2⟩ := lstF d2
    obtain ⟨a7, z7, rfl, h7, g7⟩ := lstF d8
    have d7' := d7
    rw [er] at d7'
    cases d7' with
    | @lst ra rxs _ rs1 rs2 =>
    have lr := rs2.length
    have rl4 : rds.length ≤ 4 := by
      obtain ⟨tds', pds', qds', ln, dn, et', _, _, _, _, ecn, _, t4', _⟩ := cOf_forms ok
      have ct : cnt (cOf b) "task" = tds'.length := by rw [ecn]; rfl
      omega
    walk_at "st0"
    refine q_getD e (by rfl) ?_
    refine seq_if (fun σ Hx => ∃ pv, σ = [some (.ref D), some pv, none] ∧ Same H Hx ∧ Dp K Hx pv b.plan) (fun σ Hx hx => ?_) (fun N hN => ?_)
    · obtain ⟨pv, rfl, s0, dpv⟩ := hx
      have e0 := s0 _ _ e
      refine q_ret ?_
      refine q_makeK ?_
      walk_at "st"
      refine q_getD e0 (v := .ref a0) (by rfl) ?_
      walk_at "st"
      refine ⟨a0, z0, rfl, .inl (s0.seq h0), fun l0 n0 => ?_⟩
      have t1 := same_new (o := .lst z0) n0
      have c0 : Dp K (upd Hx l0 (.lst z0)) (.ref l0) (.list tds) := .lst (SqL.of upd_same) (L2.DpAll.mono (s0.trans t1) g0)
      generalize upd Hx l0 (.lst z0) = H1 at *
      have s01 := s0.trans t1
      walk_at "st"
      refine q_getD (s01 _ _ e) (v := .ref a1) (by rfl) ?_
      walk_at "st"
      refine ⟨a1, z1, rfl, .inl (s01.seq h1), fun l1 n1 => ?_⟩
      have t2 := same_new (o := .lst z1) n1
      have c1 : Dp K (upd H1 l1 (.lst z1)) (.ref l1) (.list pds) := .lst (SqL.of upd_same) (L2.DpAll.mono (s01.trans t2) g1)
      generalize upd H1 l1 (.lst z1) = H2 at *
      have s02 := s01.trans t2
      walk_at "st"
      refine q_getD (s02 _ _ e) (v := .ref a2) (by rfl) ?_
      walk_at "st"
      refine ⟨a2, z2, rfl, .inl (s02.seq h2), fun l2 n2 => ?_⟩
      have t3 := same_new (o := .lst z2) n2
      have c2 : Dp K (upd H2 l2 (.lst z2)) (.ref l2) (.list qds) := .lst (SqL.of upd_same) (L2.DpAll.mono (s02.trans t3) g2)
      generalize upd H2 l2 (.lst z2) = H3 at *
      have s03 := s02.trans t3
      have e3 := s03 _ _ e
      walk_at "st"
      refine q_getD e3 (by rfl) ?_
      walk_at "st"
      refine q_getD e3 (by rfl) ?_
      walk_at "st"
      refine q_getD e3 (by rfl) ?_
      walk_at "st"
      refine q_lcI ?_
      walk_at "st"
      refine q_getD e3 (v := .ref ra) (by rfl) ?_
      refine ⟨ra, rfl, ⟨_, s03.seq rs1⟩, fun X nX => lc_freshR walk_list (fun i l Hh => ∃ zs es, Hh l = some (.lst zs) ∧ rds[i]? = some (.list es) ∧ DpAll K Hh zs es ∧ noLs es = true) nX (sz1000 (by omega)) (fun H2 s => (s03.trans s).seq rs1) yat_same ?_ ?_ ?_ ?_ ?_⟩
      · rintro i l Ha Hb s ⟨zs, es, h1, h2, h3, h4⟩
        exact ⟨zs, es, s _ _ h1, h2, L2.DpAll.mono s h3, h4⟩
      · rintro i l Ha Hb acc n e2 bt ⟨zs, es, h1, h2, h3, h4⟩
        exact ⟨zs, es, bt _ _ h1 n, h2, dpAllKeepL (keepL_of_but e2 bt) h3 h4, h4⟩
      · rintro i l Ha ⟨zs, es, h1, _⟩ z
        rw [h1] at z; cases z
      · rintro i x H6 H7 lt s ⟨rfl, ex⟩ Q' k
        refine q_gname ?_
        refine ⟨rfl, ?_⟩
        walk_at "st"
        obtain ⟨d, e2, hd2⟩ := rs2.get' ex
        obtain ⟨es, rfl⟩ := rall d (List.mem_of_getElem? e2)
        have nl : noLs es = true := rights_noL ok.rights er (List.mem_of_getElem? e2)
        cases hd2 with
        | @lst a2 zs _ h1 h2 =>
        exact ⟨a2, zs, rfl, .inl ((s03.trans s).seq h1), fun l nlf => k l _ (same_new nlf) nlf ⟨zs, es, upd_same, e2, L2.DpAll.mono ((s03.trans s).trans (same_new nlf)) h2, nl⟩⟩
      intro ls H4 s34 eX lls nd fr hls
      have dR : Dp K H4 (.ref X) b.rights := by
        rw [er]
        refine .lst (SqL.of eX) (dpAll_of (by rw [List.length_map, lls]; exact lr) fun i x d ex ed => ?_)
        rw [List.getElem?_map] at ex
        obtain ⟨l, hl, rfl⟩ := Option.map_eq_some_iff.mp ex
        obtain ⟨zs, es, h1, h2, h3, _⟩ := hls i l hl
        rw [ed] at h2
        cases h2
        exact .lst (SqL.of h1) h3
      have s04 := s03.trans s34
      have e4 := s04 _ _ e
      walk_at "st"
      refine q_getD e4 (v := .ref a7) (by rfl) ?_
      walk_at "st"
      refine ⟨a7, z7, rfl, .inl (s04.seq h7), fun l7 n7 => ?_⟩
      have t5 := same_new (o := .lst z7) n7
      have c7 : Dp K (upd H4 l7 (.lst z7)) (.ref l7) (.list lds) := .lst (SqL.of upd_same) (L2.DpAll.mono (s04.trans t5) g7)
      generalize upd H4 l7 (.lst z7) = H5 at *
      have s05 := s04.trans t5
      have e5 := s05 _ _ e
      walk_at "st"
      refine q_getD e5 (by rfl) ?_
      walk_at "st"
      refine q_getD e5 (by rfl) ?_
      walk_at "st"
      refine q_getD e5 (by rfl) ?_
      walk_at "st"
      refine q_getD e5 (by rfl) ?_
      walk_at "st"
      refine q_getD e5 (by rfl) ?_
      walk_at "st"
      refine q_getD e5 (by rfl) ?_
      walk_at "st"
      refine ⟨rfl, rfl, fun x dx nx ndx ne => ?_⟩
      have m2 : Same H5 (upd (upd H5 dx (.own x)) x (.ins C dx [])) := (same_new ndx).trans (same_new (by rw [upd_ne (Ne.symm ne)]; exact nx))
      have mA := s05.trans m2
      have t45 := s34.trans t5
      have t35 := t3.trans t45
      have t25 := t2.trans t35
      have t15 := t1.trans t25
      refine ⟨x, dx, .ref l0, .ref l1, .ref l2, x3, x4, x5, .ref X, .ref l7, x9, pv, x12, x13, x14, x15, x16, b, rfl, upd_same, ok, by rw [et]; exact L2.Dp.mono (t25.trans m2) c0, by rw [ep]; exact L2.Dp.mono (t35.trans m2) c1, by rw [eq]; exact L2.Dp.mono (t45.trans m2) c2, L2.Dp.mono mA d3, L2.Dp.mono mA d4, L2.Dp.mono mA d5, L2.Dp.mono (t5.trans m2) dR, by rw [el]; exact L2.Dp.mono m2 c7, L2.Dp.mono mA d9, L2.Dp.mono (t15.trans m2) dpv, L2.Dp.mono mA d12, L2.Dp.mono mA d13, L2.Dp.mono mA d14, L2.Dp.mono mA d15, L2.Dp.mono mA d16, fun H' bt pa => ⟨rfl, q x H' (fun y o hy => bt _ _ (mA _ _ hy) (ne_of_none (s05 _ _ hy) nx)) (s05.free nx) pa⟩⟩
    · obtain ⟨z, ex, ep2, hz⟩ := okPlanL ok.plan
      have d11' := d11
      rw [ep2] at d11'
      cases d11' with
      | @tup pt xs _ hs ha =>
      cases ha with
      | @cons y0 r0 _ _ f0 ha =>
      cases ha with
      | @cons y1 r1 _ _ f1 ha =>
      cases ha
      cases f0
      walk_at "st"
      refine q_ixT hs (atI0 rfl) ?_
      walk_at "st"
      refine rEq_st _ _ _ ?_
      refine ⟨_, rfl, ?_⟩
      rcases hz with ⟨rfl, i, rfl, _⟩ | ⟨rfl, hz⟩
      · rw [decide_eq_false (by decide)]
        refine iteF ?_
        exact hN _ _ ⟨_, rfl, Same.refl _, d11⟩
      · rw [decide_eq_true rfl]
        refine iteT ?_
        obtain ⟨rs, rfl, _⟩ := okSlotsL hz
        cases f1 with
        | @lst la lys _ hl hy =>
        walk_at "st"
        refine q_ixT hs (atI_nat (j := 1) rfl) ?_
        walk_at "st"
        refine ⟨la, lys, rfl, .inl hl, fun l nl => ?_⟩
        have sl := same_new (o := .lst lys) nl
        walk_at "st"
        refine ⟨by show 2 ≤ sizeLine; decide, fun t nt => ?_⟩
        have st := same_new (o := .tup [V.str "slots", .ref l]) nt
        refine hN _ _ ⟨_, rfl, sl.trans st, ?_⟩
        rw [ep2]
        exact .tup (SqT.of upd_same) (.cons (.str _) (.cons (.lst (SqL.of (st _ _ upd_same)) (L2.DpAll.mono (sl.trans st) hy)) .nil))))) only [↓Hk.hold_s]
end
end T
namespace T
section
variable {P : Program} {w : World} {K : PySem.W.Frag} {mg : Str → Option Value} {base : Heap}
def spAscI (K : PySem.W.Frag) : Sp := fun vs H Q _ => ∃ (a : Addr) (rs : List Int), vs = [.ref a] ∧ SqL K H a (rs.map V.int) ∧ rs.Pairwise (· < ·) ∧ rs.length ≤ 1000 ∧ ∀ H', Same H H' → Q (.bl true) H'
theorem ok_is_ascendingI (B : Bl mg) (d : DefAt K mg "is_ascending" s_is_ascending ["items"]) : Cal P w K mg base 1 "is_ascending" ["items"] (spAscI K) := by
 refine Hk.hold ?_
 simp (disch := with_unfolding_all (
 exact Hk.disch (d.cal fun f fd F => by
  refine F.ok sc_is_ascending (fun vs H Q E h => ?_) (fun cdv A outer s H vs Q E hr h => ?_)
  · obtain ⟨a, rs, rfl, _⟩ := h; rfl
  · obtain ⟨a, rs, rfl, hl, hp, few, q⟩ := h
    refine ⟨_, (pss_one (ps_ret (pe_callB (cr_all rfl) rfl B.all hb_all (pa_cons (pe_lc (own := [("low", 1), ("high", 2)]) (tt := tYes) rfl sc_is_ascending.nd (pi_zip rfl B.zip (pa_cons (pv 0) (pa_cons (pe_slice sl_list (pv 0) (po_some pe_int) po_none) pa_nil))) (blkOk_by (N := ["items", "low", "high"]) (sc := defScope s_is_ascending) (by decide +kernel)) (fun _ _ _ _ _ => (show PG _ _ (gTup K 2 _) from pg_tup rfl (pgs_cons (pg_name (i := 1) sc_is_ascending.nd rfl (Or.inl rfl)) (pgs_cons (pg_name (i := 2) sc_is_ascending.nd rfl (Or.inl rfl)) pgs_nil)))) (fun _ _ _ _ _ => pts_nil) (fun _ _ _ _ _ => (pe_cmpR op_lt (pv 1) (pv 2) (nomark _)))) pa_nil)))), ?_⟩
    walk_at "st0"
    refine ⟨.ref a, rfl, .ref a, rfl, 1, rfl, a, rs.map V.int, rfl, hl, fun c nc => ?_⟩
    have s1 := same_new (o := .lst (cutV (rs.map V.int) (some 1) none)) nc
    have h1 := s1.seq hl
    have h2 : SqL K (upd H c (.lst (cutV (rs.map V.int) (some 1) none))) c ((rs.map V.int).drop 1) := by rw [cut1]; exact SqL.of upd_same
    refine ⟨a, c, _, _, rfl, h1, h2, fun D nD => ?_⟩
    refine lc_val (n := rs.length - 1) (walk_zip (by rw [List.length_drop, List.length_map]; omega)) (fun i => .bl true) nD (by exact sz1000 (by omega)) (fun H2 s => ⟨s.seq h1, s.seq h2⟩) ypair_same ?_ ?_
    · rintro i x H2 H3 lt s2 ⟨t, u, v, rfl, nt, rfl, e1, e2⟩ Q2 k
      replace e1 : (rs.map V.int)[i]? = some u := e1
      replace e2 : ((rs.map V.int).drop 1)[i]? = some v := e2
      rw [List.getElem?_map, List.getElem?_eq_getElem (show i < rs.length by omega)] at e1
      rw [List.getElem?_drop, Nat.add_comm 1 i, List.getElem?_map, List.getElem?_eq_getElem (show i + 1 < rs.length by omega)] at e2
      cases e1; cases e2
      have s3 := same_new (o := .tup [V.int rs[i], V.int rs[i + 1]]) nt
      refine ⟨t, [.int rs[i], .int rs[i + 1]], rfl, SqT.of upd_same, rfl, .int rs[i], [.int rs[i + 1]], rfl, .int rs[i + 1], [], rfl, rfl, rfl, ?_⟩
      walk_at "st"
      have lt2 : rs[i] < rs[i + 1] := List.pairwise_iff_getElem.mp hp i (i + 1) (by omega) (by omega) (by omega)
      rw [decide_eq_true lt2]
      exact k _ (Same.refl _)
    · intro H2 s2 e
      refine ⟨_, (List.range (rs.length - 1)).map fun _ => true, rfl, SqL.of (by rw [e, List.map_map]; rfl), ?_⟩
      have z : (((List.range (rs.length - 1)).map fun _ => true).all id) = true := by simp
      rw [z]
      exact q H2 (s1.trans s2)))) only [↓Hk.hold_s]
end
end T
namespace T
section
variable {P : Program} {w : World} {K : PySem.W.Frag} {mg : Str → Option Value} {base : Heap}
def spAscS (K : PySem.W.Frag) : Sp := fun vs H Q _ => ∃ (a : Addr) (rs : List Str), vs = [.ref a] ∧ SqL K H a (rs.map V.str) ∧ rs.Pairwise (fun a b => a.cps.toList < b.cps.toList) ∧ rs.length ≤ 1000 ∧ ∀ H', Same H H' → Q (.bl true) H'
theorem ok_is_ascendingS (B : Bl mg) (d : DefAt K mg "is_ascending" s_is_ascending ["items"]) : Cal P w K mg base 1 "is_ascending" ["items"] (spAscS K) := by
 refine Hk.hold ?_
 simp (disch := with_unfolding_all (
 exact Hk.disch (d.cal fun f fd F => by
  refine F.ok sc_is_ascending (fun vs H Q E h => ?_) (fun cdv A outer s H vs Q E hr h => ?_)
  · obtain ⟨a, rs, rfl, _⟩ := h; rfl
  · obtain ⟨a, rs, rfl, hl, hp, few, q⟩ := h
    refine ⟨_, (pss_one (ps_ret (pe_callB (cr_all rfl) rfl B.all hb_all (pa_cons (pe_lc (own := [("low", 1), ("high", 2)]) (tt := tYes) rfl sc_is_ascending.nd (pi_zip rfl B.zip (pa_cons (pv 0) (pa_cons (pe_slice sl_list (pv 0) (po_some pe_int) po_none) pa_nil))) (blkOk_by (N := ["items", "low", "high"]) (sc := defScope s_is_ascending) (by decide +kernel)) (fun _ _ _ _ _ => (show PG _ _ (gTup K 2 _) from pg_tup rfl (pgs_cons (pg_name (i := 1) sc_is_ascending.nd rfl (Or.inl rfl)) (pgs_cons (pg_name (i := 2) sc_is_ascending.nd rfl (Or.inl rfl)) pgs_nil)))) (fun _ _ _ _ _ => pts_nil) (fun _ _ _ _ _ => (pe_cmpR (op_lt_str) (pv 1) (pv 2) (nomark _)))) pa_nil)))), ?_⟩
    walk_at "st0"
    refine ⟨.ref a, rfl, .ref a, rfl, 1, rfl, a, rs.map V.str, rfl, hl, fun c nc => ?_⟩
    have s1 := same_new (o := .lst (cutV (rs.map V.str) (some 1) none)) nc
    have h1 := s1.seq hl
    have h2 : SqL K (upd H c (.lst (cutV (rs.map V.str) (some 1) none))) c ((rs.map V.str).drop 1) := by rw [cut1]; exact SqL.of upd_same
    refine ⟨a, c, _, _, rfl, h1, h2, fun D nD => ?_⟩
    refine lc_val (n := rs.length - 1) (walk_zip (by rw [List.length_drop, List.length_map]; omega)) (fun i => .bl true) nD (by exact sz1000 (by omega)) (fun H2 s => ⟨s.seq h1, s.seq h2⟩) ypair_same ?_ ?_
    · rintro i x H2 H3 lt s2 ⟨t, u, v, rfl, nt, rfl, e1, e2⟩ Q2 k
      replace e1 : (rs.map V.str)[i]? = some u := e1
      replace e2 : ((rs.map V.str).drop 1)[i]? = some v := e2
      rw [List.getElem?_map, List.getElem?_eq_getElem (show i < rs.length by omega)] at e1
      rw [List.getElem?_drop, Nat.add_comm 1 i, List.getElem?_map, List.getElem?_eq_getElem (show i + 1 < rs.length by omega)] at e2
      cases e1; cases e2
      have s3 := same_new (o := .tup [V.str rs[i], V.str rs[i + 1]]) nt
      refine ⟨t, [.str rs[i], .str rs[i + 1]], rfl, SqT.of upd_same, rfl, .str rs[i], [.str rs[i + 1]], rfl, .str rs[i + 1], [], rfl, rfl, rfl, ?_⟩
      walk_at "st"
      have lt2 : rs[i].cps.toList < rs[i + 1].cps.toList := List.pairwise_iff_getElem.mp hp i (i + 1) (by omega) (by omega) (by omega)
      refine ⟨_, _, rfl, rfl, ?_⟩
      rw [decide_eq_true lt2]
      exact k _ (Same.refl _)
    · intro H2 s2 e
      refine ⟨_, (List.range (rs.length - 1)).map fun _ => true, rfl, SqL.of (by rw [e, List.map_map]; rfl), ?_⟩
      have z : (((List.range (rs.length - 1)).map fun _ => true).all id) = true := by simp
      rw [z]
      exact q H2 (s1.trans s2)))) only [↓Hk.hold_s]
end
end T
namespace T
section
variable {P : Program} {w : World} {K : PySem.W.Frag} {mg : Str → Option Value} {base : Heap}
def spAreSides (K : PySem.W.Frag) : Sp := fun vs H Q _ => ∃ (a c : Addr) (ns ts : List Int), vs = [.ref a, .ref c] ∧ SqL K H a (ns.map V.int) ∧ SqL K H c (ts.map V.int) ∧ (∀ x ∈ ts, x ∈ ns) ∧ ts.Pairwise (· < ·) ∧ 1 ≤ ts.length ∧ ts.length ≤ ns.length ∧ ns.length ≤ 4 ∧ ∀ H', Same H H' → Q (.bl true) H'
theorem ok_are_sides (B : Bl mg) (d : DefAt K mg "are_sides" s_are_sides ["sides", "thing"]) (c_is_list : Cal P w K mg base 1 "is_list" ["thing", "low", "high"] (spListOf K)) (c_is_integer : Cal P w K mg base 1 "is_integer" ["thing"] (spInteger K)) (c_is_ascending : Cal P w K mg base 1 "is_ascending" ["items"] (spAscI K)) :
    Cal P w K mg base 2 "are_sides" ["sides", "thing"] (spAreSides K) := by
 refine Hk.hold ?_
 simp (disch := with_unfolding_all (
 exact Hk.disch (d.cal fun f fd F => by
  refine F.ok sc_are_sides (fun vs H Q E h => ?_) (fun cdv A outer s H vs Q E hr h => ?_)
  · obtain ⟨a, c, ns, ts, rfl, _⟩ := h; rfl
  · obtain ⟨a, c, ns, ts, rfl, ha, hc, sub, asc, l1, lts, l4, q⟩ := h
    have hu := hu_of hr
    refine ⟨_, (pss_cons (ps_if (pt_not (pt_val (pe_cal c_is_list (hr.mono (by omega)) rfl (pa_cons (pv 1) (pa_cons pe_int (pa_cons (pe_callB call_len_seq rfl B.len hb_len (pa_cons (pv 0) pa_nil)) pa_nil)))))) (pss_one (ps_ret pe_bl)) pss_nil)
      (pss_one (ps_ret (pe_and (pe_callB (cr_all rfl) rfl B.all hb_all (pa_cons (pe_lc (own := [("side", 2)]) (tt := tYes) rfl sc_are_sides.nd (pi_list (pv 1)) (blkOk_by (N := ["sides", "thing", "side"]) (sc := defScope s_are_sides) (by decide +kernel)) (fun _ _ _ _ _ => (pg_name (i := 2) sc_are_sides.nd rfl (Or.inl rfl))) (fun _ _ _ _ _ => pts_nil) (fun _ _ _ _ _ => (pe_and (pe_cal c_is_integer (hr.mono (by omega)) rfl (pa_cons (pv 2) pa_nil)) (pe_one (pe_cmpR ((show OpR _ _ (rIn K false) from op_in_seq)) (pv 2) (pv 0) (by with_unfolding_all rfl)))))) pa_nil)) (pe_one (pe_cal c_is_ascending (hr.mono (by omega)) rfl (pa_cons (pv 1) pa_nil))))))), ?_⟩
    walk_at "st0"
    refine ⟨a, _, rfl, .inl ha, ?_⟩
    rw [List.length_map]
    walk_at "st"
    refine ⟨.ref c, .list (ts.map .int), 1, ns.length, rfl, .lst hc (dpInts_ ts), ?_⟩
    refine ⟨_, rfl, ?_⟩
    rw [show dListOf (.list (ts.map PyData.int)) 1 ns.length = true by simp [dListOf]; omega]
    refine iteF ?_
    walk_at "st"
    refine q_lcI ?_
    walk_at "st"
    refine ⟨c, rfl, ⟨_, hc⟩, fun X nX => lc_val (n := (ts.map V.int).length) walk_list (fun _ => V.bl true) nX (sz1000 (by rw [List.length_map]; omega)) (fun H2 s => s.seq hc) yat_same ?_ ?_⟩
    · rintro i x Hq H6 lt s ⟨rfl, e⟩ Q2 k
      rw [List.getElem?_map] at e
      obtain ⟨z, ez, rfl⟩ := Option.map_eq_some_iff.mp e
      refine q_gname ?_
      refine ⟨rfl, ?_⟩
      walk_at "st"
      refine ⟨.int z, .int z, rfl, .int z, ?_⟩
      refine ⟨true, rfl, iteT ?_⟩
      walk_at "st"
      refine ⟨a, ns.map V.int, rfl, .inl ((s.seq ha)), rfl, by simp [flatV], ?_⟩
      have ei : inV (.int z) (ns.map V.int) = true := by
        unfold inV
        rw [List.any_eq_true]
        exact ⟨.int z, List.mem_map_of_mem (sub z (List.mem_of_getElem? ez)), by simp [eqV]⟩
      show Q2 (.bl (inV (.int z) (ns.map V.int))) H6
      rw [ei]
      exact k _ (Same.refl _)
    · intro H2 s2 e
      walk_at "st"
      refine ⟨X, (List.range (ts.map V.int).length).map fun _ => true, rfl, SqL.of (by rw [e, List.map_map]; rfl), ?_⟩
      rw [show ((List.range (ts.map V.int).length).map fun _ => true).all id = true by simp]
      refine ⟨true, rfl, iteT ?_⟩
      walk_at "st"
      exact ⟨c, ts, rfl, s2.seq hc, asc, by omega, fun H' s' => q H' (s2.trans s')⟩))) only [↓Hk.hold_s]
theorem dpStrs_ {H : Hp} : ∀ ns : List Str, DpAll K H (ns.map V.str) (ns.map PyData.str)
  | [] => .nil
  | n :: r => .cons (.str n) (dpStrs_ r)
/-- cures, of those that are -/
def CURE : List Str := ["cold", "cut", "pad", "share", "slots", "still", "wipe"]
def spAreCures (K : PySem.W.Frag) : Sp := fun vs H Q _ => ∃ (c : Addr) (ts : List Str), vs = [.ref c] ∧ SqL K H c (ts.map V.str) ∧ (∀ x ∈ ts, x ∈ CURE) ∧ ts.Pairwise (fun a b => a.cps.toList < b.cps.toList) ∧ ts.length ≤ 7 ∧ ∀ H', Same H H' → Q (.bl true) H'
theorem ok_are_cures {tC : Addr} (B : Bl mg) (g_CURES : mg "CURES" = some (.ref tC)) (hT : ∀ H, SqT K H tC (CURE.map V.str)) (d : DefAt K mg "are_cures" s_are_cures ["names"]) (c_is_list : Cal P w K mg base 1 "is_list" ["thing", "low", "high"] (spListOf K)) (c_is_ascending : Cal P w K mg base 1 "is_ascending" ["items"] (spAscS K)) :
    Cal P w K mg base 2 "are_cures" ["names"] (spAreCures K) := by
 refine Hk.hold ?_
 simp (disch := with_unfolding_all (
 exact Hk.disch (d.cal fun f fd F => by
  refine F.ok sc_are_cures (fun vs H Q E h => ?_) (fun cdv A outer s H vs Q E hr h => ?_)
  · obtain ⟨c, ts, rfl, _⟩ := h; rfl
  · obtain ⟨c, ts, rfl, hc, sub, asc, l7, q⟩ := h
    have hu := hu_of hr
    refine ⟨_, (pss_cons (ps_if (pt_not (pt_val (pe_cal c_is_list (hr.mono (by omega)) rfl (pa_cons (pv 0) (pa_cons pe_int (pa_cons (pe_callB call_len_seq rfl B.len hb_len (pa_cons (pe_glob (v := .ref tC) rfl g_CURES rfl) pa_nil)) pa_nil)))))) (pss_one (ps_ret pe_bl)) pss_nil)
      (pss_one (ps_ret (pe_and (pe_callB (cr_all rfl) rfl B.all hb_all (pa_cons (pe_lc (own := [("name", 1)]) (tt := tYes) rfl sc_are_cures.nd (pi_list (pv 0)) (blkOk_by (N := ["names", "name"]) (sc := defScope s_are_cures) (by decide +kernel)) (fun _ _ _ _ _ => (pg_name (i := 1) sc_are_cures.nd rfl (Or.inl rfl))) (fun _ _ _ _ _ => pts_nil) (fun _ _ _ _ _ => (pe_cmpR ((show OpR _ _ (rIn K false) from op_in_seq)) (pv 1) (pe_glob (v := .ref tC) rfl g_CURES rfl) (by with_unfolding_all rfl)))) pa_nil)) (pe_one (pe_cal c_is_ascending (hr.mono (by omega)) rfl (pa_cons (pv 0) pa_nil))))))), ?_⟩
    walk_at "st0"
    refine ⟨tC, _, rfl, .inr (hT _), ?_⟩
    walk_at "st"
    refine ⟨.ref c, .list (ts.map .str), 0, 7, rfl, .lst hc (dpStrs_ ts), ?_⟩
    refine ⟨_, rfl, ?_⟩
    rw [show dListOf (.list (ts.map PyData.str)) 0 7 = true by simp [dListOf]; omega]
    refine iteF ?_
    walk_at "st"
    refine q_lcI ?_
    walk_at "st"
    refine ⟨c, rfl, ⟨_, hc⟩, fun X nX => lc_val (n := (ts.map V.str).length) walk_list (fun _ => V.bl true) nX (sz1000 (by rw [List.length_map]; omega)) (fun H2 s => s.seq hc) yat_same ?_ ?_⟩
    · rintro i x Hq H6 lt s ⟨rfl, e⟩ Q2 k
      rw [List.getElem?_map] at e
      obtain ⟨z, ez, rfl⟩ := Option.map_eq_some_iff.mp e
      refine q_gname ?_
      refine ⟨rfl, ?_⟩
      walk_at "st"
      refine ⟨tC, CURE.map V.str, rfl, .inr (hT _), rfl, by simp [flatV], ?_⟩
      have ei : inV (.str z) (CURE.map V.str) = true := by
        unfold inV
        rw [List.any_eq_true]
        exact ⟨.str z, List.mem_map_of_mem (sub z (List.mem_of_getElem? ez)), by simp [eqV]⟩
      show Q2 (.bl (inV (.str z) (CURE.map V.str))) H6
      rw [ei]
      exact k _ (Same.refl _)
    · intro H2 s2 e
      walk_at "st"
      refine ⟨X, (List.range (ts.map V.str).length).map fun _ => true, rfl, SqL.of (by rw [e, List.map_map]; rfl), ?_⟩
      rw [show ((List.range (ts.map V.str).length).map fun _ => true).all id = true by simp]
      refine ⟨true, rfl, iteT ?_⟩
      walk_at "st"
      exact ⟨c, ts, rfl, s2.seq hc, asc, by omega, fun H' s' => q H' (s2.trans s')⟩))) only [↓Hk.hold_s]
end
end T
namespace T
section
variable {P : Program} {w : World} {K : PySem.W.Frag} {mg : Str → Option Value} {base : Heap} {C CR : Addr}
theorem asc_eq : ∀ {a b : List Int}, a.Pairwise (· < ·) → b.Pairwise (· < ·) → (∀ k, k ∈ a ↔ k ∈ b) → a = b
  | [], [], _, _, _ => rfl
  | [], y :: _, _, _, h => by have := (h y).mpr List.mem_cons_self; cases this
  | x :: _, [], _, _, h => by have := (h x).mp List.mem_cons_self; cases this
  | x :: r, y :: t, ha, hb, h => by
    obtain ⟨a1, a2⟩ := List.pairwise_cons.mp ha
    obtain ⟨b1, b2⟩ := List.pairwise_cons.mp hb
    have e : x = y := by
      rcases List.mem_cons.mp ((h x).mp List.mem_cons_self) with e | e
      · exact e
      · rcases List.mem_cons.mp ((h y).mpr List.mem_cons_self) with e2 | e2
        · exact e2.symm
        · have := b1 x e
          have := a1 y e2
          omega
    subst e
    rw [asc_eq a2 b2 fun k => ?_]
    constructor
    · intro hk
      rcases List.mem_cons.mp ((h k).mp (List.mem_cons_of_mem _ hk)) with e | e
      · have := a1 k hk; omega
      · exact e
    · intro hk
      rcases List.mem_cons.mp ((h k).mpr (List.mem_cons_of_mem _ hk)) with e | e
      · have := b1 k hk; omega
      · exact e
/-- sides that tell, of a build's -/
structure SdOk (b : BD) (ns ts : List Int) : Prop where
  asc : ns.Pairwise (· < ·)
  mem : ∀ k, k ∈ ns ↔ k ∈ sidesOf b
  sub : ts.Sublist ns
  l1 : 1 ≤ ts.length
  lt : ts.length < ns.length
  l4 : ns.length ≤ 4
def spCheckOnes (K : PySem.W.Frag) (C : Addr) : Sp := fun vs H Q _ => ∃ (p c : Addr) (b : BD) (ns ts : List Int), vs = [.ref p, .ref c] ∧ PartsAt K C H p b ∧ SqL K H c (ts.map V.int) ∧ SdOk b ns ts ∧ ∀ H', Same H H' → Q .non H'
theorem ok_check_ones (B : Bl mg) (m_sides : MCal P w K mg base 1 C "sides" ["self"] (spGet K C IsSides)) (c_are_sides : Cal P w K mg base 2 "are_sides" ["sides", "thing"] (spAreSides K)) (d : DefAt K mg "check_ones" s_check_ones ["build", "ones"]) :
    Cal P w K mg base 3 "check_ones" ["build", "ones"] (spCheckOnes K C) := by
 refine Hk.hold ?_
 simp (disch := with_unfolding_all (
 exact Hk.disch (d.cal fun f fd F => by
  refine F.ok sc_check_ones (fun vs H Q E h => ?_) (fun cdv A outer s H vs Q E hr h => ?_)
  · obtain ⟨p, c, b, ns, ts, rfl, _⟩ := h; rfl
  · obtain ⟨p, c, b, ns, ts, rfl, PA, hc, S, q⟩ := h
    have hu := hu_of hr
    refine ⟨_, (pss_cons (ps_set (i := 2) sc_check_ones.nd rfl (Or.inl rfl) (pe_mcal0 m_sides (hr.mono (by omega)) (pv 0)))
      (pss_one (ps_if (pt_not (PW.pt (pw_and (pt_val (pe_cal c_are_sides (hr.mono (by omega)) rfl (pa_cons (pv 2) (pa_cons (pv 1) pa_nil)))) (pw_and1 (pt_cmpR op_lt (pe_callB call_len_seq rfl B.len hb_len (pa_cons (pv 1) pa_nil)) (pe_callB call_len_seq rfl B.len hb_len (pa_cons (pv 2) pa_nil)) (nomark _)))))) (pss_one (ps_never)) pss_nil))), ?_⟩
    walk_at "st0"
    obtain ⟨dx, fs, q0, kvs, e1, _, _, _, e5⟩ := PA.ex
    refine ⟨p, dx, fs, rfl, e1, e5 "sides" (by decide) (by decide), ?_⟩
    walk_at "st"
    refine ⟨p, b, rfl, PA, fun v H1 s1 hv => ?_⟩
    obtain ⟨l, ns', rfl, nl, el, asc, mem⟩ := hv
    obtain rfl : ns' = ns := asc_eq asc S.asc fun k => (mem k).trans (S.mem k).symm
    have l1 := S.l1
    have lt := S.lt
    have l4 := S.l4
    have hc1 := s1.seq hc
    walk_at "st"
    refine ⟨l, c, ns', ts, rfl, SqL.of el, hc1, fun x hx => S.sub.subset hx, asc.sublist S.sub, l1, by omega, l4, fun H2 s2 => ?_⟩
    refine ⟨true, rfl, iteT ?_⟩
    walk_at "st"
    refine ⟨c, _, rfl, .inl (s2.seq hc1), ?_⟩
    walk_at "st"
    refine ⟨l, _, rfl, .inl (SqL.of (s2 _ _ el)), ?_⟩
    walk_at "st"
    rw [decide_eq_true (by rw [List.length_map, List.length_map]; omega)]
    refine iteF ?_
    exact q _ (s1.trans s2)))) only [↓Hk.hold_s]
theorem inV_ints (z : Int) (ts : List Int) : inV (.int z) (ts.map V.int) = decide (z ∈ ts) := by
  unfold inV
  rw [List.any_map]
  induction ts with
  | nil => rfl
  | cons a r ih =>
    rw [List.any_cons, ih]
    by_cases h : z = a
    · subst h; simp [eqV]
    · have : a ≠ z := fun e => h e.symm
      simp [eqV, h, this]
def spEyesOf (K : PySem.W.Frag) (C : Addr) : Sp := fun vs H Q _ => ∃ (p c : Addr) (b : BD) (ns ts : List Int), vs = [.ref p, .ref c, .non] ∧ PartsAt K C H p b ∧ SqL K H c (ts.map V.int) ∧ SdOk b ns ts ∧ ∀ (l : Addr) (es : List Int) (H' : Hp), Same H H' → H l = none → H' l = some (.lst (es.map V.int)) → es.length ≤ 4 → (∀ k, k ∈ es ↔ k ∈ ns ∧ k ∉ ts) → Q (.ref l) H'
theorem ok_eyes_of (B : Bl mg) (m_sides : MCal P w K mg base 1 C "sides" ["self"] (spGet K C IsSides)) (c_are_sides : Cal P w K mg base 2 "are_sides" ["sides", "thing"] (spAreSides K)) (d : DefAt K mg "eyes_of" s_eyes_of ["build", "ones", "eyes"]) :
    Cal P w K mg base 3 "eyes_of" ["build", "ones", "eyes"] (spEyesOf K C) := by
 refine Hk.hold ?_
 simp (disch := with_unfolding_all (
 exact Hk.disch (d.cal fun f fd F => by
  refine F.ok sc_eyes_of (fun vs H Q E h => ?_) (fun cdv A outer s H vs Q E hr h => ?_)
  · obtain ⟨p, c, b, ns, ts, rfl, _⟩ := h; rfl
  · obtain ⟨p, c, b, ns, ts, rfl, PA, hc, S, q⟩ := h
    have hu := hu_of hr
    refine ⟨_, (pss_cons (ps_setLc (i := 3) (own := [("side", 4)]) rfl sc_eyes_of.nd rfl rfl (sw_true rfl rfl rfl (by decide +kernel)) (pi_list (pe_mcal0 m_sides (hr.mono (by omega)) (pv 0))) (blkOk_by (N := ["build", "ones", "eyes", "others", "side"]) (sc := defScope s_eyes_of) (by decide +kernel)) (fun _ _ _ _ _ => (pg_name (i := 4) sc_eyes_of.nd rfl (Or.inl rfl))) (fun _ _ _ _ _ => (pts_one (pt_cmpR ((show OpR _ _ (rIn K true) from op_notIn_seq)) (pv 4) (pv 1) (by with_unfolding_all rfl)))) (fun _ _ _ _ _ => (pv 4)))
      (pss_cons (ps_if (pt_not (PW.pt (pw_or (pt_cmp (pc_isN (pv 2))) (pw_or1 (pt_val (pe_cal c_are_sides (hr.mono (by omega)) rfl (pa_cons (pv 3) (pa_cons (pv 2) pa_nil)))))))) (pss_one (ps_never)) pss_nil)
      (pss_one (ps_ret (pe_ifExp (pt_cmp (pc_isN (pv 2))) (pv 3) (pv 2)))))), ?_⟩
    walk_at "st0"
    refine q_lcI ?_
    walk_at "st"
    obtain ⟨dx, fs, q0, kvs, e1, _, _, _, e5⟩ := PA.ex
    refine ⟨p, dx, fs, rfl, e1, e5 "sides" (by decide) (by decide), ?_⟩
    walk_at "st"
    refine ⟨p, b, rfl, PA, fun v H1 s1 hv => ?_⟩
    obtain ⟨l, ns', rfl, nl, el, asc, mem⟩ := hv
    obtain rfl : ns' = ns := asc_eq asc S.asc fun k => (mem k).trans (S.mem k).symm
    have l4 := S.l4
    refine ⟨l, rfl, ⟨_, SqL.of el⟩, fun X nX => lc_keep (n := (ns'.map V.int).length) walk_list (fun i => !inV (.int (ns'.getD i 0)) (ts.map V.int)) (fun i => V.int (ns'.getD i 0)) nX (sz1000 (by rw [List.length_map]; omega)) (fun H2 s => s.seq (SqL.of el)) yat_same ?_ ?_⟩
    · rintro i x Hq H6 lt s ⟨rfl, e⟩ Q' kk
      rw [List.getElem?_map] at e
      obtain ⟨z, ez, rfl⟩ := Option.map_eq_some_iff.mp e
      have ed : ns'.getD i 0 = z := by rw [List.getD_eq_getElem?_getD, ez]; rfl
      rw [ed] at kk
      refine q_gname ?_
      refine ⟨rfl, ?_⟩
      walk_at "st"
      refine ⟨c, ts.map V.int, rfl, .inl ((s1.trans s).seq hc), rfl, by simp [flatV], ?_⟩
      refine ⟨_, rfl, ?_⟩
      refine kk _ _ (Same.refl _) (by rfl) fun H9 Q2 s9 _ k2 => ?_
      walk_at "st"
      exact k2 _ (Same.refl _)
    · intro H4 s4 eX
      walk_at "st"
      rw [decide_eq_true rfl]
      refine iteT ?_
      refine iteF ?_
      walk_at "st"
      rw [decide_eq_true rfl]
      refine iteT ?_
      walk_at "st"
      refine q X (((List.range (ns'.map V.int).length).filter fun i => !inV (.int (ns'.getD i 0)) (ts.map V.int)).map fun i => ns'.getD i 0) H4 (s1.trans s4) (s1.free nX) (by rw [eX, List.map_map]; rfl) ?_ ?_
      rotate_left
      · intro k
        rw [List.mem_map]
        constructor
        · rintro ⟨i, hi, rfl⟩
          obtain ⟨h1, h2⟩ := List.mem_filter.mp hi
          rw [inV_ints] at h2
          have hl : i < ns'.length := by have z := List.mem_range.mp h1; rwa [List.length_map] at z
          have eg : ns'.getD i 0 = ns'[i] := by rw [List.getD_eq_getElem?_getD, List.getElem?_eq_getElem hl]; rfl
          rw [eg] at h2 ⊢
          exact ⟨List.getElem_mem hl, by simpa using h2⟩
        · rintro ⟨h1, h2⟩
          obtain ⟨i, hl, rfl⟩ := List.getElem_of_mem h1
          have eg : ns'.getD i 0 = ns'[i] := by rw [List.getD_eq_getElem?_getD, List.getElem?_eq_getElem hl]; rfl
          refine ⟨i, List.mem_filter.mpr ⟨List.mem_range.mpr (by rw [List.length_map]; exact hl), ?_⟩, eg⟩
          rw [inV_ints, eg]
          simpa using h2
      rw [List.length_map]
      refine Nat.le_trans (List.length_filter_le _ _) ?_
      rw [List.length_range, List.length_map]
      exact l4))) only [↓Hk.hold_s]
end
end T
namespace T
section
variable {P : Program} {w : World} {K : PySem.W.Frag} {mg : Str → Option Value} {base : Heap} {C CR CRo : Addr}
theorem ints_inv {H : Hp} : ∀ {xs : List V} {sds : List Int}, DpAll K H xs (sds.map .int) → xs = sds.map V.int
  | [], [], _ => rfl
  | _ :: _, [], h => by cases h
  | [], _ :: _, h => by cases h
  | x :: r, z :: t, h => by
    cases h with
    | cons h1 h2 =>
      cases h1
      rw [ints_inv h2]; rfl
theorem q_catA {a b : Addr} {xs ys : List V} {H : Hp} {Q : VK} (ha : SqT K H a xs) (hb : SqT K H b ys) (few : xs.length + ys.length ≤ sizeLine) (k : ∀ p H', Same H H' → SqT K H' p (xs ++ ys) → Q (.ref p) H') : rCatA K (.ref a) (.ref b) H Q := by
  refine ⟨a, b, xs, ys, rfl, rfl, ha, hb, few, fun e => k _ _ (Same.refl _) (by rw [e]; exact hb), fun _ e => k _ _ (Same.refl _) (by rw [e, List.append_nil]; exact ha), fun _ _ p np => k _ _ (same_new np) (SqT.of upd_same)⟩
structure RoCls (K : PySem.W.Frag) (CRo : Addr) : Prop where
  cls : Cls K CRo
  n_ones : NoAttr K CRo "ones"
  n_eyes : NoAttr K CRo "eyes"
  n_thirds : NoAttr K CRo "thirds"
  n_doors : NoAttr K CRo "doors"
/-- the tasks whose sides are of ts -/
def oneL (b : BD) (ts : List Int) : List Nat := (List.range (sidesOf b).length).filter fun i => decide ((sidesOf b).getD i 0 ∈ ts)
/-- an object of Roles: its ones and its eyes -/
def RoAt (K : PySem.W.Frag) (CRo : Addr) (H : Hp) (x : Addr) (os es : List Nat) : Prop := ∃ (dx q1 q2 : Addr) (fs : List (Str × V)), H x = some (.ins CRo dx fs) ∧ fs.lookup ("ones" : Str) = some (.ref q1) ∧ fs.lookup ("eyes" : Str) = some (.ref q2) ∧ SqT K H q1 (os.map fun (i : Nat) => V.int i) ∧ SqT K H q2 (es.map fun (i : Nat) => V.int i)
theorem RoAt.mono {CRo : Addr} {H H' : Hp} {x : Addr} {os es : List Nat} (h : RoAt K CRo H x os es) (s : Same H H') : RoAt K CRo H' x os es := by
  obtain ⟨dx, q1, q2, fs, a, b, c, d, e⟩ := h
  exact ⟨dx, q1, q2, fs, s _ _ a, b, c, Same.sqT s d, Same.sqT s e⟩
theorem oneL_of {b : BD} {ts : List Int} {sds : List Int} (e : sds = sidesOf b) : ((List.range (sds.map V.int).length).filter fun i => inV (.int (sds.getD i 0)) (ts.map V.int)).map (fun i => V.int ((i : Nat) : Int)) = (oneL b ts).map fun (i : Nat) => V.int i := by
  subst e
  rw [List.length_map]
  unfold oneL
  congr 1
  exact List.filter_congr fun i _ => inV_ints _ _
/-- a new object of Roles -/
def spRolesInit (K : PySem.W.Frag) (C CR CRo : Addr) : Sp := fun vs H Q _ => ∃ (x dx p c e d : Addr) (b : BD) (ts es : List Int), vs = [.ref x, .ref p, .ref c, .ref e, .ref d] ∧ H x = some (.ins CRo dx []) ∧ BuildAt K C CR H p b ∧ p ≠ x ∧ SqL K H c (ts.map V.int) ∧ SqL K H e (es.map V.int) ∧ SqL K H d [] ∧ ts.length ≤ 4 ∧ es.length ≤ 4 ∧
  ∀ H', But x H H' → RoAt K CRo H' x (oneL b ts) (oneL b es) → Q .non H'
theorem ok_Roles (B : Bl mg) (T : BCls K C) (R : RCls K CR) (XR : RoCls K CRo) (g_enum : mg "enumerate" = none) : ∀ f fd, Fun K "__init__" "Roles.__init__" s_Roles___init__ f fd → FnOk P w K mg base CX0 1 f fd ["self", "build", "ones", "eyes", "doors"] (spRolesInit K C CR CRo) := by
 refine Hk.hold ?_
 simp (disch := with_unfolding_all (
 exact Hk.disch (fun f fd F => by
  refine F.ok sc_Roles___init__ (fun vs H Q E h => ?_) (fun cdv A outer s H vs Q E hr h => ?_)
  · obtain ⟨x, dx, p, c, e, d, b, ts, es, rfl, _⟩ := h; rfl
  · obtain ⟨x, dx, p, c, e, d, b, ts, es, rfl, ex, BA, npx, hc, he, hd, l4, e4, q⟩ := h
    have hu := hu_of hr
    refine ⟨_, (pss_cons (ps_set (i := 5) sc_Roles___init__.nd rfl (Or.inl rfl) (pe_fld (pe_fld (pv 1) rfl) rfl))
      (pss_cons (ps_fld (pv 0) (pe_callTy call_tuple_of rfl B.tuple_ hb_tuple (pa_cons (pe_lc (own := [("task", 7), ("side", 8)]) rfl sc_Roles___init__.nd (pi_enumT rfl g_enum (pa_cons (pv 5) pa_nil)) (blkOk_by (N := ["self", "build", "ones", "eyes", "doors", "side_of", "both", "task", "side"]) (sc := defScope s_Roles___init__) (by decide +kernel)) (fun _ _ _ _ _ => (show PG _ _ (gTup K 2 _) from pg_tup rfl (pgs_cons (pg_name (i := 7) sc_Roles___init__.nd rfl (Or.inl rfl)) (pgs_cons (pg_name (i := 8) sc_Roles___init__.nd rfl (Or.inl rfl)) pgs_nil)))) (fun _ _ _ _ _ => (pts_one (pt_cmpR ((show OpR _ _ (rIn K false) from op_in_seq)) (pv 8) (pv 2) (by with_unfolding_all rfl)))) (fun _ _ _ _ _ => (pv 7))) pa_nil)) rfl)
      (pss_cons (ps_fld (pv 0) (pe_callTy call_tuple_of rfl B.tuple_ hb_tuple (pa_cons (pe_lc (own := [("task", 7), ("side", 8)]) rfl sc_Roles___init__.nd (pi_enumT rfl g_enum (pa_cons (pv 5) pa_nil)) (blkOk_by (N := ["self", "build", "ones", "eyes", "doors", "side_of", "both", "task", "side"]) (sc := defScope s_Roles___init__) (by decide +kernel)) (fun _ _ _ _ _ => (show PG _ _ (gTup K 2 _) from pg_tup rfl (pgs_cons (pg_name (i := 7) sc_Roles___init__.nd rfl (Or.inl rfl)) (pgs_cons (pg_name (i := 8) sc_Roles___init__.nd rfl (Or.inl rfl)) pgs_nil)))) (fun _ _ _ _ _ => (pts_one (pt_cmpR ((show OpR _ _ (rIn K false) from op_in_seq)) (pv 8) (pv 3) (by with_unfolding_all rfl)))) (fun _ _ _ _ _ => (pv 7))) pa_nil)) rfl)
      (pss_cons (ps_set (i := 6) sc_Roles___init__.nd rfl (Or.inr rfl) (pe_op op_catA (pe_fld (pv 0) rfl) (pe_fld (pv 0) rfl)))
      (pss_cons (ps_fld (pv 0) (pe_callTy call_tuple_of rfl B.tuple_ hb_tuple (pa_cons (pe_lc (own := [("task", 7)]) rfl sc_Roles___init__.nd (pi_range1 rfl B.range (pa_cons (pe_callB call_len_seq rfl B.len hb_len (pa_cons (pv 5) pa_nil)) pa_nil)) (blkOk_by (N := ["self", "build", "ones", "eyes", "doors", "side_of", "both", "task", "side"]) (sc := defScope s_Roles___init__) (by decide +kernel)) (fun _ _ _ _ _ => (pg_name (i := 7) sc_Roles___init__.nd rfl (Or.inl rfl))) (fun _ _ _ _ _ => (pts_one (pt_cmpR ((show OpR _ _ (rIn K true) from op_notIn_seq)) (pv 7) (pv 6) (by with_unfolding_all rfl)))) (fun _ _ _ _ _ => (pv 7))) pa_nil)) rfl)
      (pss_one (ps_fld (pv 0) (pe_callTy call_tuple_of rfl B.tuple_ hb_tuple (pa_cons (pv 4) pa_nil)) rfl))))))), ?_⟩
    obtain ⟨PAb, dxb, fsb, r, eb, eru, RA⟩ := BA
    obtain ⟨dxr, fsr, vso, er, els, dso⟩ := RA.get .side_of
    obtain ⟨tds, et, t2, t4, _⟩ := okTasksL PAb.ok.tasks
    obtain ⟨ar, sds, rfl, SO, lsd, esd⟩ : ∃ (ar : Addr) (sds : List Int), vso = .ref ar ∧ SqT K H ar (sds.map V.int) ∧ sds.length ≤ 4 ∧ sds = sidesOf b := by
      have z : Dp K H vso (.tuple (((dl b.tasks).map sideD).map .int)) := by rw [List.map_map]; exact dso
      cases z with
      | tup h1 h2 =>
        have e := ints_inv h2
        subst e
        exact ⟨_, _, rfl, h1, by rw [List.length_map, et]; exact t4, by unfold sidesOf; rw [et]; rfl⟩
    walk_at "st0"
    refine ⟨p, C, dxb, fsb, _, rfl, eb, T.cls, T.n_rules, eru, r, CR, dxr, fsr, _, rfl, er, R.cls, R.no _ (by decide +kernel), els, ?_⟩
    walk_at "st"
    refine q_lcT ?_
    walk_at "st"
    refine ⟨ar, _, rfl, SO, fun X1 nX1 => lc_keep walk_enumT (fun i => inV (.int (sds.getD i 0)) (ts.map V.int)) (fun i => .int (i : Nat)) nX1 (sz1000 (by rw [List.length_map]; omega)) (fun H2 s => Same.sqT s SO) ypair_same ?_ ?_⟩
    · rintro i x0 H2 H3 lt s1 ⟨t, z0, z1, rfl, nt, rfl, e0, e1⟩ Q' k
      cases e0
      replace e1 : (sds.map V.int)[i]? = some z1 := e1
      rw [List.getElem?_map] at e1
      obtain ⟨sd, g1, rfl⟩ := Option.map_eq_some_iff.mp e1
      have m2 := s1.trans (same_new (o := .tup [V.int (i : Nat), V.int sd]) nt)
      refine ⟨t, _, rfl, SqT.of upd_same, rfl, _, _, rfl, _, _, rfl, rfl, rfl, ?_⟩
      walk_at "st"
      have egd : sds.getD i 0 = sd := by rw [List.getD_eq_getElem?_getD, g1]; rfl
      rw [egd] at k
      refine ⟨c, ts.map V.int, rfl, .inl (m2.seq hc), rfl, by simp [flatV], ?_⟩
      refine ⟨_, rfl, ?_⟩
      refine k _ _ (Same.refl _) (by rfl) fun H4 Q2 s4 _ kk => ?_
      walk_at "st"
      exact kk _ (Same.refl _)
    intro HA1 sA1 eA1
    have hl1' := oneL_of (b := b) (ts := ts) esd
    walk_at "st"
    refine ⟨X1, _, rfl, .inl ⟨SqL.of eA1, fun q1 nq1 => ?_⟩⟩
    generalize hl1 : ((List.range (sds.map V.int).length).filter fun i => inV (.int (sds.getD i 0)) (ts.map V.int)).map (fun i => V.int ((i : Nat) : Int)) = l1 at *
    have ln1 : l1.length ≤ 4 ∧ l1.all flatV = true := by
      rw [← hl1]
      refine ⟨?_, by simp [flatV]⟩
      rw [List.length_map]
      refine Nat.le_trans (List.length_filter_le _ _) ?_
      rw [List.length_range, List.length_map]
      omega
    have sT1 := sA1.trans (same_new (o := .tup l1) nq1)
    have T1 : SqT K (upd HA1 q1 (.tup l1)) q1 l1 := SqT.of upd_same
    generalize upd HA1 q1 (.tup l1) = HB at *
    walk_at "st"
    refine ⟨x, CRo, dx, [], rfl, sT1 _ _ ex, XR.cls, XR.n_ones, by decide, ?_⟩
    have bt5 : But x HB (upd HB x (.ins CRo dx (putF "ones" (.ref q1) []))) := But.put
    have e5 : upd HB x (.ins CRo dx (putF "ones" (.ref q1) [])) x = some (.ins CRo dx [("ones", .ref q1)]) := upd_same
    generalize upd HB x (.ins CRo dx (putF "ones" (.ref q1) [])) = H5 at *
    have k5 := But.keep (sT1 _ _ ex) bt5
    have T5 := k5.sqT T1
    have b5 : But x H H5 := (But.same sT1).trans bt5
    have kk5 := But.keep ex b5
    have SO5 := kk5.sqT SO
    have he5 := kk5.sqL he
    have hd5 := kk5.sqL hd
    clear bt5 k5 T1 sT1 sA1 eA1 hl1
    walk_at "st"
    refine q_lcT ?_
    walk_at "st"
    refine ⟨ar, _, rfl, SO5, fun X2 nX2 => lc_keep walk_enumT (fun i => inV (.int (sds.getD i 0)) (es.map V.int)) (fun i => .int (i : Nat)) nX2 (sz1000 (by rw [List.length_map]; omega)) (fun H2 s => Same.sqT s SO5) ypair_same ?_ ?_⟩
    · rintro i x0 H2 H3 lt s1 ⟨t, z0, z1, rfl, nt, rfl, e0, e1⟩ Q' k
      cases e0
      replace e1 : (sds.map V.int)[i]? = some z1 := e1
      rw [List.getElem?_map] at e1
      obtain ⟨sd, g1, rfl⟩ := Option.map_eq_some_iff.mp e1
      have m2 := s1.trans (same_new (o := .tup [V.int (i : Nat), V.int sd]) nt)
      refine ⟨t, _, rfl, SqT.of upd_same, rfl, _, _, rfl, _, _, rfl, rfl, rfl, ?_⟩
      walk_at "st"
      have egd : sds.getD i 0 = sd := by rw [List.getD_eq_getElem?_getD, g1]; rfl
      rw [egd] at k
      refine ⟨e, es.map V.int, rfl, .inl (m2.seq he5), rfl, by simp [flatV], ?_⟩
      refine ⟨_, rfl, ?_⟩
      refine k _ _ (Same.refl _) (by rfl) fun H4 Q2 s4 _ kk => ?_
      walk_at "st"
      exact kk _ (Same.refl _)
    intro HA2 sA2 eA2
    have hl2' := oneL_of (b := b) (ts := es) esd
    walk_at "st"
    refine ⟨X2, _, rfl, .inl ⟨SqL.of eA2, fun q2 nq2 => ?_⟩⟩
    generalize hl2 : ((List.range (sds.map V.int).length).filter fun i => inV (.int (sds.getD i 0)) (es.map V.int)).map (fun i => V.int ((i : Nat) : Int)) = l2 at *
    have ln2 : l2.length ≤ 4 ∧ l2.all flatV = true := by
      rw [← hl2]
      refine ⟨?_, by simp [flatV]⟩
      rw [List.length_map]
      refine Nat.le_trans (List.length_filter_le _ _) ?_
      rw [List.length_range, List.length_map]
      omega
    have sT2 := sA2.trans (same_new (o := .tup l2) nq2)
    have T6 : SqT K (upd HA2 q2 (.tup l2)) q2 l2 := SqT.of upd_same
    generalize upd HA2 q2 (.tup l2) = HC at *
    walk_at "st"
    refine ⟨x, CRo, dx, _, rfl, sT2 _ _ e5, XR.cls, XR.n_eyes, by show 1 < 1000; decide, ?_⟩
    have bt7 : But x HC (upd HC x (.ins CRo dx (putF "eyes" (.ref q2) [("ones", .ref q1)]))) := But.put
    have e7 : upd HC x (.ins CRo dx (putF "eyes" (.ref q2) [("ones", .ref q1)])) x = some (.ins CRo dx [("ones", .ref q1), ("eyes", .ref q2)]) := upd_same
    generalize upd HC x (.ins CRo dx (putF "eyes" (.ref q2) [("ones", .ref q1)])) = H7 at *
    have k7 := But.keep (sT2 _ _ e5) bt7
    have T7 := k7.sqT T6
    have T8 := k7.sqT (Same.sqT sT2 T5)
    have b7 : But x H H7 := b5.trans ((But.same sT2).trans bt7)
    have kk7 := But.keep ex b7
    have SO7 := kk7.sqT SO
    have hd7 := kk7.sqL hd
    clear bt7 k7 T6 sT2 sA2 eA2 hl2 SO5 he5 hd5
    walk_at "st"
    refine ⟨x, CRo, dx, _, _, rfl, e7, XR.cls, XR.n_ones, rfl, ?_⟩
    walk_at "st"
    refine ⟨x, CRo, dx, _, _, rfl, e7, XR.cls, XR.n_eyes, rfl, ?_⟩
    refine q_catA T8 T7 (Nat.le_of_lt (sz1000 (by omega))) fun bo H8 s8 TB => ?_
    walk_at "st"
    refine q_lcR ?_
    walk_at "st"
    have SO8 := Same.sqT s8 SO7
    refine ⟨ar, _, rfl, .inr SO8, ?_⟩
    rw [List.length_map]
    refine ⟨sds.length, rfl, by omega, by omega, ?_⟩
    rw [Int.toNat_natCast]
    refine fun X3 nX3 => lc_keep walk_range (fun i => !inV (.int (0 + (i : Nat))) (l1 ++ l2)) (fun i => .int (0 + (i : Nat))) nX3 (sz1000 (by omega)) (fun H2 s => trivial) yfn_same ?_ ?_
    · rintro i x0 H2 H3 lt s1 ⟨rfl, rfl⟩ Q' k
      refine q_gname ?_
      refine ⟨rfl, ?_⟩
      walk_at "st"
      refine ⟨bo, l1 ++ l2, rfl, .inr (Same.sqT s1 TB), rfl, by rw [List.all_append, ln1.2, ln2.2]; rfl, ?_⟩
      refine ⟨_, rfl, ?_⟩
      refine k _ _ (Same.refl _) (by rfl) fun H4 Q2 s4 _ kk => ?_
      walk_at "st"
      exact kk _ (Same.refl _)
    intro HA3 sA3 eA3
    walk_at "st"
    refine ⟨X3, _, rfl, .inl ⟨SqL.of eA3, fun q3 nq3 => ?_⟩⟩
    have sT3 := (s8.trans sA3).trans (same_new (o := .tup (((List.range sds.length).filter fun i => !inV (.int (0 + (i : Nat))) (l1 ++ l2)).map fun i => V.int (0 + (i : Nat)))) nq3)
    generalize upd HA3 q3 (.tup (((List.range sds.length).filter fun i => !inV (.int (0 + (i : Nat))) (l1 ++ l2)).map fun i => V.int (0 + (i : Nat)))) = HD at *
    walk_at "st"
    refine ⟨x, CRo, dx, _, rfl, sT3 _ _ e7, XR.cls, XR.n_thirds, by show 2 < 1000; decide, ?_⟩
    have bt9 : But x HD (upd HD x (.ins CRo dx (putF "thirds" (.ref q3) [("ones", .ref q1), ("eyes", .ref q2)]))) := But.put
    have e9 : upd HD x (.ins CRo dx (putF "thirds" (.ref q3) [("ones", .ref q1), ("eyes", .ref q2)])) x = some (.ins CRo dx [("ones", .ref q1), ("eyes", .ref q2), ("thirds", .ref q3)]) := upd_same
    generalize upd HD x (.ins CRo dx (putF "thirds" (.ref q3) [("ones", .ref q1), ("eyes", .ref q2)])) = H9 at *
    have b9 : But x H H9 := b7.trans ((But.same sT3).trans bt9)
    have hd9 := (But.keep ex b9).sqL hd
    walk_at "st"
    refine ⟨d, _, rfl, .inl ⟨hd9, fun q4 nq4 => ?_⟩⟩
    have s10 := same_new (o := .tup []) nq4
    have k9 := But.keep (sT3 _ _ e7) bt9
    have T7z : SqT K (upd H9 q4 (.tup [])) q2 l2 := Same.sqT s10 (k9.sqT (Same.sqT sT3 T7))
    have T8z : SqT K (upd H9 q4 (.tup [])) q1 l1 := Same.sqT s10 (k9.sqT (Same.sqT sT3 T8))
    have e10 := s10 _ _ e9
    generalize upd H9 q4 (.tup []) = H10 at *
    walk_at "st"
    refine ⟨x, CRo, dx, _, rfl, e10, XR.cls, XR.n_doors, by show 3 < 1000; decide, ?_⟩
    have k10 := But.keep e10 (But.put (H := H10) (o := .ins CRo dx (putF "doors" (.ref q4) [("ones", .ref q1), ("eyes", .ref q2), ("thirds", .ref q3)])))
    refine q _ (b9.trans ((But.same s10).trans But.put)) ⟨dx, q1, q2, _, upd_same, rfl, rfl, ?_, ?_⟩
    · have z := k10.sqT T8z
      rw [← hl1']; exact z
    · have z := k10.sqT T7z
      rw [← hl2']; exact z))) only [↓Hk.hold_s]
end
end T
namespace T
section
variable {P : Program} {w : World} {K : PySem.W.Frag} {mg : Str → Option Value} {base : Heap} {C CR CRo : Addr}
/-- the tasks whose sides are not of ts -/
def eyeL (b : BD) (ts : List Int) : List Nat := (List.range (sidesOf b).length).filter fun i => decide ((sidesOf b).getD i 0 ∉ ts)
theorem eyeL_of {b : BD} {ns ts es : List Int} (mem : ∀ k, k ∈ ns ↔ k ∈ sidesOf b) (me : ∀ k, k ∈ es ↔ k ∈ ns ∧ k ∉ ts) : oneL b es = eyeL b ts := by
  unfold oneL eyeL
  refine List.filter_congr fun i hi => ?_
  have hl := List.mem_range.mp hi
  have eg : (sidesOf b).getD i 0 = (sidesOf b)[i] := by rw [List.getD_eq_getElem?_getD, List.getElem?_eq_getElem hl]; rfl
  have h := me ((sidesOf b)[i])
  have h2 : (sidesOf b)[i] ∈ ns := (mem _).mpr (List.getElem_mem hl)
  rw [eg]
  exact decide_eq_decide.mpr ⟨fun z => (h.mp z).2, fun z => h.mpr ⟨h2, z⟩⟩
def spRolesOf (K : PySem.W.Frag) (C CR CRo : Addr) : Sp := fun vs H Q _ => ∃ (p c : Addr) (b : BD) (ns ts : List Int), vs = [.ref p, .ref c, .non] ∧ BuildAt K C CR H p b ∧ SqL K H c (ts.map V.int) ∧ SdOk b ns ts ∧ ∀ x H', Same H H' → RoAt K CRo H' x (oneL b ts) (eyeL b ts) → Q (.ref x) H'
theorem ok_roles_of (B : Bl mg) (c_check_ones : Cal P w K mg base 3 "check_ones" ["build", "ones"] (spCheckOnes K C)) (c_eyes_of : Cal P w K mg base 3 "eyes_of" ["build", "ones", "eyes"] (spEyesOf K C)) (c_Roles : MkCal P w K mg base 1 CRo "Roles" ["self", "build", "ones", "eyes", "doors"] (spRolesInit K C CR CRo)) (d : DefAt K mg "roles_of" s_roles_of ["build", "ones", "eyes"]) :
    Cal P w K mg base 4 "roles_of" ["build", "ones", "eyes"] (spRolesOf K C CR CRo) := by
 refine Hk.hold ?_
 simp (disch := with_unfolding_all (
 exact Hk.disch (d.cal fun f fd F => by
  refine F.ok sc_roles_of (fun vs H Q E h => ?_) (fun cdv A outer s H vs Q E hr h => ?_)
  · obtain ⟨p, c, b, ns, ts, rfl, _⟩ := h; rfl
  · obtain ⟨p, c, b, ns, ts, rfl, BA, hc, S, q⟩ := h
    have hu := hu_of hr
    refine ⟨_, (pss_cons (ps_expr (pe_cal c_check_ones (hr.mono (by omega)) rfl (pa_cons (pv 0) (pa_cons (pv 1) pa_nil))))
      (pss_one (ps_ret (pe_mk c_Roles (hr.mono (by omega)) rfl (pa_cons (pv 0) (pa_cons (pv 1) (pa_cons (pe_cal c_eyes_of (hr.mono (by omega)) rfl (pa_cons (pv 0) (pa_cons (pv 1) (pa_cons (pv 2) pa_nil)))) (pa_cons (pe_lst pa_nil) pa_nil)))))))), ?_⟩
    walk_at "st0"
    refine ⟨p, c, b, ns, ts, rfl, BA.1, hc, S, fun H1 s1 => ?_⟩
    have BA1 := BA.mono s1
    have hc1 := s1.seq hc
    walk_at "st"
    refine ⟨p, c, b, ns, ts, rfl, BA1.1, hc1, S, fun l es H2 s2 nl el l4 me => ?_⟩
    have BA2 := BA1.mono s2
    have hc2 := s2.seq hc1
    walk_at "st"
    refine ⟨by show 0 ≤ sizeLine; decide, fun d nd => ?_⟩
    have s3 := same_new (o := .lst []) nd
    have ed : upd H2 d (.lst []) d = some (.lst []) := upd_same
    generalize upd H2 d (.lst []) = H3 at *
    walk_at "st"
    intro x dx nx ndx ne
    have s4 : Same H3 (upd (upd H3 dx (.own x)) x (.ins CRo dx [])) := (same_new ndx).trans (same_new (by rw [upd_ne (Ne.symm ne)]; exact nx))
    have s14 := (s1.trans s2).trans s3
    have BA3 := (BA2.mono s3)
    have npx : p ≠ x := fun z => by
      obtain ⟨_, dxb, fsb, r, eb, _⟩ := BA3
      rw [z, nx] at eb
      cases eb
    have lt := S.lt
    have l4' := S.l4
    refine ⟨x, dx, p, c, l, d, b, ts, es, rfl, upd_same, BA3.mono s4, npx, (s3.trans s4).seq hc2, SqL.of ((s3.trans s4) _ _ el), SqL.of (s4 _ _ ed), by omega, l4, fun H' bt ro => ⟨rfl, q x H' (fun y o hy => ?_) (by rw [← eyeL_of S.mem me]; exact ro)⟩⟩
    exact bt _ _ (s4 _ _ (s14 _ _ hy)) (ne_of_none (s14 _ _ hy) nx)))) only [↓Hk.hold_s]
end
end T
namespace T
section
variable {P : Program} {w : World} {K : PySem.W.Frag} {mg : Str → Option Value} {base : Heap} {C CR CRo tS : Addr}
theorem hu65 {k : Nat} {A : Around} (hr : Room k A) : A.units + 65 < cLine := by have := hr.un; omega
theorem inV_strs (z : Str) (nm : List Str) : inV (.str z) (nm.map V.str) = decide (z ∈ nm) := by
  unfold inV
  rw [List.any_map]
  induction nm with
  | nil => rfl
  | cons a r ih =>
    rw [List.any_cons, ih]
    by_cases h : z = a
    · subst h; simp [eqV]
    · have : a ≠ z := fun e => h e.symm
      simp [eqV, h, this]
theorem q_inSeqS {cn : Addr} {nm : List Str} {z : Str} {H : Hp} {Q : VK} (hn : SqL K H cn (nm.map V.str) ∨ SqT K H cn (nm.map V.str)) (q : Q (.bl (decide (z ∈ nm))) H) : rIn K false (.str z) (.ref cn) H Q := by
  refine ⟨cn, _, rfl, hn, rfl, by simp [flatV], ?_⟩
  show Q (.bl (inV (.str z) (nm.map V.str))) H
  rw [inV_strs]
  exact q
theorem q_inSeqI {cn : Addr} {js : List Int} {z : Int} {H : Hp} {Q : VK} (hn : SqL K H cn (js.map V.int) ∨ SqT K H cn (js.map V.int)) (q : Q (.bl (decide (z ∈ js))) H) : rIn K false (.int z) (.ref cn) H Q := by
  refine ⟨cn, _, rfl, hn, rfl, by simp [flatV], ?_⟩
  show Q (.bl (inV (.int z) (js.map V.int))) H
  rw [inV_ints]
  exact q
theorem q_inRt {x th : V} {p : Rt} {T : List Rt} {H : Hp} {Q : VK} (hx : Dp K H x (rtd p)) (ht : Dp K H th (.list (T.map rtd))) (s1 : PyData.strOk p.1 = true) (s2 : ∀ r ∈ T, PyData.strOk r.1 = true) (q : Q (.bl (decide (p ∈ T))) H) : rInD K x th H Q :=
  ⟨_, _, hx, ht, shaped_rtd s1, (shaped_rtds s2).2, by rw [any_rtd]; exact q⟩
/-- whether a right reaches a task of js with its hands -/
def roB (z : Str) (i : Int) (js : List Int) : Bool := decide (z ∈ (["hand", "strip"] : List Str)) && decide (i ∈ js)
def spRulesOver (K : PySem.W.Frag) : Sp := fun vs H Q _ => ∃ (t q : Addr) (z : Str) (i : Int) (js : List Int), vs = [.ref t, .ref q] ∧ SqT K H t [.str z, .int i] ∧ SqT K H q (js.map V.int) ∧ ∀ H', Same H H' → Q (.bl (roB z i js)) H'
theorem ok_rules_over (B : Bl mg) (d : DefAt K mg "rules_over" s_rules_over ["right", "tasks"]) : Cal P w K mg base 1 "rules_over" ["right", "tasks"] (spRulesOver K) := by
 refine Hk.hold ?_
 simp (disch := with_unfolding_all (
 exact Hk.disch (d.cal fun f fd F => by
  refine F.ok sc_rules_over (fun vs H Q E h => ?_) (fun cdv A outer s H vs Q E hr h => ?_)
  · obtain ⟨t, q0, z, i, js, rfl, _⟩ := h; rfl
  · obtain ⟨t, q0, z, i, js, rfl, ht, hq, q⟩ := h
    have hu := hu_of hr
    refine ⟨_, (pss_one (ps_ret (pe_and (pe_cmpR ((show OpR _ _ (rIn K false) from op_in_seq)) (pe_ix ix_tup (pv 0) pe_int (fun _ _ => rfl)) (pe_tup (pa_cons pe_str (pa_cons pe_str pa_nil))) (by with_unfolding_all rfl)) (pe_one (pe_cmpR ((show OpR _ _ (rIn K false) from op_in_seq)) (pe_ix ix_tup (pv 0) pe_int (fun _ _ => rfl)) (pv 1) (by with_unfolding_all rfl)))))), ?_⟩
    walk_at "st0"
    refine q_ixT ht (atI0 rfl) ?_
    walk_at "st"
    refine ⟨by show 2 ≤ sizeLine; decide, fun tp ntp => ?_⟩
    have s1 := same_new (o := .tup ((["hand", "strip"] : List Str).map V.str)) ntp
    refine q_inSeqS (nm := ["hand", "strip"]) (.inr (SqT.of upd_same)) ?_
    refine ⟨_, rfl, ?_⟩
    by_cases h : z ∈ (["hand", "strip"] : List Str)
    · rw [decide_eq_true h]
      refine iteT ?_
      walk_at "st"
      refine q_ixT (Same.sqT s1 ht) (atI_nat (j := 1) rfl) ?_
      walk_at "st"
      refine q_inSeqI (.inr (Same.sqT s1 hq)) ?_
      have z2 := q _ s1
      unfold roB at z2
      rw [decide_eq_true h, Bool.true_and] at z2
      exact z2
    · rw [decide_eq_false h]
      refine iteF ?_
      have z2 := q _ s1
      unfold roB at z2
      rw [decide_eq_false h, Bool.false_and] at z2
      exact z2))) only [↓Hk.hold_s]
/-- whether a right of the ones is told to the others -/
def reB (z : Str) (i : Int) (T : List Rt) (port : Option Int) (js : List Int) : Bool :=
  if z = "write" then decide ((("read" : Str), i) ∈ T)
  else if z ∈ (["send", "take"] : List Str) then decide (port = some i) || (decide ((("send" : Str), i) ∈ T) || decide ((("take" : Str), i) ∈ T))
  else if z ∈ (["lock", "seek"] : List Str) then decide ((z, i) ∈ T)
  else roB z i js
def portV : Option Int → V
  | none => .non
  | some p => .int p
def spReaches (K : PySem.W.Frag) : Sp := fun vs H Q _ => ∃ (t th q : Addr) (z : Str) (i : Int) (T : List Rt) (port : Option Int) (js : List Int), vs = [.ref t, .ref th, portV port, .ref q] ∧ SqT K H t [.str z, .int i] ∧ PyData.strOk z = true ∧ Dp K H (.ref th) (.list (T.map rtd)) ∧ (∀ r ∈ T, PyData.strOk r.1 = true) ∧ SqT K H q (js.map V.int) ∧ ∀ H', Same H H' → Q (.bl (reB z i T port js)) H'
theorem ok_reaches (B : Bl mg) (c_rules_over : Cal P w K mg base 1 "rules_over" ["right", "tasks"] (spRulesOver K)) (d : DefAt K mg "reaches" s_reaches ["right", "theirs", "port", "others"]) : Cal P w K mg base 2 "reaches" ["right", "theirs", "port", "others"] (spReaches K) := by
 refine Hk.hold ?_
 simp (disch := with_unfolding_all (
 exact Hk.disch (d.cal fun f fd F => by
  refine F.ok sc_reaches (fun vs H Q E h => ?_) (fun cdv A outer s H vs Q E hr h => ?_)
  · obtain ⟨t, th, q0, z, i, T, port, js, rfl, _⟩ := h; rfl
  · obtain ⟨t, th, q0, z, i, T, port, js, rfl, ht, hz, hth, hT, hq, q⟩ := h
    have hu := hu_of hr
    refine ⟨_, (pss_cons (ps_asg (pv 0) (pg_tup rfl (pgs_cons (pg_name (i := 4) sc_reaches.nd rfl (Or.inl rfl)) (pgs_cons (pg_name (i := 5) sc_reaches.nd rfl (Or.inl rfl)) pgs_nil))))
      (pss_cons (ps_if (pt_cmpR op_eq (pv 4) pe_str (nomark _)) (pss_one (ps_ret (pe_cmpR ((op_inD (hu65 hr))) (pe_tup (pa_cons pe_str (pa_cons (pv 5) pa_nil))) (pv 1) (by with_unfolding_all rfl)))) pss_nil)
      (pss_cons (ps_if (pt_cmpR ((show OpR _ _ (rIn K false) from op_in_seq)) (pv 4) (pe_tup (pa_cons pe_str (pa_cons pe_str pa_nil))) (by with_unfolding_all rfl)) (pss_one (ps_ret (pe_or (pe_cmpR op_eq (pv 5) (pv 2) (nomark _)) (pe_or (pe_cmpR ((op_inD (hu65 hr))) (pe_tup (pa_cons pe_str (pa_cons (pv 5) pa_nil))) (pv 1) (by with_unfolding_all rfl)) (pe_one (pe_cmpR ((op_inD (hu65 hr))) (pe_tup (pa_cons pe_str (pa_cons (pv 5) pa_nil))) (pv 1) (by with_unfolding_all rfl))))))) pss_nil)
      (pss_cons (ps_if (pt_cmpR ((show OpR _ _ (rIn K false) from op_in_seq)) (pv 4) (pe_tup (pa_cons pe_str (pa_cons pe_str pa_nil))) (by with_unfolding_all rfl)) (pss_one (ps_ret (pe_cmpR ((op_inD (hu65 hr))) (pv 0) (pv 1) (by with_unfolding_all rfl)))) pss_nil)
      (pss_one (ps_ret (pe_cal c_rules_over (hr.mono (by omega)) rfl (pa_cons (pv 0) (pa_cons (pv 3) pa_nil))))))))), ?_⟩
    walk_at "st0"
    have dS : ∀ (a b : Str), decide (V.str a = V.str b) = decide (a = b) := fun a b => by by_cases e : a = b <;> simp [e]
    have mk : ∀ {y : Str} {H0 : Hp} {tp : Addr}, H0 tp = none → Dp K (upd H0 tp (.tup [V.str y, V.int i])) (.ref tp) (rtd (y, i)) := fun n => .tup (SqT.of upd_same) (.cons (.str _) (.cons (.int _) .nil))
    have dt : Dp K H (.ref t) (rtd (z, i)) := .tup ht (.cons (.str _) (.cons (.int _) .nil))
    refine ⟨t, _, rfl, ht, rfl, _, _, rfl, _, _, rfl, rfl, ?_⟩
    walk_at "st"
    refine ⟨rfl, ?_⟩
    rw [dS]
    refine ⟨_, rfl, ?_⟩
    by_cases h1 : z = ("write" : Str)
    · rw [decide_eq_true h1]
      refine iteT ?_
      walk_at "st"
      refine ⟨by show 2 ≤ sizeLine; decide, fun tp ntp => ?_⟩
      have s1 := same_new (o := .tup [V.str "read", V.int i]) ntp
      walk_at "st"
      refine q_inRt (p := ("read", i)) (mk ntp) (L2.Dp.mono s1 hth) (show PyData.strOk ("read" : Str) = true by decide +kernel) hT ?_
      have z2 := q _ s1
      unfold reB at z2
      rw [if_pos h1] at z2
      exact z2
    rw [decide_eq_false h1]
    refine iteF ?_
    walk_at "st"
    refine ⟨by show 2 ≤ sizeLine; decide, fun tp ntp => ?_⟩
    have s1 := same_new (o := .tup ((["send", "take"] : List Str).map V.str)) ntp
    refine q_inSeqS (nm := ["send", "take"]) (.inr (SqT.of upd_same)) ?_
    change ∃ k, V.bl (decide (z ∈ (["send", "take"] : List Str))) = V.bl k ∧ _
    have eg : upd H tp (.tup [V.str "send", V.str "take"]) = upd H tp (.tup ((["send", "take"] : List Str).map V.str)) := rfl
    rw [eg]
    generalize upd H tp (.tup ((["send", "take"] : List Str).map V.str)) = H1 at *
    refine ⟨_, rfl, ?_⟩
    by_cases h2 : z ∈ (["send", "take"] : List Str)
    · rw [decide_eq_true h2]
      refine iteT ?_
      walk_at "st"
      have ev : reB z i T port js = (decide (port = some i) || (decide ((("send" : Str), i) ∈ T) || decide ((("take" : Str), i) ∈ T))) := by
        unfold reB
        rw [if_neg h1, if_pos h2]
      rw [ev] at q
      refine ⟨by cases port <;> rfl, ?_⟩
      have ep : decide (V.int i = portV port) = decide (port = some i) := by
        cases port with
        | none => simp [portV]
        | some j => by_cases e : i = j <;> simp [portV, e, eq_comm]
      rw [ep]
      refine ⟨_, rfl, ?_⟩
      by_cases h3 : port = some i
      · rw [decide_eq_true h3] at q ⊢
        refine iteT ?_
        exact q _ s1
      rw [decide_eq_false h3] at q ⊢
      refine iteF ?_
      rw [Bool.false_or] at q
      walk_at "st"
      refine ⟨by show 2 ≤ sizeLine; decide, fun t2 nt2 => ?_⟩
      have s2 := s1.trans (same_new (o := .tup [V.str "send", V.int i]) nt2)
      have dt2 : Dp K (upd H1 t2 (.tup [V.str "send", V.int i])) (.ref t2) (rtd ("send", i)) := mk nt2
      generalize upd H1 t2 (.tup [V.str "send", V.int i]) = H2 at *
      walk_at "st"
      refine q_inRt (p := ("send", i)) dt2 (L2.Dp.mono s2 hth) (show PyData.strOk ("send" : Str) = true by decide +kernel) hT ?_
      refine ⟨_, rfl, ?_⟩
      by_cases h4 : (("send" : Str), i) ∈ T
      · rw [decide_eq_true h4] at q ⊢
        refine iteT ?_
        exact q _ s2
      rw [decide_eq_false h4] at q ⊢
      refine iteF ?_
      rw [Bool.false_or] at q
      walk_at "st"
      refine ⟨by show 2 ≤ sizeLine; decide, fun t3 nt3 => ?_⟩
      have s3 := s2.trans (same_new (o := .tup [V.str "take", V.int i]) nt3)
      have dt3 : Dp K (upd H2 t3 (.tup [V.str "take", V.int i])) (.ref t3) (rtd ("take", i)) := mk nt3
      generalize upd H2 t3 (.tup [V.str "take", V.int i]) = H3 at *
      walk_at "st"
      exact q_inRt (p := ("take", i)) dt3 (L2.Dp.mono s3 hth) (show PyData.strOk ("take" : Str) = true by decide +kernel) hT (q _ s3)
    rw [decide_eq_false h2]
    refine iteF ?_
    walk_at "st"
    refine ⟨by show 2 ≤ sizeLine; decide, fun tp ntp => ?_⟩
    have s2 := s1.trans (same_new (o := .tup ((["lock", "seek"] : List Str).map V.str)) ntp)
    refine q_inSeqS (nm := ["lock", "seek"]) (.inr (SqT.of upd_same)) ?_
    change ∃ k, V.bl (decide (z ∈ (["lock", "seek"] : List Str))) = V.bl k ∧ _
    have eg : upd H1 tp (.tup [V.str "lock", V.str "seek"]) = upd H1 tp (.tup ((["lock", "seek"] : List Str).map V.str)) := rfl
    rw [eg]
    generalize upd H1 tp (.tup ((["lock", "seek"] : List Str).map V.str)) = H2 at *
    refine ⟨_, rfl, ?_⟩
    by_cases h3 : z ∈ (["lock", "seek"] : List Str)
    · rw [decide_eq_true h3]
      refine iteT ?_
      have ev : reB z i T port js = decide ((z, i) ∈ T) := by
        unfold reB
        rw [if_neg h1, if_neg h2, if_pos h3]
      rw [ev] at q
      walk_at "st"
      exact q_inRt (p := (z, i)) (L2.Dp.mono s2 dt) (L2.Dp.mono s2 hth) hz hT (q _ s2)
    rw [decide_eq_false h3]
    refine iteF ?_
    have ev : reB z i T port js = roB z i js := by
      unfold reB
      rw [if_neg h1, if_neg h2, if_neg h3]
    rw [ev] at q
    walk_at "st"
    exact ⟨t, q0, z, i, js, rfl, Same.sqT s2 ht, Same.sqT s2 hq, fun H' s' => q _ (s2.trans s')⟩))) only [↓Hk.hold_s]
end
end T
namespace T
section
variable {J J1 : It} {n : Nat} {G : Hp → Prop} {Y : Nat → Hp → V → Hp → Prop}
/-- the outer loop of a comprehension with two fors -/
theorem lc2_it (w : L2.Walk J n G Y) {g g1 : TG} {tt tt1 : TT} {wi1 : TI} {te : TE} {vs vs1 : List Nat} {σ : L2.St} {H1 : Hp} {D : Addr} {Qd : Hp → Prop} (Pv : Nat → Hp → Prop) (h0 : Pv 0 (upd H1 D (.lst []))) (hG : ∀ i H, i ≤ n → Pv i H → G H)
    (hs : ∀ i x H H', i < n → Pv i H → Y i H x H' → g x (wipe σ vs) H' fun σ2 H2 => wipe σ2 vs = wipe σ vs ∧ tt σ2 H2 fun b H3 =>
      if b = true then wi1 σ2 H3 fun J1 H4 => ∃ W1 : Nat → Nat → Hp → Prop, (∃ m, W1 0 m H4) ∧ ∀ j k H, W1 j k H →
        (J1.stop j H ∧ Pv (i + 1) H) ∨ (J1.go j H ∧ ∃ Nx1 : Hp → Prop, (∀ H', Nx1 H' → ∃ k', k' < k ∧ W1 (j + 1) k' H') ∧ ∀ x H', J1.yld j H x H' → g1 x (wipe σ2 vs1) H' fun σ3 H5 => wipe σ3 vs1 = wipe σ2 vs1 ∧ tt1 σ3 H5 fun b H6 =>
          if b = true then te σ3 H6 fun y H7 => ∃ acc, H7 D = some (.lst acc) ∧ acc.length < sizeLine ∧ Nx1 (upd H7 D (.lst (acc ++ [y]))) else Nx1 H6)
      else Pv (i + 1) H3) (hd : ∀ H, Pv n H → Qd H) :
    ∃ W : Nat → Nat → Hp → Prop, (∃ m, W 0 m (upd H1 D (.lst []))) ∧ ∀ i m H, W i m H →
      (J.stop i H ∧ Qd H) ∨ (J.go i H ∧ ∃ Nx : Hp → Prop, (∀ H', Nx H' → ∃ m', m' < m ∧ W (i + 1) m' H') ∧ ∀ x H', J.yld i H x H' → g x (wipe σ vs) H' fun σ2 H2 => wipe σ2 vs = wipe σ vs ∧ tt σ2 H2 fun b H3 =>
        if b = true then wi1 σ2 H3 fun J1 H4 => ∃ W1 : Nat → Nat → Hp → Prop, (∃ m, W1 0 m H4) ∧ ∀ j k H, W1 j k H →
          (J1.stop j H ∧ Nx H) ∨ (J1.go j H ∧ ∃ Nx1 : Hp → Prop, (∀ H', Nx1 H' → ∃ k', k' < k ∧ W1 (j + 1) k' H') ∧ ∀ x H', J1.yld j H x H' → g1 x (wipe σ2 vs1) H' fun σ3 H5 => wipe σ3 vs1 = wipe σ2 vs1 ∧ tt1 σ3 H5 fun b H6 =>
            if b = true then te σ3 H6 fun y H7 => ∃ acc, H7 D = some (.lst acc) ∧ acc.length < sizeLine ∧ Nx1 (upd H7 D (.lst (acc ++ [y]))) else Nx1 H6)
        else Nx H3) := by
  refine ⟨fun i m H => m = n - i ∧ i ≤ n ∧ Pv i H, ⟨n, by simp, Nat.zero_le _, h0⟩, ?_⟩
  rintro i m H ⟨rfl, hi, p⟩
  have q := hG i H hi p
  by_cases hlt : i < n
  · exact .inr ⟨w.goes i H hlt q, Pv (i + 1), fun H' p' => ⟨n - (i + 1), by omega, rfl, hlt, p'⟩, fun x H' y => hs i x H H' hlt p (w.yields i H x H' hlt q y)⟩
  · have e : i = n := by omega
    subst e
    exact .inl ⟨w.stops H q, hd H p⟩
/-- .. the inner one -/
theorem in_it (w : L2.Walk J n G Y) {g1 : TG} {tt1 : TT} {te : TE} {vs1 : List Nat} {σ2 : L2.St} {H4 : Hp} {D : Addr} {Qd : Hp → Prop} (Pv : Nat → Hp → Prop) (h0 : Pv 0 H4) (hG : ∀ i H, i ≤ n → Pv i H → G H)
    (hs : ∀ i x H H', i < n → Pv i H → Y i H x H' → g1 x (wipe σ2 vs1) H' fun σ3 H5 => wipe σ3 vs1 = wipe σ2 vs1 ∧ tt1 σ3 H5 fun b H6 =>
      if b = true then te σ3 H6 fun y H7 => ∃ acc, H7 D = some (.lst acc) ∧ acc.length < sizeLine ∧ Pv (i + 1) (upd H7 D (.lst (acc ++ [y]))) else Pv (i + 1) H6) (hd : ∀ H, Pv n H → Qd H) :
    ∃ W1 : Nat → Nat → Hp → Prop, (∃ m, W1 0 m H4) ∧ ∀ j k H, W1 j k H →
      (J.stop j H ∧ Qd H) ∨ (J.go j H ∧ ∃ Nx1 : Hp → Prop, (∀ H', Nx1 H' → ∃ k', k' < k ∧ W1 (j + 1) k' H') ∧ ∀ x H', J.yld j H x H' → g1 x (wipe σ2 vs1) H' fun σ3 H5 => wipe σ3 vs1 = wipe σ2 vs1 ∧ tt1 σ3 H5 fun b H6 =>
        if b = true then te σ3 H6 fun y H7 => ∃ acc, H7 D = some (.lst acc) ∧ acc.length < sizeLine ∧ Nx1 (upd H7 D (.lst (acc ++ [y]))) else Nx1 H6) := by
  refine ⟨fun i m H => m = n - i ∧ i ≤ n ∧ Pv i H, ⟨n, by simp, Nat.zero_le _, h0⟩, ?_⟩
  rintro i m H ⟨rfl, hi, p⟩
  have q := hG i H hi p
  by_cases hlt : i < n
  · exact .inr ⟨w.goes i H hlt q, Pv (i + 1), fun H' p' => ⟨n - (i + 1), by omega, rfl, hlt, p'⟩, fun x H' y => hs i x H H' hlt p (w.yields i H x H' hlt q y)⟩
  · have e : i = n := by omega
    subst e
    exact .inl ⟨w.stops H q, hd H p⟩
end
theorem q_lc2 {wi wi1 : TI} {g g1 : TG} {tt tt1 : TT} {te : TE} {vs vs1 : List Nat} {σ : L2.St} {H : Hp} {Q : VK} (h : wi σ H fun J H1 => ∀ D, H1 D = none → ∃ W : Nat → Nat → Hp → Prop, (∃ m, W 0 m (upd H1 D (.lst []))) ∧ ∀ i m H, W i m H →
  (J.stop i H ∧ Q (.ref D) H) ∨ (J.go i H ∧ ∃ Nx : Hp → Prop, (∀ H', Nx H' → ∃ m', m' < m ∧ W (i + 1) m' H') ∧ ∀ x H', J.yld i H x H' → g x (wipe σ vs) H' fun σ2 H2 => wipe σ2 vs = wipe σ vs ∧ tt σ2 H2 fun b H3 =>
    if b = true then wi1 σ2 H3 fun J1 H4 => ∃ W1 : Nat → Nat → Hp → Prop, (∃ m, W1 0 m H4) ∧ ∀ j k H, W1 j k H →
      (J1.stop j H ∧ Nx H) ∨ (J1.go j H ∧ ∃ Nx1 : Hp → Prop, (∀ H', Nx1 H' → ∃ k', k' < k ∧ W1 (j + 1) k' H') ∧ ∀ x H', J1.yld j H x H' → g1 x (wipe σ2 vs1) H' fun σ3 H5 => wipe σ3 vs1 = wipe σ2 vs1 ∧ tt1 σ3 H5 fun b H6 =>
        if b = true then te σ3 H6 fun y H7 => ∃ acc, H7 D = some (.lst acc) ∧ acc.length < sizeLine ∧ Nx1 (upd H7 D (.lst (acc ++ [y]))) else Nx1 H6)
    else Nx H3)) : tLc2 wi g tt wi1 g1 tt1 te vs vs1 σ H Q := h
section
variable {P : Program} {w : World} {K : PySem.W.Frag} {mg : Str → Option Value} {base : Heap} {C CR CRo tS : Addr}
theorem pick_filter {α : Type} (l : List α) (d : α) (q : α → Bool) : ((List.range l.length).filter fun i => q (l.getD i d)).map (fun i => l.getD i d) = l.filter q := by
  have h1 : (List.range l.length).map (fun i => l.getD i d) = l := by
    refine List.ext_getElem (by simp) fun i h1 h2 => ?_
    simp [List.getD_eq_getElem?_getD, List.getElem?_eq_getElem h2]
  have h2 : ((List.range l.length).map (fun i => l.getD i d)).filter q = ((List.range l.length).filter (q ∘ fun i => l.getD i d)).map fun i => l.getD i d := List.filter_map
  rw [h1] at h2
  exact h2.symm
theorem dpAll_pick {H : Hp} {xs : List V} {es : List PyData} (h : DpAll K H xs es) : ∀ {is : List Nat}, (∀ i ∈ is, i < xs.length) → DpAll K H (is.map fun i => xs.getD i .non) (is.map fun i => es.getD i .none)
  | [], _ => .nil
  | i :: r, hi => by
    have li := hi i List.mem_cons_self
    obtain ⟨d, h1, h2⟩ := h.get' (List.getElem?_eq_getElem li)
    refine .cons ?_ (dpAll_pick h fun j hj => hi j (List.mem_cons_of_mem _ hj))
    show Dp K H (xs.getD i .non) (es.getD i .none)
    rw [List.getD_eq_getElem?_getD, List.getD_eq_getElem?_getD, h1, List.getElem?_eq_getElem li]
    exact h2
theorem dRight_strOk {c : Cnt} {w : Str} {i : Int} (h : dRight c (.tuple [.str w, .int i]) = true) : PyData.strOk w = true := by
  unfold dRight dFormed at h
  have ew : dWord (.tuple [.str w, .int i]) = w := rfl
  rw [ew] at h
  cases e : rTab.lookup w with
  | none => rw [e] at h; cases h
  | some v =>
    have hm := lookup_mem e
    have all : ∀ p ∈ rTab, PyData.strOk p.1 = true := by decide +kernel
    exact all _ hm
theorem rtd_inj : ∀ {a b : List Rt}, a.map rtd = b.map rtd → a = b
  | [], [], _ => rfl
  | [], _ :: _, h => by cases h
  | _ :: _, [], h => by cases h
  | (z, i) :: a, (y, j) :: b, h => by
    have h1 : PyData.tuple [.str z, .int i] = PyData.tuple [.str y, .int j] := (List.cons.inj h).1
    have h2 := rtd_inj (List.cons.inj h).2
    cases h1
    rw [h2]
def rowOf : PyData → List Rt
  | .list es => es.map fun e => match e with | .tuple [.str z, .int i] => (z, i) | _ => default
  | _ => []
theorem rights_R {b : BD} (ok : BOk b) : ∃ R : List (List Rt), b.rights = .list (R.map rowD) ∧ (R.length : Int) = cnt (cOf b) "task" ∧ R.length = (sidesOf b).length ∧ R.length ≤ 4 ∧ ∀ r ∈ R, r.length ≤ 8 ∧ ∀ p ∈ r, dRight (cOf b) (rtd p) = true ∧ PyData.strOk p.1 = true := by
 refine Hk.hold ?_
 simp (disch := with_unfolding_all (
 exact Hk.disch (by
  obtain ⟨rds, er, rl, rall⟩ := okRightsL ok.rights
  obtain ⟨tds, pds, qds, l, d, et, ep, eq, el, ed, ec, t2, t4, _⟩ := cOf_forms ok
  have ct : cnt (cOf b) "task" = ((tds.length : Nat) : Int) := by rw [ec]; rfl
  have okr := ok.rights
  rw [er] at okr
  unfold okRights at okr
  rw [Bool.and_eq_true] at okr
  have row : ∀ r ∈ rds, rowD (rowOf r) = r ∧ (rowOf r).length ≤ 8 ∧ ∀ p ∈ rowOf r, dRight (cOf b) (rtd p) = true ∧ PyData.strOk p.1 = true := fun r hr => by
    obtain ⟨es, rfl⟩ := rall r hr
    have z := List.all_eq_true.mp okr.2 _ hr
    unfold okRow at z
    rw [Bool.and_eq_true] at z
    obtain ⟨z1, z2⟩ := z
    rw [Bool.and_eq_true] at z2
    have each : ∀ e ∈ es, rtd (match e with | .tuple [.str z, .int i] => (z, i) | _ => default) = e := fun e he => by
      obtain ⟨z, i, rfl⟩ := dRight_shape (List.all_eq_true.mp z2.1 e he)
      rfl
    refine ⟨?_, ?_, fun p hp => ?_⟩
    · show PyData.list ((es.map _).map rtd) = _
      rw [List.map_map]
      congr 1
      exact (List.map_congr_left each).trans (List.map_id _)
    · show (es.map _).length ≤ 8
      rw [List.length_map]
      simp [dListOf] at z1
      omega
    · obtain ⟨e, he, rfl⟩ := List.mem_map.mp (show p ∈ es.map _ from hp)
      have h := List.all_eq_true.mp z2.1 e he
      obtain ⟨z, i, rfl⟩ := dRight_shape h
      exact ⟨h, dRight_strOk h⟩
  refine ⟨rds.map rowOf, ?_, by rw [List.length_map]; exact rl, ?_, by rw [List.length_map]; omega, fun r hr => ?_⟩
  · rw [er, List.map_map]
    congr 1
    exact ((List.map_congr_left fun r hr => (row r hr).1).trans (List.map_id _)).symm
  · rw [List.length_map]
    unfold sidesOf
    rw [et]
    show rds.length = (tds.map sideD).length
    rw [List.length_map]
    omega
  · obtain ⟨d, hd, rfl⟩ := List.mem_map.mp hr
    exact (row d hd).2))) only [↓Hk.hold_s]
def toI (l : List Nat) : List Int := l.map fun (i : Nat) => (i : Int)
theorem toI_V (l : List Nat) : (l.map fun (i : Nat) => V.int i) = (toI l).map V.int := by unfold toI; rw [List.map_map]; rfl
/-- what the others have -/
def thL (es : List Nat) (R : List (List Rt)) : List Rt := es.flatMap fun j => R.getD j []
/-- the rows of rights, cut -/
def cutL (os es : List Nat) (port : Option Int) (R : List (List Rt)) : List (List Rt) := (List.range R.length).map fun j =>
  if j ∈ os then (R.getD j []).filter fun p => !reB p.1 p.2 (thL es R) port (toI es) else (R.getD j []).filter fun p => !roB p.1 p.2 (toI os)
theorem thL_snoc {es : List Nat} {R : List (List Rt)} {i j : Nat} (h : es[i]? = some j) : thL (es.take (i + 1)) R = thL (es.take i) R ++ R.getD j [] := by
  unfold thL
  rw [List.take_add_one, h, List.flatMap_append]
  simp
theorem noLs_rt (l : List Rt) : noLs (l.map rtd) = true := by
  rw [noLs_all]
  intro d hd
  obtain ⟨p, _, rfl⟩ := List.mem_map.mp hd
  rfl
def portO (d : PyData) : Option Int := match d with
  | .tuple [.int p, _] => some p
  | _ => none
theorem q_yes {σ : L2.St} {H : Hp} {q : Bool → Hp → Prop} (h : q true H) : tYes σ H q := h
theorem q_iL {te : TE} {σ : L2.St} {H : Hp} {R : It → Hp → Prop} (h : te σ H fun x H1 => ∃ a, x = V.ref a ∧ (∃ xs, SqL K H1 a xs) ∧ R (Itl K a) H1) : iList K te σ H R := h
theorem mem_toI {l : List Nat} {i : Nat} : decide (((i : Nat) : Int) ∈ toI l) = decide (i ∈ l) := by
  unfold toI
  refine decide_eq_decide.mpr ⟨fun h => ?_, fun h => List.mem_map.mpr ⟨i, h, rfl⟩⟩
  obtain ⟨j, hj, e⟩ := List.mem_map.mp h
  have : j = i := by omega
  rw [← this]; exact hj
theorem pick_rt (ri : List Rt) (pr : Rt → Bool) : ((List.range ri.length).filter fun k => pr (ri.getD k default)).map (fun k => (ri.map rtd).getD k .none) = (ri.filter pr).map rtd := by
  rw [← pick_filter ri default pr, List.map_map]
  refine List.map_congr_left fun k hk => ?_
  have hl := List.mem_range.mp (List.mem_filter.mp hk).1
  show (ri.map rtd).getD k .none = rtd (ri.getD k default)
  rw [List.getD_eq_getElem?_getD, List.getD_eq_getElem?_getD, List.getElem?_map, List.getElem?_eq_getElem hl]; rfl
/-- a loop over enumerate(l), the list told already -/
def ForW (J : It) (g : TG) (tb : TS) (D : Ends) (σ : L2.St) (H1 : Hp) : Prop := ∃ W : Nat → Nat → L2.St → Hp → Prop, (∃ m, W 0 m σ H1) ∧ ∀ i m σ H, W i m σ H →
    (J.stop i H ∧ D.nx σ H) ∨ (J.go i H ∧ ∃ N : L2.St → Hp → Prop, (∀ σ' H', N σ' H' → ∃ m', m' < m ∧ W (i + 1) m' σ' H') ∧ ∀ x H', J.yld i H x H' → g x σ H' fun σ2 H2 => tb { D with nx := N, ct := N, bk := D.nx } σ2 H2)
theorem q_forE {ta : TA} {g : TG} {tb : TS} {D : Ends} {σ : L2.St} {H : Hp} (h : ta σ H fun vs H1 => ∃ a xs, vs = [V.ref a] ∧ SqL K H1 a xs ∧ ForW (Ite K a) g tb D σ H1) : tFor (iEnum K ta) g tb D σ H := h
def spCutRights (K : PySem.W.Frag) (C CR CRo : Addr) : Sp := fun vs H Q _ => ∃ (p ro : Addr) (b : BD) (os es : List Nat) (R : List (List Rt)), vs = [.ref p, .ref ro] ∧ BuildAt K C CR H p b ∧ RoAt K CRo H ro os es ∧ b.rights = .list (R.map rowD) ∧ (∀ j ∈ es, j < R.length) ∧ es.length ≤ 4 ∧
  ∀ v H', Same H H' → Dp K H' v (.list ((cutL os es (portO b.outside) R).map rowD)) → Q v H'
theorem ok_cut_rights (B : Bl mg) (T : BCls K C) (RC : RCls K CR) (XR : RoCls K CRo) (g_enum : mg "enumerate" = none) (m_rights : MCal P w K mg base 1 C "rights" ["self"] (spGet K C fun b H v H' => Dp K H' v b.rights)) (c_reaches : Cal P w K mg base 2 "reaches" ["right", "theirs", "port", "others"] (spReaches K)) (c_rules_over : Cal P w K mg base 1 "rules_over" ["right", "tasks"] (spRulesOver K))
    (d : DefAt K mg "cut_rights" s_cut_rights ["build", "roles"]) : Cal P w K mg base 3 "cut_rights" ["build", "roles"] (spCutRights K C CR CRo) := by
 refine Hk.hold ?_
 simp (disch := with_unfolding_all (
 exact Hk.disch (d.cal fun f fd F => by
  refine F.ok sc_cut_rights (fun vs H Q E h => ?_) (fun cdv A outer s H vs Q E hr h => ?_)
  · obtain ⟨p, ro, b, os, es, R, rfl, _⟩ := h; rfl
  · obtain ⟨p, ro, b, os, es, R, rfl, BA, RO, eR, hes, e4, q⟩ := h
    have hu := hu_of hr
    refine ⟨_, (pss_cons (ps_set (i := 2) sc_cut_rights.nd rfl (Or.inr rfl) (pe_mcal0 m_rights (hr.mono (by omega)) (pv 0)))
      (pss_cons (ps_set (i := 3) sc_cut_rights.nd rfl (Or.inr rfl) (pe_lc2 (own := [("other", 8), ("right", 9)]) (vs1 := [9]) (tt := tYes) (tt1 := tYes) rfl sc_cut_rights.nd (pi_tup (pe_fld (pv 1) rfl)) (blkOk_by (N := ["build", "roles", "rows", "theirs", "port", "found", "task", "row", "other", "right"]) (sc := defScope s_cut_rights) (by decide +kernel)) (by decide) (fun _ _ _ _ _ => (pg_name (i := 8) sc_cut_rights.nd rfl (Or.inl rfl))) (fun _ _ _ _ _ => pts_nil) (fun _ _ _ _ _ => (show PI _ _ _ (iList K _) from (pi_list (pe_ix (show IxR _ (rIxL K) from ix_list) (pv 2) (pv 8) (fun _ _ => rfl))))) (fun _ _ _ _ _ => (pg_name (i := 9) sc_cut_rights.nd rfl (Or.inl rfl))) (fun _ _ _ _ _ => pts_nil) (fun _ _ _ _ _ => (pv 9))))
      (pss_cons (ps_set (i := 4) sc_cut_rights.nd rfl (Or.inr rfl) (pe_fld (pe_fld (pv 0) rfl) rfl))
      (pss_cons (ps_set (i := 5) sc_cut_rights.nd rfl (Or.inl rfl) (pe_lst pa_nil))
      (pss_cons (ps_for PassesOwn.never rfl (pi_enum rfl g_enum (pa_cons (pv 2) pa_nil)) (pg_tup rfl (pgs_cons (pg_name (i := 6) sc_cut_rights.nd rfl (Or.inl rfl)) (pgs_cons (pg_name (i := 7) sc_cut_rights.nd rfl (Or.inl rfl)) pgs_nil))) (pss_one (ps_if (pt_cmpR ((show OpR _ _ (rIn K false) from op_in_seq)) (pv 6) (pe_fld (pv 1) rfl) (by with_unfolding_all rfl)) (pss_one (ps_expr (pe_bm PySem.F.plainAttrs_list PySem.F.slot_list_append PySem.F.type_list_append mt_append (pv 5) (pa_cons (pe_lc (own := [("right", 9)]) rfl sc_cut_rights.nd (pi_list (pv 7)) (blkOk_by (N := ["build", "roles", "rows", "theirs", "port", "found", "task", "row", "other", "right"]) (sc := defScope s_cut_rights) (by decide +kernel)) (fun _ _ _ _ _ => (pg_name (i := 9) sc_cut_rights.nd rfl (Or.inl rfl))) (fun _ _ _ _ _ => (pts_one (pt_not (pt_val (pe_cal c_reaches (hr.mono (by omega)) rfl (pa_cons (pv 9) (pa_cons (pv 3) (pa_cons (pv 4) (pa_cons (show PE _ _ (tFld K _ _) from pe_fld (pv 1) rfl) pa_nil))))))))) (fun _ _ _ _ _ => (pv 9))) pa_nil)))) (pss_one (ps_expr (pe_bm PySem.F.plainAttrs_list PySem.F.slot_list_append PySem.F.type_list_append mt_append (pv 5) (pa_cons (pe_lc (own := [("right", 9)]) rfl sc_cut_rights.nd (pi_list (pv 7)) (blkOk_by (N := ["build", "roles", "rows", "theirs", "port", "found", "task", "row", "other", "right"]) (sc := defScope s_cut_rights) (by decide +kernel)) (fun _ _ _ _ _ => (pg_name (i := 9) sc_cut_rights.nd rfl (Or.inl rfl))) (fun _ _ _ _ _ => (pts_one (pt_not (pt_val (pe_cal c_rules_over (hr.mono (by omega)) rfl (pa_cons (pv 9) (pa_cons (show PE _ _ (tFld K _ _) from pe_fld (pv 1) rfl) pa_nil))))))) (fun _ _ _ _ _ => (pv 9))) pa_nil)))))))
      (pss_one (ps_ret (pv 5)))))))), ?_⟩
    walk_at "st0"
    refine q_get BA.1 (by decide +kernel) (by decide +kernel) fun v1 H1 s1 d1 => ?_
    walk_at "st"
    rw [eR] at d1
    obtain ⟨R', eR', _, _, R4, Rall⟩ := rights_R BA.1.ok
    cases d1 with
    | @lst la rxs _ hl hr =>
    have lr := hr.length
    rw [List.length_map] at lr
    have inj : R.map rowD = R'.map rowD := by rw [eR] at eR'; exact PyData.list.inj eR'
    have lR : R.length = R'.length := by have z := congrArg List.length inj; rwa [List.length_map, List.length_map] at z
    have hrow : ∀ (j : Nat) (r : List Rt), R[j]? = some r → r.length ≤ 8 ∧ ∀ p ∈ r, PyData.strOk p.1 = true := fun j r e => by
      have z : (R'.map rowD)[j]? = some (rowD r) := by rw [← inj, List.getElem?_map, e]; rfl
      rw [List.getElem?_map] at z
      obtain ⟨r', e', z⟩ := Option.map_eq_some_iff.mp z
      have z2 : r'.map rtd = r.map rtd := PyData.list.inj z
      have z3 : r' = r := rtd_inj z2
      subst z3
      exact ⟨(Rall r' (List.mem_of_getElem? e')).1, fun p hp => ((Rall r' (List.mem_of_getElem? e')).2 p hp).2⟩
    obtain ⟨dxo, q1, q2, fso, eo, l1, l2, T1, T2⟩ := RO.mono s1
    refine q_lc2 ?_
    walk_at "st"
    refine ⟨.ref ro, rfl, ⟨ro, CRo, dxo, fso, _, rfl, eo, XR.cls, XR.n_eyes, l2, ?_⟩⟩
    refine ⟨q2, rfl, ⟨_, T2⟩, fun D nD => lc2_it walk_tup (fun i H' => Same H1 H' ∧ ∃ xs, H' D = some (.lst xs) ∧ DpAll K H' xs ((thL (es.take i) R).map rtd) ∧ xs.length ≤ 8 * i) ⟨same_new nD, [], upd_same, .nil, by simp⟩ (fun i H' _ h => Same.sqT h.1 T2) ?_ ?_⟩
    · rintro i x H2 H2' lt ⟨s2, xs, eD, dx, lx⟩ ⟨rfl, ex⟩
      rw [List.getElem?_map] at ex
      obtain ⟨j, ej, rfl⟩ := Option.map_eq_some_iff.mp ex
      have jl := hes j (List.mem_of_getElem? ej)
      have eRj : R[j]? = some R[j] := List.getElem?_eq_getElem jl
      have gRj : R.getD j [] = R[j] := by rw [List.getD_eq_getElem?_getD, eRj]; rfl
      have i4 : i < es.length := by rw [List.length_map] at lt; exact lt
      refine q_gname ?_
      refine ⟨rfl, ?_⟩
      refine q_yes ?_
      rw [if_pos rfl]
      have erx : rxs[j]? = some rxs[j] := List.getElem?_eq_getElem (by omega)
      obtain ⟨dd, g1, g2⟩ := hr.get' erx
      rw [List.getElem?_map, eRj] at g1
      cases g1
      generalize hrx : rxs[j] = vj at *
      cases g2 with
      | @lst b2 zs _ hb hz =>
      have lz := hz.length
      rw [List.length_map] at lz
      have r8 := (hrow j _ eRj).1
      refine q_iL ?_
      walk_at "st"
      refine q_ixL (s2.seq hl) (atI_nat erx) ?_
      refine ⟨b2, rfl, ⟨zs, s2.seq hb⟩, in_it walk_list (fun k H' => Same H1 H' ∧ ∃ xs, H' D = some (.lst xs) ∧ DpAll K H' xs ((thL (es.take i) R ++ (R[j]).take k).map rtd) ∧ xs.length ≤ 8 * i + k) ⟨s2, xs, eD, by rw [List.take_zero, List.append_nil]; exact dx, by omega⟩ (fun k H' _ h => h.1.seq hb) ?_ ?_⟩
      · rintro k z H3 H3' lk ⟨s3, ys, e3, dy, ly⟩ ⟨rfl, ez⟩
        obtain ⟨dz, f1, f2⟩ := hz.get' ez
        rw [List.getElem?_map] at f1
        obtain ⟨pk, ek, rfl⟩ := Option.map_eq_some_iff.mp f1
        refine q_gname ?_
        refine ⟨rfl, ?_⟩
        refine q_yes ?_
        rw [if_pos rfl]
        walk_at "st"
        refine ⟨ys, e3, sz1000 (by omega), fun b o hb => ?_, ys ++ [z], upd_same, ?_, by rw [List.length_append]; show ys.length + 1 ≤ _; omega⟩
        · rw [upd_ne (ne_of_none hb nD)]; exact s3 _ _ hb
        · rw [List.take_add_one, ek, ← List.append_assoc, List.map_append]
          refine dpAll_app (dpAllKeepL (KeepL.put e3) dy (noLs_rt _)) (.cons (dpKeepL (KeepL.put e3) (L2.Dp.mono s3 f2) rfl) .nil)
      · rintro H3 ⟨s3, ys, e3, dy, ly⟩
        refine ⟨s3, ys, e3, ?_, by omega⟩
        rw [thL_snoc ej, gRj]
        rw [lz, List.take_length] at dy
        exact dy
    rintro H2 ⟨s2, xs, eD, dx, lx⟩
    rw [List.length_map] at dx lx
    rw [List.take_length] at dx
    obtain ⟨PAb, dxb, fsb, rr, eb, eru, RA⟩ := BA.mono (s1.trans s2)
    obtain ⟨dxr, fsr, vp, er, els, dso⟩ := RA.get .letter_port
    have evp : vp = portV (portO b.outside) := by
      have z : Dp K H2 vp (outD b.outside) := dso
      rcases okOutsideL PAb.ok.outside with e | ⟨pp, ee, e, _⟩
      · rw [e] at z ⊢; cases z; rfl
      · rw [e] at z ⊢; cases z; rfl
    subst evp
    generalize portO b.outside = port at *
    walk_at "st"
    refine ⟨p, C, dxb, fsb, _, rfl, eb, T.cls, T.n_rules, eru, rr, CR, dxr, fsr, _, rfl, er, RC.cls, RC.no _ (by decide +kernel), els, ?_⟩
    walk_at "st"
    refine ⟨by show 0 ≤ sizeLine; exact Nat.zero_le _, fun FL nFL => ?_⟩
    have s3 := same_new (o := .lst []) nFL
    have eF : upd H2 FL (.lst []) FL = some (.lst []) := upd_same
    have nFD : FL ≠ D := fun z => by rw [z, eD] at nFL; cases nFL
    generalize upd H2 FL (.lst []) = H3 at *
    have eD3 := s3 _ _ eD
    have dx3 := L2.DpAll.mono s3 dx
    have s13 := (s2.trans s3)
    have n2F : H2 FL = none := nFL
    walk_at "st"
    refine q_forE ?_
    walk_at "st"
    have allT : ∀ r ∈ thL es R, PyData.strOk r.1 = true := fun r hr => by
      obtain ⟨j, hj, hr2⟩ := List.mem_flatMap.mp (show r ∈ es.flatMap _ from hr)
      have e := List.getElem?_eq_getElem (hes j hj)
      rw [List.getD_eq_getElem?_getD, e] at hr2
      exact (hrow j _ e).2 r hr2
    refine ⟨la, rxs, rfl, s13.seq hl, L2.for_it walk_enum (fun i σ Hy => ∃ (o6 o7 : Option V) (xs : List V), σ = [some (.ref p), some (.ref ro), some (.ref la), some (.ref D), some (portV port), some (.ref FL), o6, o7, none, none] ∧ Same H2 Hy ∧ Hy FL = some (.lst xs) ∧ xs.length = i ∧ ∀ (j : Nat) y, xs[j]? = some y → ∃ (l : Addr) (ys : List V), y = .ref l ∧ l ≠ FL ∧ Hy l = some (.lst ys) ∧ DpAll K Hy ys (((cutL os es port R).getD j []).map rtd)) ⟨_, _, [], rfl, s3, eF, rfl, fun j y e => by simp at e⟩ (fun i σ Hy _ h => by obtain ⟨_, _, _, _, e, _⟩ := h; exact (s2.trans e).seq hl) ?_ ?_⟩
    · rintro i x σ Hy Hy' lt ⟨o6, o7, xs', rfl, sy, eFy, lx', hx'⟩ ⟨TT, y1, y2, rfl, nT, rfl, ey1, ey2⟩
      cases ey1
      have sT := same_new (o := .tup [V.int ((i : Nat) : Int), y2]) nT
      have iR : i < R.length := by omega
      have eRi : R[i]? = some R[i] := List.getElem?_eq_getElem iR
      obtain ⟨dd, g1, g2⟩ := hr.get' ey2
      rw [List.getElem?_map, eRi] at g1
      cases g1
      obtain ⟨r8, rok⟩ := hrow i _ eRi
      generalize hri : R[i] = ri at *
      cases g2 with
      | @lst b2 zs _ hb hz =>
      have lz := hz.length
      rw [List.length_map] at lz
      refine ⟨TT, _, rfl, SqT.of upd_same, rfl, _, _, rfl, _, _, rfl, rfl, ?_⟩
      generalize upd Hy TT (.tup [V.int ((i : Nat) : Int), V.ref b2]) = H4 at *
      have s14 : Same H1 H4 := s2.trans (sy.trans sT)
      have nTF : TT ≠ FL := fun z => by rw [z, eFy] at nT; cases nT
      have eF4 := sT _ _ eFy
      have gC : (cutL os es port R).getD i [] = if i ∈ os then ri.filter (fun p => !reB p.1 p.2 (thL es R) port (toI es)) else ri.filter fun p => !roB p.1 p.2 (toI os) := by
        unfold cutL
        rw [List.getD_eq_getElem?_getD, List.getElem?_map, List.getElem?_range iR]
        show (if i ∈ os then (R.getD i []).filter _ else (R.getD i []).filter _) = _
        have gR : R.getD i [] = ri := by rw [List.getD_eq_getElem?_getD, eRi]; rfl
        rw [gR]
      have fin : ∀ (Y : Addr) (ys : List V) (H5 : Hp), Same H4 H5 → H4 Y = none → H5 Y = some (.lst ys) → DpAll K H5 ys (((cutL os es port R).getD i []).map rtd) → ∃ (l : Addr) (xs2 : List V) (y : V), V.ref FL = .ref l ∧ [V.ref Y] = [y] ∧ H5 l = some (.lst xs2) ∧ xs2.length < sizeLine ∧ ∃ (o6 o7 : Option V) (xs : List V), ([some (.ref p), some (.ref ro), some (.ref la), some (.ref D), some (portV port), some (.ref FL), some (.int ((i : Nat) : Int)), some (.ref b2), none, none] : L2.St) = [some (.ref p), some (.ref ro), some (.ref la), some (.ref D), some (portV port), some (.ref FL), o6, o7, none, none] ∧ Same H2 (upd H5 l (.lst (xs2 ++ [y]))) ∧ upd H5 l (.lst (xs2 ++ [y])) FL = some (.lst xs) ∧ xs.length = i + 1 ∧ ∀ (j : Nat) y', xs[j]? = some y' → ∃ (l' : Addr) (ys : List V), y' = .ref l' ∧ l' ≠ FL ∧ upd H5 l (.lst (xs2 ++ [y])) l' = some (.lst ys) ∧ DpAll K (upd H5 l (.lst (xs2 ++ [y]))) ys (((cutL os es port R).getD j []).map rtd) := by
        intro Y ys H5 s5 nY eY dY
        have eF5 := s5 _ _ eF4
        have nYF : Y ≠ FL := fun z => by rw [z, eF4] at nY; cases nY
        have kl : KeepL H5 (upd H5 FL (.lst (xs' ++ [V.ref Y]))) := KeepL.put eF5
        refine ⟨FL, xs', _, rfl, rfl, eF5, sz1000 (by omega), _, _, xs' ++ [V.ref Y], rfl, fun b o hb => ?_, upd_same, by rw [List.length_append, lx']; rfl, fun j y' hj => ?_⟩
        · rw [upd_ne (ne_of_none hb n2F)]; exact s5 _ _ (sT _ _ (sy _ _ hb))
        · rw [List.getElem?_append] at hj
          split at hj
          · obtain ⟨l', ys', rfl, n', e', d'⟩ := hx' j y' hj
            exact ⟨l', ys', rfl, n', by rw [upd_ne n']; exact s5 _ _ (sT _ _ e'), dpAllKeepL kl (L2.DpAll.mono (sT.trans s5) d') (noLs_rt _)⟩
          · rename_i hge
            have : j = i := by
              rcases Nat.lt_trichotomy j i with z | z | z
              · omega
              · exact z
              · rw [List.getElem?_eq_none (by simp; omega)] at hj; cases hj
            subst this
            simp [lx'] at hj
            subst hj
            exact ⟨Y, ys, rfl, nYF, by rw [upd_ne nYF]; exact eY, dpAllKeepL kl dY (noLs_rt _)⟩
      walk_at "st"
      have so4 := s14 _ _ eo
      refine ⟨ro, CRo, dxo, fso, _, rfl, so4, XR.cls, XR.n_ones, l1, ?_⟩
      rw [toI_V] at T1 T2
      refine q_inSeqI (.inr (Same.sqT s14 T1)) ?_
      rw [mem_toI]
      refine ⟨_, rfl, ?_⟩
      by_cases hio : i ∈ os
      · rw [decide_eq_true hio]
        rw [if_pos hio] at gC
        refine iteT ?_
        walk_at "st"
        refine ⟨.inl ⟨rfl, _, SqL.of eF4⟩, ?_⟩
        refine q_cons ?_
        refine q_lcI ?_
        walk_at "st"
        refine ⟨b2, rfl, ⟨_, s14.seq hb⟩, fun Y nY => lc_keep walk_list (fun k => !reB (ri.getD k default).1 (ri.getD k default).2 (thL es R) port (toI es)) (fun k => zs.getD k .non) nY (sz1000 (by omega)) (fun H2 s => s.seq (s14.seq hb)) yat_same ?_ ?_⟩
        · rintro k y Hq2 H8 lt2 s8 ⟨rfl, ey⟩ Q2 kk
          refine q_gname ?_
          refine ⟨rfl, ?_⟩
          obtain ⟨dd, g1, g2⟩ := hz.get' ey
          rw [List.getElem?_map] at g1
          obtain ⟨pk, ek, rfl⟩ := Option.map_eq_some_iff.mp g1
          have egk : ri.getD k default = pk := by rw [List.getD_eq_getElem?_getD, ek]; rfl
          have ezk : zs.getD k .non = y := by rw [List.getD_eq_getElem?_getD, ey]; rfl
          rw [egk, ezk] at kk
          obtain ⟨wz, wi⟩ := pk
          have s18 := s14.trans s8
          have g3 := L2.Dp.mono s18 g2
          cases g3 with
          | @tup t ys2 _ ht hys =>
          cases hys with
          | @cons y0 q0 _ _ c0 hys =>
          cases hys with
          | @cons y1 q9 _ _ c1 hys =>
          cases hys
          cases c0
          cases c1
          walk_at "st"
          refine ⟨ro, CRo, dxo, fso, _, rfl, s18 _ _ eo, XR.cls, XR.n_eyes, l2, ?_⟩
          walk_at "st"
          have s28 := sy.trans (sT.trans s8)
          refine ⟨t, D, q2, wz, wi, thL es R, port, toI es, rfl, ht, rok _ (List.mem_of_getElem? ek), .lst (SqL.of (s28 _ _ eD)) (L2.DpAll.mono s28 dx), allT, Same.sqT s18 T2, fun H' s' => ?_⟩
          refine ⟨_, rfl, ?_⟩
          refine kk _ _ s' (by rfl) fun H9 Q3 s9 _ k3 => ?_
          walk_at "st"
          exact k3 _ (Same.refl _)
        · intro H5 s5 eY
          refine q_nil ?_
          refine fin Y _ H5 s5 nY eY ?_
          rw [gC]
          have z := dpAll_pick (L2.DpAll.mono (s14.trans s5) hz) (is := (List.range zs.length).filter fun k => !reB (ri.getD k default).1 (ri.getD k default).2 (thL es R) port (toI es)) fun i hi => List.mem_range.mp (List.mem_filter.mp hi).1
          rw [show ((List.range zs.length).filter fun k => !reB (ri.getD k default).1 (ri.getD k default).2 (thL es R) port (toI es)).map (fun i => (ri.map rtd).getD i .none) = (ri.filter fun p => !reB p.1 p.2 (thL es R) port (toI es)).map rtd by rw [lz]; exact pick_rt ri fun p => !reB p.1 p.2 (thL es R) port (toI es)] at z
          exact z
      · rw [decide_eq_false hio]
        rw [if_neg hio] at gC
        refine iteF ?_
        walk_at "st"
        refine ⟨.inl ⟨rfl, _, SqL.of eF4⟩, ?_⟩
        refine q_cons ?_
        refine q_lcI ?_
        walk_at "st"
        refine ⟨b2, rfl, ⟨_, s14.seq hb⟩, fun Y nY => lc_keep walk_list (fun k => !roB (ri.getD k default).1 (ri.getD k default).2 (toI os)) (fun k => zs.getD k .non) nY (sz1000 (by omega)) (fun H2 s => s.seq (s14.seq hb)) yat_same ?_ ?_⟩
        · rintro k y Hq2 H8 lt2 s8 ⟨rfl, ey⟩ Q2 kk
          refine q_gname ?_
          refine ⟨rfl, ?_⟩
          obtain ⟨dd, g1, g2⟩ := hz.get' ey
          rw [List.getElem?_map] at g1
          obtain ⟨pk, ek, rfl⟩ := Option.map_eq_some_iff.mp g1
          have egk : ri.getD k default = pk := by rw [List.getD_eq_getElem?_getD, ek]; rfl
          have ezk : zs.getD k .non = y := by rw [List.getD_eq_getElem?_getD, ey]; rfl
          rw [egk, ezk] at kk
          obtain ⟨wz, wi⟩ := pk
          have s18 := s14.trans s8
          have g3 := L2.Dp.mono s18 g2
          cases g3 with
          | @tup t ys2 _ ht hys =>
          cases hys with
          | @cons y0 q0 _ _ c0 hys =>
          cases hys with
          | @cons y1 q9 _ _ c1 hys =>
          cases hys
          cases c0
          cases c1
          walk_at "st"
          refine ⟨ro, CRo, dxo, fso, _, rfl, s18 _ _ eo, XR.cls, XR.n_ones, l1, ?_⟩
          walk_at "st"
          refine ⟨t, q1, wz, wi, toI os, rfl, ht, Same.sqT s18 T1, fun H' s' => ?_⟩
          refine ⟨_, rfl, ?_⟩
          refine kk _ _ s' (by rfl) fun H9 Q3 s9 _ k3 => ?_
          walk_at "st"
          exact k3 _ (Same.refl _)
        · intro H5 s5 eY
          refine q_nil ?_
          refine fin Y _ H5 s5 nY eY ?_
          rw [gC]
          have z := dpAll_pick (L2.DpAll.mono (s14.trans s5) hz) (is := (List.range zs.length).filter fun k => !roB (ri.getD k default).1 (ri.getD k default).2 (toI os)) fun i hi => List.mem_range.mp (List.mem_filter.mp hi).1
          rw [show ((List.range zs.length).filter fun k => !roB (ri.getD k default).1 (ri.getD k default).2 (toI os)).map (fun i => (ri.map rtd).getD i .none) = (ri.filter fun p => !roB p.1 p.2 (toI os)).map rtd by rw [lz]; exact pick_rt ri fun p => !roB p.1 p.2 (toI os)] at z
          exact z
    · rintro σ Hy ⟨o6, o7, xs', rfl, sy, eFy, lx', hx'⟩
      dsimp only
      walk_at "st"
      refine q _ _ (s1.trans (s2.trans sy)) (.lst (SqL.of eFy) (dpAll_of (by unfold cutL; rw [List.length_map, List.length_map, List.length_range, lx']; exact lr) fun j y d ey ed => ?_))
      obtain ⟨l, ys, rfl, _, e, dY⟩ := hx' j y ey
      rw [List.getElem?_map] at ed
      obtain ⟨rj, ej, rfl⟩ := Option.map_eq_some_iff.mp ed
      have gj : (cutL os es port R).getD j [] = rj := by rw [List.getD_eq_getElem?_getD, ej]; rfl
      rw [gj] at dY
      exact .lst (SqL.of e) dY))) only [↓Hk.hold_s]
end
end T
namespace T
section
variable {P : Program} {w : World} {K : PySem.W.Frag} {mg : Str → Option Value} {base : Heap} {C CR CRo tS : Addr}
theorem pe_globI {X : Cx} {x : Str} {i : Int} {pos : Pos} (hm : ∃ t, X.mg x = some (.int i t)) (hg : Gl X x := by rfl) (hd : (x == ("__debug__" : Str)) = false := by decide) : PE X (.Name x pos) (tC (.int i)) := by
  obtain ⟨t, hm⟩ := hm
  exact pe_glob hg hm ⟨t, rfl⟩ hd
/-- the ticks of a slot of a cure -/
def slT (b : BD) : Int := if 12 < 2 * greatOf b + (cost3 b.costs).2.2 then 12 else 2 * greatOf b + (cost3 b.costs).2.2
def slRow (n : Nat) (k : Int) : List PyData := (List.range n).map fun (t : Nat) => PyData.tuple [.int t, .int k]
def slD (b : BD) : PyData := .tuple [.str "slots", .list (slRow (sidesOf b).length (slT b))]
theorem great_le {b : BD} (ok : BOk b) : 1 ≤ greatOf b ∧ greatOf b ≤ 6 ∧ 0 ≤ (cost3 b.costs).2.2 ∧ (cost3 b.costs).2.2 ≤ 2 ∧ (cost3 b.costs).1 ≤ 3 := by
  obtain ⟨c1, c2, c3, ec, h1, h2, h3, h4, h5, h6⟩ := okCostsL ok.costs
  have okd := ok.disk
  unfold okDisk at okd
  rw [Bool.and_eq_true] at okd
  obtain ⟨dn, ed, d0, d4⟩ := okBetween okd.1
  have e1 : cost3 b.costs = (c1, c2, c3) := by rw [ec]; rfl
  have e2 : dInt0 b.disk = dn := by rw [ed]; rfl
  unfold greatOf
  rw [e1, e2]
  show 1 ≤ c1 + (if dn - 1 > c2 then dn - 1 else c2) ∧ c1 + (if dn - 1 > c2 then dn - 1 else c2) ≤ 6 ∧ 0 ≤ c3 ∧ c3 ≤ 2 ∧ c1 ≤ 3
  split <;> omega
theorem slT_rng {b : BD} (ok : BOk b) : 1 ≤ slT b ∧ slT b ≤ 12 := by
  have h := great_le ok
  unfold slT
  split <;> omega
def spSlotsFor (K : PySem.W.Frag) (C CR : Addr) : Sp := fun vs H Q _ => ∃ (p : Addr) (b : BD), vs = [.ref p] ∧ BuildAt K C CR H p b ∧ ∀ v H', Same H H' → Dp K H' v (slD b) → Q v H'
theorem ok_slots_for (B : Bl mg) (T : BCls K C) (RC : RCls K CR) (g_LONGEST : ∃ t, mg "LONGEST" = some (.int 12 t)) (d : DefAt K mg "slots_for" s_slots_for ["build"]) : Cal P w K mg base 1 "slots_for" ["build"] (spSlotsFor K C CR) := by
 refine Hk.hold ?_
 simp (disch := with_unfolding_all (
 exact Hk.disch (d.cal fun f fd F => by
  refine F.ok sc_slots_for (fun vs H Q E h => ?_) (fun cdv A outer s H vs Q E hr h => ?_)
  · obtain ⟨p, b, rfl, _⟩ := h; rfl
  · obtain ⟨p, b, rfl, BA, q⟩ := h
    have hu := hu_of hr
    refine ⟨_, (pss_cons (ps_set (i := 1) sc_slots_for.nd rfl (Or.inl rfl) (pe_fld (pv 0) rfl))
      (pss_cons (ps_set (i := 2) sc_slots_for.nd rfl (Or.inr rfl) (pe_callB (call_min2 rfl) rfl B.min hb_min (pa_cons (pe_op op_add (pe_op op_mulW pe_int (pe_fld (pv 1) rfl)) (pe_fld (pv 1) rfl)) (pa_cons (pe_globI g_LONGEST) pa_nil))))
      (pss_one (ps_ret (pe_tup (pa_cons pe_str (pa_cons (pe_lc (own := [("task", 3)]) (tt := tYes) rfl sc_slots_for.nd (pi_range1 rfl B.range (pa_cons (pe_fld (pv 1) rfl) pa_nil)) (blkOk_by (N := ["build", "rules", "ticks", "task"]) (sc := defScope s_slots_for) (by decide +kernel)) (fun _ _ _ _ _ => (pg_name (i := 3) sc_slots_for.nd rfl (Or.inl rfl))) (fun _ _ _ _ _ => pts_nil) (fun _ _ _ _ _ => (pe_tup (pa_cons (pv 3) (pa_cons (pv 2) pa_nil))))) pa_nil))))))), ?_⟩
    obtain ⟨PAb, dxb, fsb, rr, eb, eru, RA⟩ := BA
    obtain ⟨gr1, gr2, sw0, sw2, _⟩ := great_le PAb.ok
    obtain ⟨tds, et, t2, t4, _⟩ := okTasksL PAb.ok.tasks
    have es : (sidesOf b).length = tds.length := by unfold sidesOf; rw [et]; exact List.length_map _
    walk_at "st0"
    refine ⟨p, C, dxb, fsb, _, rfl, eb, T.cls, T.n_rules, eru, ?_⟩
    walk_at "st"
    obtain ⟨dxr, fsr, vg, er, els, dg⟩ := RA.get .greatest
    have dg' : Dp K H vg (.int (greatOf b)) := dg
    cases dg'
    refine ⟨rr, CR, dxr, fsr, _, rfl, er, RC.cls, RC.no _ (by decide +kernel), els, ?_⟩
    refine ⟨_, _, rfl, rfl, wide_mul (a := 3) (b := 4) (by omega) (by omega) (by omega) (by omega) (by omega), ?_⟩
    walk_at "st"
    obtain ⟨dxr2, fsr2, vs2, er2, els2, ds2⟩ := RA.get .switch
    rw [er] at er2
    cases er2
    have ds2' : Dp K H vs2 (.int (cost3 b.costs).2.2) := ds2
    cases ds2'
    refine ⟨rr, CR, dxr, fsr, _, rfl, er, RC.cls, RC.no _ (by decide +kernel), els2, ?_⟩
    walk_at "st"
    refine ⟨_, _, rfl, ?_⟩
    have est : (if 12 < 2 * greatOf b + (cost3 b.costs).2.2 then 12 else 2 * greatOf b + (cost3 b.costs).2.2) = slT b := rfl
    rw [est]
    walk_at "st"
    refine q_lcR ?_
    walk_at "st"
    obtain ⟨dxr3, fsr3, vs3, er3, els3, ds3⟩ := RA.get .task_count
    rw [er] at er3
    cases er3
    have ds3' : Dp K H vs3 (.int (dl b.tasks).length) := ds3
    have edl : (dl b.tasks).length = (sidesOf b).length := by rw [es, et]; rfl
    rw [edl] at ds3'
    cases ds3'
    refine ⟨rr, CR, dxr, fsr, _, rfl, er, RC.cls, RC.no _ (by decide +kernel), els3, ?_⟩
    walk_at "st"
    refine ⟨_, rfl, by omega, by omega, ?_⟩
    rw [Int.toNat_natCast]
    refine fun X nX => lc_relD walk_range (fun i y Hh => Dp K Hh y (.tuple [.int ((i : Nat) : Int), .int (slT b)])) nX (sz1000 (by omega)) (fun H2 s => trivial) yfn_same ?_ ?_ ?_
    · rintro i y Ha Hb acc e bt h
      exact dpKeepL (keepL_of_but e bt) h rfl
    · rintro i x0 H' H2 acc lt s ⟨rfl, rfl⟩ eD Q' k
      refine q_gname ⟨rfl, ?_⟩
      simp only [Int.zero_add]
      walk_at "st"
      refine ⟨by show 2 ≤ sizeLine; decide, fun t nt => ?_⟩
      exact k _ _ (same_new nt) (.tup (SqT.of upd_same) (.cons (.int _) (.cons (.int _) .nil)))
    · intro ys H3 s3 eD lD hR
      walk_at "st"
      refine ⟨by show 2 ≤ sizeLine; decide, fun t nt => ?_⟩
      have st := same_new (o := .tup [V.str "slots", V.ref X]) nt
      refine q _ _ (s3.trans st) (.tup (SqT.of upd_same) (.cons (.str _) (.cons (.lst (SqL.of (st _ _ eD)) (dpAll_of (by unfold slRow; rw [List.length_map, List.length_range]; exact lD) fun i x d ex ed => ?_)) .nil)))
      unfold slRow at ed
      rw [List.getElem?_map] at ed
      obtain ⟨j, ej, rfl⟩ := Option.map_eq_some_iff.mp ed
      have hi : i < (sidesOf b).length := by have z := (List.getElem?_eq_some_iff.mp ej).1; rwa [List.length_range] at z
      rw [List.getElem?_range hi] at ej
      cases ej
      exact L2.Dp.mono st (hR i x ex)))) only [↓Hk.hold_s]
end
end T
namespace T
section
variable {P : Program} {w : World} {K : PySem.W.Frag} {mg : Str → Option Value} {base : Heap} {C CR CRo tS : Addr}
def seekD : PyData := .tuple [.str "seek", .int 0]
def notSeek (d : PyData) : Bool := !(PyData.eqv d seekD)
/-- without the rights to seek -/
def unseek (r : List Rt) : List Rt := r.filter fun p => notSeek (rtd p)
/-- the rows of rights that cures leave -/
def rowsC (nm : List Str) (os es : List Nat) (port : Option Int) (R : List (List Rt)) : List (List Rt) :=
  if ("still" : Str) ∈ nm then (if ("cut" : Str) ∈ nm then cutL os es port R else R).map unseek else if ("cut" : Str) ∈ nm then cutL os es port R else R
theorem cutL_row {os es : List Nat} {port : Option Int} {R : List (List Rt)} : ∀ r ∈ cutL os es port R, ∃ r0, r0 ∈ R ∧ r.Sublist r0 := fun r hr => by
  obtain ⟨j, hj, rfl⟩ := List.mem_map.mp (show r ∈ (List.range R.length).map _ from hr)
  have hl := List.mem_range.mp hj
  have e : R.getD j [] = R[j] := by rw [List.getD_eq_getElem?_getD, List.getElem?_eq_getElem hl]; rfl
  refine ⟨R[j], List.getElem_mem hl, ?_⟩
  show List.Sublist (if j ∈ os then _ else _) _
  split
  · rw [← e]; exact List.filter_sublist
  · rw [← e]; exact List.filter_sublist
def spCuredRights (K : PySem.W.Frag) (C CR CRo : Addr) : Sp := fun vs H Q _ => ∃ (p ro c : Addr) (b : BD) (os es : List Nat) (R : List (List Rt)) (nm : List Str), vs = [.ref p, .ref ro, .ref c] ∧ BuildAt K C CR H p b ∧ RoAt K CRo H ro os es ∧ b.rights = .list (R.map rowD) ∧ R.length ≤ 4 ∧ (∀ r ∈ R, r.length ≤ 8 ∧ ∀ p ∈ r, PyData.strOk p.1 = true) ∧ (∀ j ∈ es, j < R.length) ∧ es.length ≤ 4 ∧ SqL K H c (nm.map V.str) ∧
  ∀ v H', Same H H' → Dp K H' v (.list ((rowsC nm os es (portO b.outside) R).map rowD)) → Q v H'
theorem ok_cured_rights (B : Bl mg) (g_SEEK : mg "SEEK" = some (.ref tS)) (hS : ∀ H, Dp K H (.ref tS) seekD) (m_rights : MCal P w K mg base 1 C "rights" ["self"] (spGet K C fun b H v H' => Dp K H' v b.rights)) (c_cut_rights : Cal P w K mg base 3 "cut_rights" ["build", "roles"] (spCutRights K C CR CRo)) (d : DefAt K mg "cured_rights" s_cured_rights ["build", "roles", "names"]) :
    Cal P w K mg base 4 "cured_rights" ["build", "roles", "names"] (spCuredRights K C CR CRo) := by
 refine Hk.hold ?_
 simp (disch := with_unfolding_all (
 exact Hk.disch (d.cal fun f fd F => by
  refine F.ok sc_cured_rights (fun vs H Q E h => ?_) (fun cdv A outer s H vs Q E hr h => ?_)
  · obtain ⟨p, ro, c, b, os, es, R, nm, rfl, _⟩ := h; rfl
  · obtain ⟨p, ro, c, b, os, es, R, nm, rfl, BA, RO, eR, R4, Rok, hes, e4, hc, q⟩ := h
    have hu := hu_of hr
    refine ⟨_, (pss_cons (ps_set (i := 3) sc_cured_rights.nd rfl (Or.inl rfl) (pe_mcal0 m_rights (hr.mono (by omega)) (pv 0)))
      (pss_cons (ps_if (pt_cmpR op_in_seq pe_str (pv 2) (by with_unfolding_all rfl)) (pss_one (ps_set (i := 3) sc_cured_rights.nd rfl (Or.inl rfl) (pe_cal c_cut_rights (hr.mono (by omega)) rfl (pa_cons (pv 0) (pa_cons (pv 1) pa_nil))))) pss_nil)
      (pss_cons (ps_if (pt_cmpR op_in_seq pe_str (pv 2) (by with_unfolding_all rfl)) (pss_one (ps_setLc (i := 3) (own := [("row", 4)]) (tt := tYes) rfl sc_cured_rights.nd rfl rfl (sw_true rfl rfl rfl (by decide +kernel)) (pi_list (pv 3)) (blkOk_by (N := ["build", "roles", "names", "rows", "row", "right"]) (sc := defScope s_cured_rights) (by decide +kernel)) (fun _ _ _ _ _ => (pg_name (i := 4) sc_cured_rights.nd rfl (Or.inl rfl))) (fun _ _ _ _ _ => pts_nil) (fun _ _ _ _ _ => (pe_lc (own := [("right", 5)]) rfl sc_cured_rights.nd (show PI _ _ _ (iList K _) from (pi_list (pv 4))) (blkOk_by (N := ["build", "roles", "names", "rows", "row", "right"]) (sc := ({ kind := .function, names := [(".0", .local), ("row", .local)], isGenerator := false, isCoroutine := false } : Scope)) (by decide +kernel)) (fun _ _ _ _ _ => (pg_name (i := 5) sc_cured_rights.nd rfl (Or.inl rfl))) (fun _ _ _ _ _ => (pts_one (pt_cmpR ((show OpR _ _ (rNeD K) from op_neD (hu64 hr))) (pv 5) (pe_glob (v := .ref tS) rfl g_SEEK rfl) (nomark _)))) (fun _ _ _ _ _ => (pv 5)))))) pss_nil)
      (pss_one (ps_ret (pv 3)))))), ?_⟩
    walk_at "st0"
    refine q_get BA.1 (by decide +kernel) (by decide +kernel) fun v H1 s1 hv => ?_
    rw [eR] at hv
    refine seq_if (fun σ Hx => ∃ (v2 : V) (R2 : List (List Rt)), σ = [some (.ref p), some (.ref ro), some (.ref c), some v2, none, none] ∧ Same H Hx ∧ R2 = (if ("cut" : Str) ∈ nm then cutL os es (portO b.outside) R else R) ∧ R2.length ≤ 4 ∧ (∀ r ∈ R2, r.length ≤ 8 ∧ ∀ p ∈ r, PyData.strOk p.1 = true) ∧ Dp K Hx v2 (.list (R2.map rowD))) (fun σ Hx hx => ?_) (fun N hN => ?_)
    rotate_left
    · walk_at "st"
      refine q_inSeqS (.inl (s1.seq hc)) ?_
      refine ⟨_, rfl, ?_⟩
      by_cases ct : ("cut" : Str) ∈ nm
      · rw [decide_eq_true ct]
        refine iteT ?_
        walk_at "st"
        refine ⟨p, ro, b, os, es, R, rfl, BA.mono s1, RO.mono s1, eR, hes, e4, fun v2 H2 s2 hv2 => ?_⟩
        walk_at "st"
        refine hN _ _ ⟨v2, _, rfl, s1.trans s2, by rw [if_pos ct], by unfold cutL; rw [List.length_map, List.length_range]; exact R4, fun r hr => ?_, hv2⟩
        obtain ⟨r0, h0, sub⟩ := cutL_row r hr
        exact ⟨Nat.le_trans sub.length_le (Rok r0 h0).1, fun p hp => (Rok r0 h0).2 p (sub.subset hp)⟩
      · rw [decide_eq_false ct]
        refine iteF ?_
        walk_at "st"
        exact hN _ _ ⟨v, R, rfl, s1, by rw [if_neg ct], R4, Rok, hv⟩
    obtain ⟨v2, R2, rfl, sx, eR2, R24, R2ok, hv2⟩ := hx
    have eC : rowsC nm os es (portO b.outside) R = if ("still" : Str) ∈ nm then R2.map unseek else R2 := by
      unfold rowsC
      rw [eR2]
    rw [eC] at q
    clear eC eR2
    walk_at "st"
    refine q_inSeqS (.inl (sx.seq hc)) ?_
    refine ⟨_, rfl, ?_⟩
    by_cases st : ("still" : Str) ∈ nm
    · rw [if_pos st] at q
      rw [decide_eq_true st]
      refine iteT ?_
      cases hv2 with
      | @lst la rxs _ hl hr =>
      have lr := hr.length
      rw [List.length_map] at lr
      walk_at "st"
      refine q_lcI ?_
      walk_at "st"
      refine ⟨la, rfl, ⟨_, hl⟩, fun X nX => lc_freshR walk_list (fun i l Hh => ∃ zs ri, Hh l = some (.lst zs) ∧ R2[i]? = some ri ∧ DpAll K Hh zs ((unseek ri).map rtd)) nX (sz1000 (by omega)) (fun H2 s => s.seq hl) yat_same ?_ ?_ ?_ ?_ ?_⟩
      · rintro i l Ha Hb s ⟨zs, es, h1, h2, h3⟩
        exact ⟨zs, es, s _ _ h1, h2, L2.DpAll.mono s h3⟩
      · rintro i l Ha Hb acc n e2 bt ⟨zs, es, h1, h2, h3⟩
        exact ⟨zs, es, bt _ _ h1 n, h2, dpAllKeepL (keepL_of_but e2 bt) h3 (noLs_rt _)⟩
      · rintro i l Ha ⟨zs, es, h1, _⟩ z
        rw [h1] at z; cases z
      · rintro i x H6 H7 lt s ⟨rfl, ex⟩ Q' k
        refine q_gname ?_
        refine ⟨rfl, ?_⟩
        obtain ⟨d, e2, hd2⟩ := hr.get' ex
        rw [List.getElem?_map] at e2
        obtain ⟨ri, eri, rfl⟩ := Option.map_eq_some_iff.mp e2
        obtain ⟨r8, rok⟩ := R2ok ri (List.mem_of_getElem? eri)
        cases hd2 with
        | @lst a2 zs _ h1 h2 =>
        walk_at "st"
        have lz := h2.length
        rw [List.length_map] at lz
        refine q_lcI ?_
        walk_at "st"
        refine ⟨a2, rfl, ⟨_, s.seq h1⟩, fun Y nY => lc_keep walk_list (fun i => notSeek (rtd (ri.getD i default))) (fun i => zs.getD i .non) nY (sz1000 (by omega)) (fun H2 s2 => s2.seq (s.seq h1)) yat_same ?_ ?_⟩
        · rintro j y Hq2 H8 lt2 s2 ⟨rfl, ey⟩ Q2 kk
          refine q_gname ?_
          refine ⟨rfl, ?_⟩
          obtain ⟨dd, g1, g2⟩ := h2.get' ey
          rw [List.getElem?_map] at g1
          obtain ⟨pk, ek, rfl⟩ := Option.map_eq_some_iff.mp g1
          have egk : ri.getD j default = pk := by rw [List.getD_eq_getElem?_getD, ek]; rfl
          have ez : zs.getD j .non = y := by rw [List.getD_eq_getElem?_getD, ey]; rfl
          rw [egk, ez] at kk
          walk_at "st"
          refine ⟨rtd pk, seekD, L2.Dp.mono (s.trans s2) g2, hS _, shaped_rtd (rok _ (List.mem_of_getElem? ek)), shaped_rtd (p := ("seek", 0)) (by decide +kernel), ?_⟩
          refine ⟨_, rfl, ?_⟩
          refine kk _ _ (Same.refl _) (by rfl) fun H9 Q3 s9 _ k3 => ?_
          walk_at "st"
          exact k3 _ (Same.refl _)
        · intro H9 s9 eY
          refine k Y H9 s9 nY ⟨_, ri, eY, eri, ?_⟩
          have z := dpAll_pick (L2.DpAll.mono (s.trans s9) h2) (is := (List.range zs.length).filter fun i => notSeek (rtd (ri.getD i default))) fun i hi => List.mem_range.mp (List.mem_filter.mp hi).1
          rw [show ((List.range zs.length).filter fun i => notSeek (rtd (ri.getD i default))).map (fun i => (ri.map rtd).getD i .none) = (unseek ri).map rtd by rw [lz]; exact pick_rt ri fun p => notSeek (rtd p)] at z
          exact z
      intro ls H4 s4 eX lls nd fr hls
      walk_at "st"
      refine q _ H4 (sx.trans s4) ?_
      refine .lst (SqL.of eX) (dpAll_of (by rw [List.length_map, List.length_map, List.length_map, lls]; exact lr) fun i x d ex ed => ?_)
      rw [List.getElem?_map] at ex ed
      obtain ⟨l, hl2, rfl⟩ := Option.map_eq_some_iff.mp ex
      obtain ⟨zs, ri, h1, h2, h3⟩ := hls i l hl2
      rw [List.getElem?_map, h2] at ed
      cases ed
      exact .lst (SqL.of h1) h3
    · rw [if_neg st] at q
      rw [decide_eq_false st]
      refine iteF ?_
      walk_at "st"
      exact q v2 _ sx hv2))) only [↓Hk.hold_s]
end
end T
namespace T
section
variable {P : Program} {w : World} {K : PySem.W.Frag} {mg : Str → Option Value} {base : Heap} {C CR CRo tS : Addr}
theorem q_cut {t : TE} {σ : L2.St} {H : Hp} {Q : VK} (R : V → Hp → Prop) (h1 : ∀ v H', R v H' → Q v H') (h2 : ∀ N : VK, (∀ v H', R v H' → N v H') → t σ H N) : t σ H Q := h2 Q h1
theorem q_inS {cn : Addr} {nm : List Str} {z : Str} {H : Hp} {Q : VK} (hn : SqL K H cn (nm.map V.str)) (q : Q (.bl (decide (z ∈ nm))) H) : rIn K false (.str z) (.ref cn) H Q := q_inSeqS (.inl hn) q
theorem newL_dp {H H' : Hp} {v : V} {d : PyData} (h : NewL K H H' v d) : Dp K H' v d := by
  obtain ⟨l, xs, ds, rfl, _, e, rfl, da⟩ := h
  exact .lst (SqL.of e) da
theorem isBool_ex {d : PyData} (h : isBool d = true) : ∃ x, d = .bool x := by
  cases d with
  | bool x => exact ⟨x, rfl⟩
  | _ => simp [isBool] at h
/-- a flag, or told by a name -/
def orB (d : PyData) (b : Bool) : PyData := match d with | .bool x => .bool (x || b) | d => d
/-- the build that cures make -/
def rightsL (b : BD) : List (List Rt) := (dl b.rights).map rowOf
theorem rowOf_rowD (r : List Rt) : rowOf (rowD r) = r := by
  show (r.map rtd).map _ = r
  rw [List.map_map]
  exact (List.map_congr_left fun p _ => rfl).trans (List.map_id _)
theorem rights_L {b : BD} (ok : BOk b) : b.rights = .list ((rightsL b).map rowD) ∧ (rightsL b).length = (sidesOf b).length ∧ (rightsL b).length ≤ 4 ∧ ∀ r ∈ rightsL b, r.length ≤ 8 ∧ ∀ p ∈ r, dRight (cOf b) (rtd p) = true ∧ PyData.strOk p.1 = true := by
  obtain ⟨R, e, _, l2, l3, h⟩ := rights_R ok
  have z : rightsL b = R := by
    unfold rightsL
    rw [e]
    show (R.map rowD).map rowOf = R
    rw [List.map_map]
    exact (List.map_congr_left fun r _ => rowOf_rowD r).trans (List.map_id _)
  rw [z]
  exact ⟨e, l2, l3, h⟩
theorem eyeL_lt {b : BD} {ts : List Int} : (∀ j ∈ eyeL b ts, j < (sidesOf b).length) ∧ (eyeL b ts).length ≤ (sidesOf b).length := by
  unfold eyeL
  refine ⟨fun j hj => List.mem_range.mp (List.mem_filter.mp hj).1, ?_⟩
  have z := List.length_filter_le (fun i => decide ((sidesOf b).getD i 0 ∉ ts)) (List.range (sidesOf b).length)
  rw [List.length_range] at z
  exact z
def curB (ts : List Int) (nm : List Str) (b : BD) : BD := { b with
  lines := if ("cold" : Str) ∈ nm then .list ((dl b.lines).map fun _ => .none) else b.lines
  disk := if ("still" : Str) ∈ nm then .int 0 else b.disk
  rights := .list ((rowsC nm (oneL b ts) (eyeL b ts) (portO b.outside) (rightsL b)).map rowD)
  plan := if ("slots" : Str) ∈ nm then slD b else b.plan
  wipe := orB b.wipe (decide (("wipe" : Str) ∈ nm))
  pad := orB b.pad (decide (("pad" : Str) ∈ nm))
  share := orB b.share (decide (("share" : Str) ∈ nm)) }
def spCured (K : PySem.W.Frag) (C CR : Addr) : Sp := fun vs H Q _ => ∃ (p c cn : Addr) (b : BD) (ns ts : List Int) (nm : List Str), vs = [.ref p, .ref c, .ref cn] ∧ BuildAt K C CR H p b ∧ SqL K H c (ts.map V.int) ∧ SdOk b ns ts ∧ SqL K H cn (nm.map V.str) ∧ (∀ x ∈ nm, x ∈ CURE) ∧ nm.Pairwise (fun a b => a.cps.toList < b.cps.toList) ∧ nm.length ≤ 7 ∧ BOk (curB ts nm b) ∧
  ∀ x H', Same H H' → H x = none → BuildAt K C CR H' x (curB ts nm b) → Q (.ref x) H'
theorem ok_cured (B : Bl mg) (c_roles_of : Cal P w K mg base 4 "roles_of" ["build", "ones", "eyes"] (spRolesOf K C CR CRo)) (c_are_cures : Cal P w K mg base 2 "are_cures" ["names"] (spAreCures K)) (c_cured_rights : Cal P w K mg base 4 "cured_rights" ["build", "roles", "names"] (spCuredRights K C CR CRo)) (c_slots_for : Cal P w K mg base 1 "slots_for" ["build"] (spSlotsFor K C CR))
    (m_tasks : MCal P w K mg base 1 C "tasks" ["self"] (spGet K C fun b H v H' => NewL K H H' v b.tasks))
    (m_pages : MCal P w K mg base 1 C "pages" ["self"] (spGet K C fun b H v H' => NewL K H H' v b.pages))
    (m_ports : MCal P w K mg base 1 C "ports" ["self"] (spGet K C fun b H v H' => NewL K H H' v b.ports))
    (m_lines : MCal P w K mg base 1 C "lines" ["self"] (spGet K C fun b H v H' => NewL K H H' v b.lines))
    (m_locks : MCal P w K mg base 1 C "locks" ["self"] (spGet K C fun b H v H' => Dp K H' v b.locks))
    (m_frames : MCal P w K mg base 1 C "frames" ["self"] (spGet K C fun b H v H' => Dp K H' v b.frames))
    (m_disk : MCal P w K mg base 1 C "disk" ["self"] (spGet K C fun b H v H' => Dp K H' v b.disk))
    (m_costs : MCal P w K mg base 1 C "costs" ["self"] (spGet K C fun b H v H' => Dp K H' v b.costs))
    (m_plan : MCal P w K mg base 1 C "plan" ["self"] (spGet K C fun b H v H' => Dp K H' v b.plan))
    (m_outside : MCal P w K mg base 1 C "outside" ["self"] (spGet K C fun b H v H' => Dp K H' v b.outside))
    (m_wipe : MCal P w K mg base 1 C "wipe" ["self"] (spGet K C fun b H v H' => Dp K H' v b.wipe))
    (m_pad : MCal P w K mg base 1 C "pad" ["self"] (spGet K C fun b H v H' => Dp K H' v b.pad))
    (m_lend : MCal P w K mg base 1 C "lend" ["self"] (spGet K C fun b H v H' => Dp K H' v b.lend))
    (m_share : MCal P w K mg base 1 C "share" ["self"] (spGet K C fun b H v H' => Dp K H' v b.share))
    (c_Build : MkKCal P w K mg base 10 C "Build" ["self", "tasks", "pages", "ports", "locks", "frames", "disk", "rights", "lines", "costs", "plan", "outside", "wipe", "pad", "lend", "share"] 11 ["wipe", "pad", "lend", "share"] (spBuild K C CR)) (d : DefAt K mg "cured" s_cured ["build", "ones", "names"]) :
    Cal P w K mg base 12 "cured" ["build", "ones", "names"] (spCured K C CR) := by
 refine Hk.hold ?_
 simp (disch := with_unfolding_all (
 exact Hk.disch (d.cal fun f fd F => by
  refine F.ok sc_cured (fun vs H Q E h => ?_) (fun cdv A outer s H vs Q E hr h => ?_)
  · obtain ⟨p, c, cn, b, ns, ts, nm, rfl, _⟩ := h; rfl
  · obtain ⟨p, c, cn, b, ns, ts, nm, rfl, BA, hc, S, hn, sub, asc, l7, ok2, q⟩ := h
    have hu := hu_of hr
    refine ⟨_, (pss_cons (ps_set (i := 3) sc_cured.nd rfl (Or.inl rfl) (pe_cal c_roles_of (hr.mono (by omega)) rfl (pa_cons (pv 0) (pa_cons (pv 1) (pa_cons pe_non pa_nil)))))
      (pss_cons (ps_if (pt_not (pt_val (pe_cal c_are_cures (hr.mono (by omega)) rfl (pa_cons (pv 2) pa_nil)))) (pss_one (ps_never)) pss_nil)
      (pss_cons (ps_set (i := 4) sc_cured.nd rfl (Or.inl rfl) (pe_ifExp (pt_cmpR op_in_seq pe_str (pv 2) (by with_unfolding_all rfl)) (pe_lc (own := [("line", 7)]) (tt := tYes) rfl sc_cured.nd (pi_list (pe_mcal0 m_lines (hr.mono (by omega)) (pv 0))) (blkOk_by (N := ["build", "ones", "names", "roles", "lines", "disk", "plan", "line"]) (sc := defScope s_cured) (by decide +kernel)) (fun _ _ _ _ _ => (pg_name (i := 7) sc_cured.nd rfl (Or.inl rfl))) (fun _ _ _ _ _ => pts_nil) (fun _ _ _ _ _ => pe_non)) (pe_mcal0 m_lines (hr.mono (by omega)) (pv 0))))
      (pss_cons (ps_set (i := 5) sc_cured.nd rfl (Or.inl rfl) (pe_ifExp (pt_cmpR op_in_seq pe_str (pv 2) (by with_unfolding_all rfl)) pe_int (pe_mcal0 m_disk (hr.mono (by omega)) (pv 0))))
      (pss_cons (ps_set (i := 6) sc_cured.nd rfl (Or.inl rfl) (pe_ifExp (pt_cmpR op_in_seq pe_str (pv 2) (by with_unfolding_all rfl)) (pe_cal c_slots_for (hr.mono (by omega)) rfl (pa_cons (pv 0) pa_nil)) (pe_mcal0 m_plan (hr.mono (by omega)) (pv 0))))
      (pss_one (ps_ret (pe_mkk c_Build (hr.mono (by omega)) rfl (pa_cons (pe_mcal0 m_tasks (hr.mono (by omega)) (pv 0)) (pa_cons (pe_mcal0 m_pages (hr.mono (by omega)) (pv 0)) (pa_cons (pe_mcal0 m_ports (hr.mono (by omega)) (pv 0)) (pa_cons (pe_mcal0 m_locks (hr.mono (by omega)) (pv 0)) (pa_cons (pe_mcal0 m_frames (hr.mono (by omega)) (pv 0)) (pa_cons (pv 5) (pa_cons (pe_cal c_cured_rights (hr.mono (by omega)) rfl (pa_cons (pv 0) (pa_cons (pv 3) (pa_cons (pv 2) pa_nil)))) (pa_cons (pv 4) (pa_cons (pe_mcal0 m_costs (hr.mono (by omega)) (pv 0)) (pa_cons (pv 6) (pa_cons (pe_mcal0 m_outside (hr.mono (by omega)) (pv 0)) pa_nil))))))))))) (pk_cons (pe_or (pe_mcal0 m_wipe (hr.mono (by omega)) (pv 0)) (pe_one (pe_cmpR op_in_seq pe_str (pv 2) (by with_unfolding_all rfl)))) (pk_cons (pe_or (pe_mcal0 m_pad (hr.mono (by omega)) (pv 0)) (pe_one (pe_cmpR op_in_seq pe_str (pv 2) (by with_unfolding_all rfl)))) (pk_cons (pe_mcal0 m_lend (hr.mono (by omega)) (pv 0)) (pk_cons (pe_or (pe_mcal0 m_share (hr.mono (by omega)) (pv 0)) (pe_one (pe_cmpR op_in_seq pe_str (pv 2) (by with_unfolding_all rfl)))) pk_nil)))))))))))), ?_⟩
    walk_at "st0"
    refine ⟨p, c, b, ns, ts, rfl, BA, hc, S, fun ro H1 s1 hro => ?_⟩
    have hn1 := s1.seq hn
    walk_at "st"
    refine ⟨cn, nm, rfl, hn1, sub, asc, l7, fun H2 s2 => ?_⟩
    have hn2 := s2.seq hn1
    have s02 := s1.trans s2
    have PA2 := (BA.mono s02).1
    have RO2 := hro.mono s2
    have BA2 := BA.mono s02
    clear s1 s2 hn1 hro
    refine ⟨true, rfl, ?_⟩
    refine iteF ?_
    refine q_next ?_
    dsimp only
    refine q_seq ?_
    refine q_set ?_
    refine q_cut (fun v H' => Same H2 H' ∧ Dp K H' v (curB ts nm b).lines) (fun v3 H3 h3 => ?_) (fun N hN => ?_)
    · obtain ⟨s3, d3⟩ := h3
      have hn3 := s3.seq hn2
      have PA3 := PA2.mono s3
      dsimp only
      refine q_seq ?_
      refine q_set ?_
      refine q_cut (fun v H' => Same H3 H' ∧ Dp K H' v (curB ts nm b).disk) (fun v4 H4 h4 => ?_) (fun N hN => ?_)
      · obtain ⟨s4, d4⟩ := h4
        have hn4 := s4.seq hn3
        have PA4 := PA3.mono s4
        dsimp only
        refine q_seq ?_
        refine q_set ?_
        refine q_cut (fun v H' => Same H4 H' ∧ Dp K H' v (curB ts nm b).plan) (fun v5 H5 h5 => ?_) (fun N hN => ?_)
        · obtain ⟨s5, d5⟩ := h5
          have hn5 := s5.seq hn4
          have PA5 := PA4.mono s5
          replace d3 := L2.Dp.mono (s4.trans s5) d3
          replace d4 := L2.Dp.mono s5 d4
          have sA := ((s02.trans s3).trans s4).trans s5
          have RO5 := RO2.mono ((s3.trans s4).trans s5)
          have BA5 := BA2.mono ((s3.trans s4).trans s5)
          clear s02 s3 s4 s5 hn2 hn3 hn4 PA2 PA3 PA4
          dsimp only
          refine q_ret ?_
          refine q_makeK ?_
          walk_at "st"
          refine q_get PA5 (by decide +kernel) (by decide +kernel) fun v_tasks H6 t6 g_tasks => ?_
          have PA6 := PA5.mono t6
          have hn6 := t6.seq hn5
          replace g_tasks := newL_dp g_tasks
          walk_at "st"
          refine q_get PA6 (by decide +kernel) (by decide +kernel) fun v_pages H7 t7 g_pages => ?_
          have PA7 := PA6.mono t7
          have hn7 := t7.seq hn6
          replace g_pages := newL_dp g_pages
          walk_at "st"
          refine q_get PA7 (by decide +kernel) (by decide +kernel) fun v_ports H8 t8 g_ports => ?_
          have PA8 := PA7.mono t8
          have hn8 := t8.seq hn7
          replace g_ports := newL_dp g_ports
          walk_at "st"
          refine q_get PA8 (by decide +kernel) (by decide +kernel) fun v_locks H9 t9 g_locks => ?_
          have PA9 := PA8.mono t9
          have hn9 := t9.seq hn8
          walk_at "st"
          refine q_get PA9 (by decide +kernel) (by decide +kernel) fun v_frames H10 t10 g_frames => ?_
          have PA10 := PA9.mono t10
          have hn10 := t10.seq hn9
          walk_at "st"
          have t50 := (((t6.trans t7).trans t8).trans t9).trans t10
          obtain ⟨eRl, rl2, rl4, rlok⟩ := rights_L PA10.ok
          refine ⟨p, ro, cn, b, _, _, rightsL b, nm, rfl, BA5.mono t50, RO5.mono t50, eRl, rl4, fun r hr => ⟨(rlok r hr).1, fun p hp => ((rlok r hr).2 p hp).2⟩, fun j hj => by rw [rl2]; exact eyeL_lt.1 j hj, Nat.le_trans eyeL_lt.2 (by rw [← rl2]; exact rl4), hn10, fun v_rights H11 t11 g_rights => ?_⟩
          have PA11 := PA10.mono t11
          have hn11 := t11.seq hn10
          walk_at "st"
          refine q_get PA11 (by decide +kernel) (by decide +kernel) fun v_costs H12 t12 g_costs => ?_
          have PA12 := PA11.mono t12
          have hn12 := t12.seq hn11
          walk_at "st"
          refine q_get PA12 (by decide +kernel) (by decide +kernel) fun v_outside H13 t13 g_outside => ?_
          have PA13 := PA12.mono t13
          have hn13 := t13.seq hn12
          refine q_nil ?_
          refine q_cons ?_
          refine q_cut (fun v H' => Same H13 H' ∧ Dp K H' v (orB b.wipe (decide (("wipe" : Str) ∈ nm)))) (fun v_wipe H14 hh => ?_) (fun N hN => ?_)
          rotate_left
          · walk_at "st"
            refine q_get PA13 (by decide +kernel) (by decide +kernel) fun v H' s' d' => ?_
            obtain ⟨x, ex⟩ := isBool_ex PA13.ok.wipe
            rw [ex] at d' hN
            cases d'
            refine ⟨x, rfl, ?_⟩
            cases x with
            | true => exact iteT (hN _ _ ⟨s', by show Dp K H' (.bl true) (.bool (true || _)); exact .bl _⟩)
            | false =>
              refine iteF ?_
              walk_at "st"
              refine q_inS (s'.seq hn13) ?_
              exact hN _ _ ⟨s', by show Dp K H' _ (.bool (false || _)); rw [Bool.false_or]; exact .bl _⟩
          obtain ⟨t14, g_wipe⟩ := hh
          have PA14 := PA13.mono t14
          have hn14 := t14.seq hn13
          refine q_cons ?_
          refine q_cut (fun v H' => Same H14 H' ∧ Dp K H' v (orB b.pad (decide (("pad" : Str) ∈ nm)))) (fun v_pad H15 hh => ?_) (fun N hN => ?_)
          rotate_left
          · walk_at "st"
            refine q_get PA14 (by decide +kernel) (by decide +kernel) fun v H' s' d' => ?_
            obtain ⟨x, ex⟩ := isBool_ex PA14.ok.pad
            rw [ex] at d' hN
            cases d'
            refine ⟨x, rfl, ?_⟩
            cases x with
            | true => exact iteT (hN _ _ ⟨s', by show Dp K H' (.bl true) (.bool (true || _)); exact .bl _⟩)
            | false =>
              refine iteF ?_
              walk_at "st"
              refine q_inS (s'.seq hn14) ?_
              exact hN _ _ ⟨s', by show Dp K H' _ (.bool (false || _)); rw [Bool.false_or]; exact .bl _⟩
          obtain ⟨t15, g_pad⟩ := hh
          have PA15 := PA14.mono t15
          have hn15 := t15.seq hn14
          refine q_cons ?_
          refine q_cut (fun v H' => Same H15 H' ∧ Dp K H' v b.lend) (fun v_lend H16 hh => ?_) (fun N hN => ?_)
          rotate_left
          · walk_at "st"
            exact q_get PA15 (by decide +kernel) (by decide +kernel) fun v H' s' d' => hN _ _ ⟨s', d'⟩
          obtain ⟨t16, g_lend⟩ := hh
          have PA16 := PA15.mono t16
          have hn16 := t16.seq hn15
          refine q_cons ?_
          refine q_cut (fun v H' => Same H16 H' ∧ Dp K H' v (orB b.share (decide (("share" : Str) ∈ nm)))) (fun v_share H17 hh => ?_) (fun N hN => ?_)
          rotate_left
          · walk_at "st"
            refine q_get PA16 (by decide +kernel) (by decide +kernel) fun v H' s' d' => ?_
            obtain ⟨x, ex⟩ := isBool_ex PA16.ok.share
            rw [ex] at d' hN
            cases d'
            refine ⟨x, rfl, ?_⟩
            cases x with
            | true => exact iteT (hN _ _ ⟨s', by show Dp K H' (.bl true) (.bool (true || _)); exact .bl _⟩)
            | false =>
              refine iteF ?_
              walk_at "st"
              refine q_inS (s'.seq hn16) ?_
              exact hN _ _ ⟨s', by show Dp K H' _ (.bool (false || _)); rw [Bool.false_or]; exact .bl _⟩
          obtain ⟨t17, g_share⟩ := hh
          have PA17 := PA16.mono t17
          have hn17 := t17.seq hn16
          refine q_nil ?_
          refine ⟨rfl, rfl, fun x dx nx ndx ne => ?_⟩
          have m17 : Same H17 (upd (upd H17 dx (.own x)) x (.ins C dx [])) := (same_new ndx).trans (same_new (by rw [upd_ne (Ne.symm ne)]; exact nx))
          have z17 := Same.refl H17
          have m16 := t17.trans m17
          have z16 := t17.trans z17
          have m15 := t16.trans m16
          have z15 := t16.trans z16
          have m14 := t15.trans m15
          have z14 := t15.trans z15
          have m13 := t14.trans m14
          have z13 := t14.trans z14
          have m12 := t13.trans m13
          have z12 := t13.trans z13
          have m11 := t12.trans m12
          have z11 := t12.trans z12
          have m10 := t11.trans m11
          have z10 := t11.trans z11
          have m9 := t10.trans m10
          have z9 := t10.trans z10
          have m8 := t9.trans m9
          have z8 := t9.trans z9
          have m7 := t8.trans m8
          have z7 := t8.trans z8
          have m6 := t7.trans m7
          have z6 := t7.trans z7
          have m5 := t6.trans m6
          have z5 := t6.trans z6
          have sE := sA.trans z5
          refine ⟨x, dx, v_tasks, v_pages, v_ports, v_locks, v_frames, v4, v_rights, v3, v_costs, v5, v_outside, v_wipe, v_pad, v_lend, v_share, curB ts nm b, rfl, upd_same, ok2, L2.Dp.mono m6 g_tasks, L2.Dp.mono m7 g_pages, L2.Dp.mono m8 g_ports, L2.Dp.mono m9 g_locks, L2.Dp.mono m10 g_frames, L2.Dp.mono m5 d4, L2.Dp.mono m11 g_rights, L2.Dp.mono m5 d3, L2.Dp.mono m12 g_costs, L2.Dp.mono m5 d5, L2.Dp.mono m13 g_outside, L2.Dp.mono m14 g_wipe, L2.Dp.mono m15 g_pad, L2.Dp.mono m16 g_lend, L2.Dp.mono m17 g_share, fun H' bt pa => ⟨rfl, q x H' (fun y o hy => bt _ _ (m17 _ _ (sE _ _ hy)) (ne_of_none (sE _ _ hy) nx)) (sE.free nx) pa⟩⟩
        · walk_at "st"
          refine q_inS hn4 ?_
          refine ⟨_, rfl, ?_⟩
          by_cases sl : ("slots" : Str) ∈ nm
          · rw [decide_eq_true sl]
            refine iteT ?_
            walk_at "st"
            refine ⟨p, b, rfl, BA2.mono (s3.trans s4), fun v H' s' d' => hN _ _ ⟨s', by show Dp K H' _ (if _ then _ else _); rw [if_pos sl]; exact d'⟩⟩
          · rw [decide_eq_false sl]
            refine iteF ?_
            walk_at "st"
            exact q_get PA4 (by decide +kernel) (by decide +kernel) fun v H' s' d' => hN _ _ ⟨s', by show Dp K H' _ (if _ then _ else _); rw [if_neg sl]; exact d'⟩
      · walk_at "st"
        refine q_inS hn3 ?_
        refine ⟨_, rfl, ?_⟩
        by_cases st : ("still" : Str) ∈ nm
        · rw [decide_eq_true st]
          refine iteT ?_
          walk_at "st"
          exact hN _ _ ⟨Same.refl _, by show Dp K H3 _ (if _ then _ else _); rw [if_pos st]; exact .int _⟩
        · rw [decide_eq_false st]
          refine iteF ?_
          walk_at "st"
          exact q_get PA3 (by decide +kernel) (by decide +kernel) fun v H' s' d' => hN _ _ ⟨s', by show Dp K H' _ (if _ then _ else _); rw [if_neg st]; exact d'⟩
    · walk_at "st"
      refine q_inS hn2 ?_
      refine ⟨_, rfl, ?_⟩
      by_cases cd : ("cold" : Str) ∈ nm
      · rw [decide_eq_true cd]
        refine iteT ?_
        refine q_lcI ?_
        walk_at "st"
        refine q_get PA2 (by decide +kernel) (by decide +kernel) fun v H' s' d' => ?_
        obtain ⟨l, xs, ds, rfl, nl, el, ed, da⟩ := d'
        obtain ⟨lds, el2, ll, _⟩ := okLinesL PA2.ok.lines
        have eds : ds = lds := by rw [el2] at ed; cases ed; rfl
        subst eds
        have ld := da.length
        have l3 : ds.length ≤ 100 := by
          obtain ⟨pds, ep, l1, l2⟩ := okList PA2.ok.pages
          have z := okLinesL PA2.ok.lines
          obtain ⟨ds', e', l', _⟩ := z
          rw [el2] at e'
          cases e'
          have ct : cnt (cOf b) "page" = ((dl b.pages).length : Int) := by
            obtain ⟨tds', pds', qds', ln, dn, et', ep', _, _, _, ecn, _⟩ := cOf_forms PA2.ok
            rw [ecn, ep']; rfl
          rw [ct, ep] at l'
          have : (dl (.list pds)).length = pds.length := rfl
          omega
        refine ⟨l, rfl, ⟨_, SqL.of el⟩, fun X nX => lc_val (n := xs.length) walk_list (fun _ => V.non) nX (sz1000 (by omega)) (fun H2 s => s.seq (SqL.of el)) yat_same ?_ ?_⟩
        · rintro i x Hq H6 lt s ⟨rfl, e⟩ Q2 k
          refine q_gname ?_
          refine ⟨rfl, ?_⟩
          walk_at "st"
          exact k _ (Same.refl _)
        · intro H9 s9 eX
          refine hN _ _ ⟨s'.trans s9, ?_⟩
          show Dp K H9 _ (if _ then _ else _)
          rw [if_pos cd, el2]
          refine .lst (SqL.of eX) (dpAll_of (by simp [dl, ld]) fun i x d ex ed => ?_)
          rw [List.getElem?_map] at ex ed
          obtain ⟨_, _, rfl⟩ := Option.map_eq_some_iff.mp ex
          obtain ⟨_, _, rfl⟩ := Option.map_eq_some_iff.mp ed
          exact .non
      · rw [decide_eq_false cd]
        refine iteF ?_
        walk_at "st"
        refine q_get PA2 (by decide +kernel) (by decide +kernel) fun v H' s' d' => hN _ _ ⟨s', ?_⟩
        obtain ⟨l, xs, ds, rfl, nl, el, ed, da⟩ := d'
        show Dp K H' _ (if _ then _ else _)
        rw [if_neg cd, ed]
        exact .lst (SqL.of el) da))) only [↓Hk.hold_s]
end
end T
namespace T
section
variable {P : Program} {w : World} {K : PySem.W.Frag} {mg : Str → Option Value} {base : Heap} {C CR CRo tS : Addr}
theorem dRight_still {t p q l d : Int} {w : Str} {i : Int} (h : dRight (cntOf t p q l d) (.tuple [.str w, .int i]) = true) (ns : notSeek (.tuple [.str w, .int i]) = true) : dRight (cntOf t p q l 0) (.tuple [.str w, .int i]) = true := by
 refine Hk.hold ?_
 simp (disch := with_unfolding_all (
 exact Hk.disch (by
  unfold dRight at h ⊢
  have ew : dWord (.tuple [.str w, .int i]) = w := rfl
  rw [ew] at h ⊢
  cases e : rTab.lookup w with
  | none => rw [e] at h; cases h
  | some ks =>
    rw [e] at h
    have hm := lookup_mem e
    simp only [rTab, List.mem_cons, List.not_mem_nil, or_false, Prod.mk.injEq] at hm
    rcases hm with ⟨rfl, rfl⟩ | ⟨rfl, rfl⟩ | ⟨rfl, rfl⟩ | ⟨rfl, rfl⟩ | ⟨rfl, rfl⟩ | ⟨rfl, rfl⟩ | ⟨rfl, rfl⟩ | ⟨rfl, rfl⟩
    · exact h
    · exact h
    · exact h
    · exact h
    · exact h
    · exact h
    · exact h
    · exfalso
      have h2 : kf1 (cntOf t p q l d) "disk" (.int i) = true := by simpa [dFormed, dKinds] using h
      have h3 : dBetween (.int i) 0 ((if 1 < d then 1 else d) - 1) = true := by
        have z := h2
        unfold kf1 at z
        rw [if_neg (by decide +kernel)] at z
        exact z
      have h4 : 0 ≤ i ∧ i ≤ (if 1 < d then 1 else d) - 1 := by simpa [dBetween] using h3
      have h5 : i = 0 := by
        have := h4.2
        split at this <;> omega
      subst h5
      exact absurd ns (by decide +kernel)))) only [↓Hk.hold_s]
theorem asc_pw : ∀ {l : List (Str × Int)}, ascWI l = true → l.Pairwise fun a b => ltWI a b = true
  | [], _ => .nil
  | [_], _ => by simp
  | a :: b :: r, h => by
    have h' : (ltWI a b && ascWI (b :: r)) = true := h
    rw [Bool.and_eq_true] at h'
    have ih := asc_pw h'.2
    refine List.pairwise_cons.mpr ⟨fun x hx => ?_, ih⟩
    rcases List.mem_cons.mp hx with rfl | hx
    · exact h'.1
    · have h2 := (List.pairwise_cons.mp ih).1 x hx
      rw [ltWI_iff] at *
      exact ltWIp_trans h'.1 h2
theorem pw_asc : ∀ {l : List (Str × Int)}, (l.Pairwise fun a b => ltWI a b = true) → ascWI l = true
  | [], _ => rfl
  | [_], _ => rfl
  | a :: b :: r, h => by
    obtain ⟨h1, h2⟩ := List.pairwise_cons.mp h
    show (ltWI a b && ascWI (b :: r)) = true
    rw [h1 b List.mem_cons_self, pw_asc h2]; rfl
theorem curRow_ok {t p q l d : Int} {es : List PyData} (h : okRow (cntOf t p q l d) (.list es) = true) : okRow (cntOf t p q l 0) (.list (es.filter notSeek)) = true := by
 refine Hk.hold ?_
 simp (disch := with_unfolding_all (
 exact Hk.disch (by
  unfold okRow at h ⊢
  rw [Bool.and_eq_true] at h ⊢
  obtain ⟨h1, h2⟩ := h
  rw [Bool.and_eq_true] at h2
  obtain ⟨h2, h3⟩ := h2
  have hs : ∀ x ∈ es, ∃ w i, x = .tuple [.str w, .int i] := fun x hx => dRight_shape (List.all_eq_true.mp h2 x hx)
  refine ⟨?_, ?_⟩
  · have := List.length_filter_le notSeek es
    simp [dListOf] at h1 ⊢
    omega
  · show ((es.filter notSeek).all _ && ascWI _) = true
    rw [Bool.and_eq_true]
    refine ⟨List.all_eq_true.mpr fun x hx => ?_, ?_⟩
    · obtain ⟨m1, m2⟩ := List.mem_filter.mp hx
      obtain ⟨w, i, rfl⟩ := hs x m1
      exact dRight_still (List.all_eq_true.mp h2 _ m1) m2
    · exact pw_asc ((asc_pw h3).sublist (List.filter_sublist.map _))))) only [↓Hk.hold_s]
theorem okPlan_d {t p q l d : Int} {pl : PyData} (h : okPlan (cntOf t p q l d) pl = true) : okPlan (cntOf t p q l 0) pl = true := h
theorem okOut_d {t p q l d : Int} {od : PyData} (h : okOutside (cntOf t p q l d) od = true) : okOutside (cntOf t p q l 0) od = true := h
theorem okLines_d {t p q l d : Int} {od : PyData} (h : okLines (cntOf t p q l d) od = true) : okLines (cntOf t p q l 0) od = true := h
theorem okLines_none {c : Cnt} {od : PyData} (h : okLines c od = true) : okLines c (.list ((dl od).map fun _ => .none)) = true := by
  obtain ⟨ds, rfl, l, _⟩ := okLinesL h
  unfold okLines
  rw [Bool.and_eq_true]
  refine ⟨by simp [dListOf, dl]; omega, ?_⟩
  show (((dl (.list ds)).map fun _ => PyData.none).all okLine) = true
  rw [List.all_eq_true]
  intro x hx
  obtain ⟨_, _, rfl⟩ := List.mem_map.mp hx
  rfl
theorem orB_bool {d : PyData} {x : Bool} (h : isBool d = true) : isBool (orB d x) = true := by
  obtain ⟨y, rfl⟩ := isBool_ex h
  rfl
theorem row_sub_ok {t p q l d : Int} {r r0 : List Rt} (sub : r.Sublist r0) (h : okRow (cntOf t p q l d) (rowD r0) = true) : okRow (cntOf t p q l d) (rowD r) = true := by
 refine Hk.hold ?_
 simp (disch := with_unfolding_all (
 exact Hk.disch (by
  have h' : okRow (cntOf t p q l d) (.list (r0.map rtd)) = true := h
  show okRow (cntOf t p q l d) (.list (r.map rtd)) = true
  unfold okRow at h' ⊢
  rw [Bool.and_eq_true] at h' ⊢
  obtain ⟨h1, h2⟩ := h'
  rw [Bool.and_eq_true] at h2
  obtain ⟨h2, h3⟩ := h2
  have sm : (r.map rtd).Sublist (r0.map rtd) := sub.map _
  refine ⟨?_, ?_⟩
  · have := sm.length_le
    simp [dListOf] at h1 ⊢
    simp at this
    omega
  · show ((r.map rtd).all _ && ascWI _) = true
    rw [Bool.and_eq_true]
    exact ⟨List.all_eq_true.mpr fun x hx => List.all_eq_true.mp h2 x (sm.subset hx), pw_asc ((asc_pw h3).sublist (sm.map _))⟩))) only [↓Hk.hold_s]
theorem unseek_rt (r : List Rt) : (r.map rtd).filter notSeek = (unseek r).map rtd := by
  unfold unseek
  rw [List.filter_map]
  rfl
/-- the rows of cures are rows of rights -/
theorem rowsC_ok {b : BD} (ok : BOk b) {nm : List Str} {os es : List Nat} {port : Option Int} {t p q l d d2 : Int} (ec : cOf b = cntOf t p q l d) (hd : d2 = if ("still" : Str) ∈ nm then 0 else d) : okRights (cntOf t p q l d2) (.list ((rowsC nm os es port (rightsL b)).map rowD)) = true := by
 refine Hk.hold ?_
 simp (disch := with_unfolding_all (
 exact Hk.disch (by
  obtain ⟨eR, l1, l4, h⟩ := rights_L ok
  have okr := ok.rights
  rw [eR, ec] at okr
  unfold okRights at okr
  rw [Bool.and_eq_true] at okr
  have rows0 : ∀ r ∈ rightsL b, okRow (cntOf t p q l d) (rowD r) = true := fun r hr => List.all_eq_true.mp okr.2 _ (List.mem_map_of_mem hr)
  have hl : (rowsC nm os es port (rightsL b)).length = (rightsL b).length := by
    unfold rowsC
    split <;> split <;> simp [cutL]
  have rows1 : ∀ r ∈ (if ("cut" : Str) ∈ nm then cutL os es port (rightsL b) else rightsL b), okRow (cntOf t p q l d) (rowD r) = true := fun r hr => by
    split at hr
    · obtain ⟨r0, h0, sub⟩ := cutL_row r hr
      exact row_sub_ok sub (rows0 r0 h0)
    · exact rows0 r hr
  unfold okRights
  rw [Bool.and_eq_true]
  refine ⟨?_, ?_⟩
  · have z := okr.1
    simp [dListOf] at z ⊢
    rw [hl]
    exact z
  · show ((rowsC nm os es port (rightsL b)).map rowD).all _ = true
    rw [List.all_eq_true]
    intro x hx
    obtain ⟨r, hr, rfl⟩ := List.mem_map.mp hx
    subst hd
    by_cases st : ("still" : Str) ∈ nm
    · rw [if_pos st]
      have hr' : r ∈ (if ("cut" : Str) ∈ nm then cutL os es port (rightsL b) else rightsL b).map unseek := by
        unfold rowsC at hr
        rwa [if_pos st] at hr
      obtain ⟨r1, h1, rfl⟩ := List.mem_map.mp hr'
      have z := curRow_ok (rows1 r1 h1)
      rw [unseek_rt] at z
      exact z
    · rw [if_neg st]
      have hr' : r ∈ (if ("cut" : Str) ∈ nm then cutL os es port (rightsL b) else rightsL b) := by
        unfold rowsC at hr
        rwa [if_neg st] at hr
      exact rows1 r hr'))) only [↓Hk.hold_s]
theorem slD_ok {b : BD} (ok : BOk b) {t p q l d : Int} (ht : t = (sidesOf b).length) : okPlan (cntOf t p q l d) (slD b) = true := by
 refine Hk.hold ?_
 simp (disch := with_unfolding_all (
 exact Hk.disch (by
  obtain ⟨tds, et, t2, t4, _⟩ := okTasksL ok.tasks
  have es : (sidesOf b).length = tds.length := by unfold sidesOf; rw [et]; exact List.length_map _
  have r := slT_rng ok
  have hz : ("slots" : Str) ≠ "levels" := by decide +kernel
  show (dTupleOf (slD b) 2 && (if ("slots" : Str) = "levels" then _ else decide (("slots" : Str) = "slots") && okSlots (cntOf t p q l d) (.list (slRow (sidesOf b).length (slT b))))) = true
  rw [if_neg hz, decide_eq_true rfl, Bool.true_and]
  have h1 : dTupleOf (slD b) 2 = true := by rfl
  rw [h1, Bool.true_and]
  unfold okSlots
  rw [Bool.and_eq_true]
  refine ⟨by simp [dListOf, slRow]; omega, ?_⟩
  show (slRow (sidesOf b).length (slT b)).all _ = true
  rw [List.all_eq_true]
  intro x hx
  obtain ⟨i, hi, rfl⟩ := List.mem_map.mp (show x ∈ (List.range (sidesOf b).length).map _ from hx)
  have hl := List.mem_range.mp hi
  have ct : cnt (cntOf t p q l d) "task" = t := by rfl
  unfold okSlot
  rw [Bool.and_eq_true]
  refine ⟨by rfl, ?_⟩
  show (dBetween (.int ((i : Nat) : Int)) 0 (cnt (cntOf t p q l d) "task" - 1) && dBetween (.int (slT b)) 1 12) = true
  rw [ct]
  simp [dBetween]
  omega))) only [↓Hk.hold_s]
theorem curB_ok {b : BD} (ok : BOk b) (ts : List Int) (nm : List Str) : BOk (curB ts nm b) := by
 refine Hk.hold ?_
 simp (disch := with_unfolding_all (
 exact Hk.disch (by
  obtain ⟨tds, pds, qds, l, d, et, ep, eq, el, ed, ec, _⟩ := cOf_forms ok
  by_cases st : ("still" : Str) ∈ nm
  · have ec2 : cOf (curB ts nm b) = cntOf tds.length pds.length qds.length l 0 := by
      simp only [curB, cOf, et, ep, eq, el, if_pos st]
    refine ⟨ok.tasks, ok.pages, ok.ports, ok.locks, ok.frames, ?_, ?_, ?_, ok.costs, ?_, ?_, orB_bool ok.wipe, orB_bool ok.pad, ok.lend, orB_bool ok.share⟩
    · show okDisk (if _ then _ else _) = true
      rw [if_pos st]; decide +kernel
    · rw [ec2]
      exact rowsC_ok ok ec (by rw [if_pos st])
    · rw [ec2]
      have z := ok.lines
      rw [ec] at z
      show okLines _ (if _ then _ else _) = true
      split
      · exact okLines_none (okLines_d z)
      · exact okLines_d z
    · rw [ec2]
      have z := ok.plan
      rw [ec] at z
      show okPlan _ (if _ then _ else _) = true
      split
      · exact slD_ok ok (by unfold sidesOf; rw [et]; simp)
      · exact okPlan_d z
    · rw [ec2]
      have z := ok.outside
      rw [ec] at z
      exact okOut_d z
  · have ec2 : cOf (curB ts nm b) = cntOf tds.length pds.length qds.length l d := by
      simp only [curB, cOf, et, ep, eq, el, ed, if_neg st]
    refine ⟨ok.tasks, ok.pages, ok.ports, ok.locks, ok.frames, ?_, ?_, ?_, ok.costs, ?_, ?_, orB_bool ok.wipe, orB_bool ok.pad, ok.lend, orB_bool ok.share⟩
    · show okDisk (if _ then _ else _) = true
      rw [if_neg st]; exact ok.disk
    · rw [ec2]
      exact rowsC_ok ok ec (by rw [if_neg st])
    · rw [ec2, ← ec]
      show okLines _ (if _ then _ else _) = true
      split
      · exact okLines_none ok.lines
      · exact ok.lines
    · rw [ec2]
      show okPlan _ (if _ then _ else _) = true
      split
      · exact slD_ok ok (by unfold sidesOf; rw [et]; simp)
      · rw [← ec]; exact ok.plan
    · rw [ec2, ← ec]; exact ok.outside))) only [↓Hk.hold_s]
end
end T
namespace T
section
variable {P : Program} {w : World} {K : PySem.W.Frag} {mg : Str → Option Value} {base : Heap} {C CR CRo tS : Addr}
/-- what a build tells of itself -/
def factD (b : BD) (ns : List Int) : List PyData := [b.tasks, b.pages, b.ports, b.locks, b.frames, b.disk, b.rights, b.lines, b.costs, b.plan, b.outside, b.wipe, b.pad, b.lend, b.share, .list (ns.map .int)]
def spFacts (K : PySem.W.Frag) (C : Addr) : Sp := fun vs H Q _ => ∃ (p : Addr) (b : BD), vs = [.ref p] ∧ PartsAt K C H p b ∧ ∀ (l : Addr) (xs : List V) (ns : List Int) (H' : Hp), Same H H' → H l = none → H' l = some (.lst xs) → DpAll K H' xs (factD b ns) → ns.Pairwise (· < ·) → (∀ k, k ∈ ns ↔ k ∈ sidesOf b) → Q (.ref l) H'
theorem ok_law_facts (B : Bl mg)
    (m_tasks : MCal P w K mg base 1 C "tasks" ["self"] (spGet K C fun b H v H' => NewL K H H' v b.tasks))
    (m_pages : MCal P w K mg base 1 C "pages" ["self"] (spGet K C fun b H v H' => NewL K H H' v b.pages))
    (m_ports : MCal P w K mg base 1 C "ports" ["self"] (spGet K C fun b H v H' => NewL K H H' v b.ports))
    (m_locks : MCal P w K mg base 1 C "locks" ["self"] (spGet K C fun b H v H' => Dp K H' v b.locks))
    (m_frames : MCal P w K mg base 1 C "frames" ["self"] (spGet K C fun b H v H' => Dp K H' v b.frames))
    (m_disk : MCal P w K mg base 1 C "disk" ["self"] (spGet K C fun b H v H' => Dp K H' v b.disk))
    (m_rights : MCal P w K mg base 1 C "rights" ["self"] (spGet K C fun b H v H' => Dp K H' v b.rights))
    (m_lines : MCal P w K mg base 1 C "lines" ["self"] (spGet K C fun b H v H' => NewL K H H' v b.lines))
    (m_costs : MCal P w K mg base 1 C "costs" ["self"] (spGet K C fun b H v H' => Dp K H' v b.costs))
    (m_plan : MCal P w K mg base 1 C "plan" ["self"] (spGet K C fun b H v H' => Dp K H' v b.plan))
    (m_outside : MCal P w K mg base 1 C "outside" ["self"] (spGet K C fun b H v H' => Dp K H' v b.outside))
    (m_wipe : MCal P w K mg base 1 C "wipe" ["self"] (spGet K C fun b H v H' => Dp K H' v b.wipe))
    (m_pad : MCal P w K mg base 1 C "pad" ["self"] (spGet K C fun b H v H' => Dp K H' v b.pad))
    (m_lend : MCal P w K mg base 1 C "lend" ["self"] (spGet K C fun b H v H' => Dp K H' v b.lend))
    (m_share : MCal P w K mg base 1 C "share" ["self"] (spGet K C fun b H v H' => Dp K H' v b.share))
    (m_sides : MCal P w K mg base 1 C "sides" ["self"] (spGet K C IsSides)) (d : DefAt K mg "_law_facts" s__law_facts ["_law_build_here"]) : Cal P w K mg base 2 "_law_facts" ["_law_build_here"] (spFacts K C) := by
 refine Hk.hold ?_
 simp (disch := with_unfolding_all (
 exact Hk.disch (d.cal fun f fd F => by
  refine F.ok sc__law_facts (fun vs H Q E h => ?_) (fun cdv A outer s H vs Q E hr h => ?_)
  · obtain ⟨p, b, rfl, _⟩ := h; rfl
  · obtain ⟨p, b, rfl, PA0, q⟩ := h
    have hu := hu_of hr
    refine ⟨_, (pss_one (ps_ret (pe_lst (pa_cons (pe_mcal0 m_tasks (hr.mono (by omega)) (pv 0)) (pa_cons (pe_mcal0 m_pages (hr.mono (by omega)) (pv 0)) (pa_cons (pe_mcal0 m_ports (hr.mono (by omega)) (pv 0)) (pa_cons (pe_mcal0 m_locks (hr.mono (by omega)) (pv 0)) (pa_cons (pe_mcal0 m_frames (hr.mono (by omega)) (pv 0)) (pa_cons (pe_mcal0 m_disk (hr.mono (by omega)) (pv 0)) (pa_cons (pe_mcal0 m_rights (hr.mono (by omega)) (pv 0)) (pa_cons (pe_mcal0 m_lines (hr.mono (by omega)) (pv 0)) (pa_cons (pe_mcal0 m_costs (hr.mono (by omega)) (pv 0)) (pa_cons (pe_mcal0 m_plan (hr.mono (by omega)) (pv 0)) (pa_cons (pe_mcal0 m_outside (hr.mono (by omega)) (pv 0)) (pa_cons (pe_mcal0 m_wipe (hr.mono (by omega)) (pv 0)) (pa_cons (pe_mcal0 m_pad (hr.mono (by omega)) (pv 0)) (pa_cons (pe_mcal0 m_lend (hr.mono (by omega)) (pv 0)) (pa_cons (pe_mcal0 m_share (hr.mono (by omega)) (pv 0)) (pa_cons (pe_mcal0 m_sides (hr.mono (by omega)) (pv 0)) pa_nil))))))))))))))))))), ?_⟩
    walk_at "st0"
    refine q_get PA0 (by decide +kernel) (by decide +kernel) fun v1 H1 t1 g1 => ?_
    have PA1 := PA0.mono t1
    replace g1 := newL_dp g1
    walk_at "st"
    refine q_get PA1 (by decide +kernel) (by decide +kernel) fun v2 H2 t2 g2 => ?_
    have PA2 := PA1.mono t2
    replace g2 := newL_dp g2
    walk_at "st"
    refine q_get PA2 (by decide +kernel) (by decide +kernel) fun v3 H3 t3 g3 => ?_
    have PA3 := PA2.mono t3
    replace g3 := newL_dp g3
    walk_at "st"
    refine q_get PA3 (by decide +kernel) (by decide +kernel) fun v4 H4 t4 g4 => ?_
    have PA4 := PA3.mono t4
    walk_at "st"
    refine q_get PA4 (by decide +kernel) (by decide +kernel) fun v5 H5 t5 g5 => ?_
    have PA5 := PA4.mono t5
    walk_at "st"
    refine q_get PA5 (by decide +kernel) (by decide +kernel) fun v6 H6 t6 g6 => ?_
    have PA6 := PA5.mono t6
    walk_at "st"
    refine q_get PA6 (by decide +kernel) (by decide +kernel) fun v7 H7 t7 g7 => ?_
    have PA7 := PA6.mono t7
    walk_at "st"
    refine q_get PA7 (by decide +kernel) (by decide +kernel) fun v8 H8 t8 g8 => ?_
    have PA8 := PA7.mono t8
    replace g8 := newL_dp g8
    walk_at "st"
    refine q_get PA8 (by decide +kernel) (by decide +kernel) fun v9 H9 t9 g9 => ?_
    have PA9 := PA8.mono t9
    walk_at "st"
    refine q_get PA9 (by decide +kernel) (by decide +kernel) fun v10 H10 t10 g10 => ?_
    have PA10 := PA9.mono t10
    walk_at "st"
    refine q_get PA10 (by decide +kernel) (by decide +kernel) fun v11 H11 t11 g11 => ?_
    have PA11 := PA10.mono t11
    walk_at "st"
    refine q_get PA11 (by decide +kernel) (by decide +kernel) fun v12 H12 t12 g12 => ?_
    have PA12 := PA11.mono t12
    walk_at "st"
    refine q_get PA12 (by decide +kernel) (by decide +kernel) fun v13 H13 t13 g13 => ?_
    have PA13 := PA12.mono t13
    walk_at "st"
    refine q_get PA13 (by decide +kernel) (by decide +kernel) fun v14 H14 t14 g14 => ?_
    have PA14 := PA13.mono t14
    walk_at "st"
    refine q_get PA14 (by decide +kernel) (by decide +kernel) fun v15 H15 t15 g15 => ?_
    have PA15 := PA14.mono t15
    walk_at "st"
    refine q_get PA15 (by decide +kernel) (by decide +kernel) fun v16 H16 t16 g16 => ?_
    obtain ⟨ls, ns, rfl, nls, els, asc, mem⟩ := g16
    walk_at "st"
    refine ⟨by show 16 ≤ sizeLine; decide, fun l nl => ?_⟩
    have m16 := same_new (o := .lst [v1, v2, v3, v4, v5, v6, v7, v8, v9, v10, v11, v12, v13, v14, v15, V.ref ls]) nl
    have el : upd H16 l (.lst [v1, v2, v3, v4, v5, v6, v7, v8, v9, v10, v11, v12, v13, v14, v15, V.ref ls]) l = some (.lst [v1, v2, v3, v4, v5, v6, v7, v8, v9, v10, v11, v12, v13, v14, v15, V.ref ls]) := upd_same
    generalize upd H16 l (.lst [v1, v2, v3, v4, v5, v6, v7, v8, v9, v10, v11, v12, v13, v14, v15, V.ref ls]) = HE at *
    have z16 := Same.refl H16
    have m15 := t16.trans m16
    have z15 := t16.trans z16
    have m14 := t15.trans m15
    have z14 := t15.trans z15
    have m13 := t14.trans m14
    have z13 := t14.trans z14
    have m12 := t13.trans m13
    have z12 := t13.trans z13
    have m11 := t12.trans m12
    have z11 := t12.trans z12
    have m10 := t11.trans m11
    have z10 := t11.trans z11
    have m9 := t10.trans m10
    have z9 := t10.trans z10
    have m8 := t9.trans m9
    have z8 := t9.trans z9
    have m7 := t8.trans m8
    have z7 := t8.trans z8
    have m6 := t7.trans m7
    have z6 := t7.trans z7
    have m5 := t6.trans m6
    have z5 := t6.trans z6
    have m4 := t5.trans m5
    have z4 := t5.trans z5
    have m3 := t4.trans m4
    have z3 := t4.trans z4
    have m2 := t3.trans m3
    have z2 := t3.trans z3
    have m1 := t2.trans m2
    have z1 := t2.trans z2
    have m0 := t1.trans m1
    have z0 := t1.trans z1
    exact q l _ ns HE m0 (z0.free nl) el (.cons (L2.Dp.mono m1 g1) (.cons (L2.Dp.mono m2 g2) (.cons (L2.Dp.mono m3 g3) (.cons (L2.Dp.mono m4 g4) (.cons (L2.Dp.mono m5 g5) (.cons (L2.Dp.mono m6 g6) (.cons (L2.Dp.mono m7 g7) (.cons (L2.Dp.mono m8 g8) (.cons (L2.Dp.mono m9 g9) (.cons (L2.Dp.mono m10 g10) (.cons (L2.Dp.mono m11 g11) (.cons (L2.Dp.mono m12 g12) (.cons (L2.Dp.mono m13 g13) (.cons (L2.Dp.mono m14 g14) (.cons (L2.Dp.mono m15 g15) (.cons (.lst (SqL.of (m16 _ _ els)) (dpInts_ ns)) .nil)))))))))))))))) asc mem))) only [↓Hk.hold_s]
end
end T
namespace T
section
variable {P : Program} {w : World} {K : PySem.W.Frag} {mg : Str → Option Value} {base : Heap} {C CR CRo tS : Addr}
def spDue (K : PySem.W.Frag) : Sp := fun vs H Q _ => ∃ (W : Addr) (b : BD), vs = [.ref W] ∧ LwAt K H W b ∧ BOk b ∧ ∀ (l : Addr) (xs : List V) (ns : List Int) (H' : Hp), Same H H' → H l = none → H' l = some (.lst xs) → DpAll K H' xs (factD b ns) → ns.Pairwise (· < ·) → (∀ k, k ∈ ns ↔ k ∈ sidesOf b) → Q (.ref l) H'
theorem ok_law_due (B : Bl mg) (cc : DefAt K mg "_law_due" s__law_due ["_law_w"]) : Cal P w K mg base 1 "_law_due" ["_law_w"] (spDue K) := by
 refine Hk.hold ?_
 simp (disch := with_unfolding_all (
 exact Hk.disch (cc.cal fun f fd F => by
  refine F.ok sc__law_due (fun vs H Q E h => ?_) (fun cdv A outer s H vs Q E hr h => ?_)
  · obtain ⟨W, b, rfl, _⟩ := h; rfl
  · obtain ⟨W, b, rfl, hL, ok, q⟩ := h
    have hu := hu_of hr
    refine ⟨_, (pss_cons (ps_set (i := 1) sc__law_due.nd rfl (Or.inl rfl) (pe_lst (pa_cons (pe_dget hu (pv 0) pe_str (fun _ _ => rfl)) (pa_cons (pe_dget hu (pv 0) pe_str (fun _ _ => rfl)) (pa_cons (pe_dget hu (pv 0) pe_str (fun _ _ => rfl)) (pa_cons (pe_dget hu (pv 0) pe_str (fun _ _ => rfl)) (pa_cons (pe_dget hu (pv 0) pe_str (fun _ _ => rfl)) (pa_cons (pe_dget hu (pv 0) pe_str (fun _ _ => rfl)) (pa_cons (pe_dget hu (pv 0) pe_str (fun _ _ => rfl)) (pa_cons (pe_dget hu (pv 0) pe_str (fun _ _ => rfl)) (pa_cons (pe_dget hu (pv 0) pe_str (fun _ _ => rfl)) pa_nil)))))))))))
      (pss_cons (ps_set (i := 2) sc__law_due.nd rfl (Or.inl rfl) (pe_callB (cr_sortedSet rfl) rfl B.sorted hb_sorted (pa_cons (pe_callTy (cr_setL rfl) rfl B.set_ hb_set (pa_cons (pe_lc (own := [("_law_pair", 3)]) (tt := tYes) rfl sc__law_due.nd (pi_list (pe_dget hu (pv 0) pe_str (fun _ _ => rfl))) (blkOk_by (N := ["_law_w", "_law_row", "_law_sides_here", "_law_pair"]) (sc := defScope s__law_due) (by decide +kernel)) (fun _ _ _ _ _ => (pg_name (i := 3) sc__law_due.nd rfl (Or.inl rfl))) (fun _ _ _ _ _ => pts_nil) (fun _ _ _ _ _ => (pe_ix (show IxR _ (rIxT K) from ix_tup) (pv 3) pe_int (fun _ _ => rfl)))) pa_nil)) pa_nil)))
      (pss_one (ps_ret (pe_op op_cat (pv 1) (pe_lst (pa_cons (pe_dget hu (pv 0) pe_str (fun _ _ => rfl)) (pa_cons (pe_dget hu (pv 0) pe_str (fun _ _ => rfl)) (pa_cons (pe_dget hu (pv 0) pe_str (fun _ _ => rfl)) (pa_cons (pe_dget hu (pv 0) pe_str (fun _ _ => rfl)) (pa_cons (pe_dget hu (pv 0) pe_str (fun _ _ => rfl)) (pa_cons (pe_dget hu (pv 0) pe_str (fun _ _ => rfl)) (pa_cons (pv 2) pa_nil))))))))))))), ?_⟩
    obtain ⟨x0, x1, x2, x3, x4, x5, x6, x7, x8, x9, x10, x11, x12, x13, x14, x15, x16, r, pe, dM, mo, e, da⟩ := hL
    cases da with | cons d0 da => cases da with | cons d1 da => cases da with | cons d2 da => cases da with | cons d3 da => cases da with | cons d4 da => cases da with | cons d5 da => cases da with | cons d6 da => cases da with | cons d7 da => cases da with | cons d8 da => cases da with | cons d9 da => cases da with | cons d10 da => cases da with | cons d11 da => cases da with | cons d12 da => cases da with | cons d13 da => cases da with | cons d14 da => cases da with | cons d15 da => cases da with | cons d16 da =>
    obtain ⟨ds, ed, l2, l4, hall⟩ := okTasksL ok.tasks
    obtain ⟨a, xs, rfl, hs, ha⟩ : ∃ a xs, x0 = .ref a ∧ SqL K H a xs ∧ DpAll K H xs ds := by
      rw [ed] at d0
      cases d0 with
      | lst h1 h2 => exact ⟨_, _, rfl, h1, h2⟩
    walk_at "st0"
    refine q_getD e (by rfl) ?_
    walk_at "st"
    refine q_getD e (by rfl) ?_
    walk_at "st"
    refine q_getD e (by rfl) ?_
    walk_at "st"
    refine q_getD e (by rfl) ?_
    walk_at "st"
    refine q_getD e (by rfl) ?_
    walk_at "st"
    refine q_getD e (by rfl) ?_
    walk_at "st"
    refine q_getD e (by rfl) ?_
    walk_at "st"
    refine q_getD e (by rfl) ?_
    walk_at "st"
    refine q_getD e (by rfl) ?_
    walk_at "st"
    refine ⟨by show 9 ≤ sizeLine; decide, fun R nR => ?_⟩
    have s1 := same_new (o := .lst [V.ref a, x1, x2, x3, x4, x5, x7, x8, x9]) nR
    have eR : upd H R (.lst [V.ref a, x1, x2, x3, x4, x5, x7, x8, x9]) R = some (.lst [V.ref a, x1, x2, x3, x4, x5, x7, x8, x9]) := upd_same
    generalize upd H R (.lst [V.ref a, x1, x2, x3, x4, x5, x7, x8, x9]) = H1 at *
    walk_at "st"
    refine q_lcI ?_
    walk_at "st"
    refine q_getD (s1 _ _ e) (v := .ref a) (by rfl) ?_
    refine ⟨a, rfl, ⟨_, s1.seq hs⟩, fun D nD => lc_map (ds := ds) (fun d => V.int (sideD d)) (s1.seq hs) (L2.DpAll.mono s1 ha) (by omega) nD ?_ ?_⟩
    · intro x2 d2 H3 h2 hm s2 Q2 k2
      obtain ⟨sd, l, rfl, _⟩ := okTask_shape (hall d2 hm)
      cases h2 with
      | @tup t ys _ ht hb =>
      cases hb with
      | @cons x0 r0 _ _ a0 hb => cases hb with
        | @cons x1 r1 _ _ a1 hb =>
          cases hb
          cases a0
          refine q_gname ?_
          refine ⟨rfl, ?_⟩
          walk_at "st"
          refine q_ixT ht (atI0 rfl) ?_
          exact k2 _ (Same.refl _)
    intro H3 s3 e3
    walk_at "st"
    refine ⟨D, ds.map sideD, rfl, SqL.of (by rw [e3, List.map_map]; rfl), by rw [List.length_map]; omega, fun c n nc ln => ?_⟩
    walk_at "st"
    rw [List.length_map] at ln
    refine ⟨c, _, n, rfl, upd_same, by omega, fun ns ls asc mem0 len nl => ?_⟩
    have sc := same_new (o := SetO w c (fun j => decide (j ∈ ds.map sideD)) n) nc
    have mem : ∀ k, k ∈ ns ↔ k ∈ sidesOf b := fun k => by rw [mem0 k, decide_eq_true_eq, sidesOf, ed]
    have s5 := (s3.trans sc).trans (same_new (o := .lst (ns.map V.int)) nl)
    have eS : upd (upd H3 c (SetO w c (fun j => decide (j ∈ ds.map sideD)) n)) ls (.lst (ns.map V.int)) ls = some (.lst (ns.map V.int)) := upd_same
    generalize upd (upd H3 c (SetO w c (fun j => decide (j ∈ ds.map sideD)) n)) ls (.lst (ns.map V.int)) = H5 at *
    have s15 := s1.trans s5
    have eR5 := s5 _ _ eR
    have e5 := s15 _ _ e
    walk_at "st"
    refine q_getD e5 (by rfl) ?_
    walk_at "st"
    refine q_getD e5 (by rfl) ?_
    walk_at "st"
    refine q_getD e5 (by rfl) ?_
    walk_at "st"
    refine q_getD e5 (by rfl) ?_
    walk_at "st"
    refine q_getD e5 (by rfl) ?_
    walk_at "st"
    refine q_getD e5 (by rfl) ?_
    walk_at "st"
    refine ⟨by show 7 ≤ sizeLine; decide, fun LB nLB => ?_⟩
    have s6 := same_new (o := .lst [x11, x12, x13, x14, x15, x16, V.ref ls]) nLB
    have e6 : upd H5 LB (.lst [x11, x12, x13, x14, x15, x16, V.ref ls]) LB = some (.lst [x11, x12, x13, x14, x15, x16, V.ref ls]) := upd_same
    generalize upd H5 LB (.lst [x11, x12, x13, x14, x15, x16, V.ref ls]) = H6 at *
    refine ⟨R, LB, _, _, rfl, rfl, s6 _ _ eR5, e6, by show 16 ≤ sizeLine; decide, fun l nl7 => ?_⟩
    have s7 := same_new (o := .lst ([V.ref a, x1, x2, x3, x4, x5, x7, x8, x9] ++ [x11, x12, x13, x14, x15, x16, V.ref ls])) nl7
    have sE := (s15.trans s6).trans s7
    have m := fun {v : V} {d : PyData} (z : Dp K H v d) => L2.Dp.mono sE z
    refine q l _ ns _ sE ((s15.trans s6).free nl7) upd_same ?_ asc mem
    refine .cons (m (by rw [ed]; exact .lst hs ha)) (.cons (m d1) (.cons (m d2) (.cons (m d3) (.cons (m d4) (.cons (m d5) (.cons (m d7) (.cons (m d8) (.cons (m d9) (.cons (m d11) (.cons (m d12) (.cons (m d13) (.cons (m d14) (.cons (m d15) (.cons (m d16) (.cons (.lst (SqL.of (s7 _ _ (s6 _ _ eS))) (dpInts_ ns)) .nil)))))))))))))))))) only [↓Hk.hold_s]
end
end T
namespace T
theorem hu61 {k : Nat} {A : Around} (hr : Room k A) : A.units + (60 + 1) < cLine := by have := hr.un; omega
theorem look_le {c : List (Str × Int)} {m : Int} (h0 : 0 ≤ m) (h : ∀ p ∈ c, p.2 ≤ m) (z : Str) : (c.lookup z).getD 0 ≤ m := by
  cases e : c.lookup z with
  | none => exact h0
  | some v => exact h _ (lookup_mem e)
theorem cOf_le {b : BD} (ok : BOk b) (z : Str) : cnt (cOf b) z ≤ 10 := by
  obtain ⟨tds, pds, qds, l, d, et, ep, eq, ek, ed, ec, t2, t4, l0, l2, d0, d4, _⟩ := cOf_forms ok
  obtain ⟨_, ep2, p3, _⟩ := okList ok.pages
  obtain ⟨_, eq2, q3, _⟩ := okList ok.ports
  rw [ep] at ep2; cases ep2
  rw [eq] at eq2; cases eq2
  unfold cnt
  rw [ec]
  refine look_le (by omega) (fun p hp => ?_) z
  simp only [cntOf, List.mem_cons, List.not_mem_nil, or_false] at hp
  rcases hp with rfl | rfl | rfl | rfl | rfl | rfl | rfl <;> (try split) <;> simp only [] <;> omega
theorem word_len : ∀ p ∈ rTab, PyData.strOk p.1 = true ∧ (reprText p.1).length ≤ 100 := by decide +kernel
theorem shw_right {c : Cnt} (hc : ∀ z, cnt c z ≤ 10) {d : PyData} (h : dRight c d = true) : Shw d 400 1 := by
 refine Hk.hold ?_
 simp (disch := with_unfolding_all (
 exact Hk.disch (by
  obtain ⟨w, i, rfl⟩ := dRight_shape h
  unfold dRight dFormed at h
  have ew : dWord (.tuple [.str w, .int i]) = w := rfl
  rw [ew] at h
  cases e : rTab.lookup w with
  | none => rw [e] at h; cases h
  | some ks =>
    have m := lookup_mem e
    have k1 : ∃ kd, ks = [kd] ∧ kd ≠ "ticks" := by
      have m := m
      simp only [rTab, List.mem_cons, Prod.mk.injEq, List.not_mem_nil, or_false] at m
      rcases m with ⟨_, m⟩ | ⟨_, m⟩ | ⟨_, m⟩ | ⟨_, m⟩ | ⟨_, m⟩ | ⟨_, m⟩ | ⟨_, m⟩ | ⟨_, m⟩ <;> subst m <;> exact ⟨_, rfl, by decide +kernel⟩
    obtain ⟨kd, rfl, nt⟩ := k1
    rw [e] at h
    simp only [Bool.and_eq_true, decide_eq_true_eq] at h
    have hk := h.2
    simp [dKinds, kf1, nt, dBetween] at hk
    have z := hc kd
    unfold cnt at z
    obtain ⟨s1, s2⟩ := word_len _ m
    refine (shw_tup (n := 100) (k := 0) (m := 2) (fun x hx => ?_) (by simp)).mono (by omega) (by omega)
    simp only [List.mem_cons, List.not_mem_nil, or_false] at hx
    rcases hx with rfl | rfl
    · exact shw_str s1 s2
    · exact (shw_int hk.1 (by omega)).mono (by omega) (by omega)))) only [↓Hk.hold_s]
theorem shw_pair {s l : Int} (h0 : 0 ≤ s) (h1 : s < 100) (h2 : 0 ≤ l) (h3 : l < 100) : Shw (.tuple [.int s, .int l]) 400 1 := by
  refine (shw_tup (n := 5) (k := 0) (m := 2) (fun x hx => ?_) (by simp)).mono (by omega) (by omega)
  simp only [List.mem_cons, List.not_mem_nil, or_false] at hx
  rcases hx with rfl | rfl
  · exact shw_int h0 h1
  · exact shw_int h2 h3
theorem shw_bool {d : PyData} (h : isBool d = true) : Shw d 41000 3 := by
  obtain ⟨x, rfl⟩ := isBool_ex h
  exact (shw_bl x).mono (by omega) (by omega)
theorem shw_facts {b : BD} (ok : BOk b) {ns : List Int} (l4 : ns.length ≤ 8) (hn : ∀ k ∈ ns, k ∈ sidesOf b) : Shw (.list (factD b ns)) 700000 4 := by
 refine Hk.hold ?_
 simp (disch := with_unfolding_all (
 exact Hk.disch (by
  obtain ⟨tds, et, _, t4, tall⟩ := okTasksL ok.tasks
  obtain ⟨pds, ep, p3, pall⟩ := okList ok.pages
  obtain ⟨qds, eq, q3, qall⟩ := okList ok.ports
  obtain ⟨kn, ek, k0, k1⟩ := okBetween ok.locks
  obtain ⟨fn, ef, f0, f1⟩ := okBetween ok.frames
  have okd := ok.disk
  unfold okDisk at okd
  rw [Bool.and_eq_true] at okd
  obtain ⟨dn, ed, d0, d1⟩ := okBetween okd.1
  obtain ⟨lds, el, ll, lall⟩ := okLinesL ok.lines
  obtain ⟨c1, c2, c3, ec, hc⟩ := okCostsL ok.costs
  obtain ⟨z, e, epl, hz⟩ := okPlanL ok.plan
  obtain ⟨rds, er, rl, rall⟩ := okRightsL ok.rights
  have okr := ok.rights
  have cle := cOf_le ok
  have ll' := cle "page"
  have rl' := cle "task"
  refine (shw_list (n := 41000) (k := 3) (m := 16) (fun x hx => ?_) (by simp [factD])).mono (by omega) (by omega)
  simp only [factD, List.mem_cons, List.not_mem_nil, or_false] at hx
  have numsL : ∀ {is : List PyData} {lo hi : Int}, is.length ≤ 10 → 0 ≤ lo → hi < 100 → (∀ e ∈ is, ∃ i, e = .int i ∧ lo ≤ i ∧ i ≤ hi) → Shw (.list is) 41000 3 := fun {is lo hi} l h0 h1 h => by
    refine (shw_list (n := 5) (k := 0) (m := 10) (fun x hx => ?_) l).mono (by omega) (by omega)
    obtain ⟨i, rfl, a, b⟩ := h x hx
    exact shw_int (by omega) (by omega)
  rcases hx with rfl | rfl | rfl | rfl | rfl | rfl | rfl | rfl | rfl | rfl | rfl | rfl | rfl | rfl | rfl | rfl
  · rw [et]
    refine (shw_list (n := 400) (k := 1) (m := 4) (fun d hd => ?_) t4).mono (by omega) (by omega)
    obtain ⟨s, l, rfl, a1, a2, a3, a4⟩ := okTask_shape (tall d hd)
    exact shw_pair (by omega) (by omega) (by omega) (by omega)
  · rw [ep]; exact numsL (by omega) (by omega) (by omega) pall
  · rw [eq]; exact numsL (by omega) (by omega) (by omega) qall
  · rw [ek]; exact (shw_int (by omega) (by omega)).mono (by omega) (by omega)
  · rw [ef]; exact (shw_int (by omega) (by omega)).mono (by omega) (by omega)
  · rw [ed]; exact (shw_int (by omega) (by omega)).mono (by omega) (by omega)
  · rw [er] at okr ⊢
    refine (shw_list (n := 4000) (k := 2) (m := 10) (fun d hd => ?_) (by omega)).mono (by omega) (by omega)
    obtain ⟨es, rfl⟩ := rall d hd
    unfold okRights at okr
    rw [Bool.and_eq_true] at okr
    have z := List.all_eq_true.mp okr.2 _ hd
    unfold okRow at z
    rw [Bool.and_eq_true] at z
    obtain ⟨z1, z2⟩ := z
    rw [Bool.and_eq_true] at z2
    refine (shw_list (n := 400) (k := 1) (m := 8) (fun x hx => shw_right cle (List.all_eq_true.mp z2.1 x hx)) (by simp [dListOf] at z1; omega)).mono (by omega) (by omega)
  · rw [el]
    refine (shw_list (n := 5) (k := 0) (m := 10) (fun d hd => ?_) (by omega)).mono (by omega) (by omega)
    have z := lall d hd
    cases d with
    | none => exact shw_non
    | int i => simp [okLine, dBetween] at z; exact shw_int (by omega) (by omega)
    | _ => simp [okLine, dBetween] at z
  · rw [ec]
    refine (shw_tup (n := 5) (k := 0) (m := 3) (fun x hx => ?_) (by simp)).mono (by omega) (by omega)
    simp only [List.mem_cons, List.not_mem_nil, or_false] at hx
    rcases hx with rfl | rfl | rfl <;> exact shw_int (by omega) (by omega)
  · rw [epl]
    refine (shw_tup (n := 4000) (k := 2) (m := 2) (fun x hx => ?_) (by simp)).mono (by omega) (by omega)
    simp only [List.mem_cons, List.not_mem_nil, or_false] at hx
    rcases hx with rfl | rfl
    · rcases hz with ⟨rfl, _⟩ | ⟨rfl, _⟩ <;> exact (shw_str (n := 100) (by decide +kernel) (by decide +kernel)).mono (by omega) (by omega)
    · rcases hz with ⟨_, i, rfl, a, b⟩ | ⟨_, hz⟩
      · exact (shw_int (by omega) (by omega)).mono (by omega) (by omega)
      · obtain ⟨rs, rfl, _, r4, rall⟩ := okSlotsL hz
        refine (shw_list (n := 400) (k := 1) (m := 4) (fun d hd => ?_) r4).mono (by omega) (by omega)
        obtain ⟨t, k, rfl, a1, a2, a3, a4⟩ := rall d hd
        exact shw_pair (by omega) (by omega) (by omega) (by omega)
  · have qle := cle "port"
    rcases okOutsideL ok.outside with h | ⟨p, e, h, a1, a2, a3, a4⟩
    · rw [h]; exact shw_non.mono (by omega) (by omega)
    · rw [h]; exact (shw_pair (by omega) (by omega) (by omega) (by omega)).mono (by omega) (by omega)
  · exact shw_bool ok.wipe
  · exact shw_bool ok.pad
  · exact shw_bool ok.lend
  · exact shw_bool ok.share
  · refine (shw_list (n := 5) (k := 0) (m := 8) (fun d hd => ?_) (by simpa using l4)).mono (by omega) (by omega)
    obtain ⟨k, hk, rfl⟩ := List.mem_map.mp hd
    have hs := hn k hk
    rw [sidesOf, et] at hs
    obtain ⟨t, ht, rfl⟩ := List.mem_map.mp hs
    obtain ⟨s, l, rfl, a1, a2, a3, a4⟩ := okTask_shape (tall t ht)
    exact shw_int (show (0 : Int) ≤ s by omega) (show s < 100 by omega)))) only [↓Hk.hold_s]
theorem asc_len {ns : List Int} (asc : ns.Pairwise (· < ·)) (rng : ∀ x ∈ ns, 0 ≤ x ∧ x ≤ 3) : ns.length ≤ 4 := by
 refine Hk.hold ?_
 simp (disch := with_unfolding_all (
 exact Hk.disch (by
  match ns, asc, rng with
  | [], _, _ => simp
  | [_], _, _ => simp
  | [_, _], _, _ => simp
  | [_, _, _], _, _ => simp
  | [_, _, _, _], _, _ => simp
  | a :: b :: c :: d :: e :: r, asc, rng =>
    have r1 := (List.pairwise_cons.mp asc).1 b (by simp)
    have a2 := (List.pairwise_cons.mp asc).2
    have r2 := (List.pairwise_cons.mp a2).1 c (by simp)
    have a3 := (List.pairwise_cons.mp a2).2
    have r3 := (List.pairwise_cons.mp a3).1 d (by simp)
    have r4 := (List.pairwise_cons.mp (List.pairwise_cons.mp a3).2).1 e (by simp)
    have h0 := rng a (by simp)
    have h4 := rng e (by simp)
    omega))) only [↓Hk.hold_s]
theorem sides_rng {b : BD} (ok : BOk b) : ∀ x ∈ sidesOf b, 0 ≤ x ∧ x ≤ 3 := by
  obtain ⟨tds, et, _, t4, tall⟩ := okTasksL ok.tasks
  intro x hx
  rw [sidesOf, et] at hx
  obtain ⟨t, ht, rfl⟩ := List.mem_map.mp hx
  obtain ⟨s, l, rfl, a1, a2, a3, a4⟩ := okTask_shape (tall t ht)
  exact ⟨a1, a2⟩
section
variable {P : Program} {w : World} {K : PySem.W.Frag} {mg : Str → Option Value} {base : Heap} {C CR CRo tS : Addr}
theorem hb_repr : bootBuiltins "repr" = some (.builtin "repr") := by rfl
def spIs (K : PySem.W.Frag) (C : Addr) : Sp := fun vs H Q _ => ∃ (p W : Addr) (b : BD), vs = [.ref p, .ref W] ∧ PartsAt K C H p b ∧ LwAt K H W b ∧ ∀ H', Same H H' → Q (.bl true) H'
theorem ok_law_is (B : Bl mg) (gB : mg "Build" = some (.ref C)) (IC : C8.InsC K C) (g_repr : mg "repr" = none) (c__law_facts : Cal P w K mg base 2 "_law_facts" ["_law_build_here"] (spFacts K C)) (c__law_due : Cal P w K mg base 1 "_law_due" ["_law_w"] (spDue K)) (cc : DefAt K mg "_law_is" s__law_is ["_law_build_here", "_law_w"]) : ShCal P w K mg base 3 "_law_is" ["_law_build_here", "_law_w"] (spIs K C) := by
 refine Hk.hold ?_
 simp (disch := with_unfolding_all (
 exact Hk.disch (cc.shCal fun f fd F => by
  refine shFn_of F sc__law_is (fun vs H Q E h => ?_) (fun cdv A outer s H vs Q E gn hr h => ?_)
  · obtain ⟨p, W, b, rfl, _⟩ := h; rfl
  · obtain ⟨p, W, b, rfl, PA, hL, q⟩ := h
    refine ⟨_, (pss_one (ps_ret (pe_and (pe_callB (C8.call_isC IC) rfl B.isinstance hb_isinstance (pa_cons (pv 0) (pa_cons (pe_glob (v := .ref C) rfl gB rfl) pa_nil))) (pe_one (pe_cmpR op_eq (pe_callB (cr_show (n := 60) gn (hu61 hr)) rfl g_repr hb_repr (pa_cons (pe_cal c__law_facts (hr.mono (by omega)) rfl (pa_cons (pv 0) pa_nil)) pa_nil)) (pe_callB (cr_show (n := 60) gn (hu61 hr)) rfl g_repr hb_repr (pa_cons (pe_cal c__law_due (hr.mono (by omega)) rfl (pa_cons (pv 1) pa_nil)) pa_nil)) (nomark _)))))), ?_⟩
    walk_at "st0"
    obtain ⟨ok, dx, fs, q0, kvs, e1, e2, e3, e4, e5⟩ := id PA
    refine ⟨p, dx, fs, rfl, e1, true, rfl, iteT ?_⟩
    walk_at "st"
    refine ⟨p, b, rfl, PA, fun l1 xs1 ns1 H1 s1 n1 el1 d1 asc1 mem1 => ?_⟩
    have S1 := shw_facts ok (Nat.le_trans (asc_len asc1 fun x hx => sides_rng ok x ((mem1 x).mp hx)) (by omega)) fun k hk => (mem1 k).mp hk
    walk_at "st"
    refine ⟨l1, _, rfl, .lst (SqL.of el1) d1, S1.can, PyData.hasDict_of_canLay _ S1.lay, Nat.le_trans S1.len (by decide +kernel), Nat.le_trans S1.dep (by omega), ?_⟩
    walk_at "st"
    refine ⟨W, b, rfl, hL.mono s1, ok, fun l2 xs2 ns2 H2 s2 n2 el2 d2 asc2 mem2 => ?_⟩
    obtain rfl : ns1 = ns2 := asc_eq asc1 asc2 fun k => (mem1 k).trans (mem2 k).symm
    walk_at "st"
    refine ⟨l2, _, rfl, .lst (SqL.of el2) d2, S1.can, PyData.hasDict_of_canLay _ S1.lay, Nat.le_trans S1.len (by decide +kernel), Nat.le_trans S1.dep (by omega), ?_⟩
    refine ⟨rfl, ?_⟩
    rw [decide_eq_true rfl]
    exact q _ (s1.trans s2)))) only [↓Hk.hold_s]
end
end T
namespace T
section
variable {J : It} {n : Nat} {G : Hp → Prop} {Y : Nat → Hp → V → Hp → Prop} {g : TG} {te : TE} {tt : TT} {vs : List Nat} {σ : L2.St} {H1 : Hp} {D : Addr} {Qd : Hp → Prop}
/-- a new list of texts, each kept or not as a number is drawn -/
theorem lc_pick (w : L2.Walk J n G Y) {p LC : Addr} {N : Nat} (zs : List Str) (hz : n = zs.length) (hD : H1 D = none) (few : n < sizeLine) (PA : PoolAt H1 p LC N) (hG : ∀ H', But p H1 H' → G H') (hY : ∀ i H x H', Y i H x H' → Same H H')
    (body : ∀ i x z H' H2, zs[i]? = some z → But p H1 H' → Y i H' x H2 → PoolAt H2 p LC (N + i) → ∀ Q' : Bool → L2.St → Hp → Prop, (∀ b σ2 H3, But p H2 H3 → PoolAt H3 p LC (N + (i + 1)) → wipe σ2 vs = wipe σ vs → (∀ Q2 : VK, Q2 (.str z) H3 → te σ2 H3 Q2) → Q' b σ2 H3) → g x (wipe σ vs) H2 fun σ2 H3 => wipe σ2 vs = wipe σ vs ∧ tt σ2 H3 fun b H4 => Q' b σ2 H4)
    (done : ∀ (nm : List Str) H', But p H1 H' → PoolAt H' p LC (N + n) → H' D = some (.lst (nm.map V.str)) → nm.Sublist zs → Qd H') :
    ∃ W : Nat → Nat → Hp → Prop, (∃ m, W 0 m (upd H1 D (.lst []))) ∧ ∀ i m H, W i m H →
      (J.stop i H ∧ Qd H) ∨ (J.go i H ∧ ∃ Nx : Hp → Prop, (∀ H', Nx H' → ∃ m', m' < m ∧ W (i + 1) m' H') ∧ ∀ x H', J.yld i H x H' → g x (wipe σ vs) H' fun σ2 H2 => wipe σ2 vs = wipe σ vs ∧ tt σ2 H2 fun b H3 =>
        if b = true then te σ2 H3 fun y H4 => ∃ acc, H4 D = some (.lst acc) ∧ acc.length < sizeLine ∧ Nx (upd H4 D (.lst (acc ++ [y]))) else Nx H3) := by
 refine Hk.hold ?_
 simp (disch := with_unfolding_all (
 exact Hk.disch (by
  obtain ⟨npD, nCD⟩ := PA.new hD
  have bD : ∀ H o, But D H (upd H D o) := fun H o b u h hb => by rw [upd_ne hb]; exact h
  refine ⟨fun i m H => m = n - i ∧ i ≤ n ∧ But p H1 H ∧ PoolAt H p LC (N + i) ∧ ∃ nm : List Str, H D = some (.lst (nm.map V.str)) ∧ nm.Sublist (zs.take i), ⟨n, by simp, Nat.zero_le _, But.same (same_new hD), PA.same (same_new hD), [], upd_same, List.nil_sublist _⟩, ?_⟩
  rintro i m H ⟨rfl, hi, s1, P1, nm, eD, sub⟩
  by_cases hlt : i < n
  · refine .inr ⟨w.goes i H hlt (hG H s1), fun H' => i + 1 ≤ n ∧ But p H1 H' ∧ PoolAt H' p LC (N + (i + 1)) ∧ ∃ nm : List Str, H' D = some (.lst (nm.map V.str)) ∧ nm.Sublist (zs.take (i + 1)), fun H' z => ⟨n - (i + 1), by omega, rfl, z⟩, fun x H' y => ?_⟩
    have yy := w.yields i H x H' hlt (hG H s1) y
    have s2 := hY i H x H' yy
    have ez : zs[i]? = some zs[i] := List.getElem?_eq_getElem (by omega)
    have tk : zs.take (i + 1) = zs.take i ++ [zs[i]] := by rw [List.take_add_one, ez]; rfl
    refine body i x zs[i] H H' ez s1 yy (P1.same s2) (fun b σ2 H3 => if b = true then te σ2 H3 fun y H4 => ∃ acc, H4 D = some (.lst acc) ∧ acc.length < sizeLine ∧ (i + 1 ≤ n ∧ But p H1 (upd H4 D (.lst (acc ++ [y]))) ∧ PoolAt (upd H4 D (.lst (acc ++ [y]))) p LC (N + (i + 1)) ∧ ∃ nm : List Str, upd H4 D (.lst (acc ++ [y])) D = some (.lst (nm.map V.str)) ∧ nm.Sublist (zs.take (i + 1))) else i + 1 ≤ n ∧ But p H1 H3 ∧ PoolAt H3 p LC (N + (i + 1)) ∧ ∃ nm : List Str, H3 D = some (.lst (nm.map V.str)) ∧ nm.Sublist (zs.take (i + 1))) fun b σ2 H3 s3 P3 ew k => ?_
    have b3 : But p H H3 := (But.same s2).trans s3
    have eD3 : H3 D = some (.lst (nm.map V.str)) := b3 _ _ eD (Ne.symm npD)
    have ls := sub.length_le
    rw [List.length_take] at ls
    cases b with
    | true =>
      rw [if_pos rfl]
      refine k _ ⟨_, eD3, by rw [List.length_map]; omega, hlt, fun b o h hn => ?_, P3.but npD nCD (bD _ _), nm ++ [zs[i]], ?_, ?_⟩
      · rw [upd_ne (ne_of_none h hD)]
        exact b3 _ _ (s1 _ _ h hn) hn
      · rw [upd_same, List.map_append]; rfl
      · rw [tk]; exact sub.append (List.Sublist.refl _)
    | false =>
      rw [if_neg (by decide)]
      exact ⟨hlt, s1.trans b3, P3, nm, eD3, by rw [tk]; exact sub.trans (List.sublist_append_left _ _)⟩
  · have e : i = n := by omega
    subst e
    refine .inl ⟨w.stops H (hG H s1), done nm H s1 P1 eD ?_⟩
    rw [hz, List.take_length] at sub
    exact sub))) only [↓Hk.hold_s]
end
theorem nb_ints : ∀ ns : List Int, nbAll (ns.map PyData.int) = true
  | [] => rfl
  | n :: ns => by simp only [List.map_cons, nbAll, nb_ints ns, nbD, Bool.and_self]
end T
namespace T
def hid (H : Hp) (a : Addr) : Hp := fun b => if b = a then none else H b
theorem hid_ne {H : Hp} {a b : Addr} (h : b ≠ a) : hid H a b = H b := if_neg h
theorem hid_same {H : Hp} {a : Addr} : Same (hid H a) H := fun b o h => by
  by_cases e : b = a
  · unfold hid at h; rw [if_pos e] at h; cases h
  · rw [hid_ne e] at h; exact h
theorem hid_keepL {H : Hp} {a : Addr} {xs : List V} (e : H a = some (.lst xs)) : KeepL H (hid H a) := fun b o h n => by
  rw [hid_ne fun z => by subst z; rw [e] at h; cases h; exact n xs rfl]; exact h
section
variable {K : PySem.W.Frag} {C CR : Addr}
theorem PartsAt.keepL {H H' : Hp} {p : Addr} {b : BD} (h : PartsAt K C H p b) (N : ∀ q ∈ b.parts, noL q.2 = true) (s : KeepL H H') : PartsAt K C H' p b := by
  obtain ⟨ok, dx2, fs2, q, kvs, e1, e2, e3, e4, e5⟩ := h
  exact ⟨ok, dx2, fs2, q, kvs, s _ _ e1 (by simp), e2, s _ _ e3 (by simp), pairedKV_keepL s N e4, e5⟩
end
theorem noL_parts {b : BD} (ok : BOk b) : ∀ p ∈ b.parts, noL p.2 = true := by
 refine Hk.hold ?_
 simp (disch := with_unfolding_all (
 exact Hk.disch (by
  obtain ⟨tds, et, _, _, tall⟩ := okTasksL ok.tasks
  obtain ⟨pds, ep, _, pall⟩ := okList ok.pages
  obtain ⟨qds, eq, _, qall⟩ := okList ok.ports
  obtain ⟨kn, ek, _⟩ := okBetween ok.locks
  obtain ⟨fn, ef, _⟩ := okBetween ok.frames
  have okd := ok.disk
  unfold okDisk at okd
  rw [Bool.and_eq_true] at okd
  obtain ⟨dn, ed, _⟩ := okBetween okd.1
  obtain ⟨lds, el, _, lall⟩ := okLinesL ok.lines
  obtain ⟨c1, c2, c3, ec, _⟩ := okCostsL ok.costs
  obtain ⟨z, e, epl, hz⟩ := okPlanL ok.plan
  obtain ⟨rds, er, rl, rall⟩ := okRightsL ok.rights
  obtain ⟨wx, ew⟩ := isBool_ex ok.wipe
  obtain ⟨px, epd⟩ := isBool_ex ok.pad
  obtain ⟨lx, eln⟩ := isBool_ex ok.lend
  obtain ⟨sx, es⟩ := isBool_ex ok.share
  intro p hp
  unfold BD.parts at hp
  simp only [List.mem_cons, List.not_mem_nil, or_false] at hp
  rcases hp with rfl | rfl | rfl | rfl | rfl | rfl | rfl | rfl | rfl | rfl | rfl | rfl | rfl | rfl | rfl
  · show noL (tupOf b.tasks) = true
    rw [et]
    show noLs tds = true
    rw [noLs_all]
    intro d hd
    obtain ⟨s, l, rfl, _⟩ := okTask_shape (tall d hd)
    rfl
  · show noL (tupOf b.pages) = true
    rw [ep]
    show noLs pds = true
    rw [noLs_all]
    intro d hd
    obtain ⟨i, rfl, _⟩ := pall d hd
    rfl
  · show noL (tupOf b.ports) = true
    rw [eq]
    show noLs qds = true
    rw [noLs_all]
    intro d hd
    obtain ⟨i, rfl, _⟩ := qall d hd
    rfl
  · show noL b.locks = true
    rw [ek]; rfl
  · show noL b.frames = true
    rw [ef]; rfl
  · show noL b.disk = true
    rw [ed]; rfl
  · show noL (rowsT b.rights) = true
    have hr := fun es he => rights_noL (es := es) ok.rights er he
    rw [er]
    show noLs (rds.map tupOf) = true
    rw [noLs_all]
    intro d hd
    obtain ⟨r, hr2, rfl⟩ := List.mem_map.mp hd
    obtain ⟨es, rfl⟩ := rall r hr2
    exact hr es hr2
  · show noL (tupOf b.lines) = true
    rw [el]
    show noLs lds = true
    rw [noLs_all]
    intro d hd
    have z := lall d hd
    cases d <;> first | rfl | (simp [okLine, dBetween] at z; done)
  · show noL b.costs = true
    rw [ec]; rfl
  · show noL (planT b.plan) = true
    rw [epl]
    rcases hz with ⟨rfl, i, rfl, _⟩ | ⟨rfl, hz⟩
    · show noL (PyData.tuple [.str "levels", _]) = true
      rw [if_neg slots_ne]; rfl
    · obtain ⟨rs, rfl, hrs⟩ := okSlotsL hz
      show noL (PyData.tuple [.str "slots", _]) = true
      rw [if_pos rfl]
      have : noLs rs = true := by
        rw [noLs_all]
        intro d hd
        obtain ⟨t, k, rfl, _⟩ := hrs.2.2 d hd
        rfl
      show (true && (noLs rs && true)) = true
      rw [this]; rfl
  · show noL b.outside = true
    rcases okOutsideL ok.outside with h | ⟨p, e, h, _⟩ <;> rw [h] <;> rfl
  · show noL b.wipe = true
    rw [ew]; rfl
  · show noL b.pad = true
    rw [epd]; rfl
  · show noL b.lend = true
    rw [eln]; rfl
  · show noL b.share = true
    rw [es]; rfl))) only [↓Hk.hold_s]
end T
namespace T
section
variable {P : Program} {w : World} {K : PySem.W.Frag} {mg : Str → Option Value} {base : Heap} {C CR CRo tS : Addr}
theorem LwAt.get_rights {H : Hp} {W : Addr} {b : BD} (h : LwAt K H W b) : ∃ kv x, H W = some (.dK kv) ∧ valV kv (Sum.inr "rights") = some x ∧ Dp K H x b.rights := by
  obtain ⟨x0, x1, x2, x3, x4, x5, x6, x7, x8, x9, x10, x11, x12, x13, x14, x15, x16, r, pe, dM, mo, e0, da⟩ := h
  obtain ⟨d2, h1, h2⟩ := da.get' (i := 7) rfl
  cases h1
  exact ⟨_, _, e0, rfl, h2⟩
theorem LwAt.get_tasks {H : Hp} {W : Addr} {b : BD} (h : LwAt K H W b) : ∃ kv x, H W = some (.dK kv) ∧ valV kv (Sum.inr "tasks") = some x ∧ Dp K H x b.tasks := by
  obtain ⟨x0, x1, x2, x3, x4, x5, x6, x7, x8, x9, x10, x11, x12, x13, x14, x15, x16, r, pe, dM, mo, e0, da⟩ := h
  obtain ⟨d2, h1, h2⟩ := da.get' (i := 0) rfl
  cases h1
  exact ⟨_, _, e0, rfl, h2⟩
theorem LwAt.get_outside {H : Hp} {W : Addr} {b : BD} (h : LwAt K H W b) : ∃ kv x, H W = some (.dK kv) ∧ valV kv (Sum.inr "outside") = some x ∧ Dp K H x b.outside := by
  obtain ⟨x0, x1, x2, x3, x4, x5, x6, x7, x8, x9, x10, x11, x12, x13, x14, x15, x16, r, pe, dM, mo, e0, da⟩ := h
  obtain ⟨d2, h1, h2⟩ := da.get' (i := 12) rfl
  cases h1
  exact ⟨_, _, e0, rfl, h2⟩
/-- a task's side, as the law's dict tells it -/
theorem task_side {H : Hp} {b : BD} (ok : BOk b) {x : V} (h : Dp K H x b.tasks) : ∃ (a : Addr) (xs : List V), x = .ref a ∧ SqL K H a xs ∧ xs.length = (sidesOf b).length ∧ xs.length ≤ 4 ∧ ∀ i, i < xs.length → ∃ (t : Addr) (ys : List V), xs[i]? = some (.ref t) ∧ SqT K H t ys ∧ ys[0]? = some (.int ((sidesOf b).getD i 0)) := by
 refine Hk.hold ?_
 simp (disch := with_unfolding_all (
 exact Hk.disch (by
  obtain ⟨tds, et, _, t4, tall⟩ := okTasksL ok.tasks
  have es : sidesOf b = tds.map sideD := by unfold sidesOf; rw [et]
  rw [et] at h
  cases h with
  | @lst a xs _ hs ha =>
  have lx := ha.length
  refine ⟨a, xs, rfl, hs, by rw [es, List.length_map]; exact lx, by omega, fun i hi => ?_⟩
  obtain ⟨d, g1, g2⟩ := ha.get' (List.getElem?_eq_getElem hi)
  obtain ⟨s, l, rfl, _⟩ := okTask_shape (tall d (List.mem_of_getElem? g1))
  have eg : (sidesOf b).getD i 0 = s := by rw [es, List.getD_eq_getElem?_getD, List.getElem?_map, g1]; rfl
  rw [eg]
  generalize exi : xs[i] = xi at *
  cases g2 with
  | @tup t ys _ ht hys =>
  cases hys with
  | @cons y0 q0 _ _ c0 hys =>
  cases c0
  exact ⟨t, _, by rw [List.getElem?_eq_getElem hi, exi], ht, rfl⟩))) only [↓Hk.hold_s]
/-- who stands across -/
def acrL (b : BD) (ts : List Int) (mine : Bool) : List Nat := (List.range (sidesOf b).length).filter fun i => !(decide (decide ((sidesOf b).getD i 0 ∈ ts) = mine))
theorem acrL_of {b : BD} {ts : List Int} (mine : Bool) : acrL b ts mine = if mine = true then eyeL b ts else oneL b ts := by
  unfold acrL eyeL oneL
  cases mine with
  | true =>
    rw [if_pos rfl]
    exact List.filter_congr fun i _ => by by_cases h : (sidesOf b).getD i 0 ∈ ts <;> simp [h]
  | false =>
    rw [if_neg (by decide)]
    exact List.filter_congr fun i _ => by by_cases h : (sidesOf b).getD i 0 ∈ ts <;> simp [h]
/-- whether a right goes, as the law tells it -/
def goneB (mine : Bool) (acr : List Nat) (T : List Rt) (port : Option Int) (z : Str) (i : Int) : Bool :=
  let g0 := (decide (z = "hand") || decide (z = "strip")) && decide (i ∈ toI acr)
  let g1 := if mine && decide (z = "write") then decide ((("read" : Str), i) ∈ T) else g0
  let g2 := if mine && (decide (z = "send") || decide (z = "take")) then (decide ((("send" : Str), i) ∈ T) || decide ((("take" : Str), i) ∈ T)) || decide (port = some i) else g1
  if mine && (decide (z = "lock") || decide (z = "seek")) then decide ((z, i) ∈ T) else g2
theorem gone_re (es : List Nat) (T : List Rt) (port : Option Int) (z : Str) (i : Int) : goneB true es T port z i = reB z i T port (toI es) := by
 refine Hk.hold ?_
 simp (disch := with_unfolding_all (
 exact Hk.disch (by
  unfold goneB reB roB
  have e1 : decide (z ∈ (["send", "take"] : List Str)) = (decide (z = "send") || decide (z = "take")) := by simp
  have e2 : decide (z ∈ (["lock", "seek"] : List Str)) = (decide (z = "lock") || decide (z = "seek")) := by simp
  have e3 : decide (z ∈ (["hand", "strip"] : List Str)) = (decide (z = "hand") || decide (z = "strip")) := by simp
  have n1 : ("write" : Str) ≠ "send" := by decide +kernel
  have n2 : ("write" : Str) ≠ "take" := by decide +kernel
  have n3 : ("write" : Str) ≠ "lock" := by decide +kernel
  have n4 : ("write" : Str) ≠ "seek" := by decide +kernel
  have n5 : ("send" : Str) ≠ "lock" := by decide +kernel
  have n6 : ("send" : Str) ≠ "seek" := by decide +kernel
  have n7 : ("take" : Str) ≠ "lock" := by decide +kernel
  have n8 : ("take" : Str) ≠ "seek" := by decide +kernel
  by_cases h1 : z = ("write" : Str)
  · subst h1
    simp [n1, n2, n3, n4]
  by_cases h2 : z = ("send" : Str)
  · subst h2
    simp [Ne.symm n1, n5, n6, Bool.or_comm, Bool.or_assoc, Bool.or_left_comm]
  by_cases h3 : z = ("take" : Str)
  · subst h3
    simp [Ne.symm n2, n7, n8, Bool.or_comm, Bool.or_assoc, Bool.or_left_comm]
  by_cases h4 : z = ("lock" : Str)
  · subst h4
    simp [Ne.symm n3, Ne.symm n5, Ne.symm n7]
  by_cases h5 : z = ("seek" : Str)
  · subst h5
    simp [Ne.symm n4, Ne.symm n6, Ne.symm n8]
  simp [h1, h2, h3, h4, h5]))) only [↓Hk.hold_s]
theorem gone_ro (os : List Nat) (T : List Rt) (port : Option Int) (z : Str) (i : Int) : goneB false os T port z i = roB z i (toI os) := by
  unfold goneB roB
  simp
end
end T
namespace T
section
variable {P : Program} {w : World} {K : PySem.W.Frag} {mg : Str → Option Value} {base : Heap} {C CR CRo tS : Addr}
theorem q_eqS {a b : Str} {H : Hp} {Q : VK} (q : Q (.bl (decide (a = b))) H) : rEq (.str a) (.str b) H Q := ⟨rfl, by
  rw [show decide (V.str a = V.str b) = decide (a = b) by by_cases e : a = b <;> simp [e]]; exact q⟩
def spStays (K : PySem.W.Frag) : Sp := fun vs H Q _ => ∃ (W LT : Addr) (b : BD) (ts : List Int) (task : Nat), vs = [.ref W, .ref LT, .int (task : Nat)] ∧ LwAt K H W b ∧ BOk b ∧ SqL K H LT (ts.map V.int) ∧ task < (sidesOf b).length ∧
  ∀ (l : Addr) (ys : List V) (H' : Hp), Same H H' → H l = none → H' l = some (.lst ys) → DpAll K H' ys (((cutL (oneL b ts) (eyeL b ts) (portO b.outside) (rightsL b)).getD task []).map rtd) → Q (.ref l) H'
theorem ok_law_stays (B : Bl mg) (cc : DefAt K mg "_law_stays" s__law_stays ["_law_w", "_law_tellers_here", "_law_task"]) : Cal P w K mg base 1 "_law_stays" ["_law_w", "_law_tellers_here", "_law_task"] (spStays K) := by
 refine Hk.hold ?_
 simp (disch := with_unfolding_all (
 exact Hk.disch (cc.cal fun f fd F => by
  refine F.ok sc__law_stays (fun vs H Q E h => ?_) (fun cdv A outer s H vs Q E hr h => ?_)
  · obtain ⟨W, LT, b, ts, task, rfl, _⟩ := h; rfl
  · obtain ⟨W, LT, b, ts, task, rfl, hL, ok, hT, lt, q⟩ := h
    have hu := hu_of hr
    refine ⟨_, (pss_cons (ps_set (i := 3) sc__law_stays.nd rfl (Or.inl rfl) (pe_callB call_len_seq rfl B.len hb_len (pa_cons (pe_dget hu (pv 0) pe_str (fun _ _ => rfl)) pa_nil)))
      (pss_cons (ps_set (i := 4) sc__law_stays.nd rfl (Or.inr rfl) (pe_cmpR ((show OpR _ _ (rIn K false) from op_in_seq)) (pe_ix ix_tup (pe_ix ix_list (pe_dget hu (pv 0) pe_str (fun _ _ => rfl)) (pv 2) (fun _ _ => rfl)) pe_int (fun _ _ => rfl)) (pv 1) (by with_unfolding_all rfl)))
      (pss_cons (ps_setLc (i := 5) (own := [("_law_t", 7)]) rfl sc__law_stays.nd rfl rfl (sw_true rfl rfl rfl (by decide +kernel)) (pi_range1 rfl B.range (pa_cons (pv 3) pa_nil)) (blkOk_by (N := ["_law_w", "_law_tellers_here", "_law_task", "_law_many", "_law_mine", "_law_across", "_law_theirs", "_law_t", "_law_stays_here", "_law_right", "_law_word", "_law_gone"]) (sc := defScope s__law_stays) (by decide +kernel)) (fun _ _ _ _ _ => (pg_name (i := 7) sc__law_stays.nd rfl (Or.inl rfl))) (fun _ _ _ _ _ => (pts_one (pt_cmpR op_ne (pe_cmpR ((show OpR _ _ (rIn K false) from op_in_seq)) (pe_ix (show IxR _ (rIxT K) from ix_tup) (pe_ix (show IxR _ (rIxL K) from ix_list) (pe_dget hu (pv 0) pe_str (fun _ _ => rfl)) (pv 7) (fun _ _ => rfl)) pe_int (fun _ _ => rfl)) (pv 1) (by with_unfolding_all rfl)) (pv 4) (nomark _)))) (fun _ _ _ _ _ => (pv 7)))
      (pss_cons (ps_set (i := 6) sc__law_stays.nd rfl (Or.inl rfl) (pe_lst pa_nil))
      (pss_cons (ps_for PassesOwn.never rfl (pi_list (pv 5)) (pg_name (i := 7) sc__law_stays.nd rfl (Or.inl rfl)) (pss_one (ps_set (i := 6) sc__law_stays.nd rfl (Or.inl rfl) (pe_op op_catR (pv 6) (pe_ix ix_list (pe_dget hu (pv 0) pe_str (fun _ _ => rfl)) (pv 7) (fun _ _ => rfl))))))
      (pss_cons (ps_set (i := 8) sc__law_stays.nd rfl (Or.inl rfl) (pe_lst pa_nil))
      (pss_cons (ps_for PassesOwn.never rfl (pi_list (pe_ix ix_list (pe_dget hu (pv 0) pe_str (fun _ _ => rfl)) (pv 2) (fun _ _ => rfl))) (pg_name (i := 9) sc__law_stays.nd rfl (Or.inl rfl)) (pss_cons (ps_set (i := 10) sc__law_stays.nd rfl (Or.inl rfl) (pe_ix ix_tup (pv 9) pe_int (fun _ _ => rfl)))
      (pss_cons (ps_set (i := 11) sc__law_stays.nd rfl (Or.inl rfl) (pe_and (pe_or (pe_cmpR op_eq (pv 10) pe_str (nomark _)) (pe_one (pe_cmpR op_eq (pv 10) pe_str (nomark _)))) (pe_one (pe_cmpR ((show OpR _ _ (rIn K false) from op_in_seq)) (pe_ix ix_tup (pv 9) pe_int (fun _ _ => rfl)) (pv 5) (by with_unfolding_all rfl)))))
      (pss_cons (ps_if (PW.pt (pw_and (pt_val (pv 4)) (pw_and1 (pt_cmpR op_eq (pv 10) pe_str (nomark _))))) (pss_one (ps_set (i := 11) sc__law_stays.nd rfl (Or.inl rfl) (pe_cmpR ((op_inD (hu65 hr))) (pe_tup (pa_cons pe_str (pa_cons (pe_ix ix_tup (pv 9) pe_int (fun _ _ => rfl)) pa_nil))) (pv 6) (by with_unfolding_all rfl)))) pss_nil)
      (pss_cons (ps_if (PW.pt (pw_and (pt_val (pv 4)) (pw_and1 (PW.pt (pw_or (pt_cmpR op_eq (pv 10) pe_str (nomark _)) (pw_or1 (pt_cmpR op_eq (pv 10) pe_str (nomark _)))))))) (pss_cons (ps_set (i := 11) sc__law_stays.nd rfl (Or.inl rfl) (pe_or (pe_cmpR ((op_inD (hu65 hr))) (pe_tup (pa_cons pe_str (pa_cons (pe_ix ix_tup (pv 9) pe_int (fun _ _ => rfl)) pa_nil))) (pv 6) (by with_unfolding_all rfl)) (pe_one (pe_cmpR ((op_inD (hu65 hr))) (pe_tup (pa_cons pe_str (pa_cons (pe_ix ix_tup (pv 9) pe_int (fun _ _ => rfl)) pa_nil))) (pv 6) (by with_unfolding_all rfl)))))
      (pss_one (ps_set (i := 11) sc__law_stays.nd rfl (Or.inl rfl) (pe_or (pv 11) (pe_one (pe_and (pe_cmp (pc_notN (pe_dget hu (pv 0) pe_str (fun _ _ => rfl)))) (pe_one (pe_cmpR op_eq (pe_ix ix_tup (pe_dget hu (pv 0) pe_str (fun _ _ => rfl)) pe_int (fun _ _ => rfl)) (pe_ix ix_tup (pv 9) pe_int (fun _ _ => rfl)) (nomark _))))))))) pss_nil)
      (pss_cons (ps_if (PW.pt (pw_and (pt_val (pv 4)) (pw_and1 (PW.pt (pw_or (pt_cmpR op_eq (pv 10) pe_str (nomark _)) (pw_or1 (pt_cmpR op_eq (pv 10) pe_str (nomark _)))))))) (pss_one (ps_set (i := 11) sc__law_stays.nd rfl (Or.inl rfl) (pe_cmpR ((op_inD (hu65 hr))) (pv 9) (pv 6) (by with_unfolding_all rfl)))) pss_nil)
      (pss_one (ps_if (pt_not (pt_val (pv 11))) (pss_one (ps_expr (pe_bm PySem.F.plainAttrs_list PySem.F.slot_list_append PySem.F.type_list_append mt_append (pv 8) (pa_cons (pv 9) pa_nil)))) pss_nil))))))))
      (pss_one (ps_ret (pv 8)))))))))), ?_⟩
    obtain ⟨kv, xt, k1, k2, k3⟩ := hL.get_tasks
    obtain ⟨at_, xs, rfl, hs, lx, l4, hside⟩ := task_side ok k3
    walk_at "st0"
    refine q_getD k1 k2 ?_
    refine ⟨at_, xs, rfl, .inl hs, ?_⟩
    walk_at "st"
    refine q_getD k1 k2 ?_
    walk_at "st"
    obtain ⟨tt, ys, e1, e2, e3⟩ := hside task (by omega)
    refine q_ixL hs (atI_nat e1) ?_
    walk_at "st"
    refine q_ixT e2 (atI0 e3) ?_
    walk_at "st"
    refine q_inSeqI (.inl hT) ?_
    walk_at "st"
    refine q_lcR ?_
    walk_at "st"
    refine ⟨xs.length, rfl, by omega, by omega, ?_⟩
    rw [Int.toNat_natCast]
    refine fun X nX => lc_keep walk_range (fun i => !(decide (decide ((sidesOf b).getD i 0 ∈ ts) = decide ((sidesOf b).getD task 0 ∈ ts)))) (fun i => .int (0 + (i : Nat))) nX (sz1000 (by omega)) (fun H2 s => trivial) yfn_same ?_ ?_
    · rintro i x0 H2 H3 li s1 ⟨rfl, rfl⟩ Q' k
      refine q_gname ?_
      refine ⟨rfl, ?_⟩
      simp only [Int.zero_add]
      obtain ⟨t2, ys2, e4, e5, e6⟩ := hside i li
      walk_at "st"
      refine q_getD (s1 _ _ k1) k2 ?_
      walk_at "st"
      refine q_ixL (s1.seq hs) (atI_nat e4) ?_
      walk_at "st"
      refine q_ixT (Same.sqT s1 e5) (atI0 e6) ?_
      walk_at "st"
      refine q_inSeqI (.inl (s1.seq hT)) ?_
      walk_at "st"
      refine ⟨rfl, ?_⟩
      rw [show decide (V.bl (decide ((sidesOf b).getD i 0 ∈ ts)) = V.bl (decide ((sidesOf b).getD task 0 ∈ ts))) = decide (decide ((sidesOf b).getD i 0 ∈ ts) = decide ((sidesOf b).getD task 0 ∈ ts)) by by_cases e : decide ((sidesOf b).getD i 0 ∈ ts) = decide ((sidesOf b).getD task 0 ∈ ts) <;> simp [e]]
      refine ⟨_, rfl, ?_⟩
      refine k _ _ (Same.refl _) (by rfl) fun H4 Q2 s4 _ kk => ?_
      walk_at "st"
      simp only [Int.zero_add] at kk
      exact kk _ (Same.refl _)
    intro H1 s1 eX
    replace eX : H1 X = some (.lst ((acrL b ts (decide ((sidesOf b).getD task 0 ∈ ts))).map fun (i : Nat) => V.int i)) := by
      rw [eX]
      unfold acrL
      rw [lx]
      simp only [Int.zero_add]
    generalize hm : decide ((sidesOf b).getD task 0 ∈ ts) = mine at *
    have acr4 : (acrL b ts mine).length ≤ 4 ∧ ∀ j ∈ acrL b ts mine, j < (rightsL b).length := by
      obtain ⟨_, rl, _⟩ := rights_L ok
      unfold acrL
      refine ⟨Nat.le_trans (List.length_filter_le _ _) (by rw [List.length_range]; omega), fun j hj => by rw [rl]; exact List.mem_range.mp (List.mem_filter.mp hj).1⟩
    generalize ha : acrL b ts mine = acr at *
    obtain ⟨kv3, xr, k4, k5, k6⟩ := hL.get_rights
    obtain ⟨eRl, rl2, rl4, rlok⟩ := rights_L ok
    generalize hR : rightsL b = R at *
    rw [eRl] at k6
    cases k6 with
    | @lst la rxs _ hl hr =>
    have lr := hr.length
    rw [List.length_map] at lr
    walk_at "st"
    refine ⟨by show 0 ≤ sizeLine; exact Nat.zero_le _, fun T0 nT0 => ?_⟩
    have s2 := s1.trans (same_new (o := .lst []) nT0)
    have eX2 := (same_new (o := .lst []) nT0) _ _ eX
    have eT0 : upd H1 T0 (.lst []) T0 = some (.lst []) := upd_same
    generalize upd H1 T0 (.lst []) = H2 at *
    walk_at "st"
    refine q_forLA ?_
    walk_at "st"
    have rowAt : ∀ {j : Nat} {H' : Hp}, Same H H' → j < R.length → ∃ (rb : Addr) (zs : List V), rxs[j]? = some (.ref rb) ∧ SqL K H' rb zs ∧ DpAll K H' zs ((R.getD j []).map rtd) ∧ zs.length ≤ 8 ∧ zs.length = (R.getD j []).length := fun {j H'} s hj => by
      obtain ⟨d, g1, g2⟩ := hr.get' (List.getElem?_eq_getElem (show j < rxs.length by omega))
      have eRj : R[j]? = some R[j] := List.getElem?_eq_getElem hj
      have gRj : R.getD j [] = R[j] := by rw [List.getD_eq_getElem?_getD, eRj]; rfl
      rw [List.getElem?_map, eRj] at g1
      cases g1
      have r8 := (rlok R[j] (List.getElem_mem hj)).1
      rw [gRj]
      generalize hx : rxs[j] = xj at *
      generalize R[j] = rj at *
      cases g2 with
      | @lst rb zs _ h1 h2 =>
      have lz := h2.length
      rw [List.length_map] at lz
      exact ⟨rb, zs, by rw [List.getElem?_eq_getElem (show j < rxs.length by omega), hx], s.seq h1, L2.DpAll.mono s h2, by omega, lz⟩
    refine ⟨X, rfl, ⟨_, SqL.of eX2⟩, forL (acr.map fun (i : Nat) => V.int i) (fun i σ Hy => ∃ (o7 : Option V) (th : Addr) (ys : List V), σ = [some (.ref W), some (.ref LT), some (.int task), some (.int xs.length), some (.bl mine), some (.ref X), some (.ref th), o7, none, none, none, none] ∧ Same H2 Hy ∧ Hy th = some (.lst ys) ∧ DpAll K Hy ys ((thL (acr.take i) R).map rtd) ∧ ys.length ≤ 8 * i) ⟨_, T0, [], rfl, Same.refl _, eT0, .nil, by simp⟩ (fun i σ Hy _ h => by obtain ⟨_, _, _, _, e, _⟩ := h; exact SqL.of (e _ _ eX2)) (fun i x0 σ Hy ex h => ?_) (fun σ Hy h => ?_)⟩
    · obtain ⟨o7, th, ys, rfl, sy, eth, dth, lth⟩ := h
      rw [List.getElem?_map] at ex
      obtain ⟨j, ej, rfl⟩ := Option.map_eq_some_iff.mp ex
      have i4 : i < acr.length := (List.getElem?_eq_some_iff.mp ej).1
      refine q_gname ?_
      walk_at "st"
      refine q_getD ((s2.trans sy) _ _ k4) k5 ?_
      walk_at "st"
      obtain ⟨rb, zs, f1, f2, f3, f4, f5⟩ := rowAt (s2.trans sy) (acr4.2 j (List.mem_of_getElem? ej))
      refine q_ixL ((s2.trans sy).seq hl) (atI_nat f1) ?_
      refine ⟨th, rb, ys, zs, rfl, rfl, SqL.of eth, f2, ?_, fun T2 nT2 => ?_⟩
      · have : (100000 : Nat) < sizeLine := by decide
        omega
      refine ⟨_, T2, ys ++ zs, rfl, sy.trans (same_new nT2), upd_same, ?_, by rw [List.length_append]; omega⟩
      rw [thL_snoc ej, List.map_append]
      exact dpAll_app (L2.DpAll.mono (same_new nT2) dth) (L2.DpAll.mono (same_new nT2) f3)
    obtain ⟨o7, th, tys, rfl, sy, eth, dth, lth⟩ := h
    rw [List.length_map, List.take_length] at dth
    dsimp only
    walk_at "st"
    refine ⟨by show 0 ≤ sizeLine; exact Nat.zero_le _, fun SL nSL => ?_⟩
    have s3 := sy.trans (same_new (o := .lst []) nSL)
    have eS : upd Hy SL (.lst []) SL = some (.lst []) := upd_same
    have n0S : H SL = none := (s2.trans sy).free nSL
    have n2S : H2 SL = none := sy.free nSL
    have eth3 := (same_new (o := .lst []) nSL) _ _ eth
    have dth3 := L2.DpAll.mono (same_new (o := .lst []) nSL) dth
    have nthS : th ≠ SL := fun z => by rw [← z, eth] at nSL; cases nSL
    generalize upd Hy SL (.lst []) = H3 at *
    walk_at "st"
    refine q_forLA ?_
    walk_at "st"
    refine q_getD ((s2.trans s3) _ _ k4) k5 ?_
    walk_at "st"
    have ltR : task < R.length := by omega
    obtain ⟨rb, zs, f1, f2, f3, f4, f5⟩ := rowAt (Same.refl H) ltR
    refine q_ixL ((s2.trans s3).seq hl) (atI_nat f1) ?_
    have eRj : R[task]? = some R[task] := List.getElem?_eq_getElem ltR
    have gRj : R.getD task [] = R[task] := by rw [List.getD_eq_getElem?_getD, eRj]; rfl
    have rok := (rlok R[task] (List.getElem_mem ltR)).2
    rw [gRj] at f3 f5
    generalize hri : R[task] = ri at *
    have allT : ∀ r ∈ thL acr R, PyData.strOk r.1 = true := fun r hr => by
      obtain ⟨j, hj, hr2⟩ := List.mem_flatMap.mp (show r ∈ acr.flatMap _ from hr)
      have e := List.getElem?_eq_getElem (acr4.2 j hj)
      rw [List.getD_eq_getElem?_getD, e] at hr2
      exact ((rlok _ (List.getElem_mem (acr4.2 j hj))).2 r hr2).2
    refine ⟨rb, rfl, ⟨_, (s2.trans s3).seq f2⟩, forL zs (fun i σ Hy => ∃ (o9 o10 o11 : Option V) (ys : List V), σ = [some (.ref W), some (.ref LT), some (.int task), some (.int xs.length), some (.bl mine), some (.ref X), some (.ref th), o7, some (.ref SL), o9, o10, o11] ∧ Same H2 Hy ∧ Same (hid H3 SL) Hy ∧ Hy SL = some (.lst ys) ∧ DpAll K Hy ys (((ri.take i).filter fun p => !goneB mine acr (thL acr R) (portO b.outside) p.1 p.2).map rtd) ∧ ys.length ≤ i) ⟨_, _, _, [], rfl, s3, hid_same, eS, .nil, by simp⟩ (fun i σ Hy _ h => by obtain ⟨_, _, _, _, _, e, e2, _⟩ := h; exact (s2.trans e).seq f2) (fun i x0 σ Hy ex h => ?_) (fun σ Hy h => ?_)⟩
    · obtain ⟨o9, o10, o11, ys, rfl, sy2, sh, eSy, dys, lys⟩ := h
      have li : i < zs.length := (List.getElem?_eq_some_iff.mp ex).1
      obtain ⟨dd, g1, g2⟩ := f3.get' ex
      rw [List.getElem?_map] at g1
      obtain ⟨⟨z, iz⟩, ek, rfl⟩ := Option.map_eq_some_iff.mp g1
      have hz := (rok _ (List.mem_of_getElem? ek)).2
      have sHy := s2.trans sy2
      have g3 : Dp K Hy x0 (rtd (z, iz)) := L2.Dp.mono sHy g2
      have g3' := g3
      cases g3 with
      | @tup t zy _ ht hys =>
      cases hys with
      | @cons y0 q0 _ _ c0 hys =>
      cases hys with
      | @cons y1 q9 _ _ c1 hys =>
      cases hys
      cases c0
      cases c1
      have dS : ∀ (a b : Str), decide (V.str a = V.str b) = decide (a = b) := fun a b => by by_cases e : a = b <;> simp [e]
      have dT : Dp K Hy (.ref th) (.list ((thL acr R).map rtd)) := .lst (SqL.of (sh _ _ (by rw [hid_ne nthS]; exact eth3))) (L2.DpAll.mono sh (dpAllKeepL (hid_keepL eS) dth3 (noLs_rt _)))
      have eXy : SqL K Hy X ((toI acr).map V.int) := by rw [← toI_V]; exact SqL.of (sy2 _ _ eX2)
      refine q_gname ?_
      walk_at "st"
      refine q_ixT ht (atI0 rfl) ?_
      dsimp only [List.set_cons_zero, List.set_cons_succ]
      refine q_seq ?_
      refine q_set ?_
      refine q_cut (fun v H' => v = .bl ((decide (z = "hand") || decide (z = "strip")) && decide (iz ∈ toI acr)) ∧ H' = Hy) (fun v H' h => ?_) (fun N hN => ?_)
      rotate_left
      · walk_at "st"
        refine q_eqS ?_
        refine ⟨_, rfl, ?_⟩
        by_cases a1 : z = ("hand" : Str)
        · rw [decide_eq_true a1]
          refine iteT ?_
          refine ⟨_, rfl, iteT ?_⟩
          walk_at "st"
          refine q_ixT ht (atI_nat (j := 1) rfl) ?_
          walk_at "st"
          refine q_inSeqI (.inl eXy) ?_
          exact hN _ _ ⟨by simp [a1], rfl⟩
        rw [decide_eq_false a1]
        refine iteF ?_
        walk_at "st"
        refine q_eqS ?_
        refine ⟨_, rfl, ?_⟩
        by_cases a2 : z = ("strip" : Str)
        · rw [decide_eq_true a2]
          refine iteT ?_
          walk_at "st"
          refine q_ixT ht (atI_nat (j := 1) rfl) ?_
          walk_at "st"
          refine q_inSeqI (.inl eXy) ?_
          exact hN _ _ ⟨by simp [a1, a2], rfl⟩
        rw [decide_eq_false a2]
        refine iteF ?_
        exact hN _ _ ⟨by simp [a1, a2], rfl⟩
      obtain ⟨rfl, rfl⟩ := h
      dsimp only [List.set_cons_zero, List.set_cons_succ]
      have mkT : ∀ {y : Str} {H0 : Hp} {tp : Addr}, H0 tp = none → Dp K (upd H0 tp (.tup [V.str y, V.int iz])) (.ref tp) (rtd (y, iz)) := fun n => .tup (SqT.of upd_same) (.cons (.str _) (.cons (.int _) .nil))
      generalize hg0 : ((decide (z = "hand") || decide (z = "strip")) && decide (iz ∈ toI acr)) = g0 at *
      refine seq_if (fun σ Hx => σ = [some (.ref W), some (.ref LT), some (.int task), some (.int xs.length), some (.bl mine), some (.ref X), some (.ref th), o7, some (.ref SL), some (.ref t), some (.str z), some (.bl (if mine && decide (z = "write") then decide ((("read" : Str), iz) ∈ thL acr R) else g0))] ∧ Same H' Hx) (fun σ Hx hx => ?_) (fun N hN => ?_)
      rotate_left
      · walk_at "st"
        by_cases m : mine = true
        · rw [if_pos m]
          walk_at "st"
          refine q_eqS ?_
          refine ⟨_, rfl, ?_⟩
          by_cases a1 : z = ("write" : Str)
          · rw [decide_eq_true a1]
            refine iteT ?_
            walk_at "st"
            refine q_ixT ht (atI_nat (j := 1) rfl) ?_
            walk_at "st"
            refine ⟨by show 2 ≤ sizeLine; decide, fun tp ntp => ?_⟩
            have sp := same_new (o := .tup [V.str "read", V.int iz]) ntp
            walk_at "st"
            refine q_inRt (p := ("read", iz)) (mkT ntp) (L2.Dp.mono sp dT) (show PyData.strOk ("read" : Str) = true by decide +kernel) allT ?_
            exact hN _ _ ⟨by simp [m, a1], sp⟩
          · rw [decide_eq_false a1]
            refine iteF ?_
            walk_at "st"
            exact hN _ _ ⟨by simp [a1], Same.refl _⟩
        · rw [if_neg m]
          refine iteF ?_
          walk_at "st"
          exact hN _ _ ⟨by simp [m], Same.refl _⟩
      obtain ⟨rfl, sA⟩ := hx
      generalize hg1 : (if mine && decide (z = "write") then decide ((("read" : Str), iz) ∈ thL acr R) else g0) = g1 at *
      replace ht := Same.sqT sA ht
      replace dT := L2.Dp.mono sA dT
      refine seq_if (fun σ Hy2 => σ = [some (.ref W), some (.ref LT), some (.int task), some (.int xs.length), some (.bl mine), some (.ref X), some (.ref th), o7, some (.ref SL), some (.ref t), some (.str z), some (.bl (if mine && (decide (z = "send") || decide (z = "take")) then (decide ((("send" : Str), iz) ∈ thL acr R) || decide ((("take" : Str), iz) ∈ thL acr R)) || decide (portO b.outside = some iz) else g1))] ∧ Same Hx Hy2) (fun σ Hx hx => ?_) (fun N hN => ?_)
      rotate_left
      · walk_at "st"
        by_cases m : mine = true
        · rw [if_pos m]
          walk_at "st"
          refine q_eqS ?_
          refine ⟨_, rfl, ?_⟩
          by_cases a1 : z = ("send" : Str)
          · rw [decide_eq_true a1]
            refine iteT ?_
            refine iteT ?_
            refine q_seq ?_
            refine q_set ?_
            refine q_cut (fun v H'' => v = .bl (decide ((("send" : Str), iz) ∈ thL acr R) || decide ((("take" : Str), iz) ∈ thL acr R)) ∧ Same Hx H'') (fun v H'' h => ?_) (fun N2 hN2 => ?_)
            rotate_left
            · walk_at "st"
              refine q_ixT ht (atI_nat (j := 1) rfl) ?_
              walk_at "st"
              refine ⟨by show 2 ≤ sizeLine; decide, fun tpsend ntpsend => ?_⟩
              have spsend := same_new (o := .tup [V.str "send", V.int iz]) ntpsend
              have dpsend : Dp K (upd Hx tpsend (.tup [V.str "send", V.int iz])) (.ref tpsend) (rtd ("send", iz)) := mkT ntpsend
              generalize upd Hx tpsend (.tup [V.str "send", V.int iz]) = Hpsend at *
              walk_at "st"
              refine q_inRt (p := ("send", iz)) dpsend (L2.Dp.mono spsend dT) (show PyData.strOk ("send" : Str) = true by decide +kernel) allT ?_
              refine ⟨_, rfl, ?_⟩
              by_cases b1 : (("send" : Str), iz) ∈ thL acr R
              · rw [decide_eq_true b1]
                refine iteT ?_
                exact hN2 _ _ ⟨by simp [b1], spsend⟩
              rw [decide_eq_false b1]
              refine iteF ?_
              walk_at "st"
              refine q_ixT (Same.sqT spsend ht) (atI_nat (j := 1) rfl) ?_
              walk_at "st"
              refine ⟨by show 2 ≤ sizeLine; decide, fun tptake ntptake => ?_⟩
              have sptake := same_new (o := .tup [V.str "take", V.int iz]) ntptake
              have dptake : Dp K (upd Hpsend tptake (.tup [V.str "take", V.int iz])) (.ref tptake) (rtd ("take", iz)) := mkT ntptake
              generalize upd Hpsend tptake (.tup [V.str "take", V.int iz]) = Hptake at *
              walk_at "st"
              refine q_inRt (p := ("take", iz)) dptake (L2.Dp.mono (spsend.trans sptake) dT) (show PyData.strOk ("take" : Str) = true by decide +kernel) allT ?_
              exact hN2 _ _ ⟨by simp [b1], spsend.trans sptake⟩
            obtain ⟨rfl, sC⟩ := h
            dsimp only [List.set_cons_zero, List.set_cons_succ]
            generalize hgg : (decide ((("send" : Str), iz) ∈ thL acr R) || decide ((("take" : Str), iz) ∈ thL acr R)) = gg at *
            refine q_set ?_
            walk_at "st"
            cases gg with
            | true =>
              refine iteT ?_
              exact hN _ _ ⟨by simp [m, a1], sC⟩
            | false =>
              refine iteF ?_
              obtain ⟨kvo, xo, o1, o2, o3⟩ := (hL.mono (sHy.trans (sA.trans sC))).get_outside
              walk_at "st"
              refine q_getD o1 o2 ?_
              rcases okOutsideL ok.outside with eo | ⟨pp, ee, eo, _⟩
              · rw [eo] at o3
                cases o3
                refine ⟨_, rfl, iteF' (by simp) ?_⟩
                exact hN _ _ ⟨by simp [m, a1, eo, portO], sC⟩
              · rw [eo] at o3
                cases o3 with
                | @tup to zo _ hto hyo =>
                cases hyo with
                | @cons y0' q0' _ _ c0 hyo =>
                cases c0
                refine ⟨true, by simp, iteT ?_⟩
                walk_at "st"
                refine q_getD o1 o2 ?_
                walk_at "st"
                refine q_ixT hto (atI0 rfl) ?_
                walk_at "st"
                refine q_ixT (Same.sqT sC ht) (atI_nat (j := 1) rfl) ?_
                refine q_eqI ?_
                exact hN _ _ ⟨by simp [m, a1, eo, portO], sC⟩
          rw [decide_eq_false a1]
          refine iteF ?_
          walk_at "st"
          refine q_eqS ?_
          refine ⟨_, rfl, ?_⟩
          by_cases a2 : z = ("take" : Str)
          · rw [decide_eq_true a2]
            refine iteT ?_
            refine q_seq ?_
            refine q_set ?_
            refine q_cut (fun v H'' => v = .bl (decide ((("send" : Str), iz) ∈ thL acr R) || decide ((("take" : Str), iz) ∈ thL acr R)) ∧ Same Hx H'') (fun v H'' h => ?_) (fun N2 hN2 => ?_)
            rotate_left
            · walk_at "st"
              refine q_ixT ht (atI_nat (j := 1) rfl) ?_
              walk_at "st"
              refine ⟨by show 2 ≤ sizeLine; decide, fun tpsend ntpsend => ?_⟩
              have spsend := same_new (o := .tup [V.str "send", V.int iz]) ntpsend
              have dpsend : Dp K (upd Hx tpsend (.tup [V.str "send", V.int iz])) (.ref tpsend) (rtd ("send", iz)) := mkT ntpsend
              generalize upd Hx tpsend (.tup [V.str "send", V.int iz]) = Hpsend at *
              walk_at "st"
              refine q_inRt (p := ("send", iz)) dpsend (L2.Dp.mono spsend dT) (show PyData.strOk ("send" : Str) = true by decide +kernel) allT ?_
              refine ⟨_, rfl, ?_⟩
              by_cases b1 : (("send" : Str), iz) ∈ thL acr R
              · rw [decide_eq_true b1]
                refine iteT ?_
                exact hN2 _ _ ⟨by simp [b1], spsend⟩
              rw [decide_eq_false b1]
              refine iteF ?_
              walk_at "st"
              refine q_ixT (Same.sqT spsend ht) (atI_nat (j := 1) rfl) ?_
              walk_at "st"
              refine ⟨by show 2 ≤ sizeLine; decide, fun tptake ntptake => ?_⟩
              have sptake := same_new (o := .tup [V.str "take", V.int iz]) ntptake
              have dptake : Dp K (upd Hpsend tptake (.tup [V.str "take", V.int iz])) (.ref tptake) (rtd ("take", iz)) := mkT ntptake
              generalize upd Hpsend tptake (.tup [V.str "take", V.int iz]) = Hptake at *
              walk_at "st"
              refine q_inRt (p := ("take", iz)) dptake (L2.Dp.mono (spsend.trans sptake) dT) (show PyData.strOk ("take" : Str) = true by decide +kernel) allT ?_
              exact hN2 _ _ ⟨by simp [b1], spsend.trans sptake⟩
            obtain ⟨rfl, sC⟩ := h
            dsimp only [List.set_cons_zero, List.set_cons_succ]
            generalize hgg : (decide ((("send" : Str), iz) ∈ thL acr R) || decide ((("take" : Str), iz) ∈ thL acr R)) = gg at *
            refine q_set ?_
            walk_at "st"
            cases gg with
            | true =>
              refine iteT ?_
              exact hN _ _ ⟨by simp [m, a2], sC⟩
            | false =>
              refine iteF ?_
              obtain ⟨kvo, xo, o1, o2, o3⟩ := (hL.mono (sHy.trans (sA.trans sC))).get_outside
              walk_at "st"
              refine q_getD o1 o2 ?_
              rcases okOutsideL ok.outside with eo | ⟨pp, ee, eo, _⟩
              · rw [eo] at o3
                cases o3
                refine ⟨_, rfl, iteF' (by simp) ?_⟩
                exact hN _ _ ⟨by simp [m, a2, eo, portO], sC⟩
              · rw [eo] at o3
                cases o3 with
                | @tup to zo _ hto hyo =>
                cases hyo with
                | @cons y0' q0' _ _ c0 hyo =>
                cases c0
                refine ⟨true, by simp, iteT ?_⟩
                walk_at "st"
                refine q_getD o1 o2 ?_
                walk_at "st"
                refine q_ixT hto (atI0 rfl) ?_
                walk_at "st"
                refine q_ixT (Same.sqT sC ht) (atI_nat (j := 1) rfl) ?_
                refine q_eqI ?_
                exact hN _ _ ⟨by simp [m, a2, eo, portO], sC⟩
          rw [decide_eq_false a2]
          refine iteF ?_
          walk_at "st"
          exact hN _ _ ⟨by simp [a1, a2], Same.refl _⟩
        · rw [if_neg m]
          refine iteF ?_
          walk_at "st"
          exact hN _ _ ⟨by simp [m], Same.refl _⟩
      obtain ⟨rfl, sB⟩ := hx
      generalize hg2 : (if mine && (decide (z = "send") || decide (z = "take")) then (decide ((("send" : Str), iz) ∈ thL acr R) || decide ((("take" : Str), iz) ∈ thL acr R)) || decide (portO b.outside = some iz) else g1) = g2 at *
      refine seq_if (fun σ Hz => σ = [some (.ref W), some (.ref LT), some (.int task), some (.int xs.length), some (.bl mine), some (.ref X), some (.ref th), o7, some (.ref SL), some (.ref t), some (.str z), some (.bl (if mine && (decide (z = "lock") || decide (z = "seek")) then decide ((z, iz) ∈ thL acr R) else g2))] ∧ Same Hx Hz) (fun σ Hz hx => ?_) (fun N hN => ?_)
      rotate_left
      · walk_at "st"
        by_cases m : mine = true
        · rw [if_pos m]
          walk_at "st"
          refine q_eqS ?_
          refine ⟨_, rfl, ?_⟩
          by_cases a1 : z = ("lock" : Str)
          · rw [decide_eq_true a1]
            refine iteT ?_
            refine iteT ?_
            walk_at "st"
            refine q_inRt (p := (z, iz)) (L2.Dp.mono (sA.trans sB) g3') (L2.Dp.mono sB dT) hz allT ?_
            exact hN _ _ ⟨by simp [m, a1], Same.refl _⟩
          rw [decide_eq_false a1]
          refine iteF ?_
          walk_at "st"
          refine q_eqS ?_
          refine ⟨_, rfl, ?_⟩
          by_cases a2 : z = ("seek" : Str)
          · rw [decide_eq_true a2]
            refine iteT ?_
            walk_at "st"
            refine q_inRt (p := (z, iz)) (L2.Dp.mono (sA.trans sB) g3') (L2.Dp.mono sB dT) hz allT ?_
            exact hN _ _ ⟨by simp [m, a2], Same.refl _⟩
          rw [decide_eq_false a2]
          refine iteF ?_
          walk_at "st"
          exact hN _ _ ⟨by simp [a1, a2], Same.refl _⟩
        · rw [if_neg m]
          refine iteF ?_
          walk_at "st"
          exact hN _ _ ⟨by simp [m], Same.refl _⟩
      obtain ⟨rfl, sC⟩ := hx
      have eg : (if mine && (decide (z = "lock") || decide (z = "seek")) then decide ((z, iz) ∈ thL acr R) else g2) = goneB mine acr (thL acr R) (portO b.outside) z iz := by
        rw [← hg2, ← hg1, ← hg0]; rfl
      rw [eg]
      clear hg0 hg1 hg2 eg
      have sF := sA.trans (sB.trans sC)
      have eSf := sF _ _ eSy
      have tk : ri.take (i + 1) = ri.take i ++ [(z, iz)] := by rw [List.take_add_one, ek]; rfl
      walk_at "st"
      by_cases gn : goneB mine acr (thL acr R) (portO b.outside) z iz = true
      · rw [gn]
        refine iteF ?_
        walk_at "st"
        refine ⟨_, _, _, ys, rfl, sy2.trans sF, sh.trans sF, eSf, ?_, by omega⟩
        rw [tk, List.filter_append]
        have e1 : [(z, iz)].filter (fun p => !goneB mine acr (thL acr R) (portO b.outside) p.1 p.2) = [] := by simp [gn]
        rw [e1, List.append_nil]
        exact L2.DpAll.mono sF dys
      · have gn' : goneB mine acr (thL acr R) (portO b.outside) z iz = false := by simpa using gn
        rw [gn']
        refine iteT ?_
        walk_at "st"
        refine ⟨.inl ⟨rfl, _, SqL.of eSf⟩, ?_⟩
        walk_at "st"
        refine ⟨SL, ys, _, rfl, rfl, eSf, sz1000 (by omega), ?_⟩
        have kl : KeepL Hz (upd Hz SL (.lst (ys ++ [V.ref t]))) := KeepL.put eSf
        refine ⟨_, _, _, ys ++ [V.ref t], rfl, fun b' o hb => ?_, fun b' o hb => ?_, upd_same, ?_, by rw [List.length_append]; show ys.length + 1 ≤ _; omega⟩
        · rw [upd_ne (ne_of_none hb n2S)]; exact sF _ _ (sy2 _ _ hb)
        · by_cases e : b' = SL
          · subst e
            unfold hid at hb
            rw [if_pos rfl] at hb
            cases hb
          · rw [upd_ne e]; exact sF _ _ (sh _ _ hb)
        · rw [tk, List.filter_append]
          have e1 : [(z, iz)].filter (fun p => !goneB mine acr (thL acr R) (portO b.outside) p.1 p.2) = [(z, iz)] := by simp [gn']
          rw [e1, List.map_append]
          exact dpAll_app (dpAllKeepL kl (L2.DpAll.mono sF dys) (noLs_rt _)) (.cons (dpKeepL kl (L2.Dp.mono sF g3') rfl) .nil)
    · obtain ⟨o9, o10, o11, ys, rfl, sy2, sh, eSy, dys, lys⟩ := h
      dsimp only
      walk_at "st"
      refine q SL ys _ (s2.trans sy2) n0S eSy ?_
      rw [f5, List.take_length] at dys
      have gC : (cutL (oneL b ts) (eyeL b ts) (portO b.outside) R).getD task [] = ri.filter fun p => !goneB mine acr (thL acr R) (portO b.outside) p.1 p.2 := by
        unfold cutL
        rw [List.getD_eq_getElem?_getD, List.getElem?_map, List.getElem?_range ltR]
        show (if task ∈ oneL b ts then (R.getD task []).filter _ else (R.getD task []).filter _) = _
        rw [gRj, ← ha, acrL_of]
        have mem : task ∈ oneL b ts ↔ mine = true := by
          rw [← hm]
          unfold oneL
          rw [List.mem_filter, List.mem_range]
          exact ⟨fun z => z.2, fun z => ⟨lt, z⟩⟩
        by_cases m : mine = true
        · rw [if_pos (mem.mpr m), if_pos m]
          exact List.filter_congr fun p _ => by rw [m, gone_re]
        · have m' : mine = false := by simpa using m
          rw [if_neg fun z => m (mem.mp z), if_neg m]
          exact List.filter_congr fun p _ => by rw [m', gone_ro]
      rw [gC]
      exact dys))) only [↓Hk.hold_s]
end
end T
namespace T
section
variable {K : PySem.W.Frag} {C CR : Addr}
theorem LwAt.copyP {H : Hp} {W : Addr} {b : BD} (h : LwAt K H W b) : ∃ kv, H W = some (.dK kv) ∧ ∀ D, H D = none → LwAt K (upd H D (.dK kv)) D b := by
  obtain ⟨x0, x1, x2, x3, x4, x5, x6, x7, x8, x9, x10, x11, x12, x13, x14, x15, x16, r, pe, dM, mo, e, da⟩ := h
  exact ⟨_, e, fun D nD => ⟨x0, x1, x2, x3, x4, x5, x6, x7, x8, x9, x10, x11, x12, x13, x14, x15, x16, r, pe, dM, mo, upd_same, L2.DpAll.mono (same_new nD) da⟩⟩
theorem LwAt.putP_disk {H : Hp} {W : Addr} {b : BD} {v : V} {d : PyData} (h : LwAt K H W b) (dv : Dp K H v d) {qq : Hp → Prop} (q : ∀ H', But W H H' → LwAt K H' W { b with disk := d } → qq H') : ∃ c H4, V.ref W = .ref c ∧ DPut H c (.str "disk") v H4 ∧ qq H4 := by
 refine Hk.hold ?_
 simp (disch := with_unfolding_all (
 exact Hk.disch (by
  obtain ⟨x0, x1, x2, x3, x4, x5, x6, x7, x8, x9, x10, x11, x12, x13, x14, x15, x16, r, pe, dM, mo, e, da⟩ := h
  refine q_putD e (sz1000 (by show 19 < 100000; decide)) (kv' := wk19 x0 x1 x2 x3 x4 v x6 x7 x8 x9 x10 x11 x12 x13 x14 x15 x16 r pe) (by rfl) ?_
  have bt : But W H (upd H W (.dK (wk19 x0 x1 x2 x3 x4 v x6 x7 x8 x9 x10 x11 x12 x13 x14 x15 x16 r pe))) := fun b o h hb => by rw [upd_ne hb]; exact h
  refine q _ bt ⟨x0, x1, x2, x3, x4, v, x6, x7, x8, x9, x10, x11, x12, x13, x14, x15, x16, r, pe, dM, mo, upd_same, ?_⟩
  have kd : KeepD H (upd H W (.dK (wk19 x0 x1 x2 x3 x4 v x6 x7 x8 x9 x10 x11 x12 x13 x14 x15 x16 r pe))) := keepD_dk e bt
  have da2 := dpAllKeepD kd da
  have dv2 := dpKeepD kd dv
  cases da2 with | cons d0 da2 => cases da2 with | cons d1 da2 => cases da2 with | cons d2 da2 => cases da2 with | cons d3 da2 => cases da2 with | cons d4 da2 => cases da2 with | cons d5 da2 => cases da2 with | cons d6 da2 => cases da2 with | cons d7 da2 => cases da2 with | cons d8 da2 => cases da2 with | cons d9 da2 => cases da2 with | cons d10 da2 => cases da2 with | cons d11 da2 => cases da2 with | cons d12 da2 => cases da2 with | cons d13 da2 => cases da2 with | cons d14 da2 => cases da2 with | cons d15 da2 => cases da2 with | cons d16 da2 =>
  exact .cons d0 (.cons d1 (.cons d2 (.cons d3 (.cons d4 (.cons dv2 (.cons d6 (.cons d7 (.cons d8 (.cons d9 (.cons d10 (.cons d11 (.cons d12 (.cons d13 (.cons d14 (.cons d15 (.cons d16 (.nil)))))))))))))))))))) only [↓Hk.hold_s]
theorem LwAt.putP_rights {H : Hp} {W : Addr} {b : BD} {v : V} {d : PyData} (h : LwAt K H W b) (dv : Dp K H v d) {qq : Hp → Prop} (q : ∀ H', But W H H' → LwAt K H' W { b with rights := d } → qq H') : ∃ c H4, V.ref W = .ref c ∧ DPut H c (.str "rights") v H4 ∧ qq H4 := by
 refine Hk.hold ?_
 simp (disch := with_unfolding_all (
 exact Hk.disch (by
  obtain ⟨x0, x1, x2, x3, x4, x5, x6, x7, x8, x9, x10, x11, x12, x13, x14, x15, x16, r, pe, dM, mo, e, da⟩ := h
  refine q_putD e (sz1000 (by show 19 < 100000; decide)) (kv' := wk19 x0 x1 x2 x3 x4 x5 x6 v x8 x9 x10 x11 x12 x13 x14 x15 x16 r pe) (by rfl) ?_
  have bt : But W H (upd H W (.dK (wk19 x0 x1 x2 x3 x4 x5 x6 v x8 x9 x10 x11 x12 x13 x14 x15 x16 r pe))) := fun b o h hb => by rw [upd_ne hb]; exact h
  refine q _ bt ⟨x0, x1, x2, x3, x4, x5, x6, v, x8, x9, x10, x11, x12, x13, x14, x15, x16, r, pe, dM, mo, upd_same, ?_⟩
  have kd : KeepD H (upd H W (.dK (wk19 x0 x1 x2 x3 x4 x5 x6 v x8 x9 x10 x11 x12 x13 x14 x15 x16 r pe))) := keepD_dk e bt
  have da2 := dpAllKeepD kd da
  have dv2 := dpKeepD kd dv
  cases da2 with | cons d0 da2 => cases da2 with | cons d1 da2 => cases da2 with | cons d2 da2 => cases da2 with | cons d3 da2 => cases da2 with | cons d4 da2 => cases da2 with | cons d5 da2 => cases da2 with | cons d6 da2 => cases da2 with | cons d7 da2 => cases da2 with | cons d8 da2 => cases da2 with | cons d9 da2 => cases da2 with | cons d10 da2 => cases da2 with | cons d11 da2 => cases da2 with | cons d12 da2 => cases da2 with | cons d13 da2 => cases da2 with | cons d14 da2 => cases da2 with | cons d15 da2 => cases da2 with | cons d16 da2 =>
  exact .cons d0 (.cons d1 (.cons d2 (.cons d3 (.cons d4 (.cons d5 (.cons d6 (.cons dv2 (.cons d8 (.cons d9 (.cons d10 (.cons d11 (.cons d12 (.cons d13 (.cons d14 (.cons d15 (.cons d16 (.nil)))))))))))))))))))) only [↓Hk.hold_s]
theorem LwAt.putP_lines {H : Hp} {W : Addr} {b : BD} {v : V} {d : PyData} (h : LwAt K H W b) (dv : Dp K H v d) {qq : Hp → Prop} (q : ∀ H', But W H H' → LwAt K H' W { b with lines := d } → qq H') : ∃ c H4, V.ref W = .ref c ∧ DPut H c (.str "lines") v H4 ∧ qq H4 := by
 refine Hk.hold ?_
 simp (disch := with_unfolding_all (
 exact Hk.disch (by
  obtain ⟨x0, x1, x2, x3, x4, x5, x6, x7, x8, x9, x10, x11, x12, x13, x14, x15, x16, r, pe, dM, mo, e, da⟩ := h
  refine q_putD e (sz1000 (by show 19 < 100000; decide)) (kv' := wk19 x0 x1 x2 x3 x4 x5 x6 x7 v x9 x10 x11 x12 x13 x14 x15 x16 r pe) (by rfl) ?_
  have bt : But W H (upd H W (.dK (wk19 x0 x1 x2 x3 x4 x5 x6 x7 v x9 x10 x11 x12 x13 x14 x15 x16 r pe))) := fun b o h hb => by rw [upd_ne hb]; exact h
  refine q _ bt ⟨x0, x1, x2, x3, x4, x5, x6, x7, v, x9, x10, x11, x12, x13, x14, x15, x16, r, pe, dM, mo, upd_same, ?_⟩
  have kd : KeepD H (upd H W (.dK (wk19 x0 x1 x2 x3 x4 x5 x6 x7 v x9 x10 x11 x12 x13 x14 x15 x16 r pe))) := keepD_dk e bt
  have da2 := dpAllKeepD kd da
  have dv2 := dpKeepD kd dv
  cases da2 with | cons d0 da2 => cases da2 with | cons d1 da2 => cases da2 with | cons d2 da2 => cases da2 with | cons d3 da2 => cases da2 with | cons d4 da2 => cases da2 with | cons d5 da2 => cases da2 with | cons d6 da2 => cases da2 with | cons d7 da2 => cases da2 with | cons d8 da2 => cases da2 with | cons d9 da2 => cases da2 with | cons d10 da2 => cases da2 with | cons d11 da2 => cases da2 with | cons d12 da2 => cases da2 with | cons d13 da2 => cases da2 with | cons d14 da2 => cases da2 with | cons d15 da2 => cases da2 with | cons d16 da2 =>
  exact .cons d0 (.cons d1 (.cons d2 (.cons d3 (.cons d4 (.cons d5 (.cons d6 (.cons d7 (.cons dv2 (.cons d9 (.cons d10 (.cons d11 (.cons d12 (.cons d13 (.cons d14 (.cons d15 (.cons d16 (.nil)))))))))))))))))))) only [↓Hk.hold_s]
theorem LwAt.putP_plan {H : Hp} {W : Addr} {b : BD} {v : V} {d : PyData} (h : LwAt K H W b) (dv : Dp K H v d) {qq : Hp → Prop} (q : ∀ H', But W H H' → LwAt K H' W { b with plan := d } → qq H') : ∃ c H4, V.ref W = .ref c ∧ DPut H c (.str "plan") v H4 ∧ qq H4 := by
 refine Hk.hold ?_
 simp (disch := with_unfolding_all (
 exact Hk.disch (by
  obtain ⟨x0, x1, x2, x3, x4, x5, x6, x7, x8, x9, x10, x11, x12, x13, x14, x15, x16, r, pe, dM, mo, e, da⟩ := h
  refine q_putD e (sz1000 (by show 19 < 100000; decide)) (kv' := wk19 x0 x1 x2 x3 x4 x5 x6 x7 x8 x9 x10 v x12 x13 x14 x15 x16 r pe) (by rfl) ?_
  have bt : But W H (upd H W (.dK (wk19 x0 x1 x2 x3 x4 x5 x6 x7 x8 x9 x10 v x12 x13 x14 x15 x16 r pe))) := fun b o h hb => by rw [upd_ne hb]; exact h
  refine q _ bt ⟨x0, x1, x2, x3, x4, x5, x6, x7, x8, x9, x10, v, x12, x13, x14, x15, x16, r, pe, dM, mo, upd_same, ?_⟩
  have kd : KeepD H (upd H W (.dK (wk19 x0 x1 x2 x3 x4 x5 x6 x7 x8 x9 x10 v x12 x13 x14 x15 x16 r pe))) := keepD_dk e bt
  have da2 := dpAllKeepD kd da
  have dv2 := dpKeepD kd dv
  cases da2 with | cons d0 da2 => cases da2 with | cons d1 da2 => cases da2 with | cons d2 da2 => cases da2 with | cons d3 da2 => cases da2 with | cons d4 da2 => cases da2 with | cons d5 da2 => cases da2 with | cons d6 da2 => cases da2 with | cons d7 da2 => cases da2 with | cons d8 da2 => cases da2 with | cons d9 da2 => cases da2 with | cons d10 da2 => cases da2 with | cons d11 da2 => cases da2 with | cons d12 da2 => cases da2 with | cons d13 da2 => cases da2 with | cons d14 da2 => cases da2 with | cons d15 da2 => cases da2 with | cons d16 da2 =>
  exact .cons d0 (.cons d1 (.cons d2 (.cons d3 (.cons d4 (.cons d5 (.cons d6 (.cons d7 (.cons d8 (.cons d9 (.cons d10 (.cons dv2 (.cons d12 (.cons d13 (.cons d14 (.cons d15 (.cons d16 (.nil)))))))))))))))))))) only [↓Hk.hold_s]
theorem LwAt.putP_wipe {H : Hp} {W : Addr} {b : BD} {v : V} {d : PyData} (h : LwAt K H W b) (dv : Dp K H v d) {qq : Hp → Prop} (q : ∀ H', But W H H' → LwAt K H' W { b with wipe := d } → qq H') : ∃ c H4, V.ref W = .ref c ∧ DPut H c (.str "wipe") v H4 ∧ qq H4 := by
 refine Hk.hold ?_
 simp (disch := with_unfolding_all (
 exact Hk.disch (by
  obtain ⟨x0, x1, x2, x3, x4, x5, x6, x7, x8, x9, x10, x11, x12, x13, x14, x15, x16, r, pe, dM, mo, e, da⟩ := h
  refine q_putD e (sz1000 (by show 19 < 100000; decide)) (kv' := wk19 x0 x1 x2 x3 x4 x5 x6 x7 x8 x9 x10 x11 x12 v x14 x15 x16 r pe) (by rfl) ?_
  have bt : But W H (upd H W (.dK (wk19 x0 x1 x2 x3 x4 x5 x6 x7 x8 x9 x10 x11 x12 v x14 x15 x16 r pe))) := fun b o h hb => by rw [upd_ne hb]; exact h
  refine q _ bt ⟨x0, x1, x2, x3, x4, x5, x6, x7, x8, x9, x10, x11, x12, v, x14, x15, x16, r, pe, dM, mo, upd_same, ?_⟩
  have kd : KeepD H (upd H W (.dK (wk19 x0 x1 x2 x3 x4 x5 x6 x7 x8 x9 x10 x11 x12 v x14 x15 x16 r pe))) := keepD_dk e bt
  have da2 := dpAllKeepD kd da
  have dv2 := dpKeepD kd dv
  cases da2 with | cons d0 da2 => cases da2 with | cons d1 da2 => cases da2 with | cons d2 da2 => cases da2 with | cons d3 da2 => cases da2 with | cons d4 da2 => cases da2 with | cons d5 da2 => cases da2 with | cons d6 da2 => cases da2 with | cons d7 da2 => cases da2 with | cons d8 da2 => cases da2 with | cons d9 da2 => cases da2 with | cons d10 da2 => cases da2 with | cons d11 da2 => cases da2 with | cons d12 da2 => cases da2 with | cons d13 da2 => cases da2 with | cons d14 da2 => cases da2 with | cons d15 da2 => cases da2 with | cons d16 da2 =>
  exact .cons d0 (.cons d1 (.cons d2 (.cons d3 (.cons d4 (.cons d5 (.cons d6 (.cons d7 (.cons d8 (.cons d9 (.cons d10 (.cons d11 (.cons d12 (.cons dv2 (.cons d14 (.cons d15 (.cons d16 (.nil)))))))))))))))))))) only [↓Hk.hold_s]
theorem LwAt.putP_pad {H : Hp} {W : Addr} {b : BD} {v : V} {d : PyData} (h : LwAt K H W b) (dv : Dp K H v d) {qq : Hp → Prop} (q : ∀ H', But W H H' → LwAt K H' W { b with pad := d } → qq H') : ∃ c H4, V.ref W = .ref c ∧ DPut H c (.str "pad") v H4 ∧ qq H4 := by
 refine Hk.hold ?_
 simp (disch := with_unfolding_all (
 exact Hk.disch (by
  obtain ⟨x0, x1, x2, x3, x4, x5, x6, x7, x8, x9, x10, x11, x12, x13, x14, x15, x16, r, pe, dM, mo, e, da⟩ := h
  refine q_putD e (sz1000 (by show 19 < 100000; decide)) (kv' := wk19 x0 x1 x2 x3 x4 x5 x6 x7 x8 x9 x10 x11 x12 x13 v x15 x16 r pe) (by rfl) ?_
  have bt : But W H (upd H W (.dK (wk19 x0 x1 x2 x3 x4 x5 x6 x7 x8 x9 x10 x11 x12 x13 v x15 x16 r pe))) := fun b o h hb => by rw [upd_ne hb]; exact h
  refine q _ bt ⟨x0, x1, x2, x3, x4, x5, x6, x7, x8, x9, x10, x11, x12, x13, v, x15, x16, r, pe, dM, mo, upd_same, ?_⟩
  have kd : KeepD H (upd H W (.dK (wk19 x0 x1 x2 x3 x4 x5 x6 x7 x8 x9 x10 x11 x12 x13 v x15 x16 r pe))) := keepD_dk e bt
  have da2 := dpAllKeepD kd da
  have dv2 := dpKeepD kd dv
  cases da2 with | cons d0 da2 => cases da2 with | cons d1 da2 => cases da2 with | cons d2 da2 => cases da2 with | cons d3 da2 => cases da2 with | cons d4 da2 => cases da2 with | cons d5 da2 => cases da2 with | cons d6 da2 => cases da2 with | cons d7 da2 => cases da2 with | cons d8 da2 => cases da2 with | cons d9 da2 => cases da2 with | cons d10 da2 => cases da2 with | cons d11 da2 => cases da2 with | cons d12 da2 => cases da2 with | cons d13 da2 => cases da2 with | cons d14 da2 => cases da2 with | cons d15 da2 => cases da2 with | cons d16 da2 =>
  exact .cons d0 (.cons d1 (.cons d2 (.cons d3 (.cons d4 (.cons d5 (.cons d6 (.cons d7 (.cons d8 (.cons d9 (.cons d10 (.cons d11 (.cons d12 (.cons d13 (.cons dv2 (.cons d15 (.cons d16 (.nil)))))))))))))))))))) only [↓Hk.hold_s]
theorem LwAt.putP_share {H : Hp} {W : Addr} {b : BD} {v : V} {d : PyData} (h : LwAt K H W b) (dv : Dp K H v d) {qq : Hp → Prop} (q : ∀ H', But W H H' → LwAt K H' W { b with share := d } → qq H') : ∃ c H4, V.ref W = .ref c ∧ DPut H c (.str "share") v H4 ∧ qq H4 := by
 refine Hk.hold ?_
 simp (disch := with_unfolding_all (
 exact Hk.disch (by
  obtain ⟨x0, x1, x2, x3, x4, x5, x6, x7, x8, x9, x10, x11, x12, x13, x14, x15, x16, r, pe, dM, mo, e, da⟩ := h
  refine q_putD e (sz1000 (by show 19 < 100000; decide)) (kv' := wk19 x0 x1 x2 x3 x4 x5 x6 x7 x8 x9 x10 x11 x12 x13 x14 x15 v r pe) (by rfl) ?_
  have bt : But W H (upd H W (.dK (wk19 x0 x1 x2 x3 x4 x5 x6 x7 x8 x9 x10 x11 x12 x13 x14 x15 v r pe))) := fun b o h hb => by rw [upd_ne hb]; exact h
  refine q _ bt ⟨x0, x1, x2, x3, x4, x5, x6, x7, x8, x9, x10, x11, x12, x13, x14, x15, v, r, pe, dM, mo, upd_same, ?_⟩
  have kd : KeepD H (upd H W (.dK (wk19 x0 x1 x2 x3 x4 x5 x6 x7 x8 x9 x10 x11 x12 x13 x14 x15 v r pe))) := keepD_dk e bt
  have da2 := dpAllKeepD kd da
  have dv2 := dpKeepD kd dv
  cases da2 with | cons d0 da2 => cases da2 with | cons d1 da2 => cases da2 with | cons d2 da2 => cases da2 with | cons d3 da2 => cases da2 with | cons d4 da2 => cases da2 with | cons d5 da2 => cases da2 with | cons d6 da2 => cases da2 with | cons d7 da2 => cases da2 with | cons d8 da2 => cases da2 with | cons d9 da2 => cases da2 with | cons d10 da2 => cases da2 with | cons d11 da2 => cases da2 with | cons d12 da2 => cases da2 with | cons d13 da2 => cases da2 with | cons d14 da2 => cases da2 with | cons d15 da2 => cases da2 with | cons d16 da2 =>
  exact .cons d0 (.cons d1 (.cons d2 (.cons d3 (.cons d4 (.cons d5 (.cons d6 (.cons d7 (.cons d8 (.cons d9 (.cons d10 (.cons d11 (.cons d12 (.cons d13 (.cons d14 (.cons d15 (.cons dv2 (.nil)))))))))))))))))))) only [↓Hk.hold_s]
theorem LwAt.get_pages {H : Hp} {W : Addr} {b : BD} (h : LwAt K H W b) : ∃ kv x, H W = some (.dK kv) ∧ valV kv (Sum.inr "pages") = some x ∧ Dp K H x b.pages := by
  obtain ⟨x0, x1, x2, x3, x4, x5, x6, x7, x8, x9, x10, x11, x12, x13, x14, x15, x16, r, pe, dM, mo, e0, da⟩ := h
  obtain ⟨d2, h1, h2⟩ := da.get' (i := 1) rfl
  cases h1
  exact ⟨_, _, e0, rfl, h2⟩
theorem LwAt.get_costs {H : Hp} {W : Addr} {b : BD} (h : LwAt K H W b) : ∃ kv x, H W = some (.dK kv) ∧ valV kv (Sum.inr "costs") = some x ∧ Dp K H x b.costs := by
  obtain ⟨x0, x1, x2, x3, x4, x5, x6, x7, x8, x9, x10, x11, x12, x13, x14, x15, x16, r, pe, dM, mo, e0, da⟩ := h
  obtain ⟨d2, h1, h2⟩ := da.get' (i := 9) rfl
  cases h1
  exact ⟨_, _, e0, rfl, h2⟩
theorem LwAt.get_wipe {H : Hp} {W : Addr} {b : BD} {f : Bool} (h : LwAt K H W b) (e : b.wipe = .bool f) : ∃ kv, H W = some (.dK kv) ∧ valV kv (Sum.inr "wipe") = some (.bl f) := by
  obtain ⟨x0, x1, x2, x3, x4, x5, x6, x7, x8, x9, x10, x11, x12, x13, x14, x15, x16, r, pe, dM, mo, e0, da⟩ := h
  refine ⟨_, e0, ?_⟩
  obtain ⟨d2, h1, h2⟩ := da.get' (i := 13) rfl
  cases h1
  rw [e] at h2
  cases h2
  rfl
theorem LwAt.get_pad {H : Hp} {W : Addr} {b : BD} {f : Bool} (h : LwAt K H W b) (e : b.pad = .bool f) : ∃ kv, H W = some (.dK kv) ∧ valV kv (Sum.inr "pad") = some (.bl f) := by
  obtain ⟨x0, x1, x2, x3, x4, x5, x6, x7, x8, x9, x10, x11, x12, x13, x14, x15, x16, r, pe, dM, mo, e0, da⟩ := h
  refine ⟨_, e0, ?_⟩
  obtain ⟨d2, h1, h2⟩ := da.get' (i := 14) rfl
  cases h1
  rw [e] at h2
  cases h2
  rfl
theorem LwAt.get_share {H : Hp} {W : Addr} {b : BD} {f : Bool} (h : LwAt K H W b) (e : b.share = .bool f) : ∃ kv, H W = some (.dK kv) ∧ valV kv (Sum.inr "share") = some (.bl f) := by
  obtain ⟨x0, x1, x2, x3, x4, x5, x6, x7, x8, x9, x10, x11, x12, x13, x14, x15, x16, r, pe, dM, mo, e0, da⟩ := h
  refine ⟨_, e0, ?_⟩
  obtain ⟨d2, h1, h2⟩ := da.get' (i := 16) rfl
  cases h1
  rw [e] at h2
  cases h2
  rfl
/-- the greatest cost, as the law's dict tells it -/
def MoAt (H : Hp) (W : Addr) (m : Int) : Prop := ∃ kv, H W = some (.dK kv) ∧ valV kv (Sum.inr "most") = some (.int m)
theorem MoAt.mono {H H' : Hp} {W : Addr} {m : Int} (h : MoAt H W m) (s : Same H H') : MoAt H' W m := by
  obtain ⟨kv, e, v⟩ := h
  exact ⟨kv, s _ _ e, v⟩
end
end T
namespace T
theorem cutL_len {os es : List Nat} {port : Option Int} {R : List (List Rt)} : (cutL os es port R).length = R.length := by unfold cutL; rw [List.length_map, List.length_range]
theorem cutL_get {os es : List Nat} {port : Option Int} {R : List (List Rt)} {j : Nat} (h : j < R.length) : (cutL os es port R).getD j [] = if j ∈ os then (R.getD j []).filter (fun p => !reB p.1 p.2 (thL es R) port (toI es)) else (R.getD j []).filter fun p => !roB p.1 p.2 (toI os) := by
  unfold cutL
  rw [List.getD_eq_getElem?_getD, List.getElem?_map, List.getElem?_range h]; rfl
theorem reB_congr {z : Str} {i : Int} {T T' : List Rt} {port : Option Int} {js : List Int} (h : ∀ (y : Str) (k : Int), y ≠ "hand" → y ≠ "strip" → ((y, k) ∈ T' ↔ (y, k) ∈ T)) : reB z i T' port js = reB z i T port js := by
 refine Hk.hold ?_
 simp (disch := with_unfolding_all (
 exact Hk.disch (by
  have d : ∀ (y : Str) (k : Int), y ≠ "hand" → y ≠ "strip" → decide ((y, k) ∈ T') = decide ((y, k) ∈ T) := fun y k a b => decide_eq_decide.mpr (h y k a b)
  unfold reB
  rw [d "read" i (by decide +kernel) (by decide +kernel), d "send" i (by decide +kernel) (by decide +kernel), d "take" i (by decide +kernel) (by decide +kernel)]
  by_cases hz : z ∈ (["lock", "seek"] : List Str)
  · rw [if_pos hz, if_pos hz]
    have a : z ≠ "hand" := fun e => by subst e; exact absurd hz (by decide +kernel)
    have b : z ≠ "strip" := fun e => by subst e; exact absurd hz (by decide +kernel)
    rw [d z i a b]
  · rw [if_neg hz, if_neg hz]))) only [↓Hk.hold_s]
theorem getD_get {L : List (List Rt)} {j : Nat} (h : j < L.length) : L[j] = L.getD j [] := by rw [List.getD_eq_getElem?_getD, List.getElem?_eq_getElem h]; rfl
theorem cut_twice {os es : List Nat} {port : Option Int} {R : List (List Rt)} (dis : ∀ j ∈ es, j ∉ os) (hes : ∀ j ∈ es, j < R.length) : cutL os es port (cutL os es port R) = cutL os es port R := by
 refine Hk.hold ?_
 simp (disch := with_unfolding_all (
 exact Hk.disch (by
  have hT : ∀ (y : Str) (k : Int), y ≠ "hand" → y ≠ "strip" → ((y, k) ∈ thL es (cutL os es port R) ↔ (y, k) ∈ thL es R) := fun y k a b => by
    unfold thL
    rw [List.mem_flatMap, List.mem_flatMap]
    refine exists_congr fun j => and_congr_right fun hj => ?_
    rw [cutL_get (hes j hj), if_neg (dis j hj), List.mem_filter]
    have ro : roB y k (toI os) = false := by
      unfold roB
      have : decide (y ∈ (["hand", "strip"] : List Str)) = false := decide_eq_false (by simp [a, b])
      rw [this, Bool.false_and]
    exact ⟨fun z => z.1, fun z => ⟨z, by simp [ro]⟩⟩
  refine List.ext_getElem (by rw [cutL_len]) fun j h1 h2 => ?_
  have hj : j < R.length := by rw [cutL_len] at h2; exact h2
  rw [getD_get h1, getD_get h2, cutL_get (by rw [cutL_len]; exact hj), cutL_get hj]
  by_cases ho : j ∈ os
  · rw [if_pos ho, if_pos ho, List.filter_filter]
    refine List.filter_congr fun p _ => ?_
    rw [reB_congr hT, Bool.and_self]
  · rw [if_neg ho, if_neg ho, List.filter_filter]
    exact List.filter_congr fun p _ => by rw [Bool.and_self]))) only [↓Hk.hold_s]
theorem notSeek_rt (p : Rt) : notSeek (rtd p) = !decide (p = (("seek" : Str), (0 : Int))) := by
  unfold notSeek
  have e : PyData.eqv (rtd p) seekD = decide (p = (("seek" : Str), (0 : Int))) := eqv_rtd p ("seek", 0)
  rw [e]
theorem mem_unseek {r : List Rt} {p : Rt} : p ∈ unseek r ↔ p ∈ r ∧ p ≠ (("seek" : Str), (0 : Int)) := by
  unfold unseek
  rw [List.mem_filter, notSeek_rt]
  simp
theorem unseek_twice (r : List Rt) : unseek (unseek r) = unseek r := by
  unfold unseek
  rw [List.filter_filter]
  exact List.filter_congr fun p _ => by rw [Bool.and_self]
/-- to cut and to leave the seeks go together -/
theorem cut_unseek {os es : List Nat} {port : Option Int} {R : List (List Rt)} (hes : ∀ j ∈ es, j < R.length) : cutL os es port (R.map unseek) = (cutL os es port R).map unseek := by
 refine Hk.hold ?_
 simp (disch := with_unfolding_all (
 exact Hk.disch (by
  have gu : ∀ j, j < R.length → (R.map unseek).getD j [] = unseek (R.getD j []) := fun j h => by
    rw [List.getD_eq_getElem?_getD, List.getD_eq_getElem?_getD, List.getElem?_map, List.getElem?_eq_getElem h]; rfl
  have hT : ∀ p : Rt, p ≠ (("seek" : Str), (0 : Int)) → (p ∈ thL es (R.map unseek) ↔ p ∈ thL es R) := fun p hp => by
    unfold thL
    rw [List.mem_flatMap, List.mem_flatMap]
    refine exists_congr fun j => and_congr_right fun hj => ?_
    rw [gu j (hes j hj), mem_unseek]
    exact ⟨fun z => z.1, fun z => ⟨z, hp⟩⟩
  have rT : ∀ p : Rt, p ≠ (("seek" : Str), (0 : Int)) → reB p.1 p.2 (thL es (R.map unseek)) port (toI es) = reB p.1 p.2 (thL es R) port (toI es) := fun p hp => by
    have d : ∀ q : Rt, q ≠ (("seek" : Str), (0 : Int)) → decide (q ∈ thL es (R.map unseek)) = decide (q ∈ thL es R) := fun q h => decide_eq_decide.mpr (hT q h)
    unfold reB
    rw [d ("read", p.2) (fun e => absurd (congrArg Prod.fst e) (show ("read" : Str) ≠ "seek" by decide +kernel)), d ("send", p.2) (fun e => absurd (congrArg Prod.fst e) (show ("send" : Str) ≠ "seek" by decide +kernel)), d ("take", p.2) (fun e => absurd (congrArg Prod.fst e) (show ("take" : Str) ≠ "seek" by decide +kernel)), d (p.1, p.2) hp]
  refine List.ext_getElem (by rw [cutL_len, List.length_map, List.length_map, cutL_len]) fun j h1 h2 => ?_
  have hj : j < R.length := by rw [cutL_len, List.length_map] at h1; exact h1
  rw [getD_get h1, cutL_get (by rw [List.length_map]; exact hj), gu j hj, List.getElem_map, getD_get (by rw [cutL_len]; exact hj), cutL_get hj]
  by_cases ho : j ∈ os
  · rw [if_pos ho, if_pos ho]
    unfold unseek
    rw [List.filter_filter, List.filter_filter]
    refine List.filter_congr fun p _ => ?_
    by_cases hp : p = (("seek" : Str), (0 : Int))
    · rw [notSeek_rt, decide_eq_true hp]; simp
    · rw [show (fun r : List Rt => r.filter fun p => notSeek (rtd p)) = unseek from rfl, rT p hp, Bool.and_comm]
  · rw [if_neg ho, if_neg ho]
    unfold unseek
    rw [List.filter_filter, List.filter_filter]
    exact List.filter_congr fun p _ => Bool.and_comm _ _))) only [↓Hk.hold_s]
/-- two lists of cures, and both together -/
structure Both (n1 n2 nb : List Str) : Prop where
  mem : ∀ x, x ∈ nb ↔ x ∈ n1 ∨ x ∈ n2
theorem rowsC_both {n1 n2 nb : List Str} (h : Both n1 n2 nb) {os es : List Nat} {port : Option Int} {R : List (List Rt)} (dis : ∀ j ∈ es, j ∉ os) (hes : ∀ j ∈ es, j < R.length) : rowsC n2 os es port (rowsC n1 os es port R) = rowsC nb os es port R := by
 refine Hk.hold ?_
 simp (disch := with_unfolding_all (
 exact Hk.disch (by
  have uu : ∀ L : List (List Rt), (L.map unseek).map unseek = L.map unseek := fun L => by
    rw [List.map_map]
    exact List.map_congr_left fun r _ => unseek_twice r
  have c2 := cut_twice (port := port) dis hes
  have cu := cut_unseek (os := os) (port := port) hes
  have cu2 : cutL os es port ((cutL os es port R).map unseek) = (cutL os es port R).map unseek := by
    rw [cut_unseek fun j hj => by rw [cutL_len]; exact hes j hj, c2]
  unfold rowsC
  have ms := h.mem "still"
  have mc := h.mem "cut"
  by_cases s1 : ("still" : Str) ∈ n1 <;> by_cases s2 : ("still" : Str) ∈ n2 <;> by_cases a1 : ("cut" : Str) ∈ n1 <;> by_cases a2 : ("cut" : Str) ∈ n2 <;>
    simp only [ms, mc, s1, s2, a1, a2, if_true, if_false, or_true, true_or, or_false, or_self, uu, c2, cu, cu2]))) only [↓Hk.hold_s]
theorem orB_orB (d : PyData) (x y : Bool) : orB (orB d x) y = orB d (x || y) := by
  cases d with
  | bool z => show PyData.bool ((z || x) || y) = PyData.bool (z || (x || y)); rw [Bool.or_assoc]
  | _ => rfl
theorem eye_one {b : BD} {ts : List Int} : ∀ j ∈ eyeL b ts, j ∉ oneL b ts := fun j h z => by
  have a := (List.mem_filter.mp h).2
  have c := (List.mem_filter.mp z).2
  exact (of_decide_eq_true a) (of_decide_eq_true c)
theorem rightsL_cur {b : BD} {ts : List Int} {nm : List Str} : rightsL (curB ts nm b) = rowsC nm (oneL b ts) (eyeL b ts) (portO b.outside) (rightsL b) := by
  show ((rowsC nm (oneL b ts) (eyeL b ts) (portO b.outside) (rightsL b)).map rowD).map rowOf = _
  rw [List.map_map]
  exact (List.map_congr_left fun r _ => rowOf_rowD r).trans (List.map_id _)
theorem curB_both {b : BD} (ok : BOk b) (ts : List Int) {n1 n2 nb : List Str} (h : Both n1 n2 nb) (no : ¬(("still" : Str) ∈ n1 ∧ ("slots" : Str) ∈ n2)) : curB ts n2 (curB ts n1 b) = curB ts nb b := by
 refine Hk.hold ?_
 simp (disch := with_unfolding_all (
 exact Hk.disch (by
  have d : ∀ x : Str, (decide (x ∈ n1) || decide (x ∈ n2)) = decide (x ∈ nb) := fun x => by
    rw [Bool.eq_iff_iff]
    simp [h.mem x]
  have r : rowsC n2 (oneL (curB ts n1 b) ts) (eyeL (curB ts n1 b) ts) (portO (curB ts n1 b).outside) (rightsL (curB ts n1 b)) = rowsC nb (oneL b ts) (eyeL b ts) (portO b.outside) (rightsL b) := by
    have o : oneL (curB ts n1 b) ts = oneL b ts := rfl
    have y : eyeL (curB ts n1 b) ts = eyeL b ts := rfl
    have p : (curB ts n1 b).outside = b.outside := rfl
    rw [o, y, p, rightsL_cur]
    exact rowsC_both h eye_one fun j hj => by rw [(rights_L ok).2.1]; exact eyeL_lt.1 j hj
  have ln : (if ("cold" : Str) ∈ n2 then .list ((dl (curB ts n1 b).lines).map fun _ => .none) else (curB ts n1 b).lines) = (curB ts nb b).lines := by
    show (if ("cold" : Str) ∈ n2 then PyData.list ((dl (if ("cold" : Str) ∈ n1 then .list ((dl b.lines).map fun _ => .none) else b.lines)).map fun _ => .none) else (if ("cold" : Str) ∈ n1 then .list ((dl b.lines).map fun _ => .none) else b.lines)) = (if ("cold" : Str) ∈ nb then .list ((dl b.lines).map fun _ => .none) else b.lines)
    have m := h.mem "cold"
    by_cases a1 : ("cold" : Str) ∈ n1 <;> by_cases a2 : ("cold" : Str) ∈ n2 <;> simp [m, a1, a2, dl]
  have dk : (if ("still" : Str) ∈ n2 then .int 0 else (curB ts n1 b).disk) = (curB ts nb b).disk := by
    show (if ("still" : Str) ∈ n2 then PyData.int 0 else (if ("still" : Str) ∈ n1 then .int 0 else b.disk)) = (if ("still" : Str) ∈ nb then .int 0 else b.disk)
    have m := h.mem "still"
    by_cases a1 : ("still" : Str) ∈ n1 <;> by_cases a2 : ("still" : Str) ∈ n2 <;> simp [m, a1, a2]
  have pl : (if ("slots" : Str) ∈ n2 then slD (curB ts n1 b) else (curB ts n1 b).plan) = (curB ts nb b).plan := by
    show (if ("slots" : Str) ∈ n2 then slD (curB ts n1 b) else (if ("slots" : Str) ∈ n1 then slD b else b.plan)) = (if ("slots" : Str) ∈ nb then slD b else b.plan)
    have m := h.mem "slots"
    by_cases a2 : ("slots" : Str) ∈ n2
    · have s1 : ("still" : Str) ∉ n1 := fun z => no ⟨z, a2⟩
      have e : slD (curB ts n1 b) = slD b := by
        unfold slD slT greatOf
        have ed : (curB ts n1 b).disk = b.disk := by
          show (if ("still" : Str) ∈ n1 then _ else _) = b.disk
          rw [if_neg s1]
        rw [ed]
        rfl
      rw [if_pos a2, e, if_pos (m.mpr (.inr a2))]
    · by_cases a1 : ("slots" : Str) ∈ n1 <;> simp [m, a1, a2]
  show BD.mk _ _ _ _ _ _ _ _ _ _ _ _ _ _ _ = BD.mk _ _ _ _ _ _ _ _ _ _ _ _ _ _ _
  congr 1
  · rw [r]
  · rw [show orB (curB ts n1 b).wipe (decide (("wipe" : Str) ∈ n2)) = orB (orB b.wipe (decide (("wipe" : Str) ∈ n1))) (decide (("wipe" : Str) ∈ n2)) from rfl, orB_orB, d]
  · rw [show orB (curB ts n1 b).pad (decide (("pad" : Str) ∈ n2)) = orB (orB b.pad (decide (("pad" : Str) ∈ n1))) (decide (("pad" : Str) ∈ n2)) from rfl, orB_orB, d]
  · rw [show orB (curB ts n1 b).share (decide (("share" : Str) ∈ n2)) = orB (orB b.share (decide (("share" : Str) ∈ n1))) (decide (("share" : Str) ∈ n2)) from rfl, orB_orB, d]))) only [↓Hk.hold_s]
theorem noB_ok {b : BD} (ok : BOk b) : NoB b := by
 refine Hk.hold ?_
 simp (disch := with_unfolding_all (
 exact Hk.disch (by
  refine ⟨noL_parts ok, fun f => ?_⟩
  obtain ⟨pds, ep, _, pall⟩ := okList ok.pages
  obtain ⟨qds, eq, _, qall⟩ := okList ok.ports
  have okd := ok.disk
  unfold okDisk at okd
  rw [Bool.and_eq_true] at okd
  obtain ⟨dn, ed, _⟩ := okBetween okd.1
  obtain ⟨lds, el, _, lall⟩ := okLinesL ok.lines
  obtain ⟨wx, ew⟩ := isBool_ex ok.wipe
  obtain ⟨px, epd⟩ := isBool_ex ok.pad
  obtain ⟨lx, eln⟩ := isBool_ex ok.lend
  cases f with
  | levels => exact noL_ints _
  | side_of => exact noL_ints _
  | sizes =>
    show noL (tupOf b.ports) = true
    rw [eq]
    show noLs qds = true
    rw [noLs_all]
    intro d hd
    obtain ⟨i, rfl, _⟩ := qall d hd
    rfl
  | line_of =>
    show noL (tupOf b.lines) = true
    rw [el]
    show noLs lds = true
    rw [noLs_all]
    intro d hd
    have z := lall d hd
    cases d <;> first | rfl | (simp [okLine, dBetween] at z; done)
  | places => show noL b.disk = true; rw [ed]; rfl
  | wipes => show noL b.wipe = true; rw [ew]; rfl
  | pads => show noL b.pad = true; rw [epd]; rfl
  | lends => show noL b.lend = true; rw [eln]; rfl
  | slots =>
    show noLs ((ticksOfB b).map stickD) = true
    rw [noLs_all]
    intro d hd
    obtain ⟨s, _, rfl⟩ := List.mem_map.mp hd
    rfl
  | letter_port =>
    show noL (outD b.outside) = true
    rcases okOutsideL ok.outside with h | ⟨p, e, h, _⟩ <;> rw [h] <;> rfl
  | _ => rfl))) only [↓Hk.hold_s]
end T
namespace T
section
variable {P : Program} {w : World} {K : PySem.W.Frag} {mg : Str → Option Value} {base : Heap} {C CR CRo tS : Addr}
local macro_rules | `(tactic| walk_at "s1") => `(tactic| first | with_reducible refine q_dputW ?_)
theorem seek_rt {b : BD} (ok : BOk b) {p : Rt} (h : dRight (cOf b) (rtd p) = true) : notSeek (rtd p) = !decide (p.1 = ("seek" : Str)) := by
 refine Hk.hold ?_
 simp (disch := with_unfolding_all (
 exact Hk.disch (by
  obtain ⟨w, i⟩ := p
  rw [notSeek_rt]
  by_cases hw : w = ("seek" : Str)
  · subst hw
    have i0 : i = 0 := by
      obtain ⟨tds, pds, qds, l, d, _, _, _, _, _, ec, _⟩ := cOf_forms ok
      rw [ec] at h
      unfold dRight dFormed at h
      have ew : rTab.lookup (dWord (rtd (("seek" : Str), i))) = some ([("disk" : Str)] : List Str) := by rfl
      rw [ew] at h
      simp only [rtd, Bool.and_eq_true, decide_eq_true_eq] at h
      have hk := h.2
      have nt : ("disk" : Str) ≠ "ticks" := by decide +kernel
      simp [dKinds, kf1, nt, dBetween] at hk
      have el : ((cntOf tds.length pds.length qds.length l d).lookup ("disk" : Str)).getD 0 = if 1 < d then 1 else d := by rfl
      rw [el] at hk
      split at hk <;> omega
    subst i0
    rw [decide_eq_true rfl, decide_eq_true rfl]
  · rw [decide_eq_false hw, decide_eq_false fun z => hw (congrArg Prod.fst z)]))) only [↓Hk.hold_s]
def r1C (ts : List Int) (nm : List Str) (b : BD) : List (List Rt) := if ("cut" : Str) ∈ nm then cutL (oneL b ts) (eyeL b ts) (portO b.outside) (rightsL b) else rightsL b
def c1C (ts : List Int) (nm : List Str) (b : BD) : BD := { b with rights := .list ((r1C ts nm b).map rowD) }
def c2C (ts : List Int) (nm : List Str) (b : BD) : BD := { b with rights := (curB ts nm b).rights, disk := (curB ts nm b).disk }
def c3C (ts : List Int) (nm : List Str) (b : BD) : BD := { b with rights := (curB ts nm b).rights, disk := (curB ts nm b).disk, lines := (curB ts nm b).lines }
def c4C (ts : List Int) (nm : List Str) (b : BD) (i : Nat) : BD := { b with
  rights := (curB ts nm b).rights
  disk := (curB ts nm b).disk
  lines := (curB ts nm b).lines
  pad := if 1 ≤ i then orB b.pad (decide (("pad" : Str) ∈ nm)) else b.pad
  share := if 2 ≤ i then orB b.share (decide (("share" : Str) ∈ nm)) else b.share
  wipe := if 3 ≤ i then orB b.wipe (decide (("wipe" : Str) ∈ nm)) else b.wipe }
def three : List Str := ["pad", "share", "wipe"]
def spLCured (K : PySem.W.Frag) : Sp := fun vs H Q _ => ∃ (W LT LN : Addr) (b : BD) (ts : List Int) (nm : List Str), vs = [.ref W, .ref LT, .ref LN] ∧ LwAt K H W b ∧ MoAt H W (greatOf b) ∧ BOk b ∧ SqL K H LT (ts.map V.int) ∧ SqL K H LN (nm.map V.str) ∧ ∀ D H', Same H H' → H D = none → LwAt K H' D (curB ts nm b) → Q (.ref D) H'
set_option maxHeartbeats 8000000 in
theorem ok_law_cured (B : Bl mg) (c__law_stays : Cal P w K mg base 1 "_law_stays" ["_law_w", "_law_tellers_here", "_law_task"] (spStays K)) (cc : DefAt K mg "_law_cured" s__law_cured ["_law_w", "_law_tellers_here", "_law_names"]) : Cal P w K mg base 2 "_law_cured" ["_law_w", "_law_tellers_here", "_law_names"] (spLCured K) := by
 refine Hk.hold ?_
 simp (disch := with_unfolding_all (
 exact Hk.disch (cc.cal fun f fd F => by
  refine F.ok sc__law_cured (fun vs H Q E h => ?_) (fun cdv A outer s H vs Q E hr h => ?_)
  · obtain ⟨W, LT, LN, b, ts, nm, rfl, _⟩ := h; rfl
  · obtain ⟨W, LT, LN, b, ts, nm, rfl, hL, hM, ok, hT, hN, q⟩ := h
    have hu := hu_of hr
    refine ⟨_, (pss_cons (ps_set (i := 3) sc__law_cured.nd rfl (Or.inl rfl) (pe_callTy call_dictD rfl B.dict_ hb_dict (pa_cons (pv 0) pa_nil)))
      (pss_cons (ps_if (pt_cmpR op_in_seq pe_str (pv 2) (by with_unfolding_all rfl)) (pss_one (ps_dput hu (pv 3) pe_str (pe_lc (own := [("_law_t", 6)]) (tt := tYes) rfl sc__law_cured.nd (pi_range1 rfl B.range (pa_cons (pe_callB call_len_seq rfl B.len hb_len (pa_cons (pe_dget hu (pv 0) pe_str (fun _ _ => rfl)) pa_nil)) pa_nil)) (blkOk_by (N := ["_law_w", "_law_tellers_here", "_law_names", "_law_due_here", "_law_name", "_law_ticks", "_law_t", "_law_row", "_law_right"]) (sc := defScope s__law_cured) (by decide +kernel)) (fun _ _ _ _ _ => (pg_name (i := 6) sc__law_cured.nd rfl (Or.inl rfl))) (fun _ _ _ _ _ => pts_nil) (fun _ _ _ _ _ => (pe_cal c__law_stays (hr.mono (by omega)) rfl (pa_cons (pv 0) (pa_cons (pv 1) (pa_cons (pv 6) pa_nil)))))) rfl)) pss_nil)
      (pss_cons (ps_if (pt_cmpR op_in_seq pe_str (pv 2) (by with_unfolding_all rfl)) (pss_cons (ps_dput hu (pv 3) pe_str pe_int rfl)
      (pss_one (ps_dput hu (pv 3) pe_str (pe_lc (own := [("_law_row", 7)]) (tt := tYes) rfl sc__law_cured.nd (pi_list (pe_dget hu (pv 3) pe_str (fun _ _ => rfl))) (blkOk_by (N := ["_law_w", "_law_tellers_here", "_law_names", "_law_due_here", "_law_name", "_law_ticks", "_law_t", "_law_row", "_law_right"]) (sc := defScope s__law_cured) (by decide +kernel)) (fun _ _ _ _ _ => (pg_name (i := 7) sc__law_cured.nd rfl (Or.inl rfl))) (fun _ _ _ _ _ => pts_nil) (fun _ _ _ _ _ => (pe_lc (own := [("_law_right", 8)]) rfl sc__law_cured.nd (show PI _ _ _ (iList K _) from (pi_list (pv 7))) (blkOk_by (N := ["_law_w", "_law_tellers_here", "_law_names", "_law_due_here", "_law_name", "_law_ticks", "_law_t", "_law_row", "_law_right"]) (sc := ({ kind := .function, names := [(".0", .local), ("_law_row", .local)], isGenerator := false, isCoroutine := false } : Scope)) (by decide +kernel)) (fun _ _ _ _ _ => (pg_name (i := 8) sc__law_cured.nd rfl (Or.inl rfl))) (fun _ _ _ _ _ => (pts_one (pt_cmpR op_ne (pe_ix (show IxR _ (rIxT K) from ix_tup) (pv 8) pe_int (fun _ _ => rfl)) pe_str (nomark _)))) (fun _ _ _ _ _ => (pv 8))))) rfl))) pss_nil)
      (pss_cons (ps_if (pt_cmpR op_in_seq pe_str (pv 2) (by with_unfolding_all rfl)) (pss_one (ps_dput hu (pv 3) pe_str (pe_op op_rep (pe_lst (pa_cons pe_non pa_nil)) (pe_callB call_len_seq rfl B.len hb_len (pa_cons (pe_dget hu (pv 0) pe_str (fun _ _ => rfl)) pa_nil))) rfl)) pss_nil)
      (pss_cons (ps_for PassesOwn.never rfl (pi_list (pe_lst (pa_cons pe_str (pa_cons pe_str (pa_cons pe_str pa_nil))))) (pg_name (i := 4) sc__law_cured.nd rfl (Or.inl rfl)) (pss_one (ps_dput hu (pv 3) (pv 4) (pe_or (pe_dget hu (pv 0) (pv 4) (fun _ _ => rfl)) (pe_one (pe_cmpR op_in_seq (pv 4) (pv 2) (by with_unfolding_all rfl)))) rfl)))
      (pss_cons (ps_if (pt_cmpR op_in_seq pe_str (pv 2) (by with_unfolding_all rfl)) (pss_cons (ps_set (i := 5) sc__law_cured.nd rfl (Or.inr rfl) (pe_callB (call_min2 rfl) rfl B.min hb_min (pa_cons pe_int (pa_cons (pe_op op_add (pe_op op_mulW pe_int (pe_dget hu (pv 0) pe_str (fun _ _ => rfl))) (pe_ix ix_tup (pe_dget hu (pv 0) pe_str (fun _ _ => rfl)) pe_int (fun _ _ => rfl))) pa_nil))))
      (pss_one (ps_dput hu (pv 3) pe_str (pe_tup (pa_cons pe_str (pa_cons (pe_lc (own := [("_law_t", 6)]) (tt := tYes) rfl sc__law_cured.nd (pi_range1 rfl B.range (pa_cons (pe_callB call_len_seq rfl B.len hb_len (pa_cons (pe_dget hu (pv 0) pe_str (fun _ _ => rfl)) pa_nil)) pa_nil)) (blkOk_by (N := ["_law_w", "_law_tellers_here", "_law_names", "_law_due_here", "_law_name", "_law_ticks", "_law_t", "_law_row", "_law_right"]) (sc := defScope s__law_cured) (by decide +kernel)) (fun _ _ _ _ _ => (pg_name (i := 6) sc__law_cured.nd rfl (Or.inl rfl))) (fun _ _ _ _ _ => pts_nil) (fun _ _ _ _ _ => (pe_tup (pa_cons (pv 6) (pa_cons (pv 5) pa_nil))))) pa_nil))) rfl))) pss_nil)
      (pss_one (ps_ret (pv 3))))))))), ?_⟩
    obtain ⟨eRl, rl2, rl4, rlok⟩ := rights_L ok
    obtain ⟨f0, g0⟩ := isBool_ex ok.wipe
    obtain ⟨f1, g1⟩ := isBool_ex ok.pad
    obtain ⟨f3, g3⟩ := isBool_ex ok.share
    walk_at "st0"
    obtain ⟨kv, e0, cp⟩ := hL.copyP
    refine ⟨W, kv, rfl, .inl e0, fun DD nDD => ?_⟩
    have hD := cp DD nDD
    have s1 := same_new (o := .dK kv) nDD
    have D8 : H DD = none := nDD
    generalize upd H DD (.dK kv) = H1 at *
    clear cp e0 kv
    refine seq_if (fun σ Hx => ∃ (o4 o5 o6 o7 o8 : Option V), σ = [some (.ref W), some (.ref LT), some (.ref LN), some (.ref DD), o4, o5, o6, o7, o8] ∧ Same H Hx ∧ LwAt K Hx DD (c1C ts nm b)) (fun σ Hx hx => ?_) (fun N hQ => ?_)
    rotate_left
    · walk_at "st"
      refine q_inSeqS (.inl (s1.seq hN)) ?_
      walk_at "st"
      by_cases ct : ("cut" : Str) ∈ nm
      · rw [decide_eq_true ct]
        refine iteT ?_
        walk_at "st"
        obtain ⟨kvt, xt, k1, k2, k3⟩ := hL.get_tasks
        obtain ⟨at_, xs, rfl, hsT, lx, lx4, hside⟩ := task_side ok k3
        refine q_lcR ?_
        walk_at "st"
        refine q_getD (s1 _ _ k1) k2 ?_
        refine ⟨at_, xs, rfl, .inl (s1.seq hsT), ?_⟩
        walk_at "st"
        refine ⟨xs.length, rfl, by omega, by omega, ?_⟩
        rw [Int.toNat_natCast]
        generalize hRC : cutL (oneL b ts) (eyeL b ts) (portO b.outside) (rightsL b) = RC at *
        have lRC : RC.length = (sidesOf b).length := by rw [← hRC, cutL_len]; exact rl2
        refine fun X nX => lc_freshR walk_range (fun i l Hh => ∃ ys, Hh l = some (.lst ys) ∧ DpAll K Hh ys ((RC.getD i []).map rtd)) nX (sz1000 (by omega)) (fun H2 s => trivial) yfn_same ?_ ?_ ?_ ?_ ?_
        · rintro i l Ha Hb s ⟨ys, h1, h3⟩
          exact ⟨ys, s _ _ h1, L2.DpAll.mono s h3⟩
        · rintro i l Ha Hb acc n e2 bt ⟨ys, h1, h3⟩
          exact ⟨ys, bt _ _ h1 n, dpAllKeepL (keepL_of_but e2 bt) h3 (noLs_rt _)⟩
        · rintro i l Ha ⟨ys, h1, _⟩ z
          rw [h1] at z; cases z
        · rintro i x0 H2 H3 li s2 ⟨rfl, rfl⟩ Q' k
          refine q_gname ?_
          refine ⟨rfl, ?_⟩
          simp only [Int.zero_add]
          walk_at "st"
          have s5a := s1.trans s2
          refine ⟨W, LT, b, ts, i, rfl, hL.mono s5a, ok, s5a.seq hT, by omega, fun l ys H' s' nl el dl => ?_⟩
          rw [hRC] at dl
          exact k l H' s' nl ⟨ys, el, dl⟩
        intro ls H10 s10 eX lls nd fr hls
        walk_at "st"
        have dR : Dp K H10 (.ref X) (.list (RC.map rowD)) := by
          refine .lst (SqL.of eX) (dpAll_of (by rw [List.length_map, List.length_map, lls]; omega) fun i x d ex ed => ?_)
          rw [List.getElem?_map] at ex ed
          obtain ⟨l, hl2, rfl⟩ := Option.map_eq_some_iff.mp ex
          obtain ⟨rj, ej, rfl⟩ := Option.map_eq_some_iff.mp ed
          obtain ⟨ys, h1, h3⟩ := hls i l hl2
          have gj : RC.getD i [] = rj := by rw [List.getD_eq_getElem?_getD, ej]; rfl
          rw [gj] at h3
          exact .lst (SqL.of h1) h3
        refine (hD.mono s10).putP_rights dR fun H11 bt hd => hQ _ _ ⟨_, _, _, _, _, rfl, fun b' o hb => bt _ _ (s10 _ _ (s1 _ _ hb)) (ne_of_none hb D8), ?_⟩
        have e : c1C ts nm b = { b with rights := .list (RC.map rowD) } := by unfold c1C r1C; rw [if_pos ct, hRC]
        rw [e]; exact hd
      · rw [decide_eq_false ct]
        refine iteF ?_
        walk_at "st"
        refine hQ _ _ ⟨_, _, _, _, _, rfl, s1, ?_⟩
        have e : c1C ts nm b = b := by unfold c1C r1C; rw [if_neg ct, ← eRl]
        rw [e]; exact hD
    clear hD s1
    obtain ⟨o4, o5, o6, o7, o8, rfl, s1, hD⟩ := hx
    have R1ok : (r1C ts nm b).length = (rightsL b).length ∧ ∀ r ∈ r1C ts nm b, r.length ≤ 8 ∧ ∀ p ∈ r, notSeek (rtd p) = !decide (p.1 = ("seek" : Str)) := by
      unfold r1C
      split
      · refine ⟨cutL_len, fun r hr => ?_⟩
        obtain ⟨r0, h0, sub⟩ := cutL_row r hr
        exact ⟨Nat.le_trans sub.length_le (rlok r0 h0).1, fun p hp => seek_rt ok ((rlok r0 h0).2 p (sub.subset hp)).1⟩
      · exact ⟨rfl, fun r hr => ⟨(rlok r hr).1, fun p hp => seek_rt ok ((rlok r hr).2 p hp).1⟩⟩
    have eRC : (curB ts nm b).rights = .list ((if ("still" : Str) ∈ nm then (r1C ts nm b).map unseek else r1C ts nm b).map rowD) := rfl
    refine seq_if (fun σ Hx => ∃ (o4 o5 o6 o7 o8 : Option V), σ = [some (.ref W), some (.ref LT), some (.ref LN), some (.ref DD), o4, o5, o6, o7, o8] ∧ Same H Hx ∧ LwAt K Hx DD (c2C ts nm b)) (fun σ Hx hx => ?_) (fun N hQ => ?_)
    rotate_left
    · walk_at "st"
      refine q_inSeqS (.inl (s1.seq hN)) ?_
      walk_at "st"
      by_cases st : ("still" : Str) ∈ nm
      · rw [decide_eq_true st]
        rw [if_pos st] at eRC
        refine iteT ?_
        walk_at "st"
        refine hD.putP_disk (d := .int 0) (.int 0) fun H11 bt hd => ?_
        have s11 : Same H H11 := fun b' o hb => bt _ _ (s1 _ _ hb) (ne_of_none hb D8)
        walk_at "st"
        obtain ⟨kv, xp, k1, k2, k3⟩ := hd.get_rights
        refine q_lcI ?_
        walk_at "st"
        refine q_getD k1 k2 ?_
        replace k3 : Dp K H11 xp (.list ((r1C ts nm b).map rowD)) := k3
        generalize hR1 : r1C ts nm b = R1 at *
        cases k3 with
        | @lst la rxs _ hl hr =>
        have lr := hr.length
        rw [List.length_map] at lr
        refine ⟨la, rfl, ⟨_, hl⟩, fun X nX => lc_freshR walk_list (fun i l Hh => ∃ zs ri, Hh l = some (.lst zs) ∧ R1[i]? = some ri ∧ DpAll K Hh zs ((unseek ri).map rtd)) nX (sz1000 (by omega)) (fun H2 s => s.seq hl) yat_same ?_ ?_ ?_ ?_ ?_⟩
        · rintro i l Ha Hb s ⟨zs, es, h1, h2, h3⟩
          exact ⟨zs, es, s _ _ h1, h2, L2.DpAll.mono s h3⟩
        · rintro i l Ha Hb acc n e2 bt ⟨zs, es, h1, h2, h3⟩
          exact ⟨zs, es, bt _ _ h1 n, h2, dpAllKeepL (keepL_of_but e2 bt) h3 (noLs_rt _)⟩
        · rintro i l Ha ⟨zs, es, h1, _⟩ z
          rw [h1] at z; cases z
        · rintro i x H6 H7 lt s ⟨rfl, ex⟩ Q' k
          refine q_gname ?_
          refine ⟨rfl, ?_⟩
          obtain ⟨d, e2, hd2⟩ := hr.get' ex
          rw [List.getElem?_map] at e2
          obtain ⟨ri, eri, rfl⟩ := Option.map_eq_some_iff.mp e2
          obtain ⟨r8, rok⟩ := R1ok.2 ri (List.mem_of_getElem? eri)
          cases hd2 with
          | @lst a2 zs _ h1 h2 =>
          walk_at "st"
          have lz := h2.length
          rw [List.length_map] at lz
          refine q_lcI ?_
          walk_at "st"
          refine ⟨a2, rfl, ⟨_, s.seq h1⟩, fun Y nY => lc_keep walk_list (fun i => notSeek (rtd (ri.getD i default))) (fun i => zs.getD i .non) nY (sz1000 (by omega)) (fun H2 s2 => s2.seq (s.seq h1)) yat_same ?_ ?_⟩
          · rintro j y Hq2 H8 lt2 s2 ⟨rfl, ey⟩ Q2 kk
            refine q_gname ?_
            refine ⟨rfl, ?_⟩
            obtain ⟨dd, g1, g2⟩ := h2.get' ey
            rw [List.getElem?_map] at g1
            obtain ⟨⟨wz, wi⟩, ek, rfl⟩ := Option.map_eq_some_iff.mp g1
            have egk : ri.getD j default = (wz, wi) := by rw [List.getD_eq_getElem?_getD, ek]; rfl
            have ez : zs.getD j .non = y := by rw [List.getD_eq_getElem?_getD, ey]; rfl
            rw [egk, ez, rok _ (List.mem_of_getElem? ek)] at kk
            walk_at "st"
            have g3 := L2.Dp.mono (s.trans s2) g2
            cases g3 with
            | @tup t ys _ ht hys =>
            cases hys with
            | @cons y0 q0 _ _ c0 hys =>
            cases c0
            refine q_ixT ht (atI0 rfl) ?_
            walk_at "st"
            refine ⟨rfl, ?_⟩
            refine ⟨_, rfl, ?_⟩
            rw [show decide (V.str wz = V.str ("seek" : Str)) = decide (wz = ("seek" : Str)) by by_cases hh : wz = ("seek" : Str) <;> simp [hh]]
            refine kk _ _ (Same.refl _) (by rfl) fun H9 Q3 s9 _ k3 => ?_
            walk_at "st"
            exact k3 _ (Same.refl _)
          · intro H9 s9 eY
            refine k Y H9 s9 nY ⟨_, ri, eY, eri, ?_⟩
            have z := dpAll_pick (L2.DpAll.mono (s.trans s9) h2) (is := (List.range zs.length).filter fun i => notSeek (rtd (ri.getD i default))) fun i hi => List.mem_range.mp (List.mem_filter.mp hi).1
            rw [show ((List.range zs.length).filter fun i => notSeek (rtd (ri.getD i default))).map (fun i => (ri.map rtd).getD i .none) = (unseek ri).map rtd by rw [lz]; exact pick_rt ri fun p => notSeek (rtd p)] at z
            exact z
        intro ls H4 s4 eX lls nd fr hls
        walk_at "st"
        have s14 := s11.trans s4
        have dR : Dp K H4 (.ref X) (curB ts nm b).rights := by
          rw [eRC]
          refine .lst (SqL.of eX) (dpAll_of (by rw [List.length_map, List.length_map, List.length_map, lls]; exact lr) fun i x d ex ed => ?_)
          rw [List.getElem?_map] at ex ed
          obtain ⟨l, hl2, rfl⟩ := Option.map_eq_some_iff.mp ex
          obtain ⟨zs, ri, h1, h2, h3⟩ := hls i l hl2
          rw [List.getElem?_map, h2] at ed
          cases ed
          exact .lst (SqL.of h1) h3
        refine (hd.mono s4).putP_rights dR fun H' bt hd' => hQ _ _ ⟨_, _, _, _, _, rfl, fun b' o hb => bt _ _ (s14 _ _ hb) (ne_of_none hb D8), ?_⟩
        have e : c2C ts nm b = { { c1C ts nm b with disk := .int 0 } with rights := (curB ts nm b).rights } := by
          unfold c2C c1C
          rw [show (curB ts nm b).disk = .int 0 from if_pos st]
        rw [e]
        exact hd'
      · rw [decide_eq_false st]
        rw [if_neg st] at eRC
        refine iteF ?_
        walk_at "st"
        refine hQ _ _ ⟨_, _, _, _, _, rfl, s1, ?_⟩
        have e : c2C ts nm b = c1C ts nm b := by
          unfold c2C c1C
          rw [show (curB ts nm b).disk = b.disk from if_neg st, eRC]
        rw [e]; exact hD
    clear hD s1 o4 o5 o6 o7 o8
    obtain ⟨o4, o5, o6, o7, o8, rfl, s1, hD⟩ := hx
    refine seq_if (fun σ Hx => ∃ (o4 o5 o6 o7 o8 : Option V), σ = [some (.ref W), some (.ref LT), some (.ref LN), some (.ref DD), o4, o5, o6, o7, o8] ∧ Same H Hx ∧ LwAt K Hx DD (c3C ts nm b)) (fun σ Hx hx => ?_) (fun N hQ => ?_)
    rotate_left
    · walk_at "st"
      refine q_inSeqS (.inl (s1.seq hN)) ?_
      walk_at "st"
      by_cases cd : ("cold" : Str) ∈ nm
      · rw [decide_eq_true cd]
        refine iteT ?_
        walk_at "st"
        refine ⟨by show 1 ≤ sizeLine; decide, fun l1 nl1 => ?_⟩
        have sl := same_new (o := .lst [V.non]) nl1
        have el1 : upd Hx l1 (.lst [V.non]) l1 = some (.lst [V.non]) := upd_same
        generalize upd Hx l1 (.lst [V.non]) = H11 at *
        have s11 := s1.trans sl
        obtain ⟨kv, xp, k1, k2, k3⟩ := (hL.mono s11).get_pages
        walk_at "st"
        refine q_getD k1 k2 ?_
        obtain ⟨pds, ep, p3, _⟩ := okList ok.pages
        rw [ep] at k3
        cases k3 with
        | @lst ap xs _ hp hpa =>
        have lx := hpa.length
        refine ⟨ap, xs, rfl, .inl hp, ?_⟩
        refine ⟨l1, _, _, rfl, rfl, el1, by omega, by omega, ?_, fun l2 nl2 => ?_⟩
        · show 1 * ((xs.length : Nat) : Int).toNat ≤ sizeLine
          have : (3 : Nat) ≤ sizeLine := by decide
          omega
        have s12 := same_new (o := .lst (List.replicate ((xs.length : Nat) : Int).toNat [V.non]).flatten) nl2
        have el2 : upd H11 l2 (.lst (List.replicate ((xs.length : Nat) : Int).toNat [V.non]).flatten) l2 = some (.lst (List.replicate ((xs.length : Nat) : Int).toNat [V.non]).flatten) := upd_same
        generalize upd H11 l2 (.lst (List.replicate ((xs.length : Nat) : Int).toNat [V.non]).flatten) = H12 at *
        have s13 := s11.trans s12
        walk_at "st"
        have nones : (List.replicate ((xs.length : Nat) : Int).toNat [V.non]).flatten = List.replicate xs.length V.non := by
          rw [Int.toNat_natCast]
          generalize xs.length = n
          induction n with
          | zero => rfl
          | succ n ih => rw [List.replicate_succ, List.replicate_succ, List.flatten_cons, ih]; rfl
        rw [nones] at el2
        have dl2 : Dp K H12 (.ref l2) (curB ts nm b).lines := by
          obtain ⟨lds, el, ll, _⟩ := okLinesL ok.lines
          have ct : cnt (cOf b) "page" = ((dl b.pages).length : Int) := by
            obtain ⟨tds', pds', qds', ln, dn, et', ep', _, _, _, ecn, _⟩ := cOf_forms ok
            rw [ecn, ep']; rfl
          rw [ct, ep] at ll
          have l5 : lds.length = pds.length := by
            have : (dl (.list pds)).length = pds.length := rfl
            omega
          show Dp K _ _ (if _ then _ else _)
          rw [if_pos cd, el]
          refine .lst (SqL.of el2) (dpAll_of (by simp [dl]; omega) fun i x d ex ed => ?_)
          rw [List.getElem?_map] at ed
          obtain ⟨_, _, rfl⟩ := Option.map_eq_some_iff.mp ed
          rw [(List.mem_replicate.mp (List.mem_of_getElem? ex)).2]
          exact .non
        exact (hD.mono (sl.trans s12)).putP_lines dl2 fun H' bt hd' => hQ _ _ ⟨_, _, _, _, _, rfl, fun b' o hb => bt _ _ (s13 _ _ hb) (ne_of_none hb D8), hd'⟩
      · rw [decide_eq_false cd]
        refine iteF ?_
        walk_at "st"
        refine hQ _ _ ⟨_, _, _, _, _, rfl, s1, ?_⟩
        have e : c3C ts nm b = c2C ts nm b := by
          unfold c3C c2C
          rw [show (curB ts nm b).lines = b.lines from if_neg cd]
        rw [e]; exact hD
    clear hD s1 o4 o5 o6 o7 o8
    obtain ⟨o4, o5, o6, o7, o8, rfl, s1, hD⟩ := hx
    walk_at "st"
    refine q_forLA ?_
    walk_at "st"
    refine ⟨by show 3 ≤ sizeLine; decide, fun L3 nL3 => ?_⟩
    have s10 := same_new (o := .lst (three.map V.str)) nL3
    have eL3 : upd Hx L3 (.lst (three.map V.str)) L3 = some (.lst (three.map V.str)) := upd_same
    have eg : upd Hx L3 (.lst [V.str "pad", V.str "share", V.str "wipe"]) = upd Hx L3 (.lst (three.map V.str)) := rfl
    rw [eg]
    clear eg
    have n3D : L3 ≠ DD := fun z => by rw [z] at nL3; exact absurd nL3 (fun h => by obtain ⟨_, _, _, _, _, _, _, _, _, _, _, _, _, _, _, _, _, _, _, _, _, e, _⟩ := hD; rw [e] at h; cases h)
    replace hD := hD.mono s10
    have s8L := s1.trans s10
    clear s1 s10 nL3
    generalize upd Hx L3 (.lst (three.map V.str)) = H9 at *
    have eb : c4C ts nm b 0 = c3C ts nm b := by unfold c4C c3C; simp
    refine ⟨L3, rfl, ⟨_, SqL.of eL3⟩, forL (three.map V.str) (fun i σ Hy => ∃ (o4 : Option V), σ = [some (.ref W), some (.ref LT), some (.ref LN), some (.ref DD), o4, o5, o6, o7, o8] ∧ Same H Hy ∧ Hy L3 = some (.lst (three.map V.str)) ∧ LwAt K Hy DD (c4C ts nm b i)) ⟨_, rfl, s8L, eL3, by rw [eb]; exact hD⟩ (fun i σ Hy _ h => by obtain ⟨_, _, _, e, _⟩ := h; exact SqL.of e) (fun i x0 σ Hy ex h => ?_) (fun σ Hy h => ?_)⟩
    · obtain ⟨o4', rfl, sy, e3, hd⟩ := h
      refine q_gname ?_
      have hLy := hL.mono sy
      have hNy : SqL K Hy LN (nm.map V.str) := sy.seq hN
      have i3 : i < 3 := (List.getElem?_eq_some_iff.mp ex).1
      rcases (show i = 0 ∨ i = 1 ∨ i = 2 by omega) with rfl | rfl | rfl
      · cases ex
        obtain ⟨kv, k1, k2⟩ := hLy.get_pad g1
        have fin : ∃ a_1 H4, V.ref DD = V.ref a_1 ∧ DPut Hy a_1 (.str "pad") (.bl (f1 || decide (("pad" : Str) ∈ nm))) H4 ∧ ∃ o4 : Option V, ([some (.ref W), some (.ref LT), some (.ref LN), some (.ref DD), some (.str "pad"), o5, o6, o7, o8] : L2.St) = [some (.ref W), some (.ref LT), some (.ref LN), some (.ref DD), o4, o5, o6, o7, o8] ∧ Same H H4 ∧ H4 L3 = some (.lst (three.map V.str)) ∧ LwAt K H4 DD (c4C ts nm b (0 + 1)) := by
          refine hd.putP_pad (d := .bool (f1 || decide (("pad" : Str) ∈ nm))) (.bl _) fun H' bt hd' => ⟨_, rfl, fun b' o hb => bt _ _ (sy _ _ hb) (ne_of_none hb D8), bt _ _ e3 n3D, ?_⟩
          have e : c4C ts nm b (0 + 1) = { c4C ts nm b 0 with pad := .bool (f1 || decide (("pad" : Str) ∈ nm)) } := by simp [c4C, orB, g1]
          rw [e]; exact hd'
        walk_at "st"
        refine q_getD k1 k2 ?_
        refine ⟨f1, rfl, ?_⟩
        cases f1 with
        | true =>
          refine iteT ?_
          walk_at "st"
          exact fin
        | false =>
          refine iteF ?_
          walk_at "st"
          refine q_inSeqS (.inl hNy) ?_
          walk_at "st"
          exact fin
      · cases ex
        obtain ⟨kv, k1, k2⟩ := hLy.get_share g3
        have fin : ∃ a_1 H4, V.ref DD = V.ref a_1 ∧ DPut Hy a_1 (.str "share") (.bl (f3 || decide (("share" : Str) ∈ nm))) H4 ∧ ∃ o4 : Option V, ([some (.ref W), some (.ref LT), some (.ref LN), some (.ref DD), some (.str "share"), o5, o6, o7, o8] : L2.St) = [some (.ref W), some (.ref LT), some (.ref LN), some (.ref DD), o4, o5, o6, o7, o8] ∧ Same H H4 ∧ H4 L3 = some (.lst (three.map V.str)) ∧ LwAt K H4 DD (c4C ts nm b (1 + 1)) := by
          refine hd.putP_share (d := .bool (f3 || decide (("share" : Str) ∈ nm))) (.bl _) fun H' bt hd' => ⟨_, rfl, fun b' o hb => bt _ _ (sy _ _ hb) (ne_of_none hb D8), bt _ _ e3 n3D, ?_⟩
          have e : c4C ts nm b (1 + 1) = { c4C ts nm b 1 with share := .bool (f3 || decide (("share" : Str) ∈ nm)) } := by simp [c4C, orB, g3]
          rw [e]; exact hd'
        walk_at "st"
        refine q_getD k1 k2 ?_
        refine ⟨f3, rfl, ?_⟩
        cases f3 with
        | true =>
          refine iteT ?_
          walk_at "st"
          exact fin
        | false =>
          refine iteF ?_
          walk_at "st"
          refine q_inSeqS (.inl hNy) ?_
          walk_at "st"
          exact fin
      · cases ex
        obtain ⟨kv, k1, k2⟩ := hLy.get_wipe g0
        have fin : ∃ a_1 H4, V.ref DD = V.ref a_1 ∧ DPut Hy a_1 (.str "wipe") (.bl (f0 || decide (("wipe" : Str) ∈ nm))) H4 ∧ ∃ o4 : Option V, ([some (.ref W), some (.ref LT), some (.ref LN), some (.ref DD), some (.str "wipe"), o5, o6, o7, o8] : L2.St) = [some (.ref W), some (.ref LT), some (.ref LN), some (.ref DD), o4, o5, o6, o7, o8] ∧ Same H H4 ∧ H4 L3 = some (.lst (three.map V.str)) ∧ LwAt K H4 DD (c4C ts nm b (2 + 1)) := by
          refine hd.putP_wipe (d := .bool (f0 || decide (("wipe" : Str) ∈ nm))) (.bl _) fun H' bt hd' => ⟨_, rfl, fun b' o hb => bt _ _ (sy _ _ hb) (ne_of_none hb D8), bt _ _ e3 n3D, ?_⟩
          have e : c4C ts nm b (2 + 1) = { c4C ts nm b 2 with wipe := .bool (f0 || decide (("wipe" : Str) ∈ nm)) } := by simp [c4C, orB, g0]
          rw [e]; exact hd'
        walk_at "st"
        refine q_getD k1 k2 ?_
        refine ⟨f0, rfl, ?_⟩
        cases f0 with
        | true =>
          refine iteT ?_
          walk_at "st"
          exact fin
        | false =>
          refine iteF ?_
          walk_at "st"
          refine q_inSeqS (.inl hNy) ?_
          walk_at "st"
          exact fin
    obtain ⟨o4', rfl, s1z, _, hd⟩ := h
    clear eL3 n3D hD s8L
    dsimp only
    refine seq_if (fun σ Hx => ∃ (o4 o5 o6 o7 o8 : Option V), σ = [some (.ref W), some (.ref LT), some (.ref LN), some (.ref DD), o4, o5, o6, o7, o8] ∧ Same H Hx ∧ LwAt K Hx DD (curB ts nm b)) (fun σ Hx hx => ?_) (fun N hQ => ?_)
    rotate_left
    · walk_at "st"
      refine q_inSeqS (.inl (s1z.seq hN)) ?_
      walk_at "st"
      by_cases sl : ("slots" : Str) ∈ nm
      · rw [decide_eq_true sl]
        refine iteT ?_
        walk_at "st"
        obtain ⟨kvm, m1, m2⟩ := hM.mono s1z
        obtain ⟨gr1, gr2, sw0, sw2, _⟩ := great_le ok
        refine q_getD m1 m2 ?_
        refine ⟨_, _, rfl, rfl, wide_mul (a := 3) (b := 4) (by omega) (by omega) (by omega) (by omega) (by omega), ?_⟩
        walk_at "st"
        obtain ⟨kvc, xc, c1, c2, c3⟩ := (hL.mono s1z).get_costs
        refine q_getD c1 c2 ?_
        obtain ⟨ca, cb, cz, ec, _⟩ := okCostsL ok.costs
        have e3c : (cost3 b.costs).2.2 = cz := by rw [ec]; rfl
        rw [ec] at c3
        cases c3 with
        | @tup tc ys _ htc hys =>
        cases hys with
        | @cons y0 q0 _ _ v0 hys =>
        cases hys with
        | @cons y1 q1 _ _ v1 hys =>
        cases hys with
        | @cons y2 q2 _ _ v2 hys =>
        cases hys
        cases v2
        walk_at "st"
        refine q_ixT htc (atI_nat (j := 2) rfl) ?_
        walk_at "st"
        refine ⟨_, _, rfl, ?_⟩
        have est : (if 2 * greatOf b + cz < 12 then 2 * greatOf b + cz else 12) = slT b := by
          unfold slT
          rw [e3c]
          split <;> split <;> omega
        rw [est]
        walk_at "st"
        obtain ⟨kvt, xt, k1, k2, k3⟩ := (hL.mono s1z).get_tasks
        obtain ⟨at_, xs, rfl, hsT, lx, lx4, hside⟩ := task_side ok k3
        refine q_lcR ?_
        walk_at "st"
        refine q_getD k1 k2 ?_
        refine ⟨at_, xs, rfl, .inl hsT, ?_⟩
        walk_at "st"
        refine ⟨_, rfl, by omega, by omega, ?_⟩
        rw [Int.toNat_natCast]
        refine fun X nX => lc_relD walk_range (fun i y Hh => Dp K Hh y (.tuple [.int ((i : Nat) : Int), .int (slT b)])) nX (sz1000 (by omega)) (fun H2 s => trivial) yfn_same ?_ ?_ ?_
        · rintro i y Ha Hb acc e bt h
          exact dpKeepL (keepL_of_but e bt) h rfl
        · rintro i x0 H' H2 acc lt s ⟨rfl, rfl⟩ eD Q' k
          refine q_gname ⟨rfl, ?_⟩
          simp only [Int.zero_add]
          walk_at "st"
          refine ⟨by show 2 ≤ sizeLine; decide, fun t nt => ?_⟩
          exact k _ _ (same_new nt) (.tup (SqT.of upd_same) (.cons (.int _) (.cons (.int _) .nil)))
        intro ys H3 s3 eD lD hR
        walk_at "st"
        refine ⟨by show 2 ≤ sizeLine; decide, fun t nt => ?_⟩
        have st := same_new (o := .tup [V.str "slots", V.ref X]) nt
        have dP : Dp K (upd H3 t (.tup [V.str "slots", V.ref X])) (.ref t) (curB ts nm b).plan := by
          rw [show (curB ts nm b).plan = slD b from if_pos sl]
          refine .tup (SqT.of upd_same) (.cons (.str _) (.cons (.lst (SqL.of (st _ _ eD)) (dpAll_of (by unfold slRow; rw [List.length_map, List.length_range]; omega) fun i x d ex ed => ?_)) .nil))
          unfold slRow at ed
          rw [List.getElem?_map] at ed
          obtain ⟨j, ej, rfl⟩ := Option.map_eq_some_iff.mp ed
          have hi : i < (sidesOf b).length := by have z := (List.getElem?_eq_some_iff.mp ej).1; rwa [List.length_range] at z
          rw [List.getElem?_range hi] at ej
          cases ej
          exact L2.Dp.mono st (hR i x ex)
        generalize upd H3 t (.tup [V.str "slots", V.ref X]) = H4 at *
        walk_at "st"
        have s14 := s1z.trans (s3.trans st)
        refine (hd.mono (s3.trans st)).putP_plan dP fun H' bt hd' => hQ _ _ ⟨_, _, _, _, _, rfl, fun b' o hb => bt _ _ (s14 _ _ hb) (ne_of_none hb D8), ?_⟩
        have e : curB ts nm b = { c4C ts nm b 3 with plan := (curB ts nm b).plan } := by
          unfold c4C
          simp [curB]
        rw [e]; exact hd'
      · rw [decide_eq_false sl]
        refine iteF ?_
        walk_at "st"
        refine hQ _ _ ⟨_, _, _, _, _, rfl, s1z, ?_⟩
        have e : curB ts nm b = c4C ts nm b 3 := by
          unfold c4C
          have e1 : (curB ts nm b).plan = b.plan := if_neg sl
          simp only [curB] at e1 ⊢
          rw [e1]; simp
        rw [e]; exact hd
    obtain ⟨p4, p5, p6, p7, p8, rfl, s9, hF⟩ := hx
    walk_at "st"
    exact q DD _ s9 D8 hF))) only [↓Hk.hold_s]
end
end T
namespace T
section
variable {P : Program} {w : World} {K : PySem.W.Frag} {mg : Str → Option Value} {base : Heap} {C CR CRo tS : Addr}
theorem sides_two {b : BD} (ok : BOk b) : ∃ x ∈ sidesOf b, ∃ y ∈ sidesOf b, x ≠ y := by
  have h := ok.tasks
  obtain ⟨tds, et, _⟩ := okTasksL ok.tasks
  rw [et] at h
  unfold okTasks at h
  rw [Bool.and_eq_true] at h
  have h2 : (tds.all okTask && decide (1 < distinct (tds.map sideD))) = true := h.2
  rw [Bool.and_eq_true] at h2
  have h3 := distinct_gt.mp (of_decide_eq_true h2.2)
  unfold sidesOf
  rw [et]
  exact h3
theorem cure_sub {nm : List Str} (sub : nm.Sublist CURE) : (∀ x ∈ nm, x ∈ CURE) ∧ nm.Pairwise (fun a b => a.cps.toList < b.cps.toList) ∧ nm.length ≤ 7 := by
  have h2 : CURE.Pairwise (fun a b => a.cps.toList < b.cps.toList) := by decide +kernel
  exact ⟨fun x hx => sub.subset hx, h2.sublist sub, sub.length_le⟩
theorem nb_strs : ∀ ns : List Str, nbAll (ns.map PyData.str) = true
  | [] => rfl
  | n :: ns => by simp only [List.map_cons, nbAll, nb_strs ns, nbD, Bool.and_self]
theorem self_ints {b : BD} {ns ts : List Int} (S : SdOk b ns ts) : PyData.eqv (.list (ts.map .int)) (.list (ts.map .int)) = true ∧ SeqAt.shaped (.list (ts.map PyData.int)) = true := by
  have n : nbD (.list (ts.map PyData.int)) = true := nb_ints ts
  refine ⟨(eqv_nb _ _ n n).mpr rfl, ?_⟩
  show (PyData.canLay0 (.list (ts.map PyData.int)) && _) = true
  have h1 : PyData.canLay0 (.list (ts.map PyData.int)) = true := lay_all fun d hd => by
    obtain ⟨k, _, rfl⟩ := List.mem_map.mp hd
    rfl
  have h2 : (PyData.list (ts.map PyData.int)).depth ≤ 64 := by
    have z := dep_all (k := 0) (ds := ts.map PyData.int) fun d hd => by
      obtain ⟨k, _, rfl⟩ := List.mem_map.mp hd
      simp [PyData.depth]
    simp only [PyData.depth]
    omega
  rw [h1, decide_eq_true h2]; rfl
theorem self_strs {nm : List Str} (sub : nm.Sublist CURE) : PyData.eqv (.list (nm.map .str)) (.list (nm.map .str)) = true ∧ SeqAt.shaped (.list (nm.map PyData.str)) = true := by
 refine Hk.hold ?_
 simp (disch := with_unfolding_all (
 exact Hk.disch (by
  have n : nbD (.list (nm.map PyData.str)) = true := nb_strs nm
  refine ⟨(eqv_nb _ _ n n).mpr rfl, ?_⟩
  have all : ∀ z ∈ CURE, PyData.strOk z = true := by decide +kernel
  show (PyData.canLay0 (.list (nm.map PyData.str)) && _) = true
  have h1 : PyData.canLay0 (.list (nm.map PyData.str)) = true := lay_all fun d hd => by
    obtain ⟨k, hk, rfl⟩ := List.mem_map.mp hd
    exact all k (sub.subset hk)
  have h2 : (PyData.list (nm.map PyData.str)).depth ≤ 64 := by
    have z := dep_all (k := 0) (ds := nm.map PyData.str) fun d hd => by
      obtain ⟨k, _, rfl⟩ := List.mem_map.mp hd
      simp [PyData.depth]
    simp only [PyData.depth]
    omega
  rw [h1, decide_eq_true h2]; rfl))) only [↓Hk.hold_s]
def bothL (n1 n2 : List Str) : List Str := CURE.filter fun x => decide (x ∈ n1) || decide (x ∈ n2)
theorem both_of {n1 n2 : List Str} (s1 : n1.Sublist CURE) (s2 : n2.Sublist CURE) : Both n1 n2 (bothL n1 n2) := ⟨fun x => by
  unfold bothL
  rw [List.mem_filter]
  constructor
  · rintro ⟨_, h⟩
    simpa using h
  · intro h
    refine ⟨?_, by simpa using h⟩
    rcases h with h | h
    · exact s1.subset h
    · exact s2.subset h⟩
def spLaw (K : PySem.W.Frag) : Sp := fun vs H Q _ => ∃ (a : Addr) (ns : List Int), vs = [.ref a] ∧ SqL K H a (ns.map V.int) ∧ ns.length ≤ 63 ∧ ∀ H', Q (.bl true) H'
set_option maxHeartbeats 8000000 in
theorem ok_law (B : Bl mg) (T : BCls K C)
    (c__law_pool : Cal P w K mg base 1 "_law_pool" ["_law_script"] (spPool K)) (c__law_draw : Cal P w K mg base 2 "_law_draw" ["_law_pool_here", "_law_many"] (spDraw K)) (c__law_world : Cal P w K mg base 4 "_law_world" ["_law_pool_here"] (spWorld K)) (c__law_tellers : Cal P w K mg base 3 "_law_tellers" ["_law_pool_here", "_law_w"] (spTellers K)) (c__law_build : Cal P w K mg base 12 "_law_build" ["_law_w"] (spLBuild K C CR))
    (c_cured : Cal P w K mg base 12 "cured" ["build", "ones", "names"] (spCured K C CR)) (c__law_is : ShCal P w K mg base 3 "_law_is" ["_law_build_here", "_law_w"] (spIs K C)) (c__law_cured : Cal P w K mg base 2 "_law_cured" ["_law_w", "_law_tellers_here", "_law_names"] (spLCured K))
    (m_eqB : MCal P w K mg base 1 C "__eq__" ["self", "other"] (spEqB K C))
    : ∀ f fd, Fun K "law" "law" s_law f fd → ShFn P w K mg base 13 f fd ["_law_script"] (spLaw K) := by
 refine Hk.hold ?_
 simp (disch := with_unfolding_all (
 exact Hk.disch (fun f fd F => by
  refine shFn_of F sc_law (fun vs H Q E h => ?_) (fun cdv A outer s H vs Q E gn hr h => ?_)
  · obtain ⟨a, ns, rfl, _⟩ := h; rfl
  · obtain ⟨a, ns, rfl, hs, l63, q⟩ := h
    have hu := hu_of hr
    refine ⟨_, (pss_cons (ps_set (i := 1) sc_law.nd rfl (Or.inr rfl) (pe_cal c__law_pool (hr.mono (by omega)) rfl (pa_cons (pv 0) pa_nil)))
      (pss_cons (ps_set (i := 2) sc_law.nd rfl (Or.inl rfl) (pe_lst (pa_cons pe_str (pa_cons pe_str (pa_cons pe_str (pa_cons pe_str (pa_cons pe_str (pa_cons pe_str (pa_cons pe_str pa_nil)))))))))
      (pss_cons (ps_set (i := 3) sc_law.nd rfl (Or.inr rfl) (pe_lc (own := [("_law_name", 14)]) rfl sc_law.nd (pi_list (pv 2)) (blkOk_by (N := ["_law_script", "_law_pool_here", "_law_words", "_law_one", "_law_two", "_law_w", "_law_tellers_here", "_law_build_here", "_law_given", "_law_sides_here", "_law_told", "_law_both", "_law_whole", "_law_twice", "_law_name"]) (sc := defScope s_law) (by decide +kernel)) (fun _ _ _ _ _ => (pg_name (i := 14) sc_law.nd rfl (Or.inl rfl))) (fun _ _ _ _ _ => (pts_one (pt_cmpR op_eq (pe_cal c__law_draw (hr.mono (by omega)) rfl (pa_cons (pv 1) (pa_cons pe_int pa_nil))) pe_int (nomark _)))) (fun _ _ _ _ _ => (pv 14))))
      (pss_cons (ps_set (i := 4) sc_law.nd rfl (Or.inr rfl) (pe_lc (own := [("_law_name", 14)]) rfl sc_law.nd (pi_list (pv 2)) (blkOk_by (N := ["_law_script", "_law_pool_here", "_law_words", "_law_one", "_law_two", "_law_w", "_law_tellers_here", "_law_build_here", "_law_given", "_law_sides_here", "_law_told", "_law_both", "_law_whole", "_law_twice", "_law_name"]) (sc := defScope s_law) (by decide +kernel)) (fun _ _ _ _ _ => (pg_name (i := 14) sc_law.nd rfl (Or.inl rfl))) (fun _ _ _ _ _ => (pts_one (pt_cmpR op_eq (pe_cal c__law_draw (hr.mono (by omega)) rfl (pa_cons (pv 1) (pa_cons pe_int pa_nil))) pe_int (nomark _)))) (fun _ _ _ _ _ => (pv 14))))
      (pss_cons (ps_set (i := 5) sc_law.nd rfl (Or.inl rfl) (pe_cal c__law_world (hr.mono (by omega)) rfl (pa_cons (pv 1) pa_nil)))
      (pss_cons (ps_set (i := 6) sc_law.nd rfl (Or.inl rfl) (pe_cal c__law_tellers (hr.mono (by omega)) rfl (pa_cons (pv 1) (pa_cons (pv 5) pa_nil))))
      (pss_cons (ps_set (i := 7) sc_law.nd rfl (Or.inl rfl) (pe_cal c__law_build (hr.mono (by omega)) rfl (pa_cons (pv 5) pa_nil)))
      (pss_cons (ps_set (i := 8) sc_law.nd rfl (Or.inl rfl) (pe_callTy call_list_of rfl B.list_ hb_list (pa_cons (pv 3) pa_nil)))
      (pss_cons (ps_set (i := 9) sc_law.nd rfl (Or.inl rfl) (pe_callTy call_list_of rfl B.list_ hb_list (pa_cons (pv 6) pa_nil)))
      (pss_cons (ps_set (i := 10) sc_law.nd rfl (Or.inl rfl) (pe_cal c_cured (hr.mono (by omega)) rfl (pa_cons (pv 7) (pa_cons (pv 9) (pa_cons (pv 8) pa_nil)))))
      (pss_cons (ps_if (PW.pt (pw_or (pt_cmpR ((show OpR _ _ (rNeD K) from op_neD (hu64 hr))) (pv 8) (pv 3) (nomark _)) (pw_or (pt_cmpR ((show OpR _ _ (rNeD K) from op_neD (hu64 hr))) (pv 9) (pv 6) (nomark _)) (pw_or1 (pt_not (pt_val (pe_shCal c__law_is gn (hr.mono (by omega)) rfl (pa_cons (pv 7) (pa_cons (pv 5) pa_nil))))))))) (pss_one (ps_ret pe_bl)) pss_nil)
      (pss_cons (ps_expr (pe_bm PySem.F.plainAttrs_list PySem.F.slot_list_append PySem.F.type_list_append mt_append (pv 8) (pa_cons pe_str pa_nil)))
      (pss_cons (ps_expr (pe_bm PySem.F.plainAttrs_list PySem.F.slot_list_append PySem.F.type_list_append mt_append (pv 9) (pa_cons pe_int pa_nil)))
      (pss_cons (ps_if (pt_not (pt_val (pe_shCal c__law_is gn (hr.mono (by omega)) rfl (pa_cons (pv 10) (pa_cons (pe_cal c__law_cured (hr.mono (by omega)) rfl (pa_cons (pv 5) (pa_cons (pv 6) (pa_cons (pv 3) pa_nil)))) pa_nil))))) (pss_one (ps_ret pe_bl)) pss_nil)
      (pss_cons (ps_if (PW.pt (pw_and (pt_cmpR op_in_seq pe_str (pv 3) (by with_unfolding_all rfl)) (pw_and1 (pt_cmpR op_in_seq pe_str (pv 4) (by with_unfolding_all rfl))))) (pss_one (ps_ret pe_bl)) pss_nil)
      (pss_cons (ps_setLc (i := 11) (own := [("_law_name", 14)]) rfl sc_law.nd rfl rfl (sw_true rfl rfl rfl (by decide +kernel)) (pi_list (pv 2)) (blkOk_by (N := ["_law_script", "_law_pool_here", "_law_words", "_law_one", "_law_two", "_law_w", "_law_tellers_here", "_law_build_here", "_law_given", "_law_sides_here", "_law_told", "_law_both", "_law_whole", "_law_twice", "_law_name"]) (sc := defScope s_law) (by decide +kernel)) (fun _ _ _ _ _ => (pg_name (i := 14) sc_law.nd rfl (Or.inl rfl))) (fun _ _ _ _ _ => (pts_one (PW.pt (pw_or (pt_cmpR ((show OpR _ _ (rIn K false) from op_in_seq)) (pv 14) (pv 3) (by with_unfolding_all rfl)) (pw_or1 (pt_cmpR ((show OpR _ _ (rIn K false) from op_in_seq)) (pv 14) (pv 4) (by with_unfolding_all rfl))))))) (fun _ _ _ _ _ => (pv 14)))
      (pss_cons (ps_set (i := 12) sc_law.nd rfl (Or.inl rfl) (pe_cal c_cured (hr.mono (by omega)) rfl (pa_cons (pv 7) (pa_cons (pe_callTy call_list_of rfl B.list_ hb_list (pa_cons (pv 6) pa_nil)) (pa_cons (pv 11) pa_nil)))))
      (pss_cons (ps_set (i := 13) sc_law.nd rfl (Or.inl rfl) (pe_cal c_cured (hr.mono (by omega)) rfl (pa_cons (pv 10) (pa_cons (pe_callTy call_list_of rfl B.list_ hb_list (pa_cons (pv 6) pa_nil)) (pa_cons (pe_callTy call_list_of rfl B.list_ hb_list (pa_cons (pv 4) pa_nil)) pa_nil)))))
      (pss_one (ps_ret (pe_and (pe_shCal c__law_is gn (hr.mono (by omega)) rfl (pa_cons (pv 12) (pa_cons (pe_cal c__law_cured (hr.mono (by omega)) rfl (pa_cons (pv 5) (pa_cons (pv 6) (pa_cons (pv 11) pa_nil)))) pa_nil))) (pe_and (pe_cmpR (op_eqI m_eqB (hr.mono (by omega)) (hu1 hr)) (pv 13) (pv 12) (nomark _)) (pe_one (pe_shCal c__law_is gn (hr.mono (by omega)) rfl (pa_cons (pv 7) (pa_cons (pv 5) pa_nil)))))))))))))))))))))))))), ?_⟩
    walk_at "st0"
    refine ⟨a, ns, rfl, hs, l63, fun p LC H1 s1 np nLC PA => ?_⟩
    walk_at "st"
    refine ⟨by show 7 ≤ sizeLine; decide, fun WL nWL => ?_⟩
    have P2 := PA.same (same_new (o := .lst (CURE.map V.str)) nWL)
    have nWp : WL ≠ p := (PA.new nWL).1.symm
    have eWL : upd H1 WL (.lst (CURE.map V.str)) WL = some (.lst (CURE.map V.str)) := upd_same
    have eg : upd H1 WL (.lst [V.str "cold", V.str "cut", V.str "pad", V.str "share", V.str "slots", V.str "still", V.str "wipe"]) = upd H1 WL (.lst (CURE.map V.str)) := rfl
    rw [eg]
    clear eg
    generalize upd H1 WL (.lst (CURE.map V.str)) = H2 at *
    clear PA s1 np nLC nWL hs l63
    walk_at "st"
    refine q_lcI ?_
    walk_at "st"
    refine ⟨WL, rfl, ⟨_, SqL.of eWL⟩, fun D1 nD1 => lc_pick walk_list CURE rfl nD1 (sz1000 (by show 7 < 100000; decide)) P2 (fun H' b => SqL.of (b _ _ eWL nWp)) yat_same ?_ ?_⟩
    · rintro i x z Ha Hb ez b3 ⟨rfl, ex⟩ Pi Q' k
      refine q_gname ?_
      refine ⟨rfl, ?_⟩
      have xz : x = .str z := by
        have z2 : (CURE.map V.str)[i]? = some x := ex
        rw [List.getElem?_map, ez] at z2
        cases z2; rfl
      subst xz
      have i7 : i < 7 := (List.getElem?_eq_some_iff.mp ez).1
      walk_at "st"
      refine ⟨p, LC, _, 2, rfl, Pi, by omega, by omega, by omega, fun r Hc bc Pc r0 r1 => ?_⟩
      walk_at "st"
      refine q_eqI ?_
      walk_at "st"
      refine k _ _ _ bc Pc rfl fun Q2 q2 => ?_
      walk_at "st"
      exact q2
    have nD1p : D1 ≠ p := (P2.new nD1).1.symm
    intro nm1 H3 b3 P3 eD1 sub1
    replace P3 : PoolAt H3 p LC 7 := P3
    have eW3 := b3 _ _ eWL nWp
    walk_at "st"
    refine q_lcI ?_
    walk_at "st"
    refine ⟨WL, rfl, ⟨_, SqL.of eW3⟩, fun D2 nD2 => lc_pick walk_list CURE rfl nD2 (sz1000 (by show 7 < 100000; decide)) P3 (fun H' b => SqL.of (b _ _ eW3 nWp)) yat_same ?_ ?_⟩
    · rintro i x z Ha Hb ez b3 ⟨rfl, ex⟩ Pi Q' k
      refine q_gname ?_
      refine ⟨rfl, ?_⟩
      have xz : x = .str z := by
        have z2 : (CURE.map V.str)[i]? = some x := ex
        rw [List.getElem?_map, ez] at z2
        cases z2; rfl
      subst xz
      have i7 : i < 7 := (List.getElem?_eq_some_iff.mp ez).1
      walk_at "st"
      refine ⟨p, LC, _, 2, rfl, Pi, by omega, by omega, by omega, fun r Hc bc Pc r0 r1 => ?_⟩
      walk_at "st"
      refine q_eqI ?_
      walk_at "st"
      refine k _ _ _ bc Pc rfl fun Q2 q2 => ?_
      walk_at "st"
      exact q2
    have nD2p : D2 ≠ p := (P3.new nD2).1.symm
    intro nm2 H4 b4 P4 eD2 sub2
    replace P4 : PoolAt H4 p LC 14 := P4
    have eW4 := b4 _ _ eW3 nWp
    replace eD1 := b4 _ _ eD1 nD1p
    obtain ⟨c1, c1p, c17⟩ := cure_sub sub1
    obtain ⟨c2, c2p, c27⟩ := cure_sub sub2
    clear b3 b4 P2 P3 eWL eW3 nD1 nD2
    walk_at "st"
    refine ⟨p, LC, _, rfl, P4, by omega, fun W b r pe x0 x1 x2 x3 x4 x5 x6 x7 x8 x9 x10 x11 x12 x13 x14 x15 x16 dM mo H5 b5 P5 nW npW nCW eW da ok fl emo => ?_⟩
    subst emo
    have hM : MoAt H5 W (greatOf b) := ⟨_, eW, by
      obtain ⟨d2, h1, h2⟩ := da.get' (i := 10) rfl
      cases h1
      cases h2
      rfl⟩
    have hL : LwAt K H5 W b := ⟨x0, x1, x2, x3, x4, x5, x6, x7, x8, x9, x10, x11, x12, x13, x14, x15, x16, r, pe, dM, _, eW, da⟩
    replace eD1 := b5 _ _ eD1 nD1p
    replace eD2 := b5 _ _ eD2 nD2p
    replace eW4 := b5 _ _ eW4 nWp
    clear eW da b5 nW nCW P4
    walk_at "st"
    refine ⟨p, LC, _, W, b, rfl, P5, by omega, npW.symm, hL, ok, sides_two ok, sides_rng ok, fun LT ns ts H6 b6 P6 nLT eLT asc mem subT l1 lt l4 => ?_⟩
    replace hL := hL.draw P5 npW.symm b6
    replace hM : MoAt H6 W (greatOf b) := by
      obtain ⟨kv, e, v⟩ := hM
      exact ⟨kv, b6 _ _ e npW.symm, v⟩
    replace eD1 := b6 _ _ eD1 nD1p
    replace eD2 := b6 _ _ eD2 nD2p
    replace eW4 := b6 _ _ eW4 nWp
    have SD : SdOk b ns ts := ⟨asc, mem, subT, l1, lt, l4⟩
    clear b6 P5 P6 nLT
    walk_at "st"
    refine ⟨W, b, rfl, hL, ok, fun x H7 s7 nx hB => ?_⟩
    replace hL := hL.mono s7
    replace hM := hM.mono s7
    replace eD1 := s7 _ _ eD1
    replace eD2 := s7 _ _ eD2
    replace eW4 := s7 _ _ eW4
    replace eLT := s7 _ _ eLT
    clear s7 nx
    walk_at "st"
    refine ⟨D1, _, rfl, .inl (SqL.of eD1), fun LG nLG => ?_⟩
    have s8 := same_new (o := .lst (nm1.map V.str)) nLG
    have eG : upd H7 LG (.lst (nm1.map V.str)) LG = some (.lst (nm1.map V.str)) := upd_same
    generalize upd H7 LG (.lst (nm1.map V.str)) = H8 at *
    walk_at "st"
    refine ⟨LT, _, rfl, .inl (SqL.of (s8 _ _ eLT)), fun LS nLS => ?_⟩
    have s9 := s8.trans (same_new (o := .lst (ts.map V.int)) nLS)
    have nLS7 : H7 LS = none := s8.free nLS
    have nGS : LG ≠ LS := fun z => by rw [← z, eG] at nLS; cases nLS
    have eG9 := (same_new (o := .lst (ts.map V.int)) nLS) _ _ eG
    have eS9 : upd H8 LS (.lst (ts.map V.int)) LS = some (.lst (ts.map V.int)) := upd_same
    generalize upd H8 LS (.lst (ts.map V.int)) = H9 at *
    clear s8 nLS eG
    walk_at "st"
    refine ⟨x, LS, LG, b, ns, ts, nm1, rfl, hB.mono s9, SqL.of eS9, SD, SqL.of eG9, c1, c1p, c17, curB_ok ok ts nm1, fun y H10 s10 ny hY => ?_⟩
    have okc := curB_ok ok ts nm1
    have s710 := s9.trans s10
    replace eG9 := s10 _ _ eG9
    replace eS9 := s10 _ _ eS9
    clear s9 s10 ny
    walk_at "st"
    have sN := self_strs sub1
    refine ⟨.list (nm1.map .str), .list (nm1.map .str), .lst (SqL.of eG9) (dpStrs_ nm1), .lst (SqL.of (s710 _ _ eD1)) (dpStrs_ nm1), sN.2, sN.2, ?_⟩
    rw [sN.1]
    refine ⟨_, rfl, iteF' rfl ?_⟩
    walk_at "st"
    have sT := self_ints SD
    refine ⟨.list (ts.map .int), .list (ts.map .int), .lst (SqL.of eS9) (dpInts_ ts), .lst (SqL.of (s710 _ _ eLT)) (dpInts_ ts), sT.2, sT.2, ?_⟩
    rw [sT.1]
    refine ⟨_, rfl, iteF' rfl ?_⟩
    walk_at "st"
    refine ⟨x, W, b, rfl, (hB.mono s710).1, hL.mono s710, fun H11 s11 => ?_⟩
    refine ⟨true, rfl, iteF' rfl ?_⟩
    have s711 := s710.trans s11
    replace eG9 := s11 _ _ eG9
    replace eS9 := s11 _ _ eS9
    replace hY := hY.mono s11
    clear s11 s710 sN sT
    walk_at "st"
    refine ⟨.inl ⟨rfl, _, SqL.of eG9⟩, ?_⟩
    walk_at "st"
    refine ⟨LG, _, _, rfl, rfl, eG9, by rw [List.length_map]; have : (10000 : Nat) < sizeLine := by { decide }; omega, ?_⟩
    have s712 : Same H7 (upd H11 LG (.lst (nm1.map V.str ++ [V.str "wipe"]))) := fun b' o hb => by rw [upd_ne (ne_of_none hb nLG)]; exact s711 _ _ hb
    have hY12 := hY.keepL (noB_ok okc) (KeepL.put (ys := nm1.map V.str ++ [V.str "wipe"]) eG9)
    have eS12 : upd H11 LG (.lst (nm1.map V.str ++ [V.str "wipe"])) LS = some (.lst (ts.map V.int)) := by rw [upd_ne (Ne.symm nGS)]; exact eS9
    generalize upd H11 LG (.lst (nm1.map V.str ++ [V.str "wipe"])) = H12 at *
    clear eG9 eS9 hY s711
    walk_at "st"
    refine ⟨.inl ⟨rfl, _, SqL.of eS12⟩, ?_⟩
    walk_at "st"
    refine ⟨LS, _, _, rfl, rfl, eS12, by rw [List.length_map]; have : (10000 : Nat) < sizeLine := by { decide }; have := SD.lt; have := SD.l4; omega, ?_⟩
    have s713 : Same H7 (upd H12 LS (.lst (ts.map V.int ++ [V.int 9]))) := fun b' o hb => by rw [upd_ne (ne_of_none hb nLS7)]; exact s712 _ _ hb
    have hY13 := hY12.keepL (noB_ok okc) (KeepL.put (ys := ts.map V.int ++ [V.int 9]) eS12)
    generalize upd H12 LS (.lst (ts.map V.int ++ [V.int 9])) = H13 at *
    clear eS12 hY12 s712 nGS nLG nLS7
    walk_at "st"
    refine ⟨W, LT, D1, b, ts, nm1, rfl, hL.mono s713, hM.mono s713, ok, SqL.of (s713 _ _ eLT), SqL.of (s713 _ _ eD1), fun DD H14 s14 nDD hDD => ?_⟩
    walk_at "st"
    refine ⟨y, DD, curB ts nm1 b, rfl, (hY13.mono s14).1, hDD, fun H15 s15 => ?_⟩
    refine ⟨true, rfl, iteF' rfl ?_⟩
    have s715 := s713.trans (s14.trans s15)
    have hY15 := hY13.mono (s14.trans s15)
    clear s713 s14 s15 hDD nDD hY13
    refine q_next ?_
    dsimp only
    refine seq_if (fun σ Hx => σ = [some (.ref a), some (.ref p), some (.ref WL), some (.ref D1), some (.ref D2), some (.ref W), some (.ref LT), some (.ref x), some (.ref LG), some (.ref LS), some (.ref y), none, none, none, none] ∧ Same H15 Hx ∧ ¬(("still" : Str) ∈ nm1 ∧ ("slots" : Str) ∈ nm2)) (fun σ Hx hx => ?_) (fun N hQ => ?_)
    rotate_left
    · walk_at "st"
      refine q_inSeqS (.inl (SqL.of (s715 _ _ eD1))) ?_
      refine ⟨_, rfl, ?_⟩
      by_cases st : ("still" : Str) ∈ nm1
      · rw [decide_eq_true st]
        refine iteT ?_
        walk_at "st"
        refine q_inSeqS (.inl (SqL.of (s715 _ _ eD2))) ?_
        refine ⟨_, rfl, ?_⟩
        by_cases sl : ("slots" : Str) ∈ nm2
        · rw [decide_eq_true sl]
          refine iteT ?_
          walk_at "st"
          exact q _
        · rw [decide_eq_false sl]
          refine iteF ?_
          walk_at "st"
          exact hQ _ _ ⟨rfl, Same.refl _, fun z => sl z.2⟩
      · rw [decide_eq_false st]
        refine iteF ?_
        refine iteF' rfl ?_
        walk_at "st"
        exact hQ _ _ ⟨rfl, Same.refl _, fun z => st z.1⟩
    obtain ⟨rfl, sx, no⟩ := hx
    have s716 := s715.trans sx
    have hY16 := hY15.mono sx
    clear s715 sx hY15
    walk_at "st"
    refine q_lcI ?_
    walk_at "st"
    refine ⟨WL, rfl, ⟨_, SqL.of (s716 _ _ eW4)⟩, fun LB nLB => lc_keep walk_list (fun i => decide (CURE.getD i "" ∈ nm1) || decide (CURE.getD i "" ∈ nm2)) (fun i => V.str (CURE.getD i "")) nLB (sz1000 (by show 7 < 100000; decide)) (fun H' s => SqL.of (s _ _ (s716 _ _ eW4))) yat_same ?_ ?_⟩
    · rintro i x0 Ha Hb li s2 ⟨rfl, ex⟩ Q' k
      refine q_gname ?_
      refine ⟨rfl, ?_⟩
      replace ex : (CURE.map V.str)[i]? = some x0 := ex
      rw [List.getElem?_map] at ex
      obtain ⟨z, ez, rfl⟩ := Option.map_eq_some_iff.mp ex
      have egz : CURE.getD i "" = z := by rw [List.getD_eq_getElem?_getD, ez]; rfl
      rw [egz] at k
      have s7b := s716.trans s2
      walk_at "st"
      refine q_inSeqS (.inl (SqL.of (s7b _ _ eD1))) ?_
      refine ⟨_, rfl, ?_⟩
      by_cases b1 : z ∈ nm1
      · rw [decide_eq_true b1] at k ⊢
        refine iteT ?_
        refine k _ _ (Same.refl _) (by rfl) fun H9 Q3 s9 _ k3 => ?_
        walk_at "st"
        exact k3 _ (Same.refl _)
      · rw [decide_eq_false b1] at k ⊢
        refine iteF ?_
        walk_at "st"
        refine q_inSeqS (.inl (SqL.of (s7b _ _ eD2))) ?_
        refine ⟨_, rfl, ?_⟩
        rw [Bool.false_or] at k
        refine k _ _ (Same.refl _) (by rfl) fun H9 Q3 s9 _ k3 => ?_
        walk_at "st"
        exact k3 _ (Same.refl _)
    intro H17 s17 eB
    replace eB : H17 LB = some (.lst ((bothL nm1 nm2).map V.str)) := by
      rw [eB]
      have z := pick_filter CURE ("" : Str) fun x => decide (x ∈ nm1) || decide (x ∈ nm2)
      show some (HO.lst (((List.range 7).filter _).map _)) = some (.lst ((CURE.filter _).map V.str))
      rw [← z, List.map_map]
      rfl
    have hb := both_of sub1 sub2
    have subB : (bothL nm1 nm2).Sublist CURE := List.filter_sublist
    obtain ⟨cB, cBp, cB7⟩ := cure_sub subB
    have e2 := curB_both ok ts hb no
    generalize bothL nm1 nm2 = nb at *
    have s718 := s716.trans s17
    have hY18 := hY16.mono s17
    clear s716 hY16 s17 nLB
    walk_at "st"
    refine ⟨LT, _, rfl, .inl (SqL.of (s718 _ _ eLT)), fun l5 nl5 => ?_⟩
    have sa := same_new (o := .lst (ts.map V.int)) nl5
    have ea : upd H17 l5 (.lst (ts.map V.int)) l5 = some (.lst (ts.map V.int)) := upd_same
    generalize upd H17 l5 (.lst (ts.map V.int)) = H19 at *
    walk_at "st"
    refine ⟨x, l5, LB, b, ns, ts, nb, rfl, hB.mono (s718.trans sa), SqL.of ea, SD, SqL.of (sa _ _ eB), cB, cBp, cB7, curB_ok ok ts nb, fun z H20 s20 nz hZ => ?_⟩
    have sb := sa.trans s20
    have s721 := s718.trans sb
    have hY21 := hY18.mono sb
    replace eB := sb _ _ eB
    clear sa ea s20 sb s718 hY18 nl5 nz
    walk_at "st"
    refine ⟨LT, _, rfl, .inl (SqL.of (s721 _ _ eLT)), fun l6 nl6 => ?_⟩
    have sa := same_new (o := .lst (ts.map V.int)) nl6
    have ea : upd H20 l6 (.lst (ts.map V.int)) l6 = some (.lst (ts.map V.int)) := upd_same
    generalize upd H20 l6 (.lst (ts.map V.int)) = H21 at *
    walk_at "st"
    refine ⟨D2, _, rfl, .inl (SqL.of (sa _ _ (s721 _ _ eD2))), fun l7 nl7 => ?_⟩
    have sb := same_new (o := .lst (nm2.map V.str)) nl7
    have eb : upd H21 l7 (.lst (nm2.map V.str)) l7 = some (.lst (nm2.map V.str)) := upd_same
    generalize upd H21 l7 (.lst (nm2.map V.str)) = H22 at *
    have sc := sa.trans sb
    walk_at "st"
    refine ⟨y, l6, l7, curB ts nm1 b, ns, ts, nm2, rfl, hY21.mono sc, SqL.of (sb _ _ ea), ⟨SD.asc, SD.mem, SD.sub, SD.l1, SD.lt, SD.l4⟩, SqL.of eb, c2, c2p, c27, curB_ok okc ts nm2, fun t H23 s23 nt hT => ?_⟩
    rw [e2] at hT
    have sd := sc.trans s23
    have s724 := s721.trans sd
    have hZ24 := hZ.mono sd
    replace eB := sd _ _ eB
    clear sa ea sb eb sc s23 sd s721 hY21 hZ nl6 nl7 nt
    walk_at "st"
    refine ⟨W, LT, LB, b, ts, nb, rfl, hL.mono s724, hM.mono s724, ok, SqL.of (s724 _ _ eLT), SqL.of eB, fun DD H25 s25 nDD hDD => ?_⟩
    walk_at "st"
    refine ⟨z, DD, curB ts nb b, rfl, (hZ24.mono s25).1, hDD, fun H26 s26 => ?_⟩
    have se := s25.trans s26
    refine ⟨true, rfl, iteT ?_⟩
    walk_at "st"
    have okB := curB_ok ok ts nb
    refine q_eqB (hT.mono se).1 (hZ24.mono se).1 ?_
    rw [(allEqv_iff okB okB).mpr rfl]
    refine ⟨true, rfl, iteT ?_⟩
    walk_at "st"
    have s726 := s724.trans se
    exact ⟨x, W, b, rfl, (hB.mono s726).1, hL.mono s726, fun H27 s27 => q _⟩))) only [↓Hk.hold_s]
end
end T
namespace T
theorem all_ok {P : Program} {w : World} {K : PySem.W.Frag} {mg : Str → Option Value} {base : Heap} {C CR CRo dF tC tS fR fO fB : Addr} {fdR fdO fdB : FuncData}
    (B : Bl mg) (g_sum : mg "sum" = none) (g_repr : mg "repr" = none) (g_enum : mg "enumerate" = none) (LL : LG mg) (TB : BCls K C) (R : RCls K CR) (XR : RoCls K CRo) (RF : RForms K w mg dF) (g_CURES : mg "CURES" = some (.ref tC)) (hT : ∀ H, SqT K H tC (CURE.map V.str)) (g_SEEK : mg "SEEK" = some (.ref tS)) (hS : ∀ H, Dp K H (.ref tS) seekD) (IC : C8.InsC K C) (g_LONGEST : ∃ t, mg "LONGEST" = some (.int 12 t))
    (d_is_integer : DefAt K mg "is_integer" s_is_integer ["thing"])
    (d_is_between : DefAt K mg "is_between" s_is_between ["thing", "low", "high"])
    (d_is_index : DefAt K mg "is_index" s_is_index ["thing", "many"])
    (d_is_tuple : DefAt K mg "is_tuple" s_is_tuple ["thing", "many"])
    (d_is_list : DefAt K mg "is_list" s_is_list ["thing", "low", "high"])
    (d_is_ascending : DefAt K mg "is_ascending" s_is_ascending ["items"])
    (d_counted : DefAt K mg "counted" s_counted ["tasks", "pages", "ports", "locks", "disk"])
    (d_word_of : DefAt K mg "word_of" s_word_of ["thing"])
    (d_is_formed : DefAt K mg "is_formed" s_is_formed ["counts", "kinds", "thing"])
    (d_is_of_kind : DefAt K mg "is_of_kind" s_is_of_kind ["counts", "kind", "item"])
    (d_is_right : DefAt K mg "is_right" s_is_right ["counts", "thing"])
    (d_fit_as_numbers : DefAt K mg "fit_as_numbers" s_fit_as_numbers ["numbers", "most", "low", "high"])
    (d_fit_as_row : DefAt K mg "fit_as_row" s_fit_as_row ["counts", "row"])
    (d_fit_as_rights : DefAt K mg "fit_as_rights" s_fit_as_rights ["counts", "rights"])
    (d_fit_as_lines : DefAt K mg "fit_as_lines" s_fit_as_lines ["counts", "lines"])
    (d_fit_as_costs : DefAt K mg "fit_as_costs" s_fit_as_costs ["costs"])
    (d_fits_as_slot : DefAt K mg "fits_as_slot" s_fits_as_slot ["counts", "row"])
    (d_fits_as_outside : DefAt K mg "fits_as_outside" s_fits_as_outside ["counts", "outside"])
    (d_fit_as_plan : DefAt K mg "fit_as_plan" s_fit_as_plan ["counts", "plan"])
    (d_fit_as_tasks : DefAt K mg "fit_as_tasks" s_fit_as_tasks ["tasks"])
    (d_things_fault : DefAt K mg "things_fault" s_things_fault ["tasks", "pages", "ports", "locks", "frames", "disk"])
    (d_ways_fault : DefAt K mg "ways_fault" s_ways_fault ["counts", "rights", "lines", "costs", "plan", "outside"])
    (d_flags_fault : DefAt K mg "flags_fault" s_flags_fault ["flags"])
    (d_are_sides : DefAt K mg "are_sides" s_are_sides ["sides", "thing"])
    (d_are_cures : DefAt K mg "are_cures" s_are_cures ["names"])
    (d_check_ones : DefAt K mg "check_ones" s_check_ones ["build", "ones"])
    (d_eyes_of : DefAt K mg "eyes_of" s_eyes_of ["build", "ones", "eyes"])
    (d_roles_of : DefAt K mg "roles_of" s_roles_of ["build", "ones", "eyes"])
    (d_rules_over : DefAt K mg "rules_over" s_rules_over ["right", "tasks"])
    (d_reaches : DefAt K mg "reaches" s_reaches ["right", "theirs", "port", "others"])
    (d_cut_rights : DefAt K mg "cut_rights" s_cut_rights ["build", "roles"])
    (d_cured_rights : DefAt K mg "cured_rights" s_cured_rights ["build", "roles", "names"])
    (d_slots_for : DefAt K mg "slots_for" s_slots_for ["build"])
    (d_cured : DefAt K mg "cured" s_cured ["build", "ones", "names"])
    (d__law_pool : DefAt K mg "_law_pool" s__law_pool ["_law_script"])
    (d__law_refill : DefAt K mg "_law_refill" s__law_refill ["_law_pool_here"])
    (d__law_draw : DefAt K mg "_law_draw" s__law_draw ["_law_pool_here", "_law_many"])
    (d__law_menu : DefAt K mg "_law_menu" s__law_menu ["_law_w"])
    (d__law_rights : DefAt K mg "_law_rights" s__law_rights ["_law_pool_here", "_law_menu_here"])
    (d__law_tasks : DefAt K mg "_law_tasks" s__law_tasks ["_law_pool_here", "_law_many"])
    (d__law_plan : DefAt K mg "_law_plan" s__law_plan ["_law_pool_here", "_law_w"])
    (d__law_finish : DefAt K mg "_law_finish" s__law_finish ["_law_w"])
    (d__law_world : DefAt K mg "_law_world" s__law_world ["_law_pool_here"])
    (d__law_build : DefAt K mg "_law_build" s__law_build ["_law_w"])
    (d__law_sides : DefAt K mg "_law_sides" s__law_sides ["_law_w"])
    (d__law_tellers : DefAt K mg "_law_tellers" s__law_tellers ["_law_pool_here", "_law_w"])
    (d__law_facts : DefAt K mg "_law_facts" s__law_facts ["_law_build_here"])
    (d__law_due : DefAt K mg "_law_due" s__law_due ["_law_w"])
    (d__law_is : DefAt K mg "_law_is" s__law_is ["_law_build_here", "_law_w"])
    (d__law_stays : DefAt K mg "_law_stays" s__law_stays ["_law_w", "_law_tellers_here", "_law_task"])
    (d__law_cured : DefAt K mg "_law_cured" s__law_cured ["_law_w", "_law_tellers_here", "_law_names"])
    (b_tasks : MethAt K C "tasks" "Build.tasks" s_Build_tasks ["self"])
    (b_pages : MethAt K C "pages" "Build.pages" s_Build_pages ["self"])
    (b_ports : MethAt K C "ports" "Build.ports" s_Build_ports ["self"])
    (b_lines : MethAt K C "lines" "Build.lines" s_Build_lines ["self"])
    (b_locks : MethAt K C "locks" "Build.locks" s_Build_locks ["self"])
    (b_frames : MethAt K C "frames" "Build.frames" s_Build_frames ["self"])
    (b_disk : MethAt K C "disk" "Build.disk" s_Build_disk ["self"])
    (b_costs : MethAt K C "costs" "Build.costs" s_Build_costs ["self"])
    (b_outside : MethAt K C "outside" "Build.outside" s_Build_outside ["self"])
    (b_wipe : MethAt K C "wipe" "Build.wipe" s_Build_wipe ["self"])
    (b_pad : MethAt K C "pad" "Build.pad" s_Build_pad ["self"])
    (b_lend : MethAt K C "lend" "Build.lend" s_Build_lend ["self"])
    (b_share : MethAt K C "share" "Build.share" s_Build_share ["self"])
    (b_plan : MethAt K C "plan" "Build.plan" s_Build_plan ["self"])
    (b_sides : MethAt K C "sides" "Build.sides" s_Build_sides ["self"])
    (b_rights : MethAt K C "rights" "Build.rights" s_Build_rights ["self"])
    (b___eq__ : MethAt K C "__eq__" "Build.__eq__" s_Build___eq__ ["self", "other"])
    (r_set_costs : MethAt K CR "set_costs" "Rules.set_costs" s_Rules_set_costs ["self", "costs"])
    (r_set_frames : MethAt K CR "set_frames" "Rules.set_frames" s_Rules_set_frames ["self", "build"])
    (r_slot_ticks : MethAt K CR "slot_ticks" "Rules.slot_ticks" s_Rules_slot_ticks ["self", "rows"])
    (r_set_plan : MethAt K CR "set_plan" "Rules.set_plan" s_Rules_set_plan ["self", "plan"])
    (r_set_letters : MethAt K CR "set_letters" "Rules.set_letters" s_Rules_set_letters ["self", "outside"])
    (gR : mg "Rules" = some (.ref CR)) (MR : Mk K CR fR) (FR : Fun K "__init__" "Rules.__init__" s_Rules___init__ fR fdR) (bR : Binds K fdR ["self", "build"] [])
    (gO : mg "Roles" = some (.ref CRo)) (MO : Mk K CRo fO) (FO : Fun K "__init__" "Roles.__init__" s_Roles___init__ fO fdO) (bO : Binds K fdO ["self", "build", "ones", "eyes", "doors"] [])
    (gB : mg "Build" = some (.ref C)) (MB : Mk K C fB) (FB : Fun K "__init__" "Build.__init__" s_Build___init__ fB fdB) (bB : KBn K fdB ["self", "tasks", "pages", "ports", "locks", "frames", "disk", "rights", "lines", "costs", "plan", "outside", "wipe", "pad", "lend", "share"] (11 + 1) ["wipe", "pad", "lend", "share"] (fun us ws => us ++ ws) (fun vs zs => vs ++ zs)) :
    ∀ f fd, Fun K "law" "law" s_law f fd → ShFn P w K mg base 13 f fd ["_law_script"] (spLaw K) := by
 refine Hk.hold ?_
 simp (disch := with_unfolding_all (
 exact Hk.disch (by
  have c_is_integer := ok_is_integer (P := P) (w := w) (base := base) B d_is_integer 
  have c_is_between := ok_is_between (P := P) (w := w) (base := base) B d_is_between c_is_integer
  have c_is_index := ok_is_index (P := P) (w := w) (base := base) B d_is_index c_is_between
  have c_is_tuple := ok_is_tuple (P := P) (w := w) (base := base) B d_is_tuple 
  have c_is_list := ok_is_list (P := P) (w := w) (base := base) B d_is_list 
  have c_is_ascending := ok_is_ascending (P := P) (w := w) (base := base) B d_is_ascending 
  have c_counted := ok_counted (P := P) (w := w) (base := base) B d_counted 
  have c_word_of := ok_word_of (P := P) (w := w) (base := base) B d_word_of 
  have c_is_of_kind := ok_is_of_kind1 (P := P) (w := w) (base := base) B d_is_of_kind c_is_between c_is_index
  have c_is_formed := ok_is_formed (P := P) (w := w) (base := base) B d_is_formed c_is_of_kind
  have c_is_right := ok_is_right (P := P) (base := base) B RF d_is_right c_word_of c_is_formed
  have c_fit_as_numbers := ok_fit_as_numbers (P := P) (w := w) (base := base) B d_fit_as_numbers c_is_list c_is_between
  have c_fit_as_row := ok_fit_as_row (P := P) (w := w) (base := base) B d_fit_as_row c_is_list c_is_right c_is_ascending
  have c_fit_as_rights := ok_fit_as_rights (P := P) (w := w) (base := base) B d_fit_as_rights c_is_list c_fit_as_row
  have c_fit_as_lines := ok_fit_as_lines (P := P) (w := w) (base := base) B d_fit_as_lines c_is_list c_is_between
  have c_fit_as_costs := ok_fit_as_costs (P := P) (w := w) (base := base) B d_fit_as_costs c_is_tuple c_is_between
  have c_fits_as_slot := ok_fits_as_slot (P := P) (w := w) (base := base) B d_fits_as_slot c_is_tuple c_is_between c_is_index
  have c_fits_as_outside := ok_fits_as_outside (P := P) (w := w) (base := base) B d_fits_as_outside c_is_tuple c_is_between c_is_index
  have c_fit_as_plan := ok_fit_as_plan (P := P) (w := w) (base := base) B d_fit_as_plan c_is_tuple c_is_between c_is_list c_fits_as_slot
  have c_fit_as_tasks := ok_fit_as_tasks (P := P) (w := w) (base := base) B d_fit_as_tasks c_is_list c_is_tuple c_is_between
  have c_things_fault := ok_things_fault (P := P) (w := w) (base := base) B d_things_fault c_fit_as_tasks c_fit_as_numbers c_is_between
  have c_ways_fault := ok_ways_fault (P := P) (w := w) (base := base) B d_ways_fault c_fit_as_rights c_fit_as_lines c_fit_as_costs c_fit_as_plan c_fits_as_outside
  have c_flags_fault := ok_flags_fault (P := P) (w := w) (base := base) B d_flags_fault 
  have m_tasks := ok_Build_tasks (P := P) (w := w) (base := base) B TB b_tasks
  have m_pages := ok_Build_pages (P := P) (w := w) (base := base) B TB b_pages
  have m_ports := ok_Build_ports (P := P) (w := w) (base := base) B TB b_ports
  have m_lines := ok_Build_lines (P := P) (w := w) (base := base) B TB b_lines
  have m_locks := ok_Build_locks (P := P) (w := w) (base := base) B TB b_locks
  have m_frames := ok_Build_frames (P := P) (w := w) (base := base) B TB b_frames
  have m_disk := ok_Build_disk (P := P) (w := w) (base := base) B TB b_disk
  have m_costs := ok_Build_costs (P := P) (w := w) (base := base) B TB b_costs
  have m_outside := ok_Build_outside (P := P) (w := w) (base := base) B TB b_outside
  have m_wipe := ok_Build_wipe (P := P) (w := w) (base := base) B TB b_wipe
  have m_pad := ok_Build_pad (P := P) (w := w) (base := base) B TB b_pad
  have m_lend := ok_Build_lend (P := P) (w := w) (base := base) B TB b_lend
  have m_share := ok_Build_share (P := P) (w := w) (base := base) B TB b_share
  have m_plan := ok_Build_plan (P := P) (w := w) (base := base) B TB b_plan
  have m_sides := ok_Build_sides (P := P) (w := w) (base := base) B TB b_sides
  have m_rights := ok_Build_rights (P := P) (w := w) (base := base) B TB b_rights
  have m_eqB := ok_Build_eq (P := P) (w := w) (base := base) B TB gB IC b___eq__
  have m_set_costs := ok_set_costs (P := P) (w := w) (base := base) B R r_set_costs
  have m_set_frames := ok_set_frames (P := P) (w := w) (base := base) B R m_frames m_share m_sides r_set_frames
  have m_slot_ticks := ok_slot_ticks (P := P) (w := w) (base := base) B R r_slot_ticks
  have m_set_plan := ok_set_plan (P := P) (w := w) (base := base) B R m_slot_ticks r_set_plan
  have m_set_letters := ok_set_letters (P := P) (w := w) (base := base) B LL R r_set_letters
  have i_Rules := ok_Rules (P := P) (w := w) (base := base) B R c_counted m_tasks m_pages m_ports m_lines m_locks m_disk m_costs m_plan m_outside m_wipe m_pad m_lend m_set_costs m_set_frames m_set_plan m_set_letters fR fdR FR
  have c_Rules : MkCal P w K mg base 3 CR "Rules" ["self", "build"] (spRules K C CR) := ⟨gR, fR, fdR, MR, bR, i_Rules⟩
  have i_Build := ok_Build (P := P) (w := w) (base := base) B TB c_counted c_things_fault c_ways_fault c_flags_fault c_Rules fB fdB FB
  have c_Build : MkKCal P w K mg base 10 C "Build" ["self", "tasks", "pages", "ports", "locks", "frames", "disk", "rights", "lines", "costs", "plan", "outside", "wipe", "pad", "lend", "share"] 11 ["wipe", "pad", "lend", "share"] (spBuild K C CR) := ⟨gB, fB, fdB, MB, bB, i_Build⟩
  have c_Roles : MkCal P w K mg base 1 CRo "Roles" ["self", "build", "ones", "eyes", "doors"] (spRolesInit K C CR CRo) := ⟨gO, fO, fdO, MO, bO, ok_Roles B TB R XR g_enum fO fdO FO⟩
  have c_ascI := ok_is_ascendingI (P := P) (w := w) (base := base) B d_is_ascending
  have c_ascS := ok_is_ascendingS (P := P) (w := w) (base := base) B d_is_ascending
  have c_are_sides := ok_are_sides (P := P) (w := w) (base := base) B d_are_sides c_is_list c_is_integer c_ascI
  have c_are_cures := ok_are_cures (P := P) (w := w) (base := base) B g_CURES hT d_are_cures c_is_list c_ascS
  have c_check_ones := ok_check_ones (P := P) (w := w) (base := base) B m_sides c_are_sides d_check_ones
  have c_eyes_of := ok_eyes_of (P := P) (w := w) (base := base) B m_sides c_are_sides d_eyes_of
  have c_roles_of := ok_roles_of (P := P) (w := w) (base := base) B c_check_ones c_eyes_of c_Roles d_roles_of
  have c_rules_over := ok_rules_over (P := P) (w := w) (base := base) (K := K) B d_rules_over
  have c_reaches := ok_reaches (P := P) (w := w) (base := base) B c_rules_over d_reaches
  have c_cut_rights := ok_cut_rights (P := P) (w := w) (base := base) B TB R XR g_enum m_rights c_reaches c_rules_over d_cut_rights
  have c_cured_rights := ok_cured_rights (P := P) (w := w) (base := base) B g_SEEK hS m_rights c_cut_rights d_cured_rights
  have c_slots_for := ok_slots_for (P := P) (w := w) (base := base) B TB R g_LONGEST d_slots_for
  have c_cured := ok_cured (P := P) (w := w) (base := base) B c_roles_of c_are_cures c_cured_rights c_slots_for m_tasks m_pages m_ports m_lines m_locks m_frames m_disk m_costs m_plan m_outside m_wipe m_pad m_lend m_share c_Build d_cured
  have c__law_pool := ok_law_pool (P := P) (w := w) (base := base) B d__law_pool
  have c__law_refill := ok_law_refill (P := P) (w := w) (base := base) (K := K) B g_sum d__law_refill
  have c__law_draw := ok_law_draw (P := P) (w := w) (base := base) B c__law_refill d__law_draw
  have c__law_menu := ok_law_menu (P := P) (w := w) (base := base) (K := K) B d__law_menu
  have c__law_rights := ok_law_rights (P := P) (w := w) (base := base) B c__law_draw d__law_rights
  have c__law_tasks := ok_law_tasks (P := P) (w := w) (base := base) B c__law_draw d__law_tasks
  have c__law_plan := ok_law_plan (P := P) (w := w) (base := base) B c__law_draw d__law_plan
  have c__law_finish := ok_law_finish (P := P) (w := w) (base := base) (K := K) B g_sum d__law_finish
  have c__law_world := ok_law_world (P := P) (w := w) (base := base) B c__law_draw c__law_tasks c__law_menu c__law_rights c__law_plan c__law_finish d__law_world
  have c__law_build := ok_law_build (P := P) (w := w) (base := base) B c_Build d__law_build
  have c__law_sides := ok_law_sides (P := P) (w := w) (base := base) B d__law_sides
  have c__law_tellers := ok_law_tellers (P := P) (w := w) (base := base) B c__law_draw c__law_sides d__law_tellers
  have c__law_facts := ok_law_facts (P := P) (w := w) (base := base) B m_tasks m_pages m_ports m_locks m_frames m_disk m_rights m_lines m_costs m_plan m_outside m_wipe m_pad m_lend m_share m_sides d__law_facts
  have c__law_due := ok_law_due (P := P) (w := w) (base := base) B d__law_due
  have c__law_is := ok_law_is (P := P) (w := w) (base := base) B gB IC g_repr c__law_facts c__law_due d__law_is
  have c__law_stays := ok_law_stays (P := P) (w := w) (base := base) (K := K) B d__law_stays
  have c__law_cured := ok_law_cured (P := P) (w := w) (base := base) B c__law_stays d__law_cured
  exact ok_law B TB c__law_pool c__law_draw c__law_world c__law_tellers c__law_build c_cured c__law_is c__law_cured m_eqB))) only [↓Hk.hold_s]
end T
namespace T
/-- what the top has written of a def -/
structure DefF (K : PySem.W.Frag) (x qual : Str) (st : Stmt) (f : Addr) : Prop where
  ex : ∃ (oc : Value) (od : Option Addr) (kV doc pm : Value) (an : Option Addr) (cd ct : Value) (sl : Array (Option Value)), K.lookup f = some ⟨oc, od, .func (PySem.W.fnOf x qual (defArgs st) (defBody st) (defScope st) .none kV doc pm an cd ct), sl⟩ ∧ PySem.W.codeIn K cd qual = true
  kp : PySem.W.keepIn K (.ref f) = true
theorem DefF.mk' {K : PySem.W.Frag} {x qual : Str} {st : Stmt} {f : Addr} {oc : Value} {od : Option Addr} {kV doc pm : Value} {an : Option Addr} {cd ct : Value} {sl : Array (Option Value)} (l : K.lookup f = some ⟨oc, od, .func (PySem.W.fnOf x qual (defArgs st) (defBody st) (defScope st) .none kV doc pm an cd ct), sl⟩) (c : PySem.W.codeIn K cd qual = true) (k : PySem.W.keepIn K (.ref f) = true) : DefF K x qual st f := ⟨⟨oc, od, kV, doc, pm, an, cd, ct, sl, l, c⟩, k⟩
theorem DefF.fn {K : PySem.W.Frag} {x qual : Str} {st : Stmt} {f : Addr} (d : DefF K x qual st f) : ∃ fd, Fun K x qual st f fd := by
  obtain ⟨⟨oc, od, kV, doc, pm, an, cd, ct, sl, l, c⟩, k⟩ := d
  exact ⟨_, fun_mk l c k⟩
theorem DefF.at {K : PySem.W.Frag} {mg : Str → Option Value} {h : Heap} {x : Str} {st : Stmt} {f : Addr} {ps : List Str} (X : K.In h) (G : h.Ns mainGlobals mg) (a : PySem.W.nsIn K mainGlobals x = some (some (.ref f))) (d : DefF K x x st f)
    (b : ∀ fd, Fun K x x st f fd → Binds K fd ps []) : DefAt K mg x st ps := by
  obtain ⟨fd, F⟩ := d.fn
  exact ⟨f, fd, F, PySem.W.mg_of X G a, b fd F⟩
theorem DefF.meth {K : PySem.W.Frag} {m qual : Str} {st : Stmt} {f C : Addr} {ps : List Str} (cl : Cls K C) (a : PySem.W.findIn K (.ref C) m = some (some (.ref f))) (i : PySem.W.isFn K (.ref f) = true) (d : DefF K m qual st f)
    (b : ∀ fd, Fun K m qual st f fd → Binds K fd ps []) : MethAt K C m qual st ps := by
  obtain ⟨fd, F⟩ := d.fn
  exact ⟨cl, f, fd, F, ⟨a, i, F.kp⟩, b fd F⟩
theorem build_binds {K : PySem.W.Frag} {f : Addr} : ∀ fd, Fun K "__init__" "Build.__init__" s_Build___init__ f fd → KBn K fd ["self", "tasks", "pages", "ports", "locks", "frames", "disk", "rights", "lines", "costs", "plan", "outside", "wipe", "pad", "lend", "share"] (11 + 1) ["wipe", "pad", "lend", "share"] (fun us ws => us ++ ws) (fun vs zs => vs ++ zs) := fun fd F => by
  obtain ⟨oc, od, kV, doc, pm, an, cdv, ct, osl, rfl, lk, hcd⟩ := F.ex
  refine ⟨fun s us ws _ h1 h2 => ?_, fun r1 r2 => r1.append r2⟩
  match us, h1, ws, h2 with
  | [a0, a1, a2, a3, a4, a5, a6, a7, a8, a9, a10, a11], _, [w0, w1, w2, w3], _ => exact .of_eq rfl
/-- RIGHT_FORMS as it stands -/
theorem find_forms {K : PySem.W.Frag} {tab : List (Str × List Str)} : ∀ {l : List DictEntry} {tab : List (Str × List Str)}, Paired (fun (e : DictEntry) (p : Str × List Str) => ∃ t r, e.key = .str p.1 t ∧ e.val = .ref r ∧ ∀ H, SqT K H r (p.2.map V.str)) l tab → ∀ z,
    (∃ ks t e, tab.lookup z = some ks ∧ l.find? (·.key.isStr z) = some e ∧ e.val = .ref t ∧ ∀ H, SqT K H t (ks.map V.str)) ∨ (tab.lookup z = none ∧ l.find? (·.key.isStr z) = none)
  | [], [], .nil, z => .inr ⟨rfl, rfl⟩
  | e :: l, p :: tab, .cons h t, z => by
    obtain ⟨tk, r, e1, e2, e3⟩ := h
    by_cases hz : z = p.1
    · left
      refine ⟨p.2, r, e, by rw [List.lookup_cons, hz]; simp, by rw [List.find?_cons, e1, hz]; simp [Value.isStr], e2, e3⟩
    · have n1 : (z == p.1) = false := by simpa using hz
      have n2 : e.key.isStr z = false := by rw [e1]; simp [Value.isStr]; exact fun q => hz q.symm
      rw [List.lookup_cons, n1, List.find?_cons, n2]
      exact find_forms (tab := tab) (l := l) t z
theorem forms_mk {K : PySem.W.Frag} {w : World} {d : Addr} {tab : List (Str × List Str)} {es : Array DictEntry} {n : Nat} (hl : K.lookup d = some ⟨.type "dict", none, .dict es n, #[]⟩) (hk : PySem.W.KeysLit w.params es.toList) (low : (d == sysModules) = false)
    (hp : Paired (fun (e : DictEntry) (p : Str × List Str) => ∃ t r, e.key = .str p.1 t ∧ e.val = .ref r ∧ ∀ H, SqT K H r (p.2.map V.str)) es.toList tab) : FormsAt K w d tab := by
  refine ⟨⟨es, n, hl, hk⟩, low, fun z => ?_⟩
  rcases find_forms (K := K) (tab := tab) hp z with ⟨ks, t, e, h1, h2, h3, h4⟩ | ⟨h1, h2⟩
  · left
    refine ⟨ks, t, h1, ?_, h4⟩
    unfold PySem.W.nsIn
    rw [hl]
    simp only [h2, h3]
  · right
    refine ⟨h1, ?_⟩
    unfold PySem.W.nsIn
    rw [hl]
    have nr : es.toList.any (·.refKey) = false := by
      rw [List.any_eq_false]
      intro e he
      obtain ⟨x, t, e1, _⟩ := hk.all e he
      simp [DictEntry.refKey, e1]
    simp only [h2, nr]
    rfl
theorem tupK {K : PySem.W.Frag} {r : Addr} {oc : Value} {od : Option Addr} {its : Array Value} {n : Nat} {sl : Array (Option Value)} {xs : List V} (l : K.lookup r = some ⟨oc, od, .seq its n, sl⟩) (hc : oc = .type "tuple") (hs : its.size ≤ 100) (v : Vals xs its.toList) : ∀ H, SqT K H r xs :=
  fun _ => .inr ⟨_, its, n, l, hc, rfl, Nat.le_trans hs (by decide), v⟩
end T
namespace T
theorem all_mk {l : PySem.W.OpenLaw} {w : World} {K : PySem.W.Frag} {h : Heap} {mg : Str → Option Value} {fa C CR CRo dF tC tS f_is_integer f_is_between f_is_index f_is_tuple f_is_list f_is_ascending f_counted f_word_of f_is_formed f_is_of_kind f_is_right f_fit_as_numbers f_fit_as_row f_fit_as_rights f_fit_as_lines f_fit_as_costs f_fits_as_slot f_fits_as_outside f_fit_as_plan f_fit_as_tasks f_things_fault f_ways_fault f_flags_fault f_are_sides f_are_cures f_check_ones f_eyes_of f_roles_of f_rules_over f_reaches f_cut_rights f_cured_rights f_slots_for f_cured f__law_pool f__law_refill f__law_draw f__law_menu f__law_rights f__law_tasks f__law_plan f__law_finish f__law_world f__law_build f__law_sides f__law_tellers f__law_facts f__law_due f__law_is f__law_stays f__law_cured f_law f_Build___init__ f_Build_tasks f_Build_pages f_Build_ports f_Build_lines f_Build_locks f_Build_frames f_Build_disk f_Build_costs f_Build_outside f_Build_wipe f_Build_pad f_Build_lend f_Build_share f_Build_plan f_Build_sides f_Build_rights f_Build___eq__ f_Rules___init__ f_Rules_set_costs f_Rules_set_frames f_Rules_slot_ticks f_Rules_set_plan f_Rules_set_letters f_Roles___init__ : Addr} {t_LONGEST : Tok} (X : K.In h) (G : h.Ns mainGlobals mg) (hfa : mg "law" = some (.ref fa))
    (z_int : PySem.W.nsIn K mainGlobals "int" = some none)
    (z_str : PySem.W.nsIn K mainGlobals "str" = some none)
    (z_bool : PySem.W.nsIn K mainGlobals "bool" = some none)
    (z_list : PySem.W.nsIn K mainGlobals "list" = some none)
    (z_tuple : PySem.W.nsIn K mainGlobals "tuple" = some none)
    (z_dict : PySem.W.nsIn K mainGlobals "dict" = some none)
    (z_set : PySem.W.nsIn K mainGlobals "set" = some none)
    (z_len : PySem.W.nsIn K mainGlobals "len" = some none)
    (z_isinstance : PySem.W.nsIn K mainGlobals "isinstance" = some none)
    (z_all : PySem.W.nsIn K mainGlobals "all" = some none)
    (z_any : PySem.W.nsIn K mainGlobals "any" = some none)
    (z_min : PySem.W.nsIn K mainGlobals "min" = some none)
    (z_max : PySem.W.nsIn K mainGlobals "max" = some none)
    (z_sorted : PySem.W.nsIn K mainGlobals "sorted" = some none)
    (z_range : PySem.W.nsIn K mainGlobals "range" = some none)
    (z_zip : PySem.W.nsIn K mainGlobals "zip" = some none)
    (z_sum : PySem.W.nsIn K mainGlobals "sum" = some none)
    (z_repr : PySem.W.nsIn K mainGlobals "repr" = some none)
    (z_enumerate : PySem.W.nsIn K mainGlobals "enumerate" = some none)
    (a_lcm : PySem.W.nsIn K mainGlobals "lcm" = some (some (.builtin "math.lcm")))
    (a_RF : PySem.W.nsIn K mainGlobals "RIGHT_FORMS" = some (some (.ref dF)))
    (RFF : FormsAt K w dF rTab)
    (a_CURES : PySem.W.nsIn K mainGlobals "CURES" = some (some (.ref tC)))
    (CUR : ∀ H, SqT K H tC (CURE.map V.str))
    (n_LONGEST : PySem.W.nsIn K mainGlobals "LONGEST" = some (some (.int 12 t_LONGEST)))
    (a_SEEK : PySem.W.nsIn K mainGlobals "SEEK" = some (some (.ref tS)))
    (SEK : ∀ H, SqT K H tS [V.str "seek", V.int 0])
    (a_Build : PySem.W.nsIn K mainGlobals "Build" = some (some (.ref C)))
    (pg_Build : PySem.W.plainGet K C Str.empty = true)
    (hd_Build : PySem.W.hasDictIn K C = true)
    (po_Build : PySem.W.plainOver K C = true)
    (sa_Build : PySem.W.findIn K (.ref C) "__setattr__" = some (some (.builtin "object.__setattr__")))
    (mk_Build : PySem.W.makesIn K C = true)
    (kc_Build : PySem.W.keepIn K (.ref C) = true)
    (a_Rules : PySem.W.nsIn K mainGlobals "Rules" = some (some (.ref CR)))
    (pg_Rules : PySem.W.plainGet K CR Str.empty = true)
    (hd_Rules : PySem.W.hasDictIn K CR = true)
    (po_Rules : PySem.W.plainOver K CR = true)
    (sa_Rules : PySem.W.findIn K (.ref CR) "__setattr__" = some (some (.builtin "object.__setattr__")))
    (mk_Rules : PySem.W.makesIn K CR = true)
    (kc_Rules : PySem.W.keepIn K (.ref CR) = true)
    (a_Roles : PySem.W.nsIn K mainGlobals "Roles" = some (some (.ref CRo)))
    (pg_Roles : PySem.W.plainGet K CRo Str.empty = true)
    (hd_Roles : PySem.W.hasDictIn K CRo = true)
    (po_Roles : PySem.W.plainOver K CRo = true)
    (sa_Roles : PySem.W.findIn K (.ref CRo) "__setattr__" = some (some (.builtin "object.__setattr__")))
    (mk_Roles : PySem.W.makesIn K CRo = true)
    (kc_Roles : PySem.W.keepIn K (.ref CRo) = true)
    (hn : PySem.W.specialIn K (.builtin "object.__class__") "__get__" = some (some (.builtin "getset_descriptor.__get__")))
    (ht : PySem.W.takesIn K (.builtin "object.__class__") = some true)
    (gc_Build : PySem.W.findIn K (.ref C) "__class__" = some (some (.builtin "object.__class__")))
    (mo_Build : PySem.W.mroIn K C (.type "object") = some true)
    (nB__parts : PySem.W.findIn K (.ref C) "_parts" = some none)
    (nB_rules : PySem.W.findIn K (.ref C) "rules" = some none)
    (nR_task_count : PySem.W.findIn K (.ref CR) "task_count" = some none)
    (nR_levels : PySem.W.findIn K (.ref CR) "levels" = some none)
    (nR_side_of : PySem.W.findIn K (.ref CR) "side_of" = some none)
    (nR_sizes : PySem.W.findIn K (.ref CR) "sizes" = some none)
    (nR_line_of : PySem.W.findIn K (.ref CR) "line_of" = some none)
    (nR_places : PySem.W.findIn K (.ref CR) "places" = some none)
    (nR_counts : PySem.W.findIn K (.ref CR) "counts" = some none)
    (nR_wipes : PySem.W.findIn K (.ref CR) "wipes" = some none)
    (nR_pads : PySem.W.findIn K (.ref CR) "pads" = some none)
    (nR_lends : PySem.W.findIn K (.ref CR) "lends" = some none)
    (nR_plain : PySem.W.findIn K (.ref CR) "plain" = some none)
    (nR_miss : PySem.W.findIn K (.ref CR) "miss" = some none)
    (nR_switch : PySem.W.findIn K (.ref CR) "switch" = some none)
    (nR_greatest : PySem.W.findIn K (.ref CR) "greatest" = some none)
    (nR_all_frames : PySem.W.findIn K (.ref CR) "all_frames" = some none)
    (nR_side_frames : PySem.W.findIn K (.ref CR) "side_frames" = some none)
    (nR_has_slots : PySem.W.findIn K (.ref CR) "has_slots" = some none)
    (nR_span : PySem.W.findIn K (.ref CR) "span" = some none)
    (nR_slots : PySem.W.findIn K (.ref CR) "slots" = some none)
    (nR_letter_port : PySem.W.findIn K (.ref CR) "letter_port" = some none)
    (nR_every : PySem.W.findIn K (.ref CR) "every" = some none)
    (nR_period : PySem.W.findIn K (.ref CR) "period" = some none)
    (nO_ones : PySem.W.findIn K (.ref CRo) "ones" = some none)
    (nO_eyes : PySem.W.findIn K (.ref CRo) "eyes" = some none)
    (nO_thirds : PySem.W.findIn K (.ref CRo) "thirds" = some none)
    (nO_doors : PySem.W.findIn K (.ref CRo) "doors" = some none)
    (a_is_integer : PySem.W.nsIn K mainGlobals "is_integer" = some (some (.ref f_is_integer)))
    (d_is_integer : DefF K "is_integer" "is_integer" s_is_integer f_is_integer)
    (a_is_between : PySem.W.nsIn K mainGlobals "is_between" = some (some (.ref f_is_between)))
    (d_is_between : DefF K "is_between" "is_between" s_is_between f_is_between)
    (a_is_index : PySem.W.nsIn K mainGlobals "is_index" = some (some (.ref f_is_index)))
    (d_is_index : DefF K "is_index" "is_index" s_is_index f_is_index)
    (a_is_tuple : PySem.W.nsIn K mainGlobals "is_tuple" = some (some (.ref f_is_tuple)))
    (d_is_tuple : DefF K "is_tuple" "is_tuple" s_is_tuple f_is_tuple)
    (a_is_list : PySem.W.nsIn K mainGlobals "is_list" = some (some (.ref f_is_list)))
    (d_is_list : DefF K "is_list" "is_list" s_is_list f_is_list)
    (a_is_ascending : PySem.W.nsIn K mainGlobals "is_ascending" = some (some (.ref f_is_ascending)))
    (d_is_ascending : DefF K "is_ascending" "is_ascending" s_is_ascending f_is_ascending)
    (a_counted : PySem.W.nsIn K mainGlobals "counted" = some (some (.ref f_counted)))
    (d_counted : DefF K "counted" "counted" s_counted f_counted)
    (a_word_of : PySem.W.nsIn K mainGlobals "word_of" = some (some (.ref f_word_of)))
    (d_word_of : DefF K "word_of" "word_of" s_word_of f_word_of)
    (a_is_formed : PySem.W.nsIn K mainGlobals "is_formed" = some (some (.ref f_is_formed)))
    (d_is_formed : DefF K "is_formed" "is_formed" s_is_formed f_is_formed)
    (a_is_of_kind : PySem.W.nsIn K mainGlobals "is_of_kind" = some (some (.ref f_is_of_kind)))
    (d_is_of_kind : DefF K "is_of_kind" "is_of_kind" s_is_of_kind f_is_of_kind)
    (a_is_right : PySem.W.nsIn K mainGlobals "is_right" = some (some (.ref f_is_right)))
    (d_is_right : DefF K "is_right" "is_right" s_is_right f_is_right)
    (a_fit_as_numbers : PySem.W.nsIn K mainGlobals "fit_as_numbers" = some (some (.ref f_fit_as_numbers)))
    (d_fit_as_numbers : DefF K "fit_as_numbers" "fit_as_numbers" s_fit_as_numbers f_fit_as_numbers)
    (a_fit_as_row : PySem.W.nsIn K mainGlobals "fit_as_row" = some (some (.ref f_fit_as_row)))
    (d_fit_as_row : DefF K "fit_as_row" "fit_as_row" s_fit_as_row f_fit_as_row)
    (a_fit_as_rights : PySem.W.nsIn K mainGlobals "fit_as_rights" = some (some (.ref f_fit_as_rights)))
    (d_fit_as_rights : DefF K "fit_as_rights" "fit_as_rights" s_fit_as_rights f_fit_as_rights)
    (a_fit_as_lines : PySem.W.nsIn K mainGlobals "fit_as_lines" = some (some (.ref f_fit_as_lines)))
    (d_fit_as_lines : DefF K "fit_as_lines" "fit_as_lines" s_fit_as_lines f_fit_as_lines)
    (a_fit_as_costs : PySem.W.nsIn K mainGlobals "fit_as_costs" = some (some (.ref f_fit_as_costs)))
    (d_fit_as_costs : DefF K "fit_as_costs" "fit_as_costs" s_fit_as_costs f_fit_as_costs)
    (a_fits_as_slot : PySem.W.nsIn K mainGlobals "fits_as_slot" = some (some (.ref f_fits_as_slot)))
    (d_fits_as_slot : DefF K "fits_as_slot" "fits_as_slot" s_fits_as_slot f_fits_as_slot)
    (a_fits_as_outside : PySem.W.nsIn K mainGlobals "fits_as_outside" = some (some (.ref f_fits_as_outside)))
    (d_fits_as_outside : DefF K "fits_as_outside" "fits_as_outside" s_fits_as_outside f_fits_as_outside)
    (a_fit_as_plan : PySem.W.nsIn K mainGlobals "fit_as_plan" = some (some (.ref f_fit_as_plan)))
    (d_fit_as_plan : DefF K "fit_as_plan" "fit_as_plan" s_fit_as_plan f_fit_as_plan)
    (a_fit_as_tasks : PySem.W.nsIn K mainGlobals "fit_as_tasks" = some (some (.ref f_fit_as_tasks)))
    (d_fit_as_tasks : DefF K "fit_as_tasks" "fit_as_tasks" s_fit_as_tasks f_fit_as_tasks)
    (a_things_fault : PySem.W.nsIn K mainGlobals "things_fault" = some (some (.ref f_things_fault)))
    (d_things_fault : DefF K "things_fault" "things_fault" s_things_fault f_things_fault)
    (a_ways_fault : PySem.W.nsIn K mainGlobals "ways_fault" = some (some (.ref f_ways_fault)))
    (d_ways_fault : DefF K "ways_fault" "ways_fault" s_ways_fault f_ways_fault)
    (a_flags_fault : PySem.W.nsIn K mainGlobals "flags_fault" = some (some (.ref f_flags_fault)))
    (d_flags_fault : DefF K "flags_fault" "flags_fault" s_flags_fault f_flags_fault)
    (a_are_sides : PySem.W.nsIn K mainGlobals "are_sides" = some (some (.ref f_are_sides)))
    (d_are_sides : DefF K "are_sides" "are_sides" s_are_sides f_are_sides)
    (a_are_cures : PySem.W.nsIn K mainGlobals "are_cures" = some (some (.ref f_are_cures)))
    (d_are_cures : DefF K "are_cures" "are_cures" s_are_cures f_are_cures)
    (a_check_ones : PySem.W.nsIn K mainGlobals "check_ones" = some (some (.ref f_check_ones)))
    (d_check_ones : DefF K "check_ones" "check_ones" s_check_ones f_check_ones)
    (a_eyes_of : PySem.W.nsIn K mainGlobals "eyes_of" = some (some (.ref f_eyes_of)))
    (d_eyes_of : DefF K "eyes_of" "eyes_of" s_eyes_of f_eyes_of)
    (a_roles_of : PySem.W.nsIn K mainGlobals "roles_of" = some (some (.ref f_roles_of)))
    (d_roles_of : DefF K "roles_of" "roles_of" s_roles_of f_roles_of)
    (a_rules_over : PySem.W.nsIn K mainGlobals "rules_over" = some (some (.ref f_rules_over)))
    (d_rules_over : DefF K "rules_over" "rules_over" s_rules_over f_rules_over)
    (a_reaches : PySem.W.nsIn K mainGlobals "reaches" = some (some (.ref f_reaches)))
    (d_reaches : DefF K "reaches" "reaches" s_reaches f_reaches)
    (a_cut_rights : PySem.W.nsIn K mainGlobals "cut_rights" = some (some (.ref f_cut_rights)))
    (d_cut_rights : DefF K "cut_rights" "cut_rights" s_cut_rights f_cut_rights)
    (a_cured_rights : PySem.W.nsIn K mainGlobals "cured_rights" = some (some (.ref f_cured_rights)))
    (d_cured_rights : DefF K "cured_rights" "cured_rights" s_cured_rights f_cured_rights)
    (a_slots_for : PySem.W.nsIn K mainGlobals "slots_for" = some (some (.ref f_slots_for)))
    (d_slots_for : DefF K "slots_for" "slots_for" s_slots_for f_slots_for)
    (a_cured : PySem.W.nsIn K mainGlobals "cured" = some (some (.ref f_cured)))
    (d_cured : DefF K "cured" "cured" s_cured f_cured)
    (a__law_pool : PySem.W.nsIn K mainGlobals "_law_pool" = some (some (.ref f__law_pool)))
    (d__law_pool : DefF K "_law_pool" "_law_pool" s__law_pool f__law_pool)
    (a__law_refill : PySem.W.nsIn K mainGlobals "_law_refill" = some (some (.ref f__law_refill)))
    (d__law_refill : DefF K "_law_refill" "_law_refill" s__law_refill f__law_refill)
    (a__law_draw : PySem.W.nsIn K mainGlobals "_law_draw" = some (some (.ref f__law_draw)))
    (d__law_draw : DefF K "_law_draw" "_law_draw" s__law_draw f__law_draw)
    (a__law_menu : PySem.W.nsIn K mainGlobals "_law_menu" = some (some (.ref f__law_menu)))
    (d__law_menu : DefF K "_law_menu" "_law_menu" s__law_menu f__law_menu)
    (a__law_rights : PySem.W.nsIn K mainGlobals "_law_rights" = some (some (.ref f__law_rights)))
    (d__law_rights : DefF K "_law_rights" "_law_rights" s__law_rights f__law_rights)
    (a__law_tasks : PySem.W.nsIn K mainGlobals "_law_tasks" = some (some (.ref f__law_tasks)))
    (d__law_tasks : DefF K "_law_tasks" "_law_tasks" s__law_tasks f__law_tasks)
    (a__law_plan : PySem.W.nsIn K mainGlobals "_law_plan" = some (some (.ref f__law_plan)))
    (d__law_plan : DefF K "_law_plan" "_law_plan" s__law_plan f__law_plan)
    (a__law_finish : PySem.W.nsIn K mainGlobals "_law_finish" = some (some (.ref f__law_finish)))
    (d__law_finish : DefF K "_law_finish" "_law_finish" s__law_finish f__law_finish)
    (a__law_world : PySem.W.nsIn K mainGlobals "_law_world" = some (some (.ref f__law_world)))
    (d__law_world : DefF K "_law_world" "_law_world" s__law_world f__law_world)
    (a__law_build : PySem.W.nsIn K mainGlobals "_law_build" = some (some (.ref f__law_build)))
    (d__law_build : DefF K "_law_build" "_law_build" s__law_build f__law_build)
    (a__law_sides : PySem.W.nsIn K mainGlobals "_law_sides" = some (some (.ref f__law_sides)))
    (d__law_sides : DefF K "_law_sides" "_law_sides" s__law_sides f__law_sides)
    (a__law_tellers : PySem.W.nsIn K mainGlobals "_law_tellers" = some (some (.ref f__law_tellers)))
    (d__law_tellers : DefF K "_law_tellers" "_law_tellers" s__law_tellers f__law_tellers)
    (a__law_facts : PySem.W.nsIn K mainGlobals "_law_facts" = some (some (.ref f__law_facts)))
    (d__law_facts : DefF K "_law_facts" "_law_facts" s__law_facts f__law_facts)
    (a__law_due : PySem.W.nsIn K mainGlobals "_law_due" = some (some (.ref f__law_due)))
    (d__law_due : DefF K "_law_due" "_law_due" s__law_due f__law_due)
    (a__law_is : PySem.W.nsIn K mainGlobals "_law_is" = some (some (.ref f__law_is)))
    (d__law_is : DefF K "_law_is" "_law_is" s__law_is f__law_is)
    (a__law_stays : PySem.W.nsIn K mainGlobals "_law_stays" = some (some (.ref f__law_stays)))
    (d__law_stays : DefF K "_law_stays" "_law_stays" s__law_stays f__law_stays)
    (a__law_cured : PySem.W.nsIn K mainGlobals "_law_cured" = some (some (.ref f__law_cured)))
    (d__law_cured : DefF K "_law_cured" "_law_cured" s__law_cured f__law_cured)
    (a_law : PySem.W.nsIn K mainGlobals "law" = some (some (.ref f_law)))
    (d_law : DefF K "law" "law" s_law f_law)
    (a_Build___init__ : PySem.W.findIn K (.ref C) "__init__" = some (some (.ref f_Build___init__)))
    (i_Build___init__ : PySem.W.isFn K (.ref f_Build___init__) = true)
    (d_Build___init__ : DefF K "__init__" "Build.__init__" s_Build___init__ f_Build___init__)
    (a_Build_tasks : PySem.W.findIn K (.ref C) "tasks" = some (some (.ref f_Build_tasks)))
    (i_Build_tasks : PySem.W.isFn K (.ref f_Build_tasks) = true)
    (d_Build_tasks : DefF K "tasks" "Build.tasks" s_Build_tasks f_Build_tasks)
    (a_Build_pages : PySem.W.findIn K (.ref C) "pages" = some (some (.ref f_Build_pages)))
    (i_Build_pages : PySem.W.isFn K (.ref f_Build_pages) = true)
    (d_Build_pages : DefF K "pages" "Build.pages" s_Build_pages f_Build_pages)
    (a_Build_ports : PySem.W.findIn K (.ref C) "ports" = some (some (.ref f_Build_ports)))
    (i_Build_ports : PySem.W.isFn K (.ref f_Build_ports) = true)
    (d_Build_ports : DefF K "ports" "Build.ports" s_Build_ports f_Build_ports)
    (a_Build_lines : PySem.W.findIn K (.ref C) "lines" = some (some (.ref f_Build_lines)))
    (i_Build_lines : PySem.W.isFn K (.ref f_Build_lines) = true)
    (d_Build_lines : DefF K "lines" "Build.lines" s_Build_lines f_Build_lines)
    (a_Build_locks : PySem.W.findIn K (.ref C) "locks" = some (some (.ref f_Build_locks)))
    (i_Build_locks : PySem.W.isFn K (.ref f_Build_locks) = true)
    (d_Build_locks : DefF K "locks" "Build.locks" s_Build_locks f_Build_locks)
    (a_Build_frames : PySem.W.findIn K (.ref C) "frames" = some (some (.ref f_Build_frames)))
    (i_Build_frames : PySem.W.isFn K (.ref f_Build_frames) = true)
    (d_Build_frames : DefF K "frames" "Build.frames" s_Build_frames f_Build_frames)
    (a_Build_disk : PySem.W.findIn K (.ref C) "disk" = some (some (.ref f_Build_disk)))
    (i_Build_disk : PySem.W.isFn K (.ref f_Build_disk) = true)
    (d_Build_disk : DefF K "disk" "Build.disk" s_Build_disk f_Build_disk)
    (a_Build_costs : PySem.W.findIn K (.ref C) "costs" = some (some (.ref f_Build_costs)))
    (i_Build_costs : PySem.W.isFn K (.ref f_Build_costs) = true)
    (d_Build_costs : DefF K "costs" "Build.costs" s_Build_costs f_Build_costs)
    (a_Build_outside : PySem.W.findIn K (.ref C) "outside" = some (some (.ref f_Build_outside)))
    (i_Build_outside : PySem.W.isFn K (.ref f_Build_outside) = true)
    (d_Build_outside : DefF K "outside" "Build.outside" s_Build_outside f_Build_outside)
    (a_Build_wipe : PySem.W.findIn K (.ref C) "wipe" = some (some (.ref f_Build_wipe)))
    (i_Build_wipe : PySem.W.isFn K (.ref f_Build_wipe) = true)
    (d_Build_wipe : DefF K "wipe" "Build.wipe" s_Build_wipe f_Build_wipe)
    (a_Build_pad : PySem.W.findIn K (.ref C) "pad" = some (some (.ref f_Build_pad)))
    (i_Build_pad : PySem.W.isFn K (.ref f_Build_pad) = true)
    (d_Build_pad : DefF K "pad" "Build.pad" s_Build_pad f_Build_pad)
    (a_Build_lend : PySem.W.findIn K (.ref C) "lend" = some (some (.ref f_Build_lend)))
    (i_Build_lend : PySem.W.isFn K (.ref f_Build_lend) = true)
    (d_Build_lend : DefF K "lend" "Build.lend" s_Build_lend f_Build_lend)
    (a_Build_share : PySem.W.findIn K (.ref C) "share" = some (some (.ref f_Build_share)))
    (i_Build_share : PySem.W.isFn K (.ref f_Build_share) = true)
    (d_Build_share : DefF K "share" "Build.share" s_Build_share f_Build_share)
    (a_Build_plan : PySem.W.findIn K (.ref C) "plan" = some (some (.ref f_Build_plan)))
    (i_Build_plan : PySem.W.isFn K (.ref f_Build_plan) = true)
    (d_Build_plan : DefF K "plan" "Build.plan" s_Build_plan f_Build_plan)
    (a_Build_sides : PySem.W.findIn K (.ref C) "sides" = some (some (.ref f_Build_sides)))
    (i_Build_sides : PySem.W.isFn K (.ref f_Build_sides) = true)
    (d_Build_sides : DefF K "sides" "Build.sides" s_Build_sides f_Build_sides)
    (a_Build_rights : PySem.W.findIn K (.ref C) "rights" = some (some (.ref f_Build_rights)))
    (i_Build_rights : PySem.W.isFn K (.ref f_Build_rights) = true)
    (d_Build_rights : DefF K "rights" "Build.rights" s_Build_rights f_Build_rights)
    (a_Build___eq__ : PySem.W.findIn K (.ref C) "__eq__" = some (some (.ref f_Build___eq__)))
    (i_Build___eq__ : PySem.W.isFn K (.ref f_Build___eq__) = true)
    (d_Build___eq__ : DefF K "__eq__" "Build.__eq__" s_Build___eq__ f_Build___eq__)
    (a_Rules___init__ : PySem.W.findIn K (.ref CR) "__init__" = some (some (.ref f_Rules___init__)))
    (i_Rules___init__ : PySem.W.isFn K (.ref f_Rules___init__) = true)
    (d_Rules___init__ : DefF K "__init__" "Rules.__init__" s_Rules___init__ f_Rules___init__)
    (a_Rules_set_costs : PySem.W.findIn K (.ref CR) "set_costs" = some (some (.ref f_Rules_set_costs)))
    (i_Rules_set_costs : PySem.W.isFn K (.ref f_Rules_set_costs) = true)
    (d_Rules_set_costs : DefF K "set_costs" "Rules.set_costs" s_Rules_set_costs f_Rules_set_costs)
    (a_Rules_set_frames : PySem.W.findIn K (.ref CR) "set_frames" = some (some (.ref f_Rules_set_frames)))
    (i_Rules_set_frames : PySem.W.isFn K (.ref f_Rules_set_frames) = true)
    (d_Rules_set_frames : DefF K "set_frames" "Rules.set_frames" s_Rules_set_frames f_Rules_set_frames)
    (a_Rules_slot_ticks : PySem.W.findIn K (.ref CR) "slot_ticks" = some (some (.ref f_Rules_slot_ticks)))
    (i_Rules_slot_ticks : PySem.W.isFn K (.ref f_Rules_slot_ticks) = true)
    (d_Rules_slot_ticks : DefF K "slot_ticks" "Rules.slot_ticks" s_Rules_slot_ticks f_Rules_slot_ticks)
    (a_Rules_set_plan : PySem.W.findIn K (.ref CR) "set_plan" = some (some (.ref f_Rules_set_plan)))
    (i_Rules_set_plan : PySem.W.isFn K (.ref f_Rules_set_plan) = true)
    (d_Rules_set_plan : DefF K "set_plan" "Rules.set_plan" s_Rules_set_plan f_Rules_set_plan)
    (a_Rules_set_letters : PySem.W.findIn K (.ref CR) "set_letters" = some (some (.ref f_Rules_set_letters)))
    (i_Rules_set_letters : PySem.W.isFn K (.ref f_Rules_set_letters) = true)
    (d_Rules_set_letters : DefF K "set_letters" "Rules.set_letters" s_Rules_set_letters f_Rules_set_letters)
    (a_Roles___init__ : PySem.W.findIn K (.ref CRo) "__init__" = some (some (.ref f_Roles___init__)))
    (i_Roles___init__ : PySem.W.isFn K (.ref f_Roles___init__) = true)
    (d_Roles___init__ : DefF K "__init__" "Roles.__init__" s_Roles___init__ f_Roles___init__) :
    ∃ fd : FuncData, (∀ (s : Shared) (v : Value), BindsTo s fd ⟨[v], []⟩ [("_law_script", v)]) ∧ ∀ base : Heap, K.In base → base.Ns mainGlobals mg → ShFn l.prog w K mg base 13 fa fd ["_law_script"] (spLaw K) := by
 refine Hk.hold ?_
 simp (disch := with_unfolding_all (
 exact Hk.disch (by
  have e := hfa.symm.trans (PySem.W.mg_of X G a_law)
  cases e
  have B : Bl mg := ⟨PySem.W.mg_none_of X G z_int, PySem.W.mg_none_of X G z_str, PySem.W.mg_none_of X G z_bool, PySem.W.mg_none_of X G z_list, PySem.W.mg_none_of X G z_tuple, PySem.W.mg_none_of X G z_dict, PySem.W.mg_none_of X G z_set, PySem.W.mg_none_of X G z_len, PySem.W.mg_none_of X G z_isinstance, PySem.W.mg_none_of X G z_all, PySem.W.mg_none_of X G z_any, PySem.W.mg_none_of X G z_min, PySem.W.mg_none_of X G z_max, PySem.W.mg_none_of X G z_sorted, PySem.W.mg_none_of X G z_range, PySem.W.mg_none_of X G z_zip⟩
  have cBuild : Cls K C := ⟨pg_Build, hd_Build, po_Build, sa_Build⟩
  have cRules : Cls K CR := ⟨pg_Rules, hd_Rules, po_Rules, sa_Rules⟩
  have cRoles : Cls K CRo := ⟨pg_Roles, hd_Roles, po_Roles, sa_Roles⟩
  have R : RCls K CR := ⟨cRules, fun f hf => by
    simp only [RN, List.mem_cons, List.not_mem_nil, or_false] at hf
    rcases hf with rfl | rfl | rfl | rfl | rfl | rfl | rfl | rfl | rfl | rfl | rfl | rfl | rfl | rfl | rfl | rfl | rfl | rfl | rfl | rfl | rfl | rfl
    · exact nR_task_count
    · exact nR_levels
    · exact nR_side_of
    · exact nR_sizes
    · exact nR_line_of
    · exact nR_places
    · exact nR_counts
    · exact nR_wipes
    · exact nR_pads
    · exact nR_lends
    · exact nR_plain
    · exact nR_miss
    · exact nR_switch
    · exact nR_greatest
    · exact nR_all_frames
    · exact nR_side_frames
    · exact nR_has_slots
    · exact nR_span
    · exact nR_slots
    · exact nR_letter_port
    · exact nR_every
    · exact nR_period⟩
  obtain ⟨⟨oc, od, kV, doc, pm, an, cd, ct, sl, ll, lc⟩, lk⟩ := d_law
  obtain ⟨fdR, FR⟩ := d_Rules___init__.fn
  obtain ⟨fdB, FB⟩ := d_Build___init__.fn
  obtain ⟨fdO, FO⟩ := d_Roles___init__.fn
  have bR : Binds K fdR ["self", "build"] [] := FR.bindsP rfl rfl (by decide +kernel)
  have bO : Binds K fdO ["self", "build", "ones", "eyes", "doors"] [] := FO.bindsP rfl rfl (by decide +kernel)
  have D_is_integer : DefAt K mg "is_integer" s_is_integer ["thing"] := d_is_integer.at X G a_is_integer (fun fd F => F.bindsP rfl rfl (by decide +kernel))
  have D_is_between : DefAt K mg "is_between" s_is_between ["thing", "low", "high"] := d_is_between.at X G a_is_between (fun fd F => F.bindsP rfl rfl (by decide +kernel))
  have D_is_index : DefAt K mg "is_index" s_is_index ["thing", "many"] := d_is_index.at X G a_is_index (fun fd F => F.bindsP rfl rfl (by decide +kernel))
  have D_is_tuple : DefAt K mg "is_tuple" s_is_tuple ["thing", "many"] := d_is_tuple.at X G a_is_tuple (fun fd F => F.bindsP rfl rfl (by decide +kernel))
  have D_is_list : DefAt K mg "is_list" s_is_list ["thing", "low", "high"] := d_is_list.at X G a_is_list (fun fd F => F.bindsP rfl rfl (by decide +kernel))
  have D_is_ascending : DefAt K mg "is_ascending" s_is_ascending ["items"] := d_is_ascending.at X G a_is_ascending (fun fd F => F.bindsP rfl rfl (by decide +kernel))
  have D_counted : DefAt K mg "counted" s_counted ["tasks", "pages", "ports", "locks", "disk"] := d_counted.at X G a_counted (fun fd F => F.bindsP rfl rfl (by decide +kernel))
  have D_word_of : DefAt K mg "word_of" s_word_of ["thing"] := d_word_of.at X G a_word_of (fun fd F => F.bindsP rfl rfl (by decide +kernel))
  have D_is_formed : DefAt K mg "is_formed" s_is_formed ["counts", "kinds", "thing"] := d_is_formed.at X G a_is_formed (fun fd F => F.bindsP rfl rfl (by decide +kernel))
  have D_is_of_kind : DefAt K mg "is_of_kind" s_is_of_kind ["counts", "kind", "item"] := d_is_of_kind.at X G a_is_of_kind (fun fd F => F.bindsP rfl rfl (by decide +kernel))
  have D_is_right : DefAt K mg "is_right" s_is_right ["counts", "thing"] := d_is_right.at X G a_is_right (fun fd F => F.bindsP rfl rfl (by decide +kernel))
  have D_fit_as_numbers : DefAt K mg "fit_as_numbers" s_fit_as_numbers ["numbers", "most", "low", "high"] := d_fit_as_numbers.at X G a_fit_as_numbers (fun fd F => F.bindsP rfl rfl (by decide +kernel))
  have D_fit_as_row : DefAt K mg "fit_as_row" s_fit_as_row ["counts", "row"] := d_fit_as_row.at X G a_fit_as_row (fun fd F => F.bindsP rfl rfl (by decide +kernel))
  have D_fit_as_rights : DefAt K mg "fit_as_rights" s_fit_as_rights ["counts", "rights"] := d_fit_as_rights.at X G a_fit_as_rights (fun fd F => F.bindsP rfl rfl (by decide +kernel))
  have D_fit_as_lines : DefAt K mg "fit_as_lines" s_fit_as_lines ["counts", "lines"] := d_fit_as_lines.at X G a_fit_as_lines (fun fd F => F.bindsP rfl rfl (by decide +kernel))
  have D_fit_as_costs : DefAt K mg "fit_as_costs" s_fit_as_costs ["costs"] := d_fit_as_costs.at X G a_fit_as_costs (fun fd F => F.bindsP rfl rfl (by decide +kernel))
  have D_fits_as_slot : DefAt K mg "fits_as_slot" s_fits_as_slot ["counts", "row"] := d_fits_as_slot.at X G a_fits_as_slot (fun fd F => F.bindsP rfl rfl (by decide +kernel))
  have D_fits_as_outside : DefAt K mg "fits_as_outside" s_fits_as_outside ["counts", "outside"] := d_fits_as_outside.at X G a_fits_as_outside (fun fd F => F.bindsP rfl rfl (by decide +kernel))
  have D_fit_as_plan : DefAt K mg "fit_as_plan" s_fit_as_plan ["counts", "plan"] := d_fit_as_plan.at X G a_fit_as_plan (fun fd F => F.bindsP rfl rfl (by decide +kernel))
  have D_fit_as_tasks : DefAt K mg "fit_as_tasks" s_fit_as_tasks ["tasks"] := d_fit_as_tasks.at X G a_fit_as_tasks (fun fd F => F.bindsP rfl rfl (by decide +kernel))
  have D_things_fault : DefAt K mg "things_fault" s_things_fault ["tasks", "pages", "ports", "locks", "frames", "disk"] := d_things_fault.at X G a_things_fault (fun fd F => F.bindsP rfl rfl (by decide +kernel))
  have D_ways_fault : DefAt K mg "ways_fault" s_ways_fault ["counts", "rights", "lines", "costs", "plan", "outside"] := d_ways_fault.at X G a_ways_fault (fun fd F => F.bindsP rfl rfl (by decide +kernel))
  have D_flags_fault : DefAt K mg "flags_fault" s_flags_fault ["flags"] := d_flags_fault.at X G a_flags_fault (fun fd F => F.bindsP rfl rfl (by decide +kernel))
  have D_are_sides : DefAt K mg "are_sides" s_are_sides ["sides", "thing"] := d_are_sides.at X G a_are_sides (fun fd F => F.bindsP rfl rfl (by decide +kernel))
  have D_are_cures : DefAt K mg "are_cures" s_are_cures ["names"] := d_are_cures.at X G a_are_cures (fun fd F => F.bindsP rfl rfl (by decide +kernel))
  have D_check_ones : DefAt K mg "check_ones" s_check_ones ["build", "ones"] := d_check_ones.at X G a_check_ones (fun fd F => F.bindsP rfl rfl (by decide +kernel))
  have D_eyes_of : DefAt K mg "eyes_of" s_eyes_of ["build", "ones", "eyes"] := d_eyes_of.at X G a_eyes_of (fun fd F => F.bindsP rfl rfl (by decide +kernel))
  have D_roles_of : DefAt K mg "roles_of" s_roles_of ["build", "ones", "eyes"] := d_roles_of.at X G a_roles_of (fun fd F => F.bindsP rfl rfl (by decide +kernel))
  have D_rules_over : DefAt K mg "rules_over" s_rules_over ["right", "tasks"] := d_rules_over.at X G a_rules_over (fun fd F => F.bindsP rfl rfl (by decide +kernel))
  have D_reaches : DefAt K mg "reaches" s_reaches ["right", "theirs", "port", "others"] := d_reaches.at X G a_reaches (fun fd F => F.bindsP rfl rfl (by decide +kernel))
  have D_cut_rights : DefAt K mg "cut_rights" s_cut_rights ["build", "roles"] := d_cut_rights.at X G a_cut_rights (fun fd F => F.bindsP rfl rfl (by decide +kernel))
  have D_cured_rights : DefAt K mg "cured_rights" s_cured_rights ["build", "roles", "names"] := d_cured_rights.at X G a_cured_rights (fun fd F => F.bindsP rfl rfl (by decide +kernel))
  have D_slots_for : DefAt K mg "slots_for" s_slots_for ["build"] := d_slots_for.at X G a_slots_for (fun fd F => F.bindsP rfl rfl (by decide +kernel))
  have D_cured : DefAt K mg "cured" s_cured ["build", "ones", "names"] := d_cured.at X G a_cured (fun fd F => F.bindsP rfl rfl (by decide +kernel))
  have D__law_pool : DefAt K mg "_law_pool" s__law_pool ["_law_script"] := d__law_pool.at X G a__law_pool (fun fd F => F.bindsP rfl rfl (by decide +kernel))
  have D__law_refill : DefAt K mg "_law_refill" s__law_refill ["_law_pool_here"] := d__law_refill.at X G a__law_refill (fun fd F => F.bindsP rfl rfl (by decide +kernel))
  have D__law_draw : DefAt K mg "_law_draw" s__law_draw ["_law_pool_here", "_law_many"] := d__law_draw.at X G a__law_draw (fun fd F => F.bindsP rfl rfl (by decide +kernel))
  have D__law_menu : DefAt K mg "_law_menu" s__law_menu ["_law_w"] := d__law_menu.at X G a__law_menu (fun fd F => F.bindsP rfl rfl (by decide +kernel))
  have D__law_rights : DefAt K mg "_law_rights" s__law_rights ["_law_pool_here", "_law_menu_here"] := d__law_rights.at X G a__law_rights (fun fd F => F.bindsP rfl rfl (by decide +kernel))
  have D__law_tasks : DefAt K mg "_law_tasks" s__law_tasks ["_law_pool_here", "_law_many"] := d__law_tasks.at X G a__law_tasks (fun fd F => F.bindsP rfl rfl (by decide +kernel))
  have D__law_plan : DefAt K mg "_law_plan" s__law_plan ["_law_pool_here", "_law_w"] := d__law_plan.at X G a__law_plan (fun fd F => F.bindsP rfl rfl (by decide +kernel))
  have D__law_finish : DefAt K mg "_law_finish" s__law_finish ["_law_w"] := d__law_finish.at X G a__law_finish (fun fd F => F.bindsP rfl rfl (by decide +kernel))
  have D__law_world : DefAt K mg "_law_world" s__law_world ["_law_pool_here"] := d__law_world.at X G a__law_world (fun fd F => F.bindsP rfl rfl (by decide +kernel))
  have D__law_build : DefAt K mg "_law_build" s__law_build ["_law_w"] := d__law_build.at X G a__law_build (fun fd F => F.bindsP rfl rfl (by decide +kernel))
  have D__law_sides : DefAt K mg "_law_sides" s__law_sides ["_law_w"] := d__law_sides.at X G a__law_sides (fun fd F => F.bindsP rfl rfl (by decide +kernel))
  have D__law_tellers : DefAt K mg "_law_tellers" s__law_tellers ["_law_pool_here", "_law_w"] := d__law_tellers.at X G a__law_tellers (fun fd F => F.bindsP rfl rfl (by decide +kernel))
  have D__law_facts : DefAt K mg "_law_facts" s__law_facts ["_law_build_here"] := d__law_facts.at X G a__law_facts (fun fd F => F.bindsP rfl rfl (by decide +kernel))
  have D__law_due : DefAt K mg "_law_due" s__law_due ["_law_w"] := d__law_due.at X G a__law_due (fun fd F => F.bindsP rfl rfl (by decide +kernel))
  have D__law_is : DefAt K mg "_law_is" s__law_is ["_law_build_here", "_law_w"] := d__law_is.at X G a__law_is (fun fd F => F.bindsP rfl rfl (by decide +kernel))
  have D__law_stays : DefAt K mg "_law_stays" s__law_stays ["_law_w", "_law_tellers_here", "_law_task"] := d__law_stays.at X G a__law_stays (fun fd F => F.bindsP rfl rfl (by decide +kernel))
  have D__law_cured : DefAt K mg "_law_cured" s__law_cured ["_law_w", "_law_tellers_here", "_law_names"] := d__law_cured.at X G a__law_cured (fun fd F => F.bindsP rfl rfl (by decide +kernel))
  have M_Build_tasks : MethAt K C "tasks" "Build.tasks" s_Build_tasks ["self"] := d_Build_tasks.meth cBuild a_Build_tasks i_Build_tasks (fun fd F => F.bindsP rfl rfl (by decide +kernel))
  have M_Build_pages : MethAt K C "pages" "Build.pages" s_Build_pages ["self"] := d_Build_pages.meth cBuild a_Build_pages i_Build_pages (fun fd F => F.bindsP rfl rfl (by decide +kernel))
  have M_Build_ports : MethAt K C "ports" "Build.ports" s_Build_ports ["self"] := d_Build_ports.meth cBuild a_Build_ports i_Build_ports (fun fd F => F.bindsP rfl rfl (by decide +kernel))
  have M_Build_lines : MethAt K C "lines" "Build.lines" s_Build_lines ["self"] := d_Build_lines.meth cBuild a_Build_lines i_Build_lines (fun fd F => F.bindsP rfl rfl (by decide +kernel))
  have M_Build_locks : MethAt K C "locks" "Build.locks" s_Build_locks ["self"] := d_Build_locks.meth cBuild a_Build_locks i_Build_locks (fun fd F => F.bindsP rfl rfl (by decide +kernel))
  have M_Build_frames : MethAt K C "frames" "Build.frames" s_Build_frames ["self"] := d_Build_frames.meth cBuild a_Build_frames i_Build_frames (fun fd F => F.bindsP rfl rfl (by decide +kernel))
  have M_Build_disk : MethAt K C "disk" "Build.disk" s_Build_disk ["self"] := d_Build_disk.meth cBuild a_Build_disk i_Build_disk (fun fd F => F.bindsP rfl rfl (by decide +kernel))
  have M_Build_costs : MethAt K C "costs" "Build.costs" s_Build_costs ["self"] := d_Build_costs.meth cBuild a_Build_costs i_Build_costs (fun fd F => F.bindsP rfl rfl (by decide +kernel))
  have M_Build_outside : MethAt K C "outside" "Build.outside" s_Build_outside ["self"] := d_Build_outside.meth cBuild a_Build_outside i_Build_outside (fun fd F => F.bindsP rfl rfl (by decide +kernel))
  have M_Build_wipe : MethAt K C "wipe" "Build.wipe" s_Build_wipe ["self"] := d_Build_wipe.meth cBuild a_Build_wipe i_Build_wipe (fun fd F => F.bindsP rfl rfl (by decide +kernel))
  have M_Build_pad : MethAt K C "pad" "Build.pad" s_Build_pad ["self"] := d_Build_pad.meth cBuild a_Build_pad i_Build_pad (fun fd F => F.bindsP rfl rfl (by decide +kernel))
  have M_Build_lend : MethAt K C "lend" "Build.lend" s_Build_lend ["self"] := d_Build_lend.meth cBuild a_Build_lend i_Build_lend (fun fd F => F.bindsP rfl rfl (by decide +kernel))
  have M_Build_share : MethAt K C "share" "Build.share" s_Build_share ["self"] := d_Build_share.meth cBuild a_Build_share i_Build_share (fun fd F => F.bindsP rfl rfl (by decide +kernel))
  have M_Build_plan : MethAt K C "plan" "Build.plan" s_Build_plan ["self"] := d_Build_plan.meth cBuild a_Build_plan i_Build_plan (fun fd F => F.bindsP rfl rfl (by decide +kernel))
  have M_Build_sides : MethAt K C "sides" "Build.sides" s_Build_sides ["self"] := d_Build_sides.meth cBuild a_Build_sides i_Build_sides (fun fd F => F.bindsP rfl rfl (by decide +kernel))
  have M_Build_rights : MethAt K C "rights" "Build.rights" s_Build_rights ["self"] := d_Build_rights.meth cBuild a_Build_rights i_Build_rights (fun fd F => F.bindsP rfl rfl (by decide +kernel))
  have M_Build___eq__ : MethAt K C "__eq__" "Build.__eq__" s_Build___eq__ ["self", "other"] := d_Build___eq__.meth cBuild a_Build___eq__ i_Build___eq__ (fun fd F => F.bindsP rfl rfl (by decide +kernel))
  have M_Rules_set_costs : MethAt K CR "set_costs" "Rules.set_costs" s_Rules_set_costs ["self", "costs"] := d_Rules_set_costs.meth cRules a_Rules_set_costs i_Rules_set_costs (fun fd F => F.bindsP rfl rfl (by decide +kernel))
  have M_Rules_set_frames : MethAt K CR "set_frames" "Rules.set_frames" s_Rules_set_frames ["self", "build"] := d_Rules_set_frames.meth cRules a_Rules_set_frames i_Rules_set_frames (fun fd F => F.bindsP rfl rfl (by decide +kernel))
  have M_Rules_slot_ticks : MethAt K CR "slot_ticks" "Rules.slot_ticks" s_Rules_slot_ticks ["self", "rows"] := d_Rules_slot_ticks.meth cRules a_Rules_slot_ticks i_Rules_slot_ticks (fun fd F => F.bindsP rfl rfl (by decide +kernel))
  have M_Rules_set_plan : MethAt K CR "set_plan" "Rules.set_plan" s_Rules_set_plan ["self", "plan"] := d_Rules_set_plan.meth cRules a_Rules_set_plan i_Rules_set_plan (fun fd F => F.bindsP rfl rfl (by decide +kernel))
  have M_Rules_set_letters : MethAt K CR "set_letters" "Rules.set_letters" s_Rules_set_letters ["self", "outside"] := d_Rules_set_letters.meth cRules a_Rules_set_letters i_Rules_set_letters (fun fd F => F.bindsP rfl rfl (by decide +kernel))
  refine ⟨PySem.W.fnOf "law" "law" (defArgs s_law) (defBody s_law) (defScope s_law) .none kV doc pm an cd ct, fun s v => .of_eq rfl, fun base _ _ => ?_⟩
  exact all_ok (P := l.prog) (w := w) (base := base) B (PySem.W.mg_none_of X G z_sum) (PySem.W.mg_none_of X G z_repr) (PySem.W.mg_none_of X G z_enumerate) ⟨(PySem.W.mg_of X G a_lcm)⟩ ⟨cBuild, nB__parts, nB_rules⟩ R ⟨cRoles, nO_ones, nO_eyes, nO_thirds, nO_doors⟩ ⟨(PySem.W.mg_of X G a_RF), RFF⟩ (PySem.W.mg_of X G a_CURES) CUR (PySem.W.mg_of X G a_SEEK) (fun H => .tup (SEK H) (.cons (.str _) (.cons (.int _) .nil))) ⟨cBuild, gc_Build, hn, ht, mo_Build, if_pos (beq_self_eq_true _)⟩ ⟨_, (PySem.W.mg_of X G n_LONGEST)⟩ D_is_integer D_is_between D_is_index D_is_tuple D_is_list D_is_ascending D_counted D_word_of D_is_formed D_is_of_kind D_is_right D_fit_as_numbers D_fit_as_row D_fit_as_rights D_fit_as_lines D_fit_as_costs D_fits_as_slot D_fits_as_outside D_fit_as_plan D_fit_as_tasks D_things_fault D_ways_fault D_flags_fault D_are_sides D_are_cures D_check_ones D_eyes_of D_roles_of D_rules_over D_reaches D_cut_rights D_cured_rights D_slots_for D_cured D__law_pool D__law_refill D__law_draw D__law_menu D__law_rights D__law_tasks D__law_plan D__law_finish D__law_world D__law_build D__law_sides D__law_tellers D__law_facts D__law_due D__law_is D__law_stays D__law_cured M_Build_tasks M_Build_pages M_Build_ports M_Build_lines M_Build_locks M_Build_frames M_Build_disk M_Build_costs M_Build_outside M_Build_wipe M_Build_pad M_Build_lend M_Build_share M_Build_plan M_Build_sides M_Build_rights M_Build___eq__ M_Rules_set_costs M_Rules_set_frames M_Rules_slot_ticks M_Rules_set_plan M_Rules_set_letters (PySem.W.mg_of X G a_Rules) ⟨mk_Rules, a_Rules___init__, i_Rules___init__, kc_Rules⟩ FR bR (PySem.W.mg_of X G a_Roles) ⟨mk_Roles, a_Roles___init__, i_Roles___init__, kc_Roles⟩ FO bO (PySem.W.mg_of X G a_Build) ⟨mk_Build, a_Build___init__, i_Build___init__, kc_Build⟩ FB (build_binds fdB FB) _ _ (fun_mk (st := s_law) ll lc lk)))) only [↓Hk.hold_s]
theorem walk {l : PySem.W.OpenLaw} {q : Program} {loose : List Str} {XP : (Str → Option Value) → Heap → Prop} {YP : World → Heap → Prop} {d : DefRec} {K : Params → PySem.W.Frag} (hn : l.most = some 63) (hdf : d.params.defaults = [])
    (hY : ∀ (w : World) (h : Heap), YP w h → (K w.params).In h)
    (F : ∀ (w : World) (mg : Str → Option Value) (fa : Addr) (h : Heap), (K w.params).In h → h.Ns mainGlobals mg → mg d.name = some (.ref fa) →
      ∃ fd : FuncData, (∀ (s : Shared) (u : Value), BindsTo s fd ⟨[u], []⟩ [("_law_script", u)]) ∧ ∀ base : Heap, (K w.params).In base → base.Ns mainGlobals mg → ShFn l.prog w (K w.params) mg base 13 fa fd ["_law_script"] (spLaw (K w.params))) :
    PySem.W.WalkO q loose XP YP l.row.toRowW d [] (fun f vs => PySem.call f vs) :=
  shWalk (n := 63) (k := 13) (x := "_law_script") (sp := fun w => spLaw (K w.params)) hn (by decide) hdf ⟨rfl, by decide, by decide⟩ hY F fun _ _ c ns hl hS => ⟨c, ns, rfl, hS, hl, fun _ => rfl⟩
end T
def PySem.W.Fast.tw1308838070954087424 : Unit := ()
def PySem.W.Fast.tw16007807249149691938 : Unit := ()
def PySem.W.Fast.tw584686840718814562 : Unit := ()
def PySem.W.Fast.tw10729237720170298691 : Unit := ()
def PySem.W.Fast.tw11640725010242142691 : Unit := ()
def PySem.W.Fast.tw2415657936745126595 : Unit := ()
def PySem.W.Fast.tw9589175275837576035 : Unit := ()
def PySem.W.Fast.tw16791891861098406883 : Unit := ()
def PySem.W.Fast.tw9733661733824377284 : Unit := ()
def PySem.W.Fast.tw12311011539181863653 : Unit := ()
def PySem.W.Fast.tw18084717336207654374 : Unit := ()
def PySem.W.Fast.tw4495544066008947558 : Unit := ()
def PySem.W.Fast.tw10263377261789236135 : Unit := ()
def PySem.W.Fast.tw9563374071383957800 : Unit := ()
def PySem.W.Fast.tw13297579529516210025 : Unit := ()
def PySem.W.Fast.tw4143876832770478985 : Unit := ()
def PySem.W.Fast.tw10232062452884828363 : Unit := ()
def PySem.W.Fast.tw2317073932313195819 : Unit := ()
def PySem.W.Fast.tw5610879994076483467 : Unit := ()
def PySem.W.Fast.tw9661517265947570220 : Unit := ()
def PySem.W.Fast.tw3196964264284301964 : Unit := ()
def PySem.W.Fast.tw2687638121512410222 : Unit := ()
def PySem.W.Fast.tw8645419219050160750 : Unit := ()
def PySem.W.Fast.tw10394574194813699343 : Unit := ()
def PySem.W.Fast.tw3921552117181470960 : Unit := ()
def PySem.W.Fast.tw3964105476413323920 : Unit := ()
def PySem.W.Fast.tw17111618844033536784 : Unit := ()
def PySem.W.Fast.tw17319997895086561553 : Unit := ()
def PySem.W.Fast.tw9997859072442880625 : Unit := ()
def PySem.W.Fast.tw10892846408441029457 : Unit := ()
def PySem.W.Fast.tw1052650745902227315 : Unit := ()
def PySem.W.Fast.tw17661062827089295251 : Unit := ()
def PySem.W.Fast.tw6742374390663643092 : Unit := ()
def PySem.W.Fast.tw6425022232417486197 : Unit := ()
def PySem.W.Fast.tw2136169027385628085 : Unit := ()
def PySem.W.Fast.tw11983948490097469174 : Unit := ()
def PySem.W.Fast.tw15122714053032484790 : Unit := ()
def PySem.W.Fast.tw5512006375986295224 : Unit := ()
def PySem.W.Fast.tw10827704399211273721 : Unit := ()
def PySem.W.Fast.tw8993617339869300409 : Unit := ()
def PySem.W.Fast.tw17403847516939504409 : Unit := ()
def PySem.W.Fast.tw4565553166765727002 : Unit := ()
def PySem.W.Fast.tw17304680262352449274 : Unit := ()
def PySem.W.Fast.tw14552528062800988827 : Unit := ()
def PySem.W.Fast.tw14277155069735711453 : Unit := ()
def PySem.W.Fast.tw293693522460413693 : Unit := ()
def PySem.W.Fast.tw15689389690060629182 : Unit := ()
def PySem.W.Fast.tw4201937696482046462 : Unit := ()
def PySem.W.Fast.tw3255361579436467583 : Unit := ()

open PySem PySem.W PyProof.Rows
set_option maxRecDepth 100000 in
set_option maxHeartbeats 0 in
theorem PySem.Challenge.cw_hushkernel_k64_cures_together_holds : PySem.Challenge.rw_hushkernel_k64_cures_together.Holds := by
  w_on; o_law; k_head; (case hw => w_witness2)
  k_fill
  refine T.walk (l := PySem.Challenge.rw_hushkernel_k64_cures_together) rfl rfl (fun w h Y => PySem.W.kIn_of Y) ?F
  case F =>
    intro w mg fa h KX G hmg
    refine' T.all_mk KX G hmg ?z_int ?z_str ?z_bool ?z_list ?z_tuple ?z_dict ?z_set ?z_len ?z_isinstance ?z_all ?z_any ?z_min ?z_max ?z_sorted ?z_range ?z_zip ?z_sum ?z_repr ?z_enumerate ?a_lcm ?a_RF ?RFF ?a_CURES ?CUR ?n_LONGEST ?a_SEEK ?SEK ?a_Build ?pg_Build ?hd_Build ?po_Build ?sa_Build ?mk_Build ?kc_Build ?a_Rules ?pg_Rules ?hd_Rules ?po_Rules ?sa_Rules ?mk_Rules ?kc_Rules ?a_Roles ?pg_Roles ?hd_Roles ?po_Roles ?sa_Roles ?mk_Roles ?kc_Roles ?hn ?ht ?gc_Build ?mo_Build ?nB__parts ?nB_rules ?nR_task_count ?nR_levels ?nR_side_of ?nR_sizes ?nR_line_of ?nR_places ?nR_counts ?nR_wipes ?nR_pads ?nR_lends ?nR_plain ?nR_miss ?nR_switch ?nR_greatest ?nR_all_frames ?nR_side_frames ?nR_has_slots ?nR_span ?nR_slots ?nR_letter_port ?nR_every ?nR_period ?nO_ones ?nO_eyes ?nO_thirds ?nO_doors ?a_is_integer ?d_is_integer ?a_is_between ?d_is_between ?a_is_index ?d_is_index ?a_is_tuple ?d_is_tuple ?a_is_list ?d_is_list ?a_is_ascending ?d_is_ascending ?a_counted ?d_counted ?a_word_of ?d_word_of ?a_is_formed ?d_is_formed ?a_is_of_kind ?d_is_of_kind ?a_is_right ?d_is_right ?a_fit_as_numbers ?d_fit_as_numbers ?a_fit_as_row ?d_fit_as_row ?a_fit_as_rights ?d_fit_as_rights ?a_fit_as_lines ?d_fit_as_lines ?a_fit_as_costs ?d_fit_as_costs ?a_fits_as_slot ?d_fits_as_slot ?a_fits_as_outside ?d_fits_as_outside ?a_fit_as_plan ?d_fit_as_plan ?a_fit_as_tasks ?d_fit_as_tasks ?a_things_fault ?d_things_fault ?a_ways_fault ?d_ways_fault ?a_flags_fault ?d_flags_fault ?a_are_sides ?d_are_sides ?a_are_cures ?d_are_cures ?a_check_ones ?d_check_ones ?a_eyes_of ?d_eyes_of ?a_roles_of ?d_roles_of ?a_rules_over ?d_rules_over ?a_reaches ?d_reaches ?a_cut_rights ?d_cut_rights ?a_cured_rights ?d_cured_rights ?a_slots_for ?d_slots_for ?a_cured ?d_cured ?a__law_pool ?d__law_pool ?a__law_refill ?d__law_refill ?a__law_draw ?d__law_draw ?a__law_menu ?d__law_menu ?a__law_rights ?d__law_rights ?a__law_tasks ?d__law_tasks ?a__law_plan ?d__law_plan ?a__law_finish ?d__law_finish ?a__law_world ?d__law_world ?a__law_build ?d__law_build ?a__law_sides ?d__law_sides ?a__law_tellers ?d__law_tellers ?a__law_facts ?d__law_facts ?a__law_due ?d__law_due ?a__law_is ?d__law_is ?a__law_stays ?d__law_stays ?a__law_cured ?d__law_cured ?a_law ?d_law ?a_Build___init__ ?i_Build___init__ ?d_Build___init__ ?a_Build_tasks ?i_Build_tasks ?d_Build_tasks ?a_Build_pages ?i_Build_pages ?d_Build_pages ?a_Build_ports ?i_Build_ports ?d_Build_ports ?a_Build_lines ?i_Build_lines ?d_Build_lines ?a_Build_locks ?i_Build_locks ?d_Build_locks ?a_Build_frames ?i_Build_frames ?d_Build_frames ?a_Build_disk ?i_Build_disk ?d_Build_disk ?a_Build_costs ?i_Build_costs ?d_Build_costs ?a_Build_outside ?i_Build_outside ?d_Build_outside ?a_Build_wipe ?i_Build_wipe ?d_Build_wipe ?a_Build_pad ?i_Build_pad ?d_Build_pad ?a_Build_lend ?i_Build_lend ?d_Build_lend ?a_Build_share ?i_Build_share ?d_Build_share ?a_Build_plan ?i_Build_plan ?d_Build_plan ?a_Build_sides ?i_Build_sides ?d_Build_sides ?a_Build_rights ?i_Build_rights ?d_Build_rights ?a_Build___eq__ ?i_Build___eq__ ?d_Build___eq__ ?a_Rules___init__ ?i_Rules___init__ ?d_Rules___init__ ?a_Rules_set_costs ?i_Rules_set_costs ?d_Rules_set_costs ?a_Rules_set_frames ?i_Rules_set_frames ?d_Rules_set_frames ?a_Rules_slot_ticks ?i_Rules_slot_ticks ?d_Rules_slot_ticks ?a_Rules_set_plan ?i_Rules_set_plan ?d_Rules_set_plan ?a_Rules_set_letters ?i_Rules_set_letters ?d_Rules_set_letters ?a_Roles___init__ ?i_Roles___init__ ?d_Roles___init__
    (case z_int => k_is)
    (case z_str => k_is)
    (case z_bool => k_is)
    (case z_list => k_is)
    (case z_tuple => k_is)
    (case z_dict => k_is)
    (case z_set => k_is)
    (case z_len => k_is)
    (case z_isinstance => k_is)
    (case z_all => k_is)
    (case z_any => k_is)
    (case z_min => k_is)
    (case z_max => k_is)
    (case z_sorted => k_is)
    (case z_range => k_is)
    (case z_zip => k_is)
    (case z_sum => k_is)
    (case z_repr => k_is)
    (case z_enumerate => k_is)
    (case a_lcm => k_is)
    (case a_RF => k_is)
    (case RFF =>
      refine' T.forms_mk ?ffA ?ffB ?ffC ?ffD
      (case ffA => rfl)
      (case ffC => rfl)
      (case ffB => exact ⟨⟨_, _, rfl, rfl⟩, ⟨_, _, rfl, rfl⟩, ⟨_, _, rfl, rfl⟩, ⟨_, _, rfl, rfl⟩, ⟨_, _, rfl, rfl⟩, ⟨_, _, rfl, rfl⟩, ⟨_, _, rfl, rfl⟩, ⟨_, _, rfl, rfl⟩, trivial⟩)
      (case ffD => exact Paired.cons ⟨_, _, rfl, rfl, T.tupK (K := _) rfl rfl (show (1 : Nat) ≤ 100 by decide) (.cons ⟨_, rfl⟩ .nil)⟩ (Paired.cons ⟨_, _, rfl, rfl, T.tupK (K := _) rfl rfl (show (1 : Nat) ≤ 100 by decide) (.cons ⟨_, rfl⟩ .nil)⟩ (Paired.cons ⟨_, _, rfl, rfl, T.tupK (K := _) rfl rfl (show (1 : Nat) ≤ 100 by decide) (.cons ⟨_, rfl⟩ .nil)⟩ (Paired.cons ⟨_, _, rfl, rfl, T.tupK (K := _) rfl rfl (show (1 : Nat) ≤ 100 by decide) (.cons ⟨_, rfl⟩ .nil)⟩ (Paired.cons ⟨_, _, rfl, rfl, T.tupK (K := _) rfl rfl (show (1 : Nat) ≤ 100 by decide) (.cons ⟨_, rfl⟩ .nil)⟩ (Paired.cons ⟨_, _, rfl, rfl, T.tupK (K := _) rfl rfl (show (1 : Nat) ≤ 100 by decide) (.cons ⟨_, rfl⟩ .nil)⟩ (Paired.cons ⟨_, _, rfl, rfl, T.tupK (K := _) rfl rfl (show (1 : Nat) ≤ 100 by decide) (.cons ⟨_, rfl⟩ .nil)⟩ (Paired.cons ⟨_, _, rfl, rfl, T.tupK (K := _) rfl rfl (show (1 : Nat) ≤ 100 by decide) (.cons ⟨_, rfl⟩ .nil)⟩ (.nil))))))))))
    (case a_CURES => k_is)
    (case CUR => exact T.tupK (K := _) rfl rfl (show (7 : Nat) ≤ 100 by decide) (.cons ⟨_, rfl⟩ (.cons ⟨_, rfl⟩ (.cons ⟨_, rfl⟩ (.cons ⟨_, rfl⟩ (.cons ⟨_, rfl⟩ (.cons ⟨_, rfl⟩ (.cons ⟨_, rfl⟩ .nil))))))))
    (case n_LONGEST => k_is)
    (case a_SEEK => k_is)
    (case SEK => exact T.tupK (K := _) rfl rfl (show (2 : Nat) ≤ 100 by decide) (.cons ⟨_, rfl⟩ (.cons ⟨_, rfl⟩ .nil)))
    (case a_Build => k_is)
    (case pg_Build => k_is)
    (case hd_Build => k_is)
    (case po_Build => k_is)
    (case sa_Build => k_is)
    (case mk_Build => k_is)
    (case kc_Build => k_is)
    (case a_Rules => k_is)
    (case pg_Rules => k_is)
    (case hd_Rules => k_is)
    (case po_Rules => k_is)
    (case sa_Rules => k_is)
    (case mk_Rules => k_is)
    (case kc_Rules => k_is)
    (case a_Roles => k_is)
    (case pg_Roles => k_is)
    (case hd_Roles => k_is)
    (case po_Roles => k_is)
    (case sa_Roles => k_is)
    (case mk_Roles => k_is)
    (case kc_Roles => k_is)
    (case hn => k_is)
    (case ht => k_is)
    (case gc_Build => k_is)
    (case mo_Build => k_is)
    (case nB__parts => k_is)
    (case nB_rules => k_is)
    (case nR_task_count => k_is)
    (case nR_levels => k_is)
    (case nR_side_of => k_is)
    (case nR_sizes => k_is)
    (case nR_line_of => k_is)
    (case nR_places => k_is)
    (case nR_counts => k_is)
    (case nR_wipes => k_is)
    (case nR_pads => k_is)
    (case nR_lends => k_is)
    (case nR_plain => k_is)
    (case nR_miss => k_is)
    (case nR_switch => k_is)
    (case nR_greatest => k_is)
    (case nR_all_frames => k_is)
    (case nR_side_frames => k_is)
    (case nR_has_slots => k_is)
    (case nR_span => k_is)
    (case nR_slots => k_is)
    (case nR_letter_port => k_is)
    (case nR_every => k_is)
    (case nR_period => k_is)
    (case nO_ones => k_is)
    (case nO_eyes => k_is)
    (case nO_thirds => k_is)
    (case nO_doors => k_is)
    (case a_is_integer => k_is)
    (case d_is_integer => refine' T.DefF.mk' ?l ?c ?k; (case l => k_is); (case c => k_is); (case k => k_is))
    (case a_is_between => k_is)
    (case d_is_between => refine' T.DefF.mk' ?l ?c ?k; (case l => k_is); (case c => k_is); (case k => k_is))
    (case a_is_index => k_is)
    (case d_is_index => refine' T.DefF.mk' ?l ?c ?k; (case l => k_is); (case c => k_is); (case k => k_is))
    (case a_is_tuple => k_is)
    (case d_is_tuple => refine' T.DefF.mk' ?l ?c ?k; (case l => k_is); (case c => k_is); (case k => k_is))
    (case a_is_list => k_is)
    (case d_is_list => refine' T.DefF.mk' ?l ?c ?k; (case l => k_is); (case c => k_is); (case k => k_is))
    (case a_is_ascending => k_is)
    (case d_is_ascending => refine' T.DefF.mk' ?l ?c ?k; (case l => k_is); (case c => k_is); (case k => k_is))
    (case a_counted => k_is)
    (case d_counted => refine' T.DefF.mk' ?l ?c ?k; (case l => k_is); (case c => k_is); (case k => k_is))
    (case a_word_of => k_is)
    (case d_word_of => refine' T.DefF.mk' ?l ?c ?k; (case l => k_is); (case c => k_is); (case k => k_is))
    (case a_is_formed => k_is)
    (case d_is_formed => refine' T.DefF.mk' ?l ?c ?k; (case l => k_is); (case c => k_is); (case k => k_is))
    (case a_is_of_kind => k_is)
    (case d_is_of_kind => refine' T.DefF.mk' ?l ?c ?k; (case l => k_is); (case c => k_is); (case k => k_is))
    (case a_is_right => k_is)
    (case d_is_right => refine' T.DefF.mk' ?l ?c ?k; (case l => k_is); (case c => k_is); (case k => k_is))
    (case a_fit_as_numbers => k_is)
    (case d_fit_as_numbers => refine' T.DefF.mk' ?l ?c ?k; (case l => k_is); (case c => k_is); (case k => k_is))
    (case a_fit_as_row => k_is)
    (case d_fit_as_row => refine' T.DefF.mk' ?l ?c ?k; (case l => k_is); (case c => k_is); (case k => k_is))
    (case a_fit_as_rights => k_is)
    (case d_fit_as_rights => refine' T.DefF.mk' ?l ?c ?k; (case l => k_is); (case c => k_is); (case k => k_is))
    (case a_fit_as_lines => k_is)
    (case d_fit_as_lines => refine' T.DefF.mk' ?l ?c ?k; (case l => k_is); (case c => k_is); (case k => k_is))
    (case a_fit_as_costs => k_is)
    (case d_fit_as_costs => refine' T.DefF.mk' ?l ?c ?k; (case l => k_is); (case c => k_is); (case k => k_is))
    (case a_fits_as_slot => k_is)
    (case d_fits_as_slot => refine' T.DefF.mk' ?l ?c ?k; (case l => k_is); (case c => k_is); (case k => k_is))
    (case a_fits_as_outside => k_is)
    (case d_fits_as_outside => refine' T.DefF.mk' ?l ?c ?k; (case l => k_is); (case c => k_is); (case k => k_is))
    (case a_fit_as_plan => k_is)
    (case d_fit_as_plan => refine' T.DefF.mk' ?l ?c ?k; (case l => k_is); (case c => k_is); (case k => k_is))
    (case a_fit_as_tasks => k_is)
    (case d_fit_as_tasks => refine' T.DefF.mk' ?l ?c ?k; (case l => k_is); (case c => k_is); (case k => k_is))
    (case a_things_fault => k_is)
    (case d_things_fault => refine' T.DefF.mk' ?l ?c ?k; (case l => k_is); (case c => k_is); (case k => k_is))
    (case a_ways_fault => k_is)
    (case d_ways_fault => refine' T.DefF.mk' ?l ?c ?k; (case l => k_is); (case c => k_is); (case k => k_is))
    (case a_flags_fault => k_is)
    (case d_flags_fault => refine' T.DefF.mk' ?l ?c ?k; (case l => k_is); (case c => k_is); (case k => k_is))
    (case a_are_sides => k_is)
    (case d_are_sides => refine' T.DefF.mk' ?l ?c ?k; (case l => k_is); (case c => k_is); (case k => k_is))
    (case a_are_cures => k_is)
    (case d_are_cures => refine' T.DefF.mk' ?l ?c ?k; (case l => k_is); (case c => k_is); (case k => k_is))
    (case a_check_ones => k_is)
    (case d_check_ones => refine' T.DefF.mk' ?l ?c ?k; (case l => k_is); (case c => k_is); (case k => k_is))
    (case a_eyes_of => k_is)
    (case d_eyes_of => refine' T.DefF.mk' ?l ?c ?k; (case l => k_is); (case c => k_is); (case k => k_is))
    (case a_roles_of => k_is)
    (case d_roles_of => refine' T.DefF.mk' ?l ?c ?k; (case l => k_is); (case c => k_is); (case k => k_is))
    (case a_rules_over => k_is)
    (case d_rules_over => refine' T.DefF.mk' ?l ?c ?k; (case l => k_is); (case c => k_is); (case k => k_is))
    (case a_reaches => k_is)
    (case d_reaches => refine' T.DefF.mk' ?l ?c ?k; (case l => k_is); (case c => k_is); (case k => k_is))
    (case a_cut_rights => k_is)
    (case d_cut_rights => refine' T.DefF.mk' ?l ?c ?k; (case l => k_is); (case c => k_is); (case k => k_is))
    (case a_cured_rights => k_is)
    (case d_cured_rights => refine' T.DefF.mk' ?l ?c ?k; (case l => k_is); (case c => k_is); (case k => k_is))
    (case a_slots_for => k_is)
    (case d_slots_for => refine' T.DefF.mk' ?l ?c ?k; (case l => k_is); (case c => k_is); (case k => k_is))
    (case a_cured => k_is)
    (case d_cured => refine' T.DefF.mk' ?l ?c ?k; (case l => k_is); (case c => k_is); (case k => k_is))
    (case a__law_pool => k_is)
    (case d__law_pool => refine' T.DefF.mk' ?l ?c ?k; (case l => k_is); (case c => k_is); (case k => k_is))
    (case a__law_refill => k_is)
    (case d__law_refill => refine' T.DefF.mk' ?l ?c ?k; (case l => k_is); (case c => k_is); (case k => k_is))
    (case a__law_draw => k_is)
    (case d__law_draw => refine' T.DefF.mk' ?l ?c ?k; (case l => k_is); (case c => k_is); (case k => k_is))
    (case a__law_menu => k_is)
    (case d__law_menu => refine' T.DefF.mk' ?l ?c ?k; (case l => k_is); (case c => k_is); (case k => k_is))
    (case a__law_rights => k_is)
    (case d__law_rights => refine' T.DefF.mk' ?l ?c ?k; (case l => k_is); (case c => k_is); (case k => k_is))
    (case a__law_tasks => k_is)
    (case d__law_tasks => refine' T.DefF.mk' ?l ?c ?k; (case l => k_is); (case c => k_is); (case k => k_is))
    (case a__law_plan => k_is)
    (case d__law_plan => refine' T.DefF.mk' ?l ?c ?k; (case l => k_is); (case c => k_is); (case k => k_is))
    (case a__law_finish => k_is)
    (case d__law_finish => refine' T.DefF.mk' ?l ?c ?k; (case l => k_is); (case c => k_is); (case k => k_is))
    (case a__law_world => k_is)
    (case d__law_world => refine' T.DefF.mk' ?l ?c ?k; (case l => k_is); (case c => k_is); (case k => k_is))
    (case a__law_build => k_is)
    (case d__law_build => refine' T.DefF.mk' ?l ?c ?k; (case l => k_is); (case c => k_is); (case k => k_is))
    (case a__law_sides => k_is)
    (case d__law_sides => refine' T.DefF.mk' ?l ?c ?k; (case l => k_is); (case c => k_is); (case k => k_is))
    (case a__law_tellers => k_is)
    (case d__law_tellers => refine' T.DefF.mk' ?l ?c ?k; (case l => k_is); (case c => k_is); (case k => k_is))
    (case a__law_facts => k_is)
    (case d__law_facts => refine' T.DefF.mk' ?l ?c ?k; (case l => k_is); (case c => k_is); (case k => k_is))
    (case a__law_due => k_is)
    (case d__law_due => refine' T.DefF.mk' ?l ?c ?k; (case l => k_is); (case c => k_is); (case k => k_is))
    (case a__law_is => k_is)
    (case d__law_is => refine' T.DefF.mk' ?l ?c ?k; (case l => k_is); (case c => k_is); (case k => k_is))
    (case a__law_stays => k_is)
    (case d__law_stays => refine' T.DefF.mk' ?l ?c ?k; (case l => k_is); (case c => k_is); (case k => k_is))
    (case a__law_cured => k_is)
    (case d__law_cured => refine' T.DefF.mk' ?l ?c ?k; (case l => k_is); (case c => k_is); (case k => k_is))
    (case a_law => k_is)
    (case d_law => refine' T.DefF.mk' ?l ?c ?k; (case l => k_is); (case c => k_is); (case k => k_is))
    (case a_Build___init__ => k_is)
    (case i_Build___init__ => k_is)
    (case d_Build___init__ => refine' T.DefF.mk' ?l ?c ?k; (case l => k_is); (case c => k_is); (case k => k_is))
    (case a_Build_tasks => k_is)
    (case i_Build_tasks => k_is)
    (case d_Build_tasks => refine' T.DefF.mk' ?l ?c ?k; (case l => k_is); (case c => k_is); (case k => k_is))
    (case a_Build_pages => k_is)
    (case i_Build_pages => k_is)
    (case d_Build_pages => refine' T.DefF.mk' ?l ?c ?k; (case l => k_is); (case c => k_is); (case k => k_is))
    (case a_Build_ports => k_is)
    (case i_Build_ports => k_is)
    (case d_Build_ports => refine' T.DefF.mk' ?l ?c ?k; (case l => k_is); (case c => k_is); (case k => k_is))
    (case a_Build_lines => k_is)
    (case i_Build_lines => k_is)
    (case d_Build_lines => refine' T.DefF.mk' ?l ?c ?k; (case l => k_is); (case c => k_is); (case k => k_is))
    (case a_Build_locks => k_is)
    (case i_Build_locks => k_is)
    (case d_Build_locks => refine' T.DefF.mk' ?l ?c ?k; (case l => k_is); (case c => k_is); (case k => k_is))
    (case a_Build_frames => k_is)
    (case i_Build_frames => k_is)
    (case d_Build_frames => refine' T.DefF.mk' ?l ?c ?k; (case l => k_is); (case c => k_is); (case k => k_is))
    (case a_Build_disk => k_is)
    (case i_Build_disk => k_is)
    (case d_Build_disk => refine' T.DefF.mk' ?l ?c ?k; (case l => k_is); (case c => k_is); (case k => k_is))
    (case a_Build_costs => k_is)
    (case i_Build_costs => k_is)
    (case d_Build_costs => refine' T.DefF.mk' ?l ?c ?k; (case l => k_is); (case c => k_is); (case k => k_is))
    (case a_Build_outside => k_is)
    (case i_Build_outside => k_is)
    (case d_Build_outside => refine' T.DefF.mk' ?l ?c ?k; (case l => k_is); (case c => k_is); (case k => k_is))
    (case a_Build_wipe => k_is)
    (case i_Build_wipe => k_is)
    (case d_Build_wipe => refine' T.DefF.mk' ?l ?c ?k; (case l => k_is); (case c => k_is); (case k => k_is))
    (case a_Build_pad => k_is)
    (case i_Build_pad => k_is)
    (case d_Build_pad => refine' T.DefF.mk' ?l ?c ?k; (case l => k_is); (case c => k_is); (case k => k_is))
    (case a_Build_lend => k_is)
    (case i_Build_lend => k_is)
    (case d_Build_lend => refine' T.DefF.mk' ?l ?c ?k; (case l => k_is); (case c => k_is); (case k => k_is))
    (case a_Build_share => k_is)
    (case i_Build_share => k_is)
    (case d_Build_share => refine' T.DefF.mk' ?l ?c ?k; (case l => k_is); (case c => k_is); (case k => k_is))
    (case a_Build_plan => k_is)
    (case i_Build_plan => k_is)
    (case d_Build_plan => refine' T.DefF.mk' ?l ?c ?k; (case l => k_is); (case c => k_is); (case k => k_is))
    (case a_Build_sides => k_is)
    (case i_Build_sides => k_is)
    (case d_Build_sides => refine' T.DefF.mk' ?l ?c ?k; (case l => k_is); (case c => k_is); (case k => k_is))
    (case a_Build_rights => k_is)
    (case i_Build_rights => k_is)
    (case d_Build_rights => refine' T.DefF.mk' ?l ?c ?k; (case l => k_is); (case c => k_is); (case k => k_is))
    (case a_Build___eq__ => k_is)
    (case i_Build___eq__ => k_is)
    (case d_Build___eq__ => refine' T.DefF.mk' ?l ?c ?k; (case l => k_is); (case c => k_is); (case k => k_is))
    (case a_Rules___init__ => k_is)
    (case i_Rules___init__ => k_is)
    (case d_Rules___init__ => refine' T.DefF.mk' ?l ?c ?k; (case l => k_is); (case c => k_is); (case k => k_is))
    (case a_Rules_set_costs => k_is)
    (case i_Rules_set_costs => k_is)
    (case d_Rules_set_costs => refine' T.DefF.mk' ?l ?c ?k; (case l => k_is); (case c => k_is); (case k => k_is))
    (case a_Rules_set_frames => k_is)
    (case i_Rules_set_frames => k_is)
    (case d_Rules_set_frames => refine' T.DefF.mk' ?l ?c ?k; (case l => k_is); (case c => k_is); (case k => k_is))
    (case a_Rules_slot_ticks => k_is)
    (case i_Rules_slot_ticks => k_is)
    (case d_Rules_slot_ticks => refine' T.DefF.mk' ?l ?c ?k; (case l => k_is); (case c => k_is); (case k => k_is))
    (case a_Rules_set_plan => k_is)
    (case i_Rules_set_plan => k_is)
    (case d_Rules_set_plan => refine' T.DefF.mk' ?l ?c ?k; (case l => k_is); (case c => k_is); (case k => k_is))
    (case a_Rules_set_letters => k_is)
    (case i_Rules_set_letters => k_is)
    (case d_Rules_set_letters => refine' T.DefF.mk' ?l ?c ?k; (case l => k_is); (case c => k_is); (case k => k_is))
    (case a_Roles___init__ => k_is)
    (case i_Roles___init__ => k_is)
    (case d_Roles___init__ => refine' T.DefF.mk' ?l ?c ?k; (case l => k_is); (case c => k_is); (case k => k_is))
