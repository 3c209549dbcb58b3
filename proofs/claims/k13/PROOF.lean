import PyProof.Rows.All
import Wide.All
import OpenK.AllK
import Wide.FinOn
import PyProof.EqAt
import PyProof.EqKinds
import PyProof.TupleCall
import HandS.Base
import HandS.Call
import HandS.List
import HandS.Dict
import HandS.Set
import HandS.SetFor
import HandS.TupLe
import HandS.Words
import HandS.Strs
import KE.KMathG
import PyProof.Rows.SetFrom
import HandS.Comp
import HandS.Iter
import HandS.Zip
import HandS.Wide
import HandS.Conv
import HandS.IsInst
import HandS.Ends
import HandS.Walk
import HandS.Evl
import HandS.WordsList
import HandS.WordsDict
import HandS.Gcd
import HandS.MakeKwOnly
import HandS.TupAny
import HandS.More
import PySem.Challenge.RW_hushkernel_k13_first_moment
import HandS.HotCalls
import HandS.ExcInit
import HandS.ExcIs
import HandS.ExcField
import HandS.Exc
import KE.KExcIs
import HandS.ExcOwn
import HandS.WordsExc
import PyProof.FString5
import HandS.DeepEq
import HandS.OwnEq
import KE.DataEq
import HandS.NoneIn
import KE.GoesMore
import KE.GoesEnum
import HandS.SortOrd
import HandS.ExcValue
import PyProof.TupleOfSeq
import KE.KSortTupAny
import HandS.Deep
import KE.DataFind
import KE.DataMinMax
import KE.KTupSum
import PyProof.Rows.CallKwBuiltin
import HandS.TupMul
import HandS.Codes
import HandS.Small
import HandS.TryOnly
import HandS.TryMany
import HandS.CallSlots
theorem Hk.disch {P : Prop} (h : P) : P := h
def Hk.Hold (P : Prop) : Prop := P
theorem Hk.hold {P : Prop} (h : Hk.Hold P) : P := h
theorem Hk.hold_s {P : Prop} (h : P) : Hk.Hold P = True := eq_true h
set_option Elab.async false
set_option linter.all false
set_option maxRecDepth 100000
set_option maxHeartbeats 4000000
namespace Hk
open PySem PySem.Spec PyProof.Rows L2
section
variable {X : Cx}
def rLcm : List V → Hp → VK → Prop := fun vs H Q => ∃ a b : Int, vs = [.int a, .int b] ∧ 0 < a ∧ a < 1000 ∧ 0 < b ∧ b < 1000 ∧ Q (.int ((Nat.lcm a.natAbs b.natAbs : Nat) : Int)) H
theorem lcm_small {n : Nat} (h : n < 1000000) : ((n : Nat) : Int).natAbs.log2 < bitsLine := by
  show n.log2 < bitsLine
  by_cases h0 : n = 0
  · subst h0; decide
  · have : n.log2 < 20 := (Nat.log2_lt h0).2 (by omega)
    exact Nat.lt_trans this (by decide)
theorem cr_lcm : CallR X (.builtin "math.lcm") rLcm := by
 refine Hk.hold ?_
 simp (disch := with_unfolding_all (
 exact Hk.disch (by
  rintro pins s σ H vs us Q I r ⟨a, b, rfl, a0, a1, b0, b1, q⟩
  obtain ⟨t, u, rfl⟩ := Vals.int2 r
  have e : (Nat.lcm 1 a.natAbs).lcm b.natAbs = a.natAbs.lcm b.natAbs := by rw [Nat.lcm_one_left]
  have hb : a.natAbs.lcm b.natAbs < 1000000 := by
    have h1 : a.natAbs.lcm b.natAbs ≤ a.natAbs * b.natAbs := by
      unfold Nat.lcm; exact Nat.div_le_self _ _
    have h2 : a.natAbs * b.natAbs ≤ 999 * 999 := Nat.mul_le_mul (by omega) (by omega)
    omega
  refine PySem.W.mg_lcm_v (c := ((Nat.lcm a.natAbs b.natAbs : Nat) : Int)) (by omega) (by omega) (by rw [e]) (lcm_small hb) ⟨.int _, H, I.tok _, ⟨_, rfl⟩, q⟩))) only [↓Hk.hold_s]
def gFld (K : PySem.W.Frag) (ta : TE) (f : Str) : TG := fun v σ H Q => ta σ H fun x H2 => ∃ a C dx fs, x = .ref a ∧ H2 a = some (.ins C dx fs) ∧ Cls K C ∧ NoAttr K C f ∧ fs.length < 1000 ∧ Q σ (upd H2 a (.ins C dx (putF f v fs)))
theorem pg_fld {o : Expr} {f : Str} {pos : Pos} {ta : TE} (ho : PE X o ta) : PG X (.Attribute o f pos) (gFld X.K ta f) := by
  refine ⟨fun pins s σ H v u Q I r h => ?_⟩
  rw [arm_assign_Attribute]
  refine wpAny_bind (wpAny_holding (thn (ho.run pins s σ H _ I h) fun ov s1 hh => ?_))
  obtain ⟨x, H1, I1, rx, a, C, dx, fs, ex, ea, c, n, l, q⟩ := hh
  subst ex
  obtain rfl : ov = Value.ref a := rx
  refine wpAny_bind (wpAny_standAt (wpAny_bind (wpAny_holding ?_)))
  exact setattr_ok I1 ea c n l r fun s3 I3 => wpAny_release ⟨σ, _, I3, q⟩
def ltWI (a b : Str × Int) : Bool := if a.1 = b.1 then decide (a.2 < b.2) else decide (a.1.cps.toList < b.1.cps.toList)
def rLtWI (K : PySem.W.Frag) : R2 := fun x y H Q => ∃ (a b : Addr) (p q : Str × Int), x = .ref a ∧ y = .ref b ∧ SqT K H a [.str p.1, .int p.2] ∧ SqT K H b [.str q.1, .int q.2] ∧ Q (.bl (ltWI p q)) H
theorem op_ltWI (hu : X.A.units < cLine) : OpR X (compareOp .Lt) (rLtWI X.K) := by
 refine Hk.hold ?_
 simp (disch := with_unfolding_all (
 exact Hk.disch (by
  intro pins s σ H x y v u Q I rx ry h
  obtain ⟨a, b, ⟨w1, i1⟩, ⟨w2, i2⟩, rfl, rfl, ha, hb, q⟩ := h
  cases rx
  cases ry
  obtain ⟨its, r1, p1, _⟩ := I.tuple ha
  obtain ⟨its2, r2, p2, _⟩ := I.tuple hb
  cases r1 with
  | cons c1 r1 => cases r1 with
    | cons c2 r1 => cases r1; cases r2 with
      | cons c3 r2 => cases r2 with
        | cons c4 r2 =>
          cases r2
          obtain ⟨t1, rfl⟩ := c1
          obtain ⟨t2, rfl⟩ := c2
          obtain ⟨t3, rfl⟩ := c3
          obtain ⟨t4, rfl⟩ := c4
          have key := Ob.RcOp.tuples_lt (A := X.A) (s := s) (e := fun j => if j = 0 then (w1 == w2) else (i1 == i2))
            (r := fun j => if j = 0 then decide (w1.cps.toList < w2.cps.toList) else decide (i1 < i2)) p1 p2 hu ?_ ?_
          · have e : Ob.lexAt (fun j => if j = 0 then (w1 == w2) else (i1 == i2)) (fun j => if j = 0 then decide (w1.cps.toList < w2.cps.toList) else decide (i1 < i2)) (decide (2 < 2)) 0 2 = ltWI (w1, i1) (w2, i2) := by
              unfold ltWI
              rw [Ob.lexAt_succ, Ob.lexAt_succ, Ob.lexAt_zero]
              by_cases e1 : w1 = w2
              · subst e1
                by_cases e2 : i1 = i2
                · subst e2; simp
                · simp [e2]
              · simp [e1]
            exact key X.prog X.w _ _ ⟨.bl (ltWI (w1, i1) (w2, i2)), H, I, by rw [← e]; rfl, q⟩
          · intro j h1 h2
            match j, h1 with
            | 0, _ => exact SeqAt.EqAt.str_str w1 t1 w2 t3
            | 1, _ => exact SeqAt.EqAt.int_int i1 t2 i2 t4
          · intro j h1 h2 _
            match j, h1 with
            | 0, _ => exact fun _ _ _ _ z => PyProof.Rows.lt_str z
            | 1, _ => exact fun _ _ _ _ z => PyProof.Rows.lt_int z))) only [↓Hk.hold_s]
def rSetOfL (K : PySem.W.Frag) (w : World) : List V → Hp → VK → Prop := fun xs H Q => ∃ (l : Addr) (ns : List Int), xs = [.ref l] ∧ SqL K H l (ns.map V.int) ∧ ns.length < 60 ∧
  ∀ a n, H a = none → n ≤ ns.length → Q (.ref a) (upd H a (SetO w a (fun j => decide (j ∈ ns)) n))
end
end Hk
set_option Elab.async false
set_option linter.all false
set_option maxRecDepth 100000
set_option maxHeartbeats 4000000
namespace PySem
open PyProof.Rows L2
/-- a set that stands empty and new -/
abbrev hkFresh (w : World) : Obj := { cls := .type "set", dict := none, data := .set #[] 0 (.fresh 0 0 (!w.params.followText "set-order")) }
section
variable {P : Program} {w : World} {A : Around} {E : Value → Shared → Prop} {s : Shared}
set_option maxRecDepth 100000 in
set_option maxHeartbeats 3200000 in
/-- set(xs), xs a list of ints, as a set whose order is known -/
theorem hk_set_list {l : Addr} {xs : Array Value} (ns : List Int) {Q : Value → Shared → Prop} (hnd : A.handled = none) (isl : s.heap.IsList l xs) (hin : IntsAre xs.toList ns) (few : ns.length + 1 < scanBound)
    (k : ∀ (h2 : Heap) (tk c : Nat), SetR w h2 s.heap.objs.size (fun j => decide (j ∈ ns)) c → c ≤ ns.length → (∀ b o, s.heap.get? b = some o → h2.get? b = some o) → Q (.ref s.heap.objs.size) { s with heap := h2, toks := tk }) :
    wpAny (model P w) A (call (.type "set") [.ref l]) Q E s := by
 refine Hk.hold ?_
 simp (disch := with_unfolding_all (
 exact Hk.disch (by
  have nsz : xs.size = ns.length := by have z := IntsAre.length hin; rwa [Array.length_toList] at z
  obtain ⟨_, _, hm0⟩ := F.called_set.mro
  have hm1 := F.called_set.made
  have hm2 := F.called_set.sub
  refine wpAny_call (codeAny_of_tree ?_)
  show wpAny _ _ (callAny (.type "set") _) _ _ _
  refine wpAny_pure ⟨Code.quiet_builtin _ (by decide +kernel), codeAny_builtin F.entry_type_call ?_⟩
  rw [Around.under_plain (weight_type_call_type "set" [.ref l] []) rfl]
  have a1 := F.called_set.notType
  have a2 := F.called_set.canCreate
  have a3 := F.typeCall_set_1 (.ref l)
  repeat any_goals (first | assumption | wp_step)
  refine codeAny_mono (code_set_led1 (.ref l) (E := E) (Q₁ := fun v s1 => v = .ref s.heap.objs.size ∧ s1 = { s with heap := s.heap.push (hkFresh w) }) ⟨rfl, rfl⟩) fun r1 s1 h1 => ?_
  match r1, h1 with
  | .error _, h1 => exact h1
  | .ok .next, h1 | .ok .brk, h1 | .ok .cont, h1 => exact h1.elim
  | .ok (.ret v), h1 =>
    obtain ⟨rfl, rfl⟩ := h1
    have fr : (s.heap.push (hkFresh w)).get? s.heap.objs.size = some (hkFresh w) := Heap.get?_push_size _ rfl
    have ty : Shared.TypeIs { s with heap := s.heap.push (hkFresh w) } (.ref s.heap.objs.size) "set" := ⟨_, fr, rfl⟩
    have b1 := F.called_set.init.lookup
    have b2 := F.called_set.init.bind (.ref s.heap.objs.size)
    repeat any_goals (first | assumption | wp_step)
    refine codeAny_mono (codeAny_call_builtin (R := wants (fun r s2 => r = .none ∧ ∃ h2 tk c, s2 = { s with heap := h2, toks := tk } ∧ SetR w h2 s.heap.objs.size (fun j => decide (j ∈ ns)) c ∧ c ≤ ns.length ∧
      (∀ b o, s.heap.get? b = some o → h2.get? b = some o)) E) F.called_set.init.plain F.entry_set_init (check_set_init_1 ty ?_)) fun r2 s2 h2 => ?_
    · obtain ⟨⟨oc, od, oda, osl⟩, hol, hcl, nl, hdl⟩ := isl
      dsimp only at hcl hdl
      subst hcl hdl
      have hol2 : (s.heap.push (hkFresh w)).get? l = some { cls := .type "list", dict := od, data := .seq xs nl, slots := osl } := Heap.get?_push_of_some _ hol
      have c1 := F.sub_list_set
      have c2 := F.sub_list_frozenset
      have c3 : (Value.type "list" == Value.type "dict") = false := by decide
      have il : (s.heap.push (hkFresh w)).IsList l xs := ⟨_, hol2, rfl, nl, rfl⟩
      unfold Builtin.«set.__init__» noKeywords Builtin.Frozenset.updateFrom
      generalize hpi : pyIter = pin
      wp_walk
      subst hpi
      refine wpAny_pyIter_list il (wpAny_bind (wpAny_runValue ?_))
      have lS : l < s.heap.objs.size := Heap.lt_size hol
      have sz1 : (s.heap.push (hkFresh w)).objs.size = s.heap.objs.size + 1 := Heap.size_push ..
      have d1 : l ≠ (s.heap.push (hkFresh w)).objs.size := by rw [sz1]; exact Nat.ne_of_lt (Nat.lt_succ_of_lt lS)
      have d2 : s.heap.objs.size ∉ [(s.heap.push (hkFresh w)).objs.size, l] := by
        rw [sz1]
        intro hm
        rcases List.mem_cons.mp hm with z | z
        · exact Nat.ne_of_lt (Nat.lt_succ_self _) z
        · exact Nat.ne_of_gt lS (List.mem_singleton.mp z)
      have vals : ∀ (i : Nat) (v : Value), xs[i]? = some v → ∃ k t, ns[i]? = some k ∧ v = .int k t := fun i v hv => by
        have lt : i < ns.length := by rw [← nsz]; exact (Array.getElem?_eq_some_iff.mp hv).1
        obtain ⟨t, z⟩ := IntsAre.int_at hin i v (by rw [Array.getElem?_toList]; exact hv)
        refine ⟨ns[i], t, List.getElem?_eq_getElem lt, z.trans ?_⟩
        rw [List.getD_eq_getElem?_getD, List.getElem?_eq_getElem lt]; rfl
      refine set_update_ints ((Walks.list (by simp [hnd]) _ l d1 xs).toS) s.heap.objs.size d2 ns nsz few vals (xs.size - 0) 0 _ (by omega) (Nat.zero_le _) ⟨⟨_, Heap.get?_push_size _ rfl, rfl, rfl⟩, il.push _⟩
        ⟨0, Nat.le_refl 0, setR_new_at (Heap.get?_push_of_some _ fr)⟩ fun s3 c3 mv cle hS => ?_
      obtain ⟨h3, g3, d3, t3, o3⟩ := s3
      cases (show g3 = s.gens from mv.gens)
      cases (show d3 = s.drawn from mv.drawn)
      cases (show o3 = s.os from mv.os)
      show wpAny _ _ _ _ _ _
      refine wpAny_pure ?_
      show wpAny _ _ (ret Value.none) _ _ _
      rw [nsz] at cle
      refine wpAny_pure ⟨rfl, h3, t3, c3, rfl, hS, cle, fun b o e => ?_⟩
      have lt := Heap.lt_size e
      refine mv.heap b o (fun hm => ?_) (Heap.get?_push_of_some _ (Heap.get?_push_of_some _ e))
      rcases List.mem_cons.mp hm with z | z
      · exact Nat.ne_of_lt lt z
      · exact Nat.ne_of_lt (Nat.lt_succ_of_lt lt) ((List.mem_singleton.mp z).trans sz1)
    · match r2, h2 with
      | .error _, h2 => exact h2
      | .ok .next, h2 | .ok .brk, h2 | .ok .cont, h2 => exact h2.elim
      | .ok (.ret _), h2 =>
        obtain ⟨rfl, h3, tk, c, rfl, hS, cle, keep⟩ := h2
        repeat any_goals (first | assumption | wp_step)
        exact k _ _ _ hS cle keep))) only [↓Hk.hold_s]
end
end PySem
namespace Hk
open PySem PySem.Spec PyProof.Rows L2
section
variable {X : Cx}
theorem cr_setL (hc : X.calm = true) : CallR X (.type "set") (rSetOfL X.K X.w) := by
  rintro pins s σ H xs us Q I r ⟨l, ns, rfl, hl, few, q⟩
  rw [Vals.ref1 r]
  obtain ⟨its, rv, pl, hz⟩ := I.list hl
  have hn : H s.heap.objs.size = none := I.hok.fresh (Nat.le_refl _)
  refine hk_set_list ns (I.ok.hd hc) pl.isList (by simpa using rv.ints) (by unfold scanBound; omega) fun h2 tk c hS cle keep => ?_
  exact ⟨.ref s.heap.objs.size, upd H s.heap.objs.size (SetO X.w s.heap.objs.size (fun j => decide (j ∈ ns)) c), I.laid (t' := tk) keep (Nat.le_refl _) (setO_new hS), rfl, q _ c hn cle⟩
end
end Hk
set_option Elab.async false
set_option linter.all false
set_option maxRecDepth 100000
set_option maxHeartbeats 4000000
namespace PySem
section
variable {prog : Program} {w : World} {T : Type} [DecidableEq T] {knd : KeyKind prog w T} {A : Around} {E : Value → Shared → Prop} {s : Shared}
theorem hk_any_no {kvs : List (T × Value)} {k : T} (h : k ∉ kvs.map (·.1)) : ¬ (kvs.any fun p => decide (p.1 = k)) = true := fun z => by
  obtain ⟨p, m, e⟩ := List.any_eq_true.mp z
  exact h (of_decide_eq_true e ▸ List.mem_map_of_mem m)
theorem hk_put {d : Addr} {kvs : List (T × Value)} {k : T} {key v : Value} {Q : Unit → Shared → Prop} (isk : knd.is k key = true) (hm : s.heap.DictOf knd d kvs) (sz : kvs.length ≤ sizeLine)
    (q : ∀ h2, h2.DictOf knd d (stored kvs k v) → Heap.SameBut d s.heap h2 → Q () { s with heap := h2 }) : wpAny (model prog w) A (dictPut d (knd.hash k) key v) Q E s := by
 refine Hk.hold ?_
 simp (disch := with_unfolding_all (
 exact Hk.disch (by
  obtain ⟨o, ⟨l⟩, ep, ho, hc, hd, hk, hp, nd⟩ := hm
  have ll : l.length = kvs.length := hp.length
  have ix : ((⟨l⟩ : Array DictEntry).findIdx? fun e => knd.is k e.key) = kvs.findIdx? fun p => decide (p.1 = k) := by
    rw [← hp.findIdx k]; simp
  unfold dictPut
  refine wpAny_bind (wpAny_dictFind_of isk ho hd hk ?_)
  cases hi : (⟨l⟩ : Array DictEntry).findIdx? fun e => knd.is k e.key with
  | none =>
    have no : k ∉ kvs.map (·.1) := not_mem_of_findIdx_none (ix ▸ hi)
    have st : stored kvs k v = kvs ++ [(k, v)] := by rw [stored, if_neg (hk_any_no no)]
    refine wpAny_updateDictKeys (hz := by show l.length ≤ _; omega) ho hd (q _ ⟨_, _, ep + 1, Heap.get?_update_self _ ho (Obj.isFreed_of_dict (Obj.data_mapDictKeys hd _)), hc.mapDictKeys _, Obj.data_mapDictKeys hd _, hk.push isk _, ?_, ?_⟩ (Heap.SameBut.update ..))
    · rw [st]; simpa using hp.append isk (knd.hash k) v
    · rw [st, List.map_append, List.nodup_append]
      exact ⟨nd, by simp, fun a ha b hb e => no (by rw [List.map_singleton, List.mem_singleton] at hb; have e2 : a = k := e.trans hb; rw [← e2]; exact ha)⟩
  | some i =>
    have st : stored kvs k v = kvs.map fun p => if p.1 = k then (p.1, v) else p := by rw [stored, if_pos (any_of_findIdx_some (ix ▸ hi))]
    refine wpAny_updateDict ho hd (q _ ⟨_, _, ep, Heap.get?_update_self _ ho (Obj.isFreed_of_dict (Obj.data_mapDict hd _)), hc.mapDict _, Obj.data_mapDict hd _, hk.modify _ _, ?_, ?_⟩ (Heap.SameBut.update ..))
    · rw [st]
      simpa using hp.modify nd (i := i) (by rw [← hi]; simp) v
    · rw [st, keys_map_store]; exact nd))) only [↓Hk.hold_s]
/-- what ** of a dict does in a display that holds something already -/
theorem hk_merge {d o : Addr} {kvs more : List (T × Value)} {Q : Unit → Shared → Prop} (ne : d ≠ o) (oS : (o == sysModules) = false) (some0 : kvs ≠ [])
    (hd : s.heap.DictOf knd d kvs) (ho : s.heap.DictOf knd o more) (sz : kvs.length + more.length ≤ sizeLine)
    (q : ∀ h2, h2.DictOf knd d (merged kvs more) → Heap.SameBut d s.heap h2 → Q () { s with heap := h2 }) : wpAny (model prog w) A (mergeMapping d (.ref o) false) Q E s := by
 refine Hk.hold ?_
 simp (disch := with_unfolding_all (
 exact Hk.disch (by
  obtain ⟨ob, ⟨es⟩, ep, e1, e2, e3, e4, e5, e6⟩ := id ho
  obtain ⟨db, ⟨ds⟩, dp, f1, f2, f3, f4, f5, f6⟩ := id hd
  have hl : es.length = more.length := e5.length
  have hne : (⟨ds⟩ : Array DictEntry).isEmpty = false := by
    have z : ds.length = kvs.length := f5.length
    cases ds with
    | nil => cases kvs with
      | nil => exact absurd rfl some0
      | cons a r => simp at z
    | cons a r => rfl
  unfold mergeMapping
  refine wpAny_bind (wpAny_isInstance ho.typeIs (T := "dict") (U := "dict") (b := true) (by rw [isSubtype_type]; kernel_rfl) ?_)
  rw [if_pos rfl]
  refine wpAny_bind (wpAny_specialOf ho.typeIs F.slot_dict_iter.lookup (wpAny_bind (wpAny_pure ?_)))
  show wpAny _ _ (if (o == sysModules) = true then _ else _) _ _ _
  rw [oS, if_neg Bool.false_ne_true]
  refine wpAny_bind (wpAny_dictEntries f1 f3 ?_)
  rw [hne, if_neg Bool.false_ne_true]
  refine wpAny_bind (wpAny_dictEntries e1 e3 (wpAny_bind (wpAny_dictEpoch e1 e3 ?_)))
  refine wpAny_bind ?_
  refine wpAny_forIn_list _ (fun rest _ s2 => ∃ h2 i, s2 = { s with heap := h2 } ∧ rest = List.range' i (es.length - i) ∧ i ≤ es.length ∧ h2.DictOf knd d (merged kvs (more.take i)) ∧ h2.get? o = some ob ∧ Heap.SameBut d s.heap h2)
    _ ?_ ?_ _ _ ⟨s.heap, 0, rfl, by simp [List.range_eq_range'], Nat.zero_le _, by simpa [merged] using hd, e1, Heap.SameBut.refl _ _⟩
  · rintro x rest b s2 ⟨h2, i, rfl, er, le, g1, g2, g3⟩
    have lt : i < es.length := by
      rcases Nat.lt_or_ge i es.length with z | z
      · exact z
      · rw [Nat.sub_eq_zero_of_le z] at er; simp at er
    rw [show es.length - i = (es.length - (i + 1)) + 1 by omega, List.range'_succ] at er
    injection er with ex er
    subst ex
    refine wpAny_bind (wpAny_dictEntries g2 e3 ?_)
    rw [show (⟨es⟩ : Array DictEntry)[x]? = some es[x] by simp [lt]]
    have lm : x < more.length := by omega
    obtain ⟨hkey, hval⟩ := e5.get? (e := es[x]) (i := x) (by simp [lt]) (List.getElem?_eq_getElem lm)
    obtain ⟨k2, hk2, hh⟩ := e4 es[x] (by simp)
    obtain rfl : k2 = more[x].1 := knd.inj _ _ _ hk2 hkey
    have lz : (merged kvs (more.take x)).length ≤ sizeLine := by
      have a1 := merged_length_le kvs (more.take x)
      have a2 : (more.take x).length ≤ more.length := by rw [List.length_take]; omega
      omega
    refine wpAny_bind (wpAny_holding ?_)
    show wpAny _ _ (dictPut d es[x].hash es[x].key es[x].val) _ _ _
    rw [hh, hval]
    refine hk_put hkey g1 lz fun h3 i1 i2 => ?_
    have i3 : h3.get? o = some ob := (i2.2 o (Ne.symm ne)).trans g2
    refine wpAny_bind (wpAny_dictEpoch i3 e3 ?_)
    rw [if_neg (by simp)]
    refine wpAny_pure ⟨h3, x + 1, rfl, er, lt, ?_, i3, g3.trans i2⟩
    rw [merged_take_succ kvs more x more[x] (List.getElem?_eq_getElem lm)]
    exact i1
  · rintro b s2 ⟨h2, i, rfl, er, le, g1, g2, g3⟩
    have en : i = es.length := by
      rcases Nat.lt_or_ge i es.length with z | z
      · rw [show es.length - i = (es.length - (i + 1)) + 1 by omega, List.range'_succ] at er
        cases er
      · omega
    rw [en, hl, List.take_length] at g1
    exact wpAny_pure (q h2 g1 g3)))) only [↓Hk.hold_s]
end
end PySem
set_option Elab.async false
set_option linter.all false
set_option maxRecDepth 100000
set_option maxHeartbeats 4000000
namespace PySem
abbrev HkIt := Option (Sem Value) × Sem Value
abbrev HkSt := Option Addr × List (Sem Value × Sem Value)
theorem hk_gather (f : HkIt → HkSt → Sem (ForInStep HkSt)) (hf : ∀ (p : Sem Value × Sem Value) (run : List (Sem Value × Sem Value)), run.length + 1 < 17 → f (some p.1, p.2) (none, run) = pure (.yield (none, run ++ [p]))) (tail : List HkIt) :
    ∀ (l run : List (Sem Value × Sem Value)), run.length + l.length < 17 → forIn ((l.map fun p => (some p.1, p.2)) ++ tail) ((none, run) : HkSt) f = forIn tail ((none, run ++ l) : HkSt) f
  | [], run, _ => by simp
  | p :: r, run, h => by
    rw [List.length_cons] at h
    rw [List.map_cons, List.cons_append, List.forIn_cons, hf p run (by omega), pure_bind]
    have z := hk_gather f hf tail r (run ++ [p]) (by simp; omega)
    simpa using z
section
variable {prog : Program} {w : World} {T : Type} [DecidableEq T] {knd : KeyKind prog w T} {A : Around} {E : Value → Shared → Prop} {s : Shared}
theorem hk_display {pairs : List (Sem Value × Sem Value)} {v : Sem Value} {Q : Value → Shared → Prop} (h0 : pairs ≠ []) (h16 : pairs.length < 16)
    (h : wpAny (model prog w) A (subDict pairs) (fun d s1 => wpAny (model prog w) A v (fun m s2 => wpAny (model prog w) A (mergeMapping d m false) (fun _ s3 => Q (.ref d) s3) (fun _ _ => False) s2) E s1) E s) :
    wpAny (model prog w) A (dictDisplay ((pairs.map fun p => (some p.1, p.2)) ++ [(none, v)])) Q E s := by
 refine Hk.hold ?_
 simp (disch := with_unfolding_all (
 exact Hk.disch (by
  unfold dictDisplay
  dsimp only
  rw [hk_gather _ (fun p run hr => by
    have z : ((run ++ [(p.1, p.2)]).length == 17) = false := by simp; omega
    simp only [z, Bool.false_eq_true, if_false]) _ pairs [] (by simp; omega)]
  have ne : pairs.isEmpty = false := by cases pairs <;> first | exact absurd rfl h0 | rfl
  simp only [List.nil_append, List.forIn_cons, List.forIn_nil, ne]
  refine wpAny_bind (wpAny_bind (wpAny_bind ?_))
  rw [if_neg Bool.false_ne_true]
  refine wpAny_bind (wpAny_mono h (fun d s1 h1 => wpAny_pure ?_) fun _ _ e => e)
  dsimp only
  refine wpAny_bind (wpAny_pure (wpAny_bind (wpAny_holding (wpAny_mono h1 (fun m s2 h2 => ?_) fun _ _ e => e))))
  refine wpAny_bind (wpAny_onRaise (wpAny_tryCatch (wpAny_onRaise (wpAny_holding (wpAny_mono h2 (fun _ s3 h3 => ?_) fun _ _ e => e.elim)))))
  refine wpAny_pure (wpAny_pure ?_)
  dsimp only
  refine wpAny_bind ?_
  rw [if_pos (show ([] : List (Sem Value × Sem Value)).isEmpty = true from rfl)]
  exact wpAny_pure (wpAny_pure h3)))) only [↓Hk.hold_s]
theorem hk_zip {env : Env} {pos : Pos} {v : Expr} : ∀ (keys : List (Option Expr)) (values : List Expr), keys.all (·.isSome) = true → keys.length = values.length →
    (evalEachOpt (keys ++ [none]) env).zip ((evalEach (values ++ [v]) env).map fun v => do let x ← v; standAt pos; pure x) = ((pairTrees keys values env pos).map fun p => (some p.1, p.2)) ++ [(none, do let x ← eval v env; standAt pos; pure x)]
  | [], [], _, _ => rfl
  | [], _ :: _, _, h => by simp at h
  | _ :: _, [], _, h => by simp at h
  | none :: _, _ :: _, h, _ => by simp at h
  | some k :: ks, u :: us, h, hl => by
    have z := hk_zip (v := v) (pos := pos) (env := env) ks us (by simpa using h) (by simpa using hl)
    show (some (eval k env), (do let x ← eval u env; standAt pos; pure x)) :: (evalEachOpt (ks ++ [none]) env).zip ((evalEach (us ++ [v]) env).map fun v => do let x ← v; standAt pos; pure x) = _
    rw [z]; rfl
end
end PySem
namespace Hk
open PySem PySem.Spec PyProof.Rows L2
/-- {k: v, .., **d}: pairs first, then the dict -/
def tDispS (trs : List (TE × TE)) (tv : TE) : TE := fun σ H Q => ∀ p, H p = none → tPairs trs σ (upd H p (.dK [])) fun ps H2 => H2 p = some (.dK []) ∧ ∃ kvs : List (Key × V), ps = kvs.map (fun kv => (kV kv.1, kv.2)) ∧ kvs.length ≤ 15 ∧
  tv σ (upd H2 p (.dK (mergeK [] kvs))) fun x H3 => ∃ (a : Addr) (more : List (Key × V)), x = .ref a ∧ a ≠ p ∧ Rd H3 a (.dK more) ∧ H3 p = some (.dK (mergeK [] kvs)) ∧ mergeK [] kvs ≠ [] ∧ (mergeK [] kvs).length + more.length ≤ 1000 ∧ Q (.ref p) (upd H3 p (.dK (mergeK (mergeK [] kvs) more)))
section
variable {X : Cx} {pos : Pos}
theorem kv_nonempty {κ : Type} {a : List (κ × V)} {b : List (κ × Value)} (r : KV a b) (h : a ≠ []) : b ≠ [] := by
  cases r with
  | nil => exact absurd rfl h
  | cons _ _ => simp
theorem pe_dispS {keys : List (Option Expr)} {values : List Expr} {d0 : Expr} {trs : List (TE × TE)} {tv : TE} (h : PPs X pos keys.dropLast values.dropLast trs) (hv : PE X (values.getLastD d0) tv)
    (hk : keys = keys.dropLast ++ [none] := by rfl) (hvl : values = values.dropLast ++ [values.getLastD d0] := by rfl) (hall : keys.dropLast.all (·.isSome) = true := by rfl) (hl : keys.dropLast.length = values.dropLast.length := by rfl)
    (h0 : (0 < keys.dropLast.length) = True := by simp) (h15 : keys.dropLast.length ≤ 15 := by decide) : PE X (.Dict keys values pos) (tDispS trs tv) := by
 refine Hk.hold ?_
 simp (disch := with_unfolding_all (
 exact Hk.disch (by
  refine ⟨fun pins s σ H Q I q => ?_⟩
  have hn := I.hok.fresh (Nat.le_refl s.heap.objs.size)
  have I1 := I.laid (a := s.heap.objs.size) (o := .dK []) (h' := s.heap.push { cls := .type "dict", data := .dict #[] }) (t' := s.toks) (fun _ _ z => Heap.get?_push_of_some _ z) (Nat.le_refl _) (dk_empty s.heap I.big)
  have len := pairTrees_length keys.dropLast values.dropLast X.env pos hall hl
  have h00 : 0 < keys.dropLast.length := by rw [h0]; exact True.intro
  rw [hk, hvl, arm_eval_Dict, hk_zip _ _ hall hl]
  refine wpAny_bind (wpAny_standAt (hk_display (fun z => by rw [z] at len; have l2 : 0 = keys.dropLast.length := len; omega) (by omega) ?_))
  refine wpAny_subDict (knd := mixKind X.prog X.w) (by omega) (thn (h.run pins _ σ _ _ I1 (q _ hn)) fun ws s2 hh => ?_)
  obtain ⟨ps, H2, I2, rel, e, kvs, ep, lk, q2⟩ := hh
  subst ep
  obtain ⟨rs, c, rk⟩ := carries_of (P := X.prog) (w := X.w) rel
  obtain ⟨z, hd, vs0, r0, dd⟩ := dk_of I2.hok e
  cases r0
  refine ⟨rs, c, dd, fun h2 d2 sb => ?_⟩
  have rm := rk.merge .nil
  have lm := length_mergeK kvs []
  rw [List.length_nil] at lm
  have I3 := d_write (t' := s2.toks + ws.length) I2 (by rw [e]; exact True.intro) sb (let ⟨o, _, _, ho, _⟩ := d2; ⟨o, ho⟩) (dk_new (by rw [sizeLine_eq]; omega) hd rm d2)
  refine wpAny_bind (thn (hv.run pins _ σ _ _ I3 q2) fun u s3 hh => wpAny_bind (wpAny_standAt (wpAny_pure ?_)))
  obtain ⟨x, H3, I4, rx, a, more, ex, nap, ra, hp, ne, l15, q3⟩ := hh
  subst ex
  obtain rfl : u = Value.ref a := rx
  obtain ⟨_, ha, ms, rmore, da⟩ := dk_rd I4.hok ra
  obtain ⟨_, _, cs, rc, dp⟩ := dk_of I4.hok hp
  have lcs : cs.length = (mergeK [] kvs).length := (Paired.length rc).symm
  have lms : ms.length = more.length := (Paired.length rmore).symm
  refine hk_merge (knd := mixKind X.prog X.w) (Ne.symm nap) ha (kv_nonempty rc ne) dp da (by rw [sizeLine_eq, lcs, lms]; omega) fun h3 d3 sb3 => ?_
  have l4 := length_mergeK more (mergeK [] kvs)
  exact ⟨.ref s.heap.objs.size, _, d_write (t' := s3.toks) I4 (by rw [hp]; exact True.intro) sb3 (let ⟨o, _, _, ho, _⟩ := d3; ⟨o, ho⟩) (dk_new (by rw [sizeLine_eq]; omega) hd (rmore.merge rc) d3), rfl, q3⟩))) only [↓Hk.hold_s]
end
end Hk
set_option Elab.async false
set_option linter.all false
set_option maxRecDepth 100000
set_option maxHeartbeats 4000000
namespace Hk
open PySem PySem.Spec PyProof.Rows L2
/-- how many unlike ints there are -/
def distinct (ns : List Int) : Nat := (firstMet (fun i => ns.getD i 0) ns.length).length
theorem step_nodup {l : List Int} (v : Int) (h : l.Nodup) : (step_dedup l v).Nodup := by
  unfold step_dedup
  by_cases e : l.any (· == v) = true
  · rw [if_pos e]; exact h
  · rw [if_neg e]
    refine List.nodup_append.mpr ⟨h, by simp, fun a ha b hb z => ?_⟩
    rw [List.mem_singleton] at hb
    subst hb
    subst z
    exact e (List.any_eq_true.mpr ⟨a, ha, by simp⟩)
theorem firstMet_nd (val : Nat → Int) : ∀ i, (firstMet val i).Nodup
  | 0 => by rw [firstMet_zero]; exact List.nodup_nil
  | i + 1 => by rw [firstMet_succ]; exact step_nodup _ (firstMet_nd val i)
theorem firstMet_mem {ns : List Int} {k : Int} : k ∈ firstMet (fun i => ns.getD i 0) ns.length ↔ k ∈ ns := by
  have z := firstMet_any (fun i => ns.getD i 0) ns.length k
  have e : (List.range ns.length).map (fun i => ns.getD i 0) = ns := by
    refine List.ext_getElem (by simp) fun i h1 h2 => ?_
    simp [List.getD_eq_getElem?_getD, List.getElem?_eq_getElem h2]
  rw [e] at z
  have a : ∀ l : List Int, l.any (· == k) = true ↔ k ∈ l := fun l => by simp
  rw [← a, ← a, z]
theorem distinct_gt {ns : List Int} : 1 < distinct ns ↔ ∃ a ∈ ns, ∃ b ∈ ns, a ≠ b := by
 refine Hk.hold ?_
 simp (disch := with_unfolding_all (
 exact Hk.disch (by
  unfold distinct
  have nd := firstMet_nd (fun i => ns.getD i 0) ns.length
  have mm : ∀ k, k ∈ firstMet (fun i => ns.getD i 0) ns.length ↔ k ∈ ns := fun _ => firstMet_mem
  generalize firstMet (fun i => ns.getD i 0) ns.length = l at nd mm
  constructor
  · intro h
    match l, h, nd, mm with
    | a :: b :: r, _, nd, mm =>
      refine ⟨a, (mm a).mp (by simp), b, (mm b).mp (by simp), fun e => ?_⟩
      subst e
      simp at nd
  · rintro ⟨a, ha, b, hb, ne⟩
    have h1 := (mm a).mpr ha
    have h2 := (mm b).mpr hb
    match l, h1, h2 with
    | [x], h1, h2 =>
      rw [List.mem_singleton] at h1 h2
      exact absurd (h1.trans h2.symm) ne
    | x :: y :: r, _, _ => simp))) only [↓Hk.hold_s]
section
variable {X : Cx}
def tLenSetD (K : PySem.W.Frag) (ta : TE) : TE := fun σ H Q => ta σ H fun x H1 => ∃ (l : Addr) (ns : List Int), x = V.ref l ∧ SqL K H1 l (ns.map V.int) ∧ ns.length < 60 ∧ Q (.int (distinct ns)) H1
theorem pe_lenSetD {a : Expr} {ta : TE} {p p2 q pos : Pos} (hc : X.calm = true) (hg : Gl X "len") (hm : X.mg "len" = none) (hg2 : Gl X "set") (hm2 : X.mg "set" = none) (ha : PE X a ta)
    (na : starEach [a] X.env = (false, eval a X.env) :: starEach [] X.env := by rfl) : PE X (.Call (.Name "len" p) [.Call (.Name "set" p2) [a] [] q] [] pos) (tLenSetD X.K ta) := by
 refine Hk.hold ?_
 simp (disch := with_unfolding_all (
 exact Hk.disch (by
  refine ⟨fun pins s σ H Q I h => Call_ (ld_blt I hg hm PySem.boot_len (PyProof.Rows.callWith_builtin1 (PyProof.Rows.args_cons (Call_ (ld_blt I hg2 hm2 PyProof.Rows.boot_set ?_)) rfl) rfl rfl))⟩
  refine PyProof.Rows.callWith_type1 (PyProof.Rows.args_cons (thn (ha.run pins s σ H _ I h) fun v s1 hh => PyProof.Rows.args_nil ?_) na) na rfl
  obtain ⟨x, H1, I1, r1, l, ns, ex, hq, few, q1⟩ := hh
  subst ex
  cases r1
  obtain ⟨its, r, pl, hz⟩ := I1.list hq
  have hl : its.toArray.size = ns.length := by rw [List.size_toArray, ← r.length, List.length_map]
  refine call_set_list (I1.ok.hd hc) pl.isList (ns := ns) (by simpa using r.ints) (by unfold scanBound; omega) fun h2 tk hS keep => PyProof.Rows.args_nil ?_
  rw [hl] at hS
  obtain ⟨o, es, ep, t, ho, hex, hd, _, _, _, hf, hn⟩ := hS
  have I2 : Inv X pins σ H1 { s1 with heap := h2, toks := tk } := I1.kept fun b o e => keep b o (Heap.lt_size e) e
  have le : distinct ns ≤ ns.length := firstMet_length_le _ _
  have hn2 : es.size = distinct ns := hn
  refine call_len_set ho hex hd hf (by rw [hn2]; omega) ⟨.int (distinct ns), H1, I2.tok _, ⟨_, by rw [hn2]⟩, q1⟩))) only [↓Hk.hold_s]
end
end Hk
set_option Elab.async false
set_option linter.all false
set_option maxRecDepth 100000
set_option maxHeartbeats 4000000
namespace Hk
open PySem PySem.Spec PyProof.Rows L2
theorem hb_int : bootBuiltins "int" = some (.type "int") := PyProof.Rows.boot_int
theorem hb_str : bootBuiltins "str" = some (.type "str") := PyProof.Rows.boot_str
theorem hb_bool : bootBuiltins "bool" = some (.type "bool") := PyProof.Rows.boot_bool
theorem hb_list : bootBuiltins "list" = some (.type "list") := PyProof.Rows.boot_list
theorem hb_tuple : bootBuiltins "tuple" = some (.type "tuple") := PyProof.Rows.boot_tuple
theorem hb_dict : bootBuiltins "dict" = some (.type "dict") := PyProof.Rows.boot_dict
theorem hb_set : bootBuiltins "set" = some (.type "set") := PyProof.Rows.boot_set
theorem hb_len : bootBuiltins "len" = some (.builtin "len") := PySem.boot_len
theorem hb_isinstance : bootBuiltins "isinstance" = some (.builtin "isinstance") := PyProof.Rows.boot_isinstance
theorem hb_all : bootBuiltins "all" = some (.builtin "all") := PyProof.Rows.boot_all
theorem hb_min : bootBuiltins "min" = some (.builtin "min") := PyProof.Rows.boot_min
theorem hb_max : bootBuiltins "max" = some (.builtin "max") := PyProof.Rows.boot_max
theorem hb_sorted : bootBuiltins "sorted" = some (.builtin "sorted") := PyProof.Rows.boot_sorted
/-- no name of the module hides these -/
structure Bl (mg : Str → Option Value) : Prop where
  int_ : mg "int" = none
  str_ : mg "str" = none
  bool_ : mg "bool" = none
  list_ : mg "list" = none
  tuple_ : mg "tuple" = none
  dict_ : mg "dict" = none
  set_ : mg "set" = none
  len : mg "len" = none
  isinstance : mg "isinstance" = none
  all : mg "all" = none
  any : mg "any" = none
  min : mg "min" = none
  max : mg "max" = none
  sorted : mg "sorted" = none
  range : mg "range" = none
  zip : mg "zip" = none
/-- a def of the module as it stands behind the top -/
structure DefAt (K : PySem.W.Frag) (mg : Str → Option Value) (x : Str) (st : Stmt) (ps : List Str) : Prop where
  ex : ∃ f fd, Fun K x x st f fd ∧ mg x = some (.ref f) ∧ Binds K fd ps []
/-- a def that can be called: its promise -/
structure Cal (P : Program) (w : World) (K : PySem.W.Frag) (mg : Str → Option Value) (base : Heap) (k : Nat) (x : Str) (ps : List Str) (sp : Sp) : Prop where
  ex : ∃ f fd, mg x = some (.ref f) ∧ PySem.W.keepIn K (.ref f) = true ∧ Binds K fd ps [] ∧ FnOk P w K mg base CX0 k f fd ps sp
theorem DefAt.cal {P : Program} {w : World} {K : PySem.W.Frag} {mg : Str → Option Value} {base : Heap} {k : Nat} {x : Str} {st : Stmt} {ps : List Str} {sp : Sp} (d : DefAt K mg x st ps)
    (h : ∀ f fd, Fun K x x st f fd → FnOk P w K mg base CX0 k f fd ps sp) : Cal P w K mg base k x ps sp := by
  obtain ⟨f, fd, F, g, b⟩ := d.ex
  exact ⟨f, fd, g, F.kp, b, h f fd F⟩
section
variable {X : Cx} {k : Nat} {x : Str} {ps : List Str} {sp : Sp} {p pos : Pos} {e : Expr} {es : List Expr} {t : TA}
theorem pe_cal (c : Cal X.prog X.w X.K X.mg X.base k x ps sp) (hr : Room k X.A) (hg : Gl X x) (ha : PA X (e :: es) t) (hdb : (x == ("__debug__" : Str)) = false := by decide)
    (he : starEach (e :: es) X.env = (false, eval e X.env) :: starEach es X.env := by rfl) (hpl : (backTo pos (starEach es X.env)).any (·.1) = false := by rfl) : PE X (.Call (.Name x p) (e :: es) [] pos) (tCall sp [] E0 t) := by
  obtain ⟨f, fd, g, kp, b, F⟩ := c.ex
  exact pe_call F hr hg g kp b .nil pass0 ha hdb he hpl
end
section
variable {σ : L2.St} {H : Hp} {D : Ends} {Q : VK} {ta tb te : TE} {t u : TS} {K : PySem.W.Frag} {v : V}
theorem q_seq (h : t { D with nx := u D } σ H) : tSeq t u D σ H := h
theorem q_next (h : D.nx σ H) : tNext D σ H := h
theorem q_set {i : Nat} (h : te σ H fun x H1 => D.nx (σ.set i (some x)) H1) : tAsg te (gName i) D σ H := h
theorem q_asg {g : TG} (h : te σ H fun x H1 => g x σ H1 D.nx) : tAsg te g D σ H := h
theorem q_ret (h : te σ H D.rt) : tRet te D σ H := h
theorem q_drop (h : te σ H fun _ H1 => D.nx σ H1) : tDrop te D σ H := h
theorem q_ifs {c : TT} (h : c σ H fun b H1 => if b = true then t D σ H1 else u D σ H1) : tIfS c t u D σ H := h
theorem q_ife {c : TT} (h : c σ H fun b H1 => if b = true then ta σ H1 Q else tb σ H1 Q) : tIf c ta tb σ H Q := h
theorem q_var {i : Nat} (h : σ[i]? = some (some v)) (q : Q v H) : tVar i σ H Q := ⟨v, h, q⟩
theorem q_c (q : Q v H) : tC v σ H Q := q
theorem q_op {r : R2} (h : ta σ H fun x H1 => tb σ H1 fun y H2 => r x y H2 Q) : tOp r ta tb σ H Q := h
theorem q_un {r : V → Hp → VK → Prop} (h : ta σ H fun x H1 => r x H1 Q) : tUn r ta σ H Q := h
theorem q_chain {r r' : R2} {tc : TE} (h : ta σ H fun x H1 => tb σ H1 fun y H2 => r x y H2 fun z H3 => ∃ k, z = .bl k ∧ (if k = true then tc σ H3 fun w' H4 => r' y w' H4 Q else Q (.bl false) H3)) : tChain r r' ta tb tc σ H Q := h
theorem q_rI0 {g : Int → Int → V} {i j : Int} (q : Q (g i j) H) : rI0 g (.int i) (.int j) H Q := ⟨i, j, rfl, rfl, q⟩
theorem q_rU {g : Int → V} {i : Int} (q : Q (g i) H) : rU g (.int i) H Q := ⟨i, rfl, q⟩
theorem q_eq {x y : V} (h : scal x y = true) (q : Q (.bl (decide (x = y))) H) : rEq x y H Q := ⟨h, q⟩
theorem q_ne {x y : V} (h : scal x y = true) (q : Q (.bl (!decide (x = y))) H) : rNe x y H Q := ⟨h, q⟩
theorem q_test {q : Bool → Hp → Prop} (h : te σ H fun x H1 => ∃ k, x = .bl k ∧ q k H1) : tTest te σ H q := h
theorem q_tB {q : Bool → Hp → Prop} (h : te σ H fun x H1 => ∃ k, x = .bl k ∧ q k H1) : tB te σ H q := h
theorem q_bl {b : Bool} {q : Bool → Prop} (h : q b) : ∃ k, V.bl b = .bl k ∧ q k := ⟨b, rfl, h⟩
theorem q_and {c d : TT} {q : Bool → Hp → Prop} (h : c σ H fun b H1 => if b = true then d σ H1 q else q false H1) : tAnd c d σ H q := h
theorem q_or {c d : TT} {q : Bool → Hp → Prop} (h : c σ H fun b H1 => if b = true then q true H1 else d σ H1 q) : tOr c d σ H q := h
theorem q_not {c : TT} {q : Bool → Hp → Prop} (h : c σ H fun b H1 => q (!b) H1) : tNot c σ H q := h
theorem q_andV (h : ta σ H fun x H1 => ∃ c, x = .bl c ∧ if c = true then tb σ H1 Q else Q (.bl false) H1) : tAndV ta tb σ H Q := h
theorem q_orV (h : ta σ H fun x H1 => ∃ c, x = .bl c ∧ if c = true then Q (.bl true) H1 else tb σ H1 Q) : tOrV ta tb σ H Q := h
theorem q_notV (h : ta σ H fun x H1 => ∃ c, x = .bl c ∧ Q (.bl (!c)) H1) : tNotV ta σ H Q := h
theorem q_isN (h : ta σ H fun x H1 => Q (.bl (decide (x = .non))) H1) : tIsN ta σ H Q := h
theorem q_notN (h : ta σ H fun x H1 => Q (.bl (!decide (x = .non))) H1) : tNotN ta σ H Q := h
theorem q_nil {q : List V → Hp → Prop} (h : q [] H) : tNil σ H q := h
theorem q_cons {tr : TA} {q : List V → Hp → Prop} (h : ta σ H fun x H1 => tr σ H1 fun xs H2 => q (x :: xs) H2) : tCons ta tr σ H q := h
theorem q_tup {tr : TA} (h : tr σ H fun xs H1 => xs.length ≤ sizeLine ∧ ∀ p, H1 p = none → Q (.ref p) (upd H1 p (.tup xs))) : tTup tr σ H Q := h
theorem q_lst {tr : TA} (h : tr σ H fun xs H1 => xs.length ≤ sizeLine ∧ ∀ p, H1 p = none → Q (.ref p) (upd H1 p (.lst xs))) : tLst tr σ H Q := h
theorem q_cb {r : List V → Hp → VK → Prop} {tr : TA} (h : tr σ H fun vs H1 => r vs H1 Q) : tCB r tr σ H Q := h
theorem q_call {sp : Sp} {E : XK} {tr : TA} (h : tr σ H fun vs H1 => sp (vs ++ []) H1 Q E) : tCall sp [] E tr σ H Q := h
theorem q_fld {f : Str} (h : ta σ H fun x H1 => ∃ a C dx fs v, x = .ref a ∧ H1 a = some (.ins C dx fs) ∧ Cls K C ∧ NoAttr K C f ∧ fs.lookup f = some v ∧ Q v H1) : tFld K ta f σ H Q := h
theorem q_bm {T : String} {r : V → List V → Hp → VK → Prop} {tr : TA} (h : ta σ H fun x H1 => tyV K T x H1 ∧ tr σ H1 fun xs H2 => r x xs H2 Q) : tBM K T r ta tr σ H Q := h
theorem q_dget (h : ta σ H fun x H1 => tb σ H1 fun y H2 => ∃ a v, x = .ref a ∧ DGet H2 a y (some v) ∧ Q v H2) : tDGet ta tb σ H Q := h
theorem q_ixL {a : Addr} {xs : List V} {i : Int} {z : V} (h : SqL K H a xs) (hi : atI xs i = some z) (q : Q z H) : rIxL K (.ref a) (.int i) H Q := ⟨a, xs, i, z, rfl, rfl, h, hi, q⟩
theorem q_ixT {a : Addr} {xs : List V} {i : Int} {z : V} (h : SqT K H a xs) (hi : atI xs i = some z) (q : Q z H) : rIxT K (.ref a) (.int i) H Q := ⟨a, xs, i, z, rfl, rfl, h, hi, q⟩
theorem q_setL {a : Addr} {xs : List V} {i : Int} {j : Nat} {z : V} {q : Hp → Prop} (h : H a = some (.lst xs)) (hi : ixN xs.length i = some j) (k : q (upd H a (.lst (xs.set j z)))) : rSetL (.ref a) (.int i) z H q := ⟨a, xs, i, j, rfl, rfl, h, hi, k⟩
theorem q_sub {ti : TE} {r : TSet} {q : L2.St → Hp → Prop} (h : ta σ H fun o H1 => ti σ H1 fun i H2 => r o i v H2 fun H3 => q σ H3) : gSub ta ti r v σ H q := h
theorem q_for {wi : TI} {g : TG} (h : wi σ H fun J H1 => ∃ W : Nat → Nat → L2.St → Hp → Prop, (∃ m, W 0 m σ H1) ∧ ∀ i m σ H, W i m σ H →
    (J.stop i H ∧ D.nx σ H) ∨ (J.go i H ∧ ∃ N : L2.St → Hp → Prop, (∀ σ' H', N σ' H' → ∃ m', m' < m ∧ W (i + 1) m' σ' H') ∧ ∀ x H', J.yld i H x H' → g x σ H' fun σ2 H2 => t { D with nx := N, ct := N, bk := D.nx } σ2 H2)) : tFor wi g t D σ H := h
end
mutual
theorem _root_.L2.Dp.mono {K : PySem.W.Frag} {H H' : Hp} (s : Same H H') : ∀ {v : V} {d : PyData}, Dp K H v d → Dp K H' v d
  | _, _, .non => .non
  | _, _, .bl b => .bl b
  | _, _, .int i => .int i
  | _, _, .str x => .str x
  | _, _, .lst h a => .lst (s.seq h) (L2.DpAll.mono s a)
  | _, _, .tup h a => .tup (Evl.ex_t s h) (L2.DpAll.mono s a)
theorem _root_.L2.DpAll.mono {K : PySem.W.Frag} {H H' : Hp} (s : Same H H') : ∀ {vs : List V} {ds : List PyData}, DpAll K H vs ds → DpAll K H' vs ds
  | _, _, .nil => .nil
  | _, _, .cons h t => .cons (L2.Dp.mono s h) (L2.DpAll.mono s t)
end
theorem same_new {H : Hp} {p : Addr} {o : HO} (h : H p = none) : Same H (upd H p o) := fun b u e => by
  rw [upd_ne (ne_of_none e h)]; exact e
end Hk
set_option Elab.async false
set_option linter.all false
set_option maxRecDepth 100000
set_option maxHeartbeats 4000000
namespace Hk
open PySem PySem.Spec PyProof.Rows L2
def dTy : PyData → String
  | .none => "NoneType" | .bool _ => "bool" | .int _ => "int" | .str _ => "str" | .list _ => "list" | .tuple _ => "tuple" | .dict _ => "dict"
theorem _root_.L2.Dp.ty {K : PySem.W.Frag} {H : Hp} {x : V} {d : PyData} (h : Dp K H x d) : TyX K H x (.type (dTy d)) := by
  cases h with
  | non => exact .base .non
  | bl b => exact .base (.bl b)
  | int i => exact .base (.int i)
  | str z => exact .base (.str z)
  | lst h _ => rcases h with (h | ⟨o, h⟩) | ⟨o, its, n, l, c, _⟩
               · exact .base (.lst h)
               · exact .base (.frz h)
               · exact .kList l c
  | tup h _ => rcases h with (h | ⟨o, h⟩) | ⟨o, its, n, l, c, _⟩
               · exact .base (.tup h)
               · exact .fTuple h
               · exact .kTuple l c
def isInt : PyData → Bool | .int _ => true | .bool _ => true | _ => false
def isBool : PyData → Bool | .bool _ => true | _ => false
def isStr : PyData → Bool | .str _ => true | _ => false
def isList : PyData → Bool | .list _ => true | _ => false
def isTuple : PyData → Bool | .tuple _ => true | _ => false
theorem kb_NoneType_int : kitB "NoneType" "int" = some false := by decide +kernel
theorem kb_bool_int : kitB "bool" "int" = some true := by decide +kernel
theorem kb_int_int : kitB "int" "int" = some true := by decide +kernel
theorem kb_str_int : kitB "str" "int" = some false := by decide +kernel
theorem kb_list_int : kitB "list" "int" = some false := by decide +kernel
theorem kb_tuple_int : kitB "tuple" "int" = some false := by decide +kernel
theorem kb_int (d : PyData) (h : ∀ kvs, d ≠ .dict kvs) : kitB (dTy d) "int" = some (isInt d) := by
  cases d with
  | none => exact kb_NoneType_int
  | bool _ => exact kb_bool_int
  | int _ => exact kb_int_int
  | str _ => exact kb_str_int
  | list _ => exact kb_list_int
  | tuple _ => exact kb_tuple_int
  | dict kvs => exact absurd rfl (h kvs)
theorem kb_NoneType_bool : kitB "NoneType" "bool" = some false := by decide +kernel
theorem kb_bool_bool : kitB "bool" "bool" = some true := by decide +kernel
theorem kb_int_bool : kitB "int" "bool" = some false := by decide +kernel
theorem kb_str_bool : kitB "str" "bool" = some false := by decide +kernel
theorem kb_list_bool : kitB "list" "bool" = some false := by decide +kernel
theorem kb_tuple_bool : kitB "tuple" "bool" = some false := by decide +kernel
theorem kb_bool (d : PyData) (h : ∀ kvs, d ≠ .dict kvs) : kitB (dTy d) "bool" = some (isBool d) := by
  cases d with
  | none => exact kb_NoneType_bool
  | bool _ => exact kb_bool_bool
  | int _ => exact kb_int_bool
  | str _ => exact kb_str_bool
  | list _ => exact kb_list_bool
  | tuple _ => exact kb_tuple_bool
  | dict kvs => exact absurd rfl (h kvs)
theorem kb_NoneType_str : kitB "NoneType" "str" = some false := by decide +kernel
theorem kb_bool_str : kitB "bool" "str" = some false := by decide +kernel
theorem kb_int_str : kitB "int" "str" = some false := by decide +kernel
theorem kb_str_str : kitB "str" "str" = some true := by decide +kernel
theorem kb_list_str : kitB "list" "str" = some false := by decide +kernel
theorem kb_tuple_str : kitB "tuple" "str" = some false := by decide +kernel
theorem kb_str (d : PyData) (h : ∀ kvs, d ≠ .dict kvs) : kitB (dTy d) "str" = some (isStr d) := by
  cases d with
  | none => exact kb_NoneType_str
  | bool _ => exact kb_bool_str
  | int _ => exact kb_int_str
  | str _ => exact kb_str_str
  | list _ => exact kb_list_str
  | tuple _ => exact kb_tuple_str
  | dict kvs => exact absurd rfl (h kvs)
theorem kb_NoneType_list : kitB "NoneType" "list" = some false := by decide +kernel
theorem kb_bool_list : kitB "bool" "list" = some false := by decide +kernel
theorem kb_int_list : kitB "int" "list" = some false := by decide +kernel
theorem kb_str_list : kitB "str" "list" = some false := by decide +kernel
theorem kb_list_list : kitB "list" "list" = some true := by decide +kernel
theorem kb_tuple_list : kitB "tuple" "list" = some false := by decide +kernel
theorem kb_list (d : PyData) (h : ∀ kvs, d ≠ .dict kvs) : kitB (dTy d) "list" = some (isList d) := by
  cases d with
  | none => exact kb_NoneType_list
  | bool _ => exact kb_bool_list
  | int _ => exact kb_int_list
  | str _ => exact kb_str_list
  | list _ => exact kb_list_list
  | tuple _ => exact kb_tuple_list
  | dict kvs => exact absurd rfl (h kvs)
theorem kb_NoneType_tuple : kitB "NoneType" "tuple" = some false := by decide +kernel
theorem kb_bool_tuple : kitB "bool" "tuple" = some false := by decide +kernel
theorem kb_int_tuple : kitB "int" "tuple" = some false := by decide +kernel
theorem kb_str_tuple : kitB "str" "tuple" = some false := by decide +kernel
theorem kb_list_tuple : kitB "list" "tuple" = some false := by decide +kernel
theorem kb_tuple_tuple : kitB "tuple" "tuple" = some true := by decide +kernel
theorem kb_tuple (d : PyData) (h : ∀ kvs, d ≠ .dict kvs) : kitB (dTy d) "tuple" = some (isTuple d) := by
  cases d with
  | none => exact kb_NoneType_tuple
  | bool _ => exact kb_bool_tuple
  | int _ => exact kb_int_tuple
  | str _ => exact kb_str_tuple
  | list _ => exact kb_list_tuple
  | tuple _ => exact kb_tuple_tuple
  | dict kvs => exact absurd rfl (h kvs)
theorem _root_.L2.Dp.nodict {K : PySem.W.Frag} {H : Hp} {x : V} {d : PyData} (h : Dp K H x d) : ∀ kvs, d ≠ .dict kvs := by
  intro kvs e; subst e; cases h
section
variable {K : PySem.W.Frag} {H : Hp} {x : V} {d : PyData} {Q : VK}
theorem q_isi {T : String} {b : Bool} (h : Dp K H x d) (k : kitB (dTy d) T = some b) (q : Q (.bl b) H) : rIsi K [x, .ty T] H Q := ⟨x, .ty T, _, _, b, rfl, .ty T, h.ty, kit_ty k, q⟩
theorem q_isi_int (h : Dp K H x d) (q : Q (.bl (isInt d)) H) : rIsi K [x, .ty "int"] H Q := q_isi h (kb_int d h.nodict) q
theorem q_isi_bool (h : Dp K H x d) (q : Q (.bl (isBool d)) H) : rIsi K [x, .ty "bool"] H Q := q_isi h (kb_bool d h.nodict) q
theorem q_isi_str (h : Dp K H x d) (q : Q (.bl (isStr d)) H) : rIsi K [x, .ty "str"] H Q := q_isi h (kb_str d h.nodict) q
theorem q_isi_list (h : Dp K H x d) (q : Q (.bl (isList d)) H) : rIsi K [x, .ty "list"] H Q := q_isi h (kb_list d h.nodict) q
theorem q_isi_tuple (h : Dp K H x d) (q : Q (.bl (isTuple d)) H) : rIsi K [x, .ty "tuple"] H Q := q_isi h (kb_tuple d h.nodict) q
theorem q_if {c : Bool} {A B : Prop} (h1 : c = true → A) (h2 : c = false → B) : if c = true then A else B := by
  cases c with
  | true => exact iteT (h1 rfl)
  | false => exact iteF (h2 rfl)
theorem _root_.L2.DpAll.length {xs : List V} {ds : List PyData} (h : DpAll K H xs ds) : xs.length = ds.length := by
  induction ds generalizing xs with
  | nil => cases h; rfl
  | cons d ds ih => cases h with
    | cons a t => simp [ih t]
theorem _root_.L2.DpAll.get {xs : List V} {ds : List PyData} (h : DpAll K H xs ds) : ∀ {i : Nat} {d : PyData}, ds[i]? = some d → ∃ x, xs[i]? = some x ∧ Dp K H x d := by
  induction ds generalizing xs with
  | nil => intro i d e; simp at e
  | cons d ds ih => cases h with
    | cons a t =>
      intro i d2 e
      cases i with
      | zero => simp at e; subst e; exact ⟨_, rfl, a⟩
      | succ i => simpa using ih t (by simpa using e)
theorem _root_.L2.DpAll.get' {xs : List V} {ds : List PyData} (h : DpAll K H xs ds) {i : Nat} {x : V} (e : xs[i]? = some x) : ∃ d, ds[i]? = some d ∧ Dp K H x d := by
  have hl := h.length
  have lt : i < ds.length := by rw [← hl]; exact (List.getElem?_eq_some_iff.mp e).1
  obtain ⟨y, ey, hy⟩ := h.get (List.getElem?_eq_getElem lt)
  rw [e] at ey; cases ey
  exact ⟨_, List.getElem?_eq_getElem lt, hy⟩
end
end Hk
set_option Elab.async false
set_option linter.all false
set_option maxRecDepth 100000
set_option maxHeartbeats 4000000
namespace Hk
open PySem PySem.Spec PyProof.Rows L2
/-- all but what stands at D is as it was -/
def But (D : Addr) (H H' : Hp) : Prop := ∀ b o, H b = some o → b ≠ D → H' b = some o
section
variable {J : It} {n : Nat} {G : Hp → Prop} {Y : Nat → Hp → V → Hp → Prop} {g : TG} {te : TE} {vs : List Nat} {σ : L2.St} {H1 : Hp} {D : Addr} {Qd : Hp → Prop}
/-- what a comprehension without a test makes, each item told by R -/
theorem lc_rel (w : L2.Walk J n G Y) (R : Nat → V → Hp → Prop) (hD : H1 D = none) (few : n < sizeLine) (hG : ∀ H', Same H1 H' → G H') (hY : ∀ i H x H', Y i H x H' → Same H H')
    (hR : ∀ i y H H' acc, H D = some (.lst acc) → But D H H' → R i y H → R i y H')
    (body : ∀ i x H' H2, i < n → Same H1 H' → Y i H' x H2 → ∀ Q' : VK, (∀ y H3, Same H2 H3 → R i y H3 → Q' y H3) → g x (wipe σ vs) H2 fun σ2 H3 => wipe σ2 vs = wipe σ vs ∧ te σ2 H3 Q')
    (done : ∀ ys H', Same H1 H' → H' D = some (.lst ys) → ys.length = n → (∀ i y, ys[i]? = some y → R i y H') → Qd H') :
    ∃ W : Nat → Nat → Hp → Prop, (∃ m, W 0 m (upd H1 D (.lst []))) ∧ ∀ i m H, W i m H →
      (J.stop i H ∧ Qd H) ∨ (J.go i H ∧ ∃ Nx : Hp → Prop, (∀ H', Nx H' → ∃ m', m' < m ∧ W (i + 1) m' H') ∧ ∀ x H', J.yld i H x H' → g x (wipe σ vs) H' fun σ2 H2 => wipe σ2 vs = wipe σ vs ∧ tYes σ2 H2 fun b H3 =>
        if b = true then te σ2 H3 fun y H4 => ∃ acc, H4 D = some (.lst acc) ∧ acc.length < sizeLine ∧ Nx (upd H4 D (.lst (acc ++ [y]))) else Nx H3) := by
 refine Hk.hold ?_
 simp (disch := with_unfolding_all (
 exact Hk.disch (by
  refine lc_it w (fun i H => Same H1 H ∧ ∃ ys, H D = some (.lst ys) ∧ ys.length = i ∧ ∀ j y, ys[j]? = some y → R j y H) ⟨same_new hD, [], upd_same, rfl, fun j y e => by simp at e⟩ (fun i H _ h => hG H h.1) ?_ ?_
  · rintro i x H H2 lt ⟨s1, ys, e, l, r⟩ y
    have s2 := hY i H x H2 y
    have z := body i x H H2 lt s1 y (fun y H4 => ∃ acc, H4 D = some (.lst acc) ∧ acc.length < sizeLine ∧ (Same H1 (upd H4 D (.lst (acc ++ [y]))) ∧ ∃ ys, upd H4 D (.lst (acc ++ [y])) D = some (.lst ys) ∧ ys.length = i + 1 ∧ ∀ j y', ys[j]? = some y' → R j y' (upd H4 D (.lst (acc ++ [y]))))) ?_
    · exact z
    · intro y H4 s4 ry
      have e4 : H4 D = some (.lst ys) := s4 _ _ (s2 _ _ e)
      have bt : ∀ o, But D H4 (upd H4 D o) := fun o b u h hb => by rw [upd_ne hb]; exact h
      refine ⟨ys, e4, by omega, fun b o h => ?_, ys ++ [y], upd_same, by simp [l], fun j y' hj => ?_⟩
      · have hb : b ≠ D := ne_of_none h hD
        rw [upd_ne hb]
        exact s4 _ _ (s2 _ _ (s1 _ _ h))
      · refine hR j y' H4 _ ys e4 (bt _) ?_
        rw [List.getElem?_append] at hj
        split at hj
        · refine hR j y' H H4 ys e (fun b o h hb => s4 _ _ (s2 _ _ h)) (r j y' hj)
        · rename_i hge
          have : j = i := by
            rcases Nat.lt_trichotomy j i with z | z | z
            · omega
            · exact z
            · rw [List.getElem?_eq_none (by simp; omega)] at hj; cases hj
          subst this
          simp [l] at hj
          subst hj
          exact ry
  · rintro H ⟨s1, ys, e, l, r⟩
    exact done ys H s1 e l r))) only [↓Hk.hold_s]
/-- .. each item a value that the heap plays no part in -/
theorem lc_val (w : L2.Walk J n G Y) (f : Nat → V) (hD : H1 D = none) (few : n < sizeLine) (hG : ∀ H', Same H1 H' → G H') (hY : ∀ i H x H', Y i H x H' → Same H H')
    (body : ∀ i x H' H2, i < n → Same H1 H' → Y i H' x H2 → ∀ Q' : VK, (∀ H3, Same H2 H3 → Q' (f i) H3) → g x (wipe σ vs) H2 fun σ2 H3 => wipe σ2 vs = wipe σ vs ∧ te σ2 H3 Q')
    (done : ∀ H', Same H1 H' → H' D = some (.lst ((List.range n).map f)) → Qd H') :
    ∃ W : Nat → Nat → Hp → Prop, (∃ m, W 0 m (upd H1 D (.lst []))) ∧ ∀ i m H, W i m H →
      (J.stop i H ∧ Qd H) ∨ (J.go i H ∧ ∃ Nx : Hp → Prop, (∀ H', Nx H' → ∃ m', m' < m ∧ W (i + 1) m' H') ∧ ∀ x H', J.yld i H x H' → g x (wipe σ vs) H' fun σ2 H2 => wipe σ2 vs = wipe σ vs ∧ tYes σ2 H2 fun b H3 =>
        if b = true then te σ2 H3 fun y H4 => ∃ acc, H4 D = some (.lst acc) ∧ acc.length < sizeLine ∧ Nx (upd H4 D (.lst (acc ++ [y]))) else Nx H3) := by
  refine lc_rel w (fun i y _ => y = f i) hD few hG hY (fun _ _ _ _ _ _ _ h => h) (fun i x H' H2 lt s y Q' k => body i x H' H2 lt s y Q' fun H3 s3 => k _ H3 s3 rfl) fun ys H' s e l r => done H' s ?_
  have : ys = (List.range n).map f := by
    refine List.ext_getElem (by simp [l]) fun i h1 h2 => ?_
    simpa using r i _ (List.getElem?_eq_getElem h1)
  rw [← this]; exact e
end
theorem yat_same {xs : List V} : ∀ i H x H', YAt xs i H x H' → Same H H' := fun i H x H' y => by
  obtain ⟨rfl, _⟩ := y; exact Same.refl _
theorem yfn_same {f : Nat → V} : ∀ i H x H', YFn f i H x H' → Same H H' := fun i H x H' y => by
  obtain ⟨rfl, _⟩ := y; exact Same.refl _
theorem ypair_same {f g : Nat → Option V} : ∀ i H x H', YPair f g i H x H' → Same H H' := fun i H x H' y => by
  obtain ⟨t, a, b, rfl, n, rfl, _⟩ := y; exact same_new n
theorem Same.sqT {K : PySem.W.Frag} {H H' : Hp} {a : Addr} {xs : List V} (s : Same H H') (h : SqT K H a xs) : SqT K H' a xs := Evl.ex_t s h
theorem sz1000 {n : Nat} (h : n < 100000) : n < sizeLine := Evl.sz_lt h
/-- the last sizes -/
theorem hk_all_range (n : Nat) (p : Nat → Bool) : ((List.range n).map p).all id = true ↔ ∀ i, i < n → p i = true := by simp
end Hk
set_option Elab.async false
set_option linter.all false
set_option maxRecDepth 100000
set_option maxHeartbeats 4000000
namespace Hk
open PySem PySem.Spec PyProof.Rows L2
/-- a dict of the module: texts, and tuples of texts -/
structure FormsAt (K : PySem.W.Frag) (w : World) (d : Addr) (tab : List (Str × List Str)) : Prop where
  at_ : ∃ es n, K.lookup d = some ⟨.type "dict", none, .dict es n, #[]⟩ ∧ PySem.W.KeysLit w.params es.toList
  low : (d == sysModules) = false
  get : ∀ z, (∃ ks t, tab.lookup z = some ks ∧ PySem.W.nsIn K d z = some (some (.ref t)) ∧ ∀ H, SqT K H t (ks.map V.str)) ∨ (tab.lookup z = none ∧ PySem.W.nsIn K d z = some none)
def tKGet (K : PySem.W.Frag) (d : Addr) (tab : List (Str × List Str)) (to te : TE) : TE := fun σ H Q => to σ H fun x H1 => x = .ref d ∧ te σ H1 fun y H2 => ∃ z, y = .str z ∧
  (∀ t ks, tab.lookup z = some ks → (∀ H, SqT K H t (ks.map V.str)) → Q (.ref t) H2) ∧ (tab.lookup z = none → Q .non H2)
section
variable {X : Cx} {o e : Expr} {apos cpos : Pos} {to te : TE} {d : Addr} {tab : List (Str × List Str)}
theorem pe_kget (F : FormsAt X.K X.w d tab) (ho : PE X o to) (he : PE X e te) (m : M1 X o "get" apos e cpos) : PE X (.Call (.Attribute o "get" apos) [e] [] cpos) (tKGet X.K d tab to te) := by
 refine Hk.hold ?_
 simp (disch := with_unfolding_all (
 exact Hk.disch (by
  refine ⟨fun pins s σ H Q I h => ?_⟩
  obtain ⟨es, n, hl, hk⟩ := F.at_
  refine wpAny_Call_method m.base m.few m.line PySem.F.plainAttrs_dict PySem.F.slot_dict_get PySem.F.type_dict_get (thn (ho.run pins s σ H _ I h) fun u s1 hh => ?_)
  obtain ⟨x, H1, I1, rx, ex, q1⟩ := hh
  subst ex
  obtain rfl : u = Value.ref d := rx
  have hm := PySem.W.mapOf_K (prog := X.prog) (w := X.w) I1.kIn hl hk
  refine ⟨hm.typeIs, hm.noDict, ?_⟩
  rw [m.trees]
  refine Calls.callWith_builtin rfl (Calls.evalArgs_plain (Calls.spliced_cons (thn (he.run pins s1 σ H1 _ I1 q1) fun iv s2 hh => Calls.spliced_nil ?_)))
  obtain ⟨y, H2, I2, ry, z, ey, q2, q3⟩ := hh
  subst ey
  obtain ⟨tk, rfl⟩ := ry
  have hm2 := PySem.W.mapOf_K (prog := X.prog) (w := X.w) I2.kIn hl hk
  refine call_meetsIn PySem.F.slot_dict_get hm2.typeIs PySem.F.entry_dict_get (PySem.F.args_dict_get_2 _ _) (meets_dict_get (strKind X.prog X.w) d (PySem.strKind_is X.prog X.w z tk) F.low) ⟨_, hm2, ?_⟩
  rcases F.get z with ⟨ks, t, e1, e2, e3⟩ | ⟨e1, e2⟩
  · rw [PySem.W.find_K hl e2]
    exact ⟨.ref t, H2, I2.tok _, rfl, q2 t ks e1 e3⟩
  · rw [PySem.W.find_K hl e2]
    exact ⟨.non, H2, I2.tok _, rfl, q3 e1⟩))) only [↓Hk.hold_s]
end
end Hk
set_option Elab.async false
set_option linter.all false
set_option maxRecDepth 100000
set_option maxHeartbeats 4000000
namespace Hk
open PySem PySem.Spec PyProof.Rows L2
theorem walk_zipT {K : PySem.W.Frag} {a b : Addr} {xs ys : List V} {n : Nat} (hn : n = min xs.length ys.length) : L2.Walk (RZ.ItzT K a b) n (fun H => SqT K H a xs ∧ SqT K H b ys) (YPair (fun i => xs[i]?) (fun i => ys[i]?)) := by
  subst hn
  refine ⟨fun i H hi q => ⟨xs, ys, xs[i]'(by omega), ys[i]'(by omega), q.1, q.2, by simp, by simp⟩, fun H q => ⟨xs, ys, q.1, q.2, by omega⟩, fun i H v H' _ q y => ?_⟩
  obtain ⟨t, x, z, e1, e2, e3, e4, e5⟩ := y
  exact ⟨t, x, z, e1, e2, e3, e4 xs q.1, e5 ys q.2⟩
/-- so many of each kind -/
abbrev Cnt := List (Str × Int)
def countKV (c : Cnt) : List (Key × V) := c.map fun p => (Sum.inr p.1, V.int p.2)
theorem countKV_get : ∀ {c : Cnt} {z : Str} {n : Int}, c.lookup z = some n → valV (countKV c) (Sum.inr z) = some (.int n)
  | (a, m) :: r, z, n, h => by
    unfold countKV
    rw [List.map_cons]
    by_cases e : a = z
    · subst e
      rw [valV_pos rfl]
      simp at h
      rw [h]
    · rw [valV_neg (fun q => e (by simpa using q))]
      have h2 : r.lookup z = some n := by
        rw [List.lookup_cons] at h
        have e2 : (z == a) = false := by simpa using fun q => e q.symm
        rwa [e2] at h
      exact countKV_get h2
theorem dgetC {H : Hp} {a : Addr} {c : Cnt} {z : Str} {n : Int} (h : H a = some (.dK (countKV c))) (e : c.lookup z = some n) : DGet H a (.str z) (some (.int n)) := by
  rw [← countKV_get e]
  exact DGet.k (k := Sum.inr z) h
theorem lookup_mem {α : Type} : ∀ {T : List (Str × α)} {z : Str} {v : α}, T.lookup z = some v → (z, v) ∈ T
  | (a, u) :: r, z, v, h => by
    rw [List.lookup_cons] at h
    split at h
    · rename_i e
      cases h
      rw [eq_of_beq e]
      exact List.mem_cons_self
    · exact List.mem_cons_of_mem _ (lookup_mem h)
theorem dpAll_of {K : PySem.W.Frag} {H : Hp} {xs : List V} {ds : List PyData} (l : xs.length = ds.length) (h : ∀ (i : Nat) (x : V) (d : PyData), xs[i]? = some x → ds[i]? = some d → Dp K H x d) : DpAll K H xs ds := by
  induction ds generalizing xs with
  | nil => cases xs with
    | nil => exact .nil
    | cons a r => simp at l
  | cons d ds ih => cases xs with
    | nil => simp at l
    | cons a r => exact .cons (h 0 a d rfl rfl) (ih (by simpa using l) fun i x e h1 h2 => h (i + 1) x e (by simpa using h1) (by simpa using h2))
theorem _root_.L2.DpAll.drop {K : PySem.W.Frag} {H : Hp} {xs : List V} {ds : List PyData} (h : DpAll K H xs ds) (n : Nat) : DpAll K H (xs.drop n) (ds.drop n) := by
  induction n generalizing xs ds with
  | zero => exact h
  | succ n ih => cases h with
    | nil => exact .nil
    | cons a t => exact ih t
theorem atI0 {α : Type} {xs : List α} {x : α} (h : xs[0]? = some x) : atI xs 0 = some x := atI_nat (j := 0) h
theorem atI1 {α : Type} {xs : List α} {x : α} (h : xs[1]? = some x) : atI xs 1 = some x := atI_nat (j := 1) h
end Hk
namespace Hk
open PySem PySem.Spec PyProof.Rows L2
/-- [p(x) for x in xs], xs a list of data, p a test -/
theorem lc_test {K : PySem.W.Frag} {a : Addr} {xs : List V} {ds : List PyData} {g : TG} {te : TE} {vs : List Nat} {σ : L2.St} {H1 : Hp} {D : Addr} {Qd : Hp → Prop} (p : PyData → Bool) (hx : SqL K H1 a xs) (hd : DpAll K H1 xs ds) (few : ds.length < 100000) (hD : H1 D = none)
    (body : ∀ x d H2, Dp K H2 x d → d ∈ ds → Same H1 H2 → ∀ Q' : VK, (∀ H3, Same H2 H3 → Q' (.bl (p d)) H3) → g x (wipe σ vs) H2 fun σ2 H3 => wipe σ2 vs = wipe σ vs ∧ te σ2 H3 Q')
    (done : ∀ H', Same H1 H' → SqL K H' D ((ds.map p).map V.bl) → Qd H') :
    ∃ W : Nat → Nat → Hp → Prop, (∃ m, W 0 m (upd H1 D (.lst []))) ∧ ∀ i m H, W i m H →
      ((Itl K a).stop i H ∧ Qd H) ∨ ((Itl K a).go i H ∧ ∃ Nx : Hp → Prop, (∀ H', Nx H' → ∃ m', m' < m ∧ W (i + 1) m' H') ∧ ∀ x H', (Itl K a).yld i H x H' → g x (wipe σ vs) H' fun σ2 H2 => wipe σ2 vs = wipe σ vs ∧ tYes σ2 H2 fun b H3 =>
        if b = true then te σ2 H3 fun y H4 => ∃ acc, H4 D = some (.lst acc) ∧ acc.length < sizeLine ∧ Nx (upd H4 D (.lst (acc ++ [y]))) else Nx H3) := by
 refine Hk.hold ?_
 simp (disch := with_unfolding_all (
 exact Hk.disch (by
  have l := hd.length
  refine lc_val (n := xs.length) walk_list (fun i => .bl (p (ds.getD i .none))) hD (sz1000 (by omega)) (fun H2 s => s.seq hx) yat_same ?_ ?_
  · rintro i x H2 H3 lt s ⟨rfl, e⟩ Q2 k
    obtain ⟨d, e2, hd2⟩ := hd.get' e
    refine body x d H3 (Dp.mono s hd2) (List.mem_of_getElem? e2) s Q2 fun H4 s4 => ?_
    have z := k H4 s4
    rw [List.getD_eq_getElem?_getD, e2] at z
    exact z
  · intro H2 s e
    refine done H2 s (SqL.of ?_)
    rw [e]
    congr 2
    refine List.ext_getElem (by simp [l]) fun i h1 h2 => ?_
    have lt : i < ds.length := by simpa using h2
    simp [List.getD_eq_getElem?_getD, List.getElem?_eq_getElem lt]))) only [↓Hk.hold_s]
theorem all_map_id {α : Type} (l : List α) (p : α → Bool) : (l.map p).all id = l.all p := by rw [List.all_map]; rfl
end Hk
set_option Elab.async false
set_option linter.all false
set_option maxRecDepth 100000
set_option maxHeartbeats 4000000
namespace Hk
open PySem PySem.Spec PyProof.Rows L2
section
variable {K : PySem.W.Frag} {a : Addr} {xs : List V} {g : TG} {tb : TS} {D : Ends} {σ : L2.St} {H : Hp}
theorem q_forV {k : Nat} (xs : List V) (Pv : Nat → L2.St → Hp → Prop) (hv : σ[k]? = some (some (.ref a))) (hx : SqL K H a xs) (h0 : Pv 0 σ H) (hl : ∀ i σ H, i ≤ xs.length → Pv i σ H → SqL K H a xs)
    (hs : ∀ i x σ H, xs[i]? = some x → Pv i σ H → g x σ H fun σ2 H2 => tb { D with nx := Pv (i + 1), ct := Pv (i + 1), bk := D.nx } σ2 H2) (hd : ∀ σ H, Pv xs.length σ H → D.nx σ H) : tFor (iList K (tVar k)) g tb D σ H :=
  q_for ⟨_, hv, a, rfl, ⟨xs, hx⟩, for_list Pv h0 hl hs hd⟩
theorem q_forR {k : Nat} {n : Int} (Pv : Nat → L2.St → Hp → Prop) (hv : σ[k]? = some (some (.int n))) (h1 : n < 1000000) (h2 : -1000000 < n) (h0 : Pv 0 σ H)
    (hs : ∀ i σ H, i < n.toNat → Pv i σ H → g (.int (0 + i)) σ H fun σ2 H2 => tb { D with nx := Pv (i + 1), ct := Pv (i + 1), bk := D.nx } σ2 H2) (hd : ∀ σ H, Pv n.toNat σ H → D.nx σ H) : tFor (iRng1 (tCons (tVar k) tNil)) g tb D σ H :=
  q_for ⟨_, hv, n, rfl, by omega, by omega, for_range Pv h0 hs hd⟩
end
/-- [f(x) for x in xs], each a value that the heap plays no part in, xs a list of data -/
theorem lc_map {K : PySem.W.Frag} {a : Addr} {xs : List V} {ds : List PyData} {g : TG} {te : TE} {vs : List Nat} {σ : L2.St} {H1 : Hp} {D : Addr} {Qd : Hp → Prop} (f : PyData → V) (hx : SqL K H1 a xs) (hd : DpAll K H1 xs ds) (few : ds.length < 100000) (hD : H1 D = none)
    (body : ∀ x d H2, Dp K H2 x d → d ∈ ds → Same H1 H2 → ∀ Q' : VK, (∀ H3, Same H2 H3 → Q' (f d) H3) → g x (wipe σ vs) H2 fun σ2 H3 => wipe σ2 vs = wipe σ vs ∧ te σ2 H3 Q')
    (done : ∀ H', Same H1 H' → H' D = some (.lst (ds.map f)) → Qd H') :
    ∃ W : Nat → Nat → Hp → Prop, (∃ m, W 0 m (upd H1 D (.lst []))) ∧ ∀ i m H, W i m H →
      ((Itl K a).stop i H ∧ Qd H) ∨ ((Itl K a).go i H ∧ ∃ Nx : Hp → Prop, (∀ H', Nx H' → ∃ m', m' < m ∧ W (i + 1) m' H') ∧ ∀ x H', (Itl K a).yld i H x H' → g x (wipe σ vs) H' fun σ2 H2 => wipe σ2 vs = wipe σ vs ∧ tYes σ2 H2 fun b H3 =>
        if b = true then te σ2 H3 fun y H4 => ∃ acc, H4 D = some (.lst acc) ∧ acc.length < sizeLine ∧ Nx (upd H4 D (.lst (acc ++ [y]))) else Nx H3) := by
 refine Hk.hold ?_
 simp (disch := with_unfolding_all (
 exact Hk.disch (by
  have l := hd.length
  refine lc_val (n := xs.length) walk_list (fun i => f (ds.getD i .none)) hD (sz1000 (by omega)) (fun H2 s => s.seq hx) yat_same ?_ ?_
  · rintro i x H2 H3 lt s ⟨rfl, e⟩ Q2 k
    obtain ⟨d, e2, hd2⟩ := hd.get' e
    refine body x d H3 (L2.Dp.mono s hd2) (List.mem_of_getElem? e2) s Q2 fun H4 s4 => ?_
    have z := k H4 s4
    rw [List.getD_eq_getElem?_getD, e2] at z
    exact z
  · intro H2 s e
    refine done H2 s ?_
    rw [e]
    congr 2
    refine List.ext_getElem (by simp [l]) fun i h1 h2 => ?_
    have lt : i < ds.length := by simpa using h2
    simp [List.getD_eq_getElem?_getD, List.getElem?_eq_getElem lt]))) only [↓Hk.hold_s]
theorem ty_but {K : PySem.W.Frag} {H H2 : Hp} {a : Addr} {kvs : List (Key × V)} {x : V} {d : PyData} (hd : Dp K H x d) (ha : H a = some (.dK kvs)) (k : ∀ b o, H b = some o → b ≠ a → H2 b = some o) : TyX K H2 x (.type (dTy d)) := by
 refine Hk.hold ?_
 simp (disch := with_unfolding_all (
 exact Hk.disch (by
  cases hd with
  | non => exact .base .non
  | bl b => exact .base (.bl b)
  | int b => exact .base (.int b)
  | str b => exact .base (.str b)
  | @lst c xs ds hs _ => rcases hs with (hs | ⟨o, hs⟩) | ⟨o, its, n, l0, c0, _⟩
                         · exact .base (.lst (k _ _ hs (ne_of hs ha (by simp))))
                         · exact .base (.frz (k _ _ hs (ne_of hs ha (by simp))))
                         · exact .kList l0 c0
  | @tup c xs ds hs _ => rcases hs with (hs | ⟨o, hs⟩) | ⟨o, its, n, l0, c0, _⟩
                         · exact .base (.tup (k _ _ hs (ne_of hs ha (by simp))))
                         · exact .fTuple (k _ _ hs (ne_of hs ha (by simp)))
                         · exact .kTuple l0 c0))) only [↓Hk.hold_s]
end Hk
set_option Elab.async false
set_option linter.all false
set_option maxRecDepth 100000
set_option maxHeartbeats 4000000
namespace Hk
open PySem PySem.Spec PyProof.Rows L2
/-- a method as it stands behind the top -/
structure MethAt (K : PySem.W.Frag) (C : Addr) (m qual : Str) (st : Stmt) (ps : List Str) : Prop where
  cls : Cls K C
  ex : ∃ f fd, Fun K m qual st f fd ∧ Meth K C m f ∧ Binds K fd ps []
structure MCal (P : Program) (w : World) (K : PySem.W.Frag) (mg : Str → Option Value) (base : Heap) (k : Nat) (C : Addr) (m : Str) (ps : List Str) (sp : Sp) : Prop where
  cls : Cls K C
  ex : ∃ f fd, Meth K C m f ∧ Binds K fd ps [] ∧ FnOk P w K mg base CX0 k f fd ps sp
theorem MethAt.cal {P : Program} {w : World} {K : PySem.W.Frag} {mg : Str → Option Value} {base : Heap} {k : Nat} {C : Addr} {m qual : Str} {st : Stmt} {ps : List Str} {sp : Sp} (d : MethAt K C m qual st ps)
    (h : ∀ f fd, Fun K m qual st f fd → FnOk P w K mg base CX0 k f fd ps sp) : MCal P w K mg base k C m ps sp := by
  obtain ⟨f, fd, F, g, b⟩ := d.ex
  exact ⟨d.cls, f, fd, g, b, h f fd F⟩
/-- a class that can be called: its __init__'s promise -/
structure MkCal (P : Program) (w : World) (K : PySem.W.Frag) (mg : Str → Option Value) (base : Heap) (k : Nat) (C : Addr) (x : Str) (ps : List Str) (sp : Sp) : Prop where
  g : mg x = some (.ref C)
  ex : ∃ f fd, Mk K C f ∧ Binds K fd ps [] ∧ FnOk P w K mg base CX0 k f fd ps sp
structure MkKCal (P : Program) (w : World) (K : PySem.W.Frag) (mg : Str → Option Value) (base : Heap) (k : Nat) (C : Addr) (x : Str) (ps : List Str) (n : Nat) (ks : List Str) (sp : Sp) : Prop where
  g : mg x = some (.ref C)
  ex : ∃ f fd, Mk K C f ∧ KBn K fd ps (n + 1) ks (fun us ws => us ++ ws) (fun vs zs => vs ++ zs) ∧ FnOk P w K mg base CX0 k f fd ps sp
section
variable {X : Cx} {k n : Nat} {x m : Str} {ps ks : List Str} {sp : Sp} {p pos apos : Pos} {o e : Expr} {es : List Expr} {kws : List Keyword} {ta : TE} {t tk : TA} {C : Addr}
theorem pe_mcal {pl : Sem Bool} (c : MCal X.prog X.w X.K X.mg X.base k C m ps sp) (hr : Room k X.A) (ho : PE X o ta) (ha : PA X (e :: es) t)
    (hst : starEach (e :: es) X.env = (false, eval e X.env) :: starEach es X.env := by rfl) (hpl : (backTo pos (starEach es X.env)).any (·.1) = false := by rfl)
    (ht : eval (.Call (.Attribute o m apos) (e :: es) [] pos) X.env = (do
      let ov ← eval o X.env; standAt apos.atName
      let (f, first) ← holding [ov] (getMethod ov m pl); callWith pos f first (backTo pos (starEach (e :: es) X.env)) (backToKw pos (keywordEach [] X.env))) := by rfl) : PE X (.Call (.Attribute o m apos) (e :: es) [] pos) (tMeth C m sp [] E0 ta t) := by
  obtain ⟨cl, f, fd, mt, b, F⟩ := c
  exact pe_meth ho cl mt F hr b .nil pass0 ha hst hpl ht
theorem pe_mcal0 {pl : Sem Bool} (c : MCal X.prog X.w X.K X.mg X.base k C m ps sp) (hr : Room k X.A) (ho : PE X o ta)
    (ht : eval (.Call (.Attribute o m apos) [] [] pos) X.env = (do
      let ov ← eval o X.env; standAt apos.atName
      let (f, first) ← holding [ov] (getMethod ov m pl); callWith pos f first (backTo pos (starEach [] X.env)) (backToKw pos (keywordEach [] X.env))) := by rfl) : PE X (.Call (.Attribute o m apos) [] [] pos) (tMeth C m sp [] E0 ta tNil) := by
  obtain ⟨cl, f, fd, mt, b, F⟩ := c
  exact pe_meth0 ho cl mt F hr b .nil pass0 ht
theorem pe_mk (c : MkCal X.prog X.w X.K X.mg X.base k C x ps sp) (hr : Room (k + 1) X.A) (hg : Gl X x) (ha : PA X (e :: es) t) (hdb : (x == ("__debug__" : Str)) = false := by decide)
    (he : starEach (e :: es) X.env = (false, eval e X.env) :: starEach es X.env := by rfl) (hpl : (backTo pos (starEach es X.env)).any (·.1) = false := by rfl) : PE X (.Call (.Name x p) (e :: es) [] pos) (tMake C sp [] E0 t) := by
  obtain ⟨g, f, fd, M, b, F⟩ := c
  exact pe_make M F hr hg g b .nil pass0 ha hdb he hpl
theorem pe_mkk (c : MkKCal X.prog X.w X.K X.mg X.base k C x ps n ks sp) (hr : Room (k + 1) X.A) (hg : Gl X x) (ha : PA X (e :: es) t) (hkw : PK X kws tk)
    (hall : (backToKw pos (keywordEach kws X.env)).all (·.1.isSome) = true := by rfl) (hks : (backToKw pos (keywordEach kws X.env)).filterMap (·.1) = ks := by rfl) (hdb : (x == ("__debug__" : Str)) = false := by decide)
    (he : starEach (e :: es) X.env = (false, eval e X.env) :: starEach es X.env := by rfl) (hpl : ((backTo pos (starEach (e :: es) X.env)).any (·.1) || (backToKw pos (keywordEach kws X.env)).any (·.1.isNone)) = false := by rfl) :
    PE X (.Call (.Name x p) (e :: es) kws pos) (tMakeK C n ks.length sp (fun vs zs => vs ++ zs) E0 t tk) := by
  obtain ⟨g, f, fd, M, b, F⟩ := c
  exact pe_makeK M F hr hg g b pass0 ha hkw hall hks hdb he hpl
end
section
variable {K : PySem.W.Frag} {σ : L2.St} {H : Hp} {Q : VK} {D : Ends} {ta tv te : TE} {t : TA} {C : Addr} {m f : Str} {sp : Sp}
theorem q_meth (h : ta σ H fun x H1 => ∃ a dx fs, x = .ref a ∧ H1 a = some (.ins C dx fs) ∧ fs.lookup m = none ∧ t σ H1 fun vs H2 => sp (x :: (vs ++ [])) H2 Q E0) : tMeth C m sp [] E0 ta t σ H Q := h
theorem q_make (h : t σ H fun vs H1 => ∀ x dx, H1 x = none → H1 dx = none → dx ≠ x → sp (.ref x :: (vs ++ [])) (upd (upd H1 dx (.own x)) x (.ins C dx [])) (fun v H2 => v = .non ∧ Q (.ref x) H2) E0) : tMake C sp [] E0 t σ H Q := h
theorem q_sfld (h : tv σ H fun y H1 => ta σ H1 fun x H2 => ∃ a C dx fs, x = .ref a ∧ H2 a = some (.ins C dx fs) ∧ Cls K C ∧ NoAttr K C f ∧ fs.length < 1000 ∧ D.nx σ (upd H2 a (.ins C dx (putF f y fs)))) : sFld K ta tv f D σ H := h
end
/-- fields that are there -/
theorem put_same (f : Str) (v : V) (fs : List (Str × V)) : (putF f v fs).lookup f = some v := by rw [lookup_putF, if_pos rfl]
theorem put_ne {f g : Str} (v : V) (fs : List (Str × V)) (h : g ≠ f) : (putF f v fs).lookup g = fs.lookup g := by rw [lookup_putF, if_neg h]
/-- the parts of a build -/
structure BD where
  tasks : PyData
  pages : PyData
  ports : PyData
  locks : PyData
  frames : PyData
  disk : PyData
  rights : PyData
  lines : PyData
  costs : PyData
  plan : PyData
  outside : PyData
  wipe : PyData
  pad : PyData
  lend : PyData
  share : PyData
def tupOf : PyData → PyData | .list l => .tuple l | d => d
def rowsT : PyData → PyData | .list l => .tuple (l.map tupOf) | d => d
def planT : PyData → PyData | .tuple [.str z, e] => .tuple [.str z, if z = "slots" then tupOf e else e] | d => d
def BD.parts (b : BD) : List (Str × PyData) := [("tasks", tupOf b.tasks), ("pages", tupOf b.pages), ("ports", tupOf b.ports), ("locks", b.locks), ("frames", b.frames), ("disk", b.disk), ("rights", rowsT b.rights), ("lines", tupOf b.lines), ("costs", b.costs),
  ("plan", planT b.plan), ("outside", b.outside), ("wipe", b.wipe), ("pad", b.pad), ("lend", b.lend), ("share", b.share)]
theorem pairedKV_get {K : PySem.W.Frag} {H : Hp} : ∀ {kvs : List (Key × V)} {l : List (Str × PyData)} {z : Str} {d : PyData}, Paired (fun p q => p.1 = Sum.inr q.1 ∧ Dp K H p.2 q.2) kvs l → l.lookup z = some d → ∃ v, valV kvs (Sum.inr z) = some v ∧ Dp K H v d
  | [], [], z, d, .nil, e => by simp at e
  | p :: kvs, q :: l, z, d, .cons h t, e => by
    rw [List.lookup_cons] at e
    by_cases hz : z = q.1
    · subst hz
      rw [beq_self_eq_true] at e
      cases e
      exact ⟨p.2, valV_pos h.1, h.2⟩
    · have hb : (z == q.1) = false := by simpa using hz
      rw [hb] at e
      obtain ⟨v, e1, e2⟩ := pairedKV_get t e
      refine ⟨v, ?_, e2⟩
      rw [valV_neg (fun y => hz (by rw [h.1] at y; exact (Sum.inr.inj y).symm))]
      exact e1
end Hk
namespace Hk
open PySem PySem.Spec PyProof.Rows L2
/-- [f(x) for x in xs], xs a tuple of data -/
theorem lc_mapT {K : PySem.W.Frag} {a : Addr} {xs : List V} {ds : List PyData} {g : TG} {te : TE} {vs : List Nat} {σ : L2.St} {H1 : Hp} {D : Addr} {Qd : Hp → Prop} (f : PyData → V) (hx : SqT K H1 a xs) (hd : DpAll K H1 xs ds) (few : ds.length < 100000) (hD : H1 D = none)
    (body : ∀ x d H2, Dp K H2 x d → d ∈ ds → Same H1 H2 → ∀ Q' : VK, (∀ H3, Same H2 H3 → Q' (f d) H3) → g x (wipe σ vs) H2 fun σ2 H3 => wipe σ2 vs = wipe σ vs ∧ te σ2 H3 Q')
    (done : ∀ H', Same H1 H' → H' D = some (.lst (ds.map f)) → Qd H') :
    ∃ W : Nat → Nat → Hp → Prop, (∃ m, W 0 m (upd H1 D (.lst []))) ∧ ∀ i m H, W i m H →
      ((Itt K a).stop i H ∧ Qd H) ∨ ((Itt K a).go i H ∧ ∃ Nx : Hp → Prop, (∀ H', Nx H' → ∃ m', m' < m ∧ W (i + 1) m' H') ∧ ∀ x H', (Itt K a).yld i H x H' → g x (wipe σ vs) H' fun σ2 H2 => wipe σ2 vs = wipe σ vs ∧ tYes σ2 H2 fun b H3 =>
        if b = true then te σ2 H3 fun y H4 => ∃ acc, H4 D = some (.lst acc) ∧ acc.length < sizeLine ∧ Nx (upd H4 D (.lst (acc ++ [y]))) else Nx H3) := by
 refine Hk.hold ?_
 simp (disch := with_unfolding_all (
 exact Hk.disch (by
  have l := hd.length
  refine lc_val (n := xs.length) walk_tup (fun i => f (ds.getD i .none)) hD (sz1000 (by omega)) (fun H2 s => Same.sqT s hx) yat_same ?_ ?_
  · rintro i x H2 H3 lt s ⟨rfl, e⟩ Q2 k
    obtain ⟨d, e2, hd2⟩ := hd.get' e
    refine body x d H3 (L2.Dp.mono s hd2) (List.mem_of_getElem? e2) s Q2 fun H4 s4 => ?_
    have z := k H4 s4
    rw [List.getD_eq_getElem?_getD, e2] at z
    exact z
  · intro H2 s e
    refine done H2 s ?_
    rw [e]
    congr 2
    refine List.ext_getElem (by simp [l]) fun i h1 h2 => ?_
    have lt : i < ds.length := by simpa using h2
    simp [List.getD_eq_getElem?_getD, List.getElem?_eq_getElem lt]))) only [↓Hk.hold_s]
/-- all but instances is as it was -/
def Keep (H H' : Hp) : Prop := ∀ b o, H b = some o → (∀ C dx fs, o ≠ .ins C dx fs) → H' b = some o
theorem But.keep {r C dx : Addr} {fs : List (Str × V)} {H H' : Hp} (e : H r = some (.ins C dx fs)) (s : But r H H') : Keep H H' := fun b o h n => s b o h fun z => by
  subst z; rw [e] at h; cases h; exact n C dx fs rfl
theorem Keep.sqL {K : PySem.W.Frag} {H H' : Hp} {a : Addr} {xs : List V} (s : Keep H H') (h : SqL K H a xs) : SqL K H' a xs := by
  rcases h with (h | ⟨o, h⟩) | h
  · exact .inl (.inl (s _ _ h (by simp)))
  · exact .inl (.inr ⟨o, s _ _ h (by simp)⟩)
  · exact .inr h
theorem Keep.sqT {K : PySem.W.Frag} {H H' : Hp} {a : Addr} {xs : List V} (s : Keep H H') (h : SqT K H a xs) : SqT K H' a xs := by
  rcases h with (h | ⟨o, h⟩) | h
  · exact .inl (.inl (s _ _ h (by simp)))
  · exact .inl (.inr ⟨o, s _ _ h (by simp)⟩)
  · exact .inr h
mutual
theorem dpKeep {K : PySem.W.Frag} {H H' : Hp} (s : Keep H H') : ∀ {v : V} {d : PyData}, Dp K H v d → Dp K H' v d
  | _, _, .non => .non
  | _, _, .bl b => .bl b
  | _, _, .int i => .int i
  | _, _, .str x => .str x
  | _, _, .lst h a => .lst (Keep.sqL s h) (dpAllKeep s a)
  | _, _, .tup h a => .tup (Keep.sqT s h) (dpAllKeep s a)
theorem dpAllKeep {K : PySem.W.Frag} {H H' : Hp} (s : Keep H H') : ∀ {vs : List V} {ds : List PyData}, DpAll K H vs ds → DpAll K H' vs ds
  | _, _, .nil => .nil
  | _, _, .cons h t => .cons (dpKeep s h) (dpAllKeep s t)
end
theorem But.refl {r : Addr} {H : Hp} : But r H H := fun _ _ h _ => h
theorem But.trans {r : Addr} {H H1 H2 : Hp} (a : But r H H1) (b : But r H1 H2) : But r H H2 := fun x o h n => b x o (a x o h n) n
theorem But.same {r : Addr} {H H1 : Hp} (a : Same H H1) : But r H H1 := fun x o h _ => a x o h
theorem But.put {r : Addr} {H : Hp} {o : HO} : But r H (upd H r o) := fun x u h n => by rw [upd_ne n]; exact h
/-- no other fields -/
def Only (fs : List (Str × V)) (L : List Str) : Prop := ∀ m, m ∉ L → fs.lookup m = none
theorem Only.put {fs : List (Str × V)} {L : List Str} (h : Only fs L) {f : Str} {v : V} (hf : f ∈ L) : Only (putF f v fs) L := fun m hm => by
  rw [put_ne v fs (fun e => hm (by rw [e]; exact hf))]; exact h m hm
end Hk
set_option Elab.async false
set_option linter.all false
set_option maxRecDepth 100000
set_option maxHeartbeats 4000000
namespace Hk
open PySem PySem.Spec PyProof.Rows L2
section
variable {F : Type} {K : PySem.W.Frag} {nm : F → Str} {H H' : Hp} {fs : List (Str × V)} {D : F → PyData} {ns : List F} {f : F} {v : V} {d : PyData}
/-- fields of an instance that hold data; F names them -/
def Told (K : PySem.W.Frag) (nm : F → Str) (H : Hp) (fs : List (Str × V)) (D : F → PyData) (ns : List F) : Prop := ∀ f, f ∈ ns → ∃ v, fs.lookup (nm f) = some v ∧ Dp K H v (D f)
theorem Told.keep (h : Told K nm H fs D ns) (s : Keep H H') : Told K nm H' fs D ns := fun f hf => by
  obtain ⟨v, e, r⟩ := h f hf
  exact ⟨v, e, dpKeep s r⟩
theorem Told.mono (h : Told K nm H fs D ns) (s : Same H H') : Told K nm H' fs D ns := h.keep fun b o e _ => s b o e
theorem Told.add (h : Told K nm H fs D ns) (inj : ∀ f g, nm f = nm g → f = g) (hf : f ∉ ns) (hd : Dp K H v (D f)) : Told K nm H (putF (nm f) v fs) D (f :: ns) := fun g hg => by
  rcases List.mem_cons.mp hg with rfl | hg
  · exact ⟨v, put_same _ _ _, hd⟩
  · obtain ⟨w, e, r⟩ := h g hg
    exact ⟨w, by rw [put_ne _ _ fun z => hf (by rw [← inj _ _ z]; exact hg)]; exact e, r⟩
theorem Told.off {g : Str} (h : Told K nm H fs D ns) (hg : ∀ f, f ∈ ns → nm f ≠ g) : Told K nm H (putF g v fs) D ns := fun f hf => by
  obtain ⟨w, e, r⟩ := h f hf
  exact ⟨w, by rw [put_ne _ _ (hg f hf)]; exact e, r⟩
/-- another value at a field -/
def fset [DecidableEq F] (D : F → PyData) (f : F) (d : PyData) : F → PyData := fun g => if g = f then d else D g
theorem Told.set [DecidableEq F] (h : Told K nm H fs D ns) (inj : ∀ f g, nm f = nm g → f = g) (hd : Dp K H v d) : Told K nm H (putF (nm f) v fs) (fset D f d) ns := fun g hg => by
  unfold fset
  by_cases e : g = f
  · subst e
    rw [if_pos rfl]
    exact ⟨v, put_same _ _ _, hd⟩
  · rw [if_neg e]
    obtain ⟨w, e2, r⟩ := h g hg
    exact ⟨w, by rw [put_ne _ _ fun z => e (inj _ _ z)]; exact e2, r⟩
end
theorem map_putF {g : Str} {v : V} : ∀ {fs : List (Str × V)}, g ∈ fs.map (·.1) → (putF g v fs).map (·.1) = fs.map (·.1)
  | (k, x) :: r, h => by
    rw [show putF g v ((k, x) :: r) = (if k = g then (k, v) :: r else (k, x) :: putF g v r) from rfl]
    by_cases e : k = g
    · rw [if_pos e]; rfl
    · rw [if_neg e]
      rcases List.mem_cons.mp h with z | z
      · exact absurd z.symm e
      · rw [List.map_cons, List.map_cons, map_putF z]
theorem map_putF_new {g : Str} {v : V} : ∀ {fs : List (Str × V)}, g ∉ fs.map (·.1) → (putF g v fs).map (·.1) = fs.map (·.1) ++ [g]
  | [], _ => rfl
  | (k, x) :: r, h => by
    rw [show putF g v ((k, x) :: r) = (if k = g then (k, v) :: r else (k, x) :: putF g v r) from rfl]
    simp only [List.map_cons, List.mem_cons, not_or] at h
    rw [if_neg fun z => h.1 z.symm, List.map_cons, List.map_cons, map_putF_new h.2, List.cons_append]
section
variable {K : PySem.W.Frag} {H : Hp} {Q : VK}
theorem dpAll_app {H : Hp} : ∀ {xs ys : List V} {ds es : List PyData}, DpAll K H xs ds → DpAll K H ys es → DpAll K H (xs ++ ys) (ds ++ es)
  | _, _, _, _, .nil, h => h
  | _, _, _, _, .cons h t, g => .cons h (dpAll_app t g)
theorem catA_dp {v w : V} {ds es : List PyData} (h : Dp K H v (.tuple ds)) (g : Dp K H w (.tuple es)) (hn : ds.length + es.length ≤ 1000) (k : ∀ v' H', Same H H' → Dp K H' v' (.tuple (ds ++ es)) → Q v' H') : rCatA K v w H Q := by
  cases h with
  | @tup a xs _ hs ha =>
  cases g with
  | @tup b ys _ ht hb =>
  have l := ha.length
  have m := hb.length
  refine ⟨a, b, xs, ys, rfl, rfl, hs, ht, Nat.le_of_lt (sz1000 (by omega)), fun z => ?_, fun _ z => ?_, fun _ _ p np => ?_⟩
  · subst z
    cases ha
    exact k _ _ (Same.refl _) (.tup ht hb)
  · subst z
    cases hb
    rw [List.append_nil] at k
    exact k _ _ (Same.refl _) (.tup hs ha)
  · exact k _ _ (same_new np) (.tup (SqT.of upd_same) (dpAll_app (L2.DpAll.mono (same_new np) ha) (L2.DpAll.mono (same_new np) hb)))
end
section
variable {r : V → Option Int → Option Int → Hp → VK → Prop} {te t : TE} {tl th : TO} {σ : L2.St} {H : Hp} {Q : VK} {QO : Option Int → Hp → Prop} {i : Int}
theorem q_sl (h : te σ H fun x H1 => tl σ H1 fun l H2 => th σ H2 fun u H3 => r x l u H3 Q) : tSl r te tl th σ H Q := h
theorem q_np (h : QO none H) : tNoPart σ H QO := h
theorem q_pt (h : t σ H fun x H1 => ∃ i, x = .int i ∧ QO (some i) H1) : tPart t σ H QO := h
end
end Hk
set_option Elab.async false
set_option linter.all false
set_option maxRecDepth 100000
set_option maxHeartbeats 4000000
open PySem PySem.Spec PyProof.Rows L2 Hk
local macro_rules | `(tactic| walk_at "s1") => `(tactic| first
  | with_reducible refine q_seq ?_ | with_reducible refine q_next ?_ | with_reducible refine q_set ?_ | with_reducible refine q_ret ?_ | with_reducible refine q_drop ?_ | with_reducible refine q_ifs ?_ | with_reducible refine q_ife ?_
  | ((with_reducible show tVar _ _ _ _); refine q_var (by exact rfl) ?_)
  | with_reducible refine q_c ?_ | with_reducible refine q_op ?_ | with_reducible refine q_un ?_ | with_reducible refine q_chain ?_
  | with_reducible refine q_rI0 ?_ | with_reducible refine q_rU ?_ | with_reducible refine q_test ?_ | with_reducible refine q_tB ?_ | with_reducible refine q_bl ?_
  | with_reducible refine q_and ?_ | with_reducible refine q_or ?_ | with_reducible refine q_not ?_ | with_reducible refine q_andV ?_ | with_reducible refine q_orV ?_ | with_reducible refine q_notV ?_
  | with_reducible refine q_isN ?_ | with_reducible refine q_notN ?_ | with_reducible refine q_nil ?_ | with_reducible refine q_cons ?_ | with_reducible refine q_tup ?_ | with_reducible refine q_lst ?_
  | with_reducible refine q_cb ?_ | with_reducible refine q_call ?_ | with_reducible refine q_fld ?_ | with_reducible refine q_bm ?_ | with_reducible refine q_dget ?_
  | (with_reducible refine q_isi_int (by assumption) ?_) | (with_reducible refine q_isi_bool (by assumption) ?_) | (with_reducible refine q_isi_str (by assumption) ?_) | (with_reducible refine q_isi_list (by assumption) ?_) | (with_reducible refine q_isi_tuple (by assumption) ?_)
  | with_reducible refine q_sub ?_ | with_reducible refine q_asg ?_)
local macro_rules | `(tactic| walk_at "st") => `(tactic| (repeat (walk_at "s1"; try dsimp only [List.set_cons_zero, List.set_cons_succ, List.append_nil, List.cons_append, List.nil_append, cxOf])))
local macro_rules | `(tactic| walk_at "st0") => `(tactic| (simp only [L2.start, List.map_cons, List.map_nil, List.length_cons, List.length_nil, Nat.reduceAdd, Nat.reduceSub, List.reduceReplicate, List.replicate_zero, List.cons_append, List.nil_append, List.append_nil]; walk_at "st"))
local macro_rules | `(tactic| walk_at "s1") => `(tactic| first | with_reducible refine q_meth ?_ | with_reducible refine q_sfld ?_ | with_reducible refine q_make ?_)
local macro_rules | `(tactic| walk_at "lk") => `(tactic| (repeat (first | exact put_same _ _ _ | assumption | rw [put_ne _ _ (by decide +kernel)])))
namespace T
def topS (i : Nat) : Stmt := PySem.Challenge.pw_hushkernel_k13_first_moment.main.body.getD i (.Pass ⟨0, 0, 0, 0⟩)
abbrev s_is_integer : Stmt := topS 3
theorem sc_is_integer : FnScope ["thing"] ["thing"] (defScope s_is_integer) := ⟨rfl, rfl, rfl, by decide +kernel, rfl, by decide +kernel, by decide +kernel⟩
abbrev s_is_between : Stmt := topS 4
theorem sc_is_between : FnScope ["thing", "low", "high"] ["thing", "low", "high"] (defScope s_is_between) := ⟨rfl, rfl, rfl, by decide +kernel, rfl, by decide +kernel, by decide +kernel⟩
abbrev s_is_index : Stmt := topS 5
theorem sc_is_index : FnScope ["thing", "many"] ["thing", "many"] (defScope s_is_index) := ⟨rfl, rfl, rfl, by decide +kernel, rfl, by decide +kernel, by decide +kernel⟩
abbrev s_is_tuple : Stmt := topS 6
theorem sc_is_tuple : FnScope ["thing", "many"] ["thing", "many"] (defScope s_is_tuple) := ⟨rfl, rfl, rfl, by decide +kernel, rfl, by decide +kernel, by decide +kernel⟩
abbrev s_is_list : Stmt := topS 7
theorem sc_is_list : FnScope ["thing", "low", "high"] ["thing", "low", "high"] (defScope s_is_list) := ⟨rfl, rfl, rfl, by decide +kernel, rfl, by decide +kernel, by decide +kernel⟩
abbrev s_is_ascending : Stmt := topS 8
theorem sc_is_ascending : FnScope ["items", "low", "high"] ["items"] (defScope s_is_ascending) := ⟨rfl, rfl, rfl, by decide +kernel, rfl, by decide +kernel, by decide +kernel⟩
abbrev s_counted : Stmt := topS 19
theorem sc_counted : FnScope ["tasks", "pages", "ports", "locks", "disk"] ["tasks", "pages", "ports", "locks", "disk"] (defScope s_counted) := ⟨rfl, rfl, rfl, by decide +kernel, rfl, by decide +kernel, by decide +kernel⟩
abbrev s_word_of : Stmt := topS 20
theorem sc_word_of : FnScope ["thing"] ["thing"] (defScope s_word_of) := ⟨rfl, rfl, rfl, by decide +kernel, rfl, by decide +kernel, by decide +kernel⟩
abbrev s_is_formed : Stmt := topS 21
theorem sc_is_formed : FnScope ["counts", "kinds", "thing", "kind", "item"] ["counts", "kinds", "thing"] (defScope s_is_formed) := ⟨rfl, rfl, rfl, by decide +kernel, rfl, by decide +kernel, by decide +kernel⟩
abbrev s_is_of_kind : Stmt := topS 22
theorem sc_is_of_kind : FnScope ["counts", "kind", "item"] ["counts", "kind", "item"] (defScope s_is_of_kind) := ⟨rfl, rfl, rfl, by decide +kernel, rfl, by decide +kernel, by decide +kernel⟩
abbrev s_is_right : Stmt := topS 23
theorem sc_is_right : FnScope ["counts", "thing"] ["counts", "thing"] (defScope s_is_right) := ⟨rfl, rfl, rfl, by decide +kernel, rfl, by decide +kernel, by decide +kernel⟩
abbrev s_Moment___init__ : Stmt := inClass (topS 72) 0
theorem sc_Moment___init__ : FnScope ["self", "build", "shape"] ["self", "build", "shape"] (defScope s_Moment___init__) := ⟨rfl, rfl, rfl, by decide +kernel, rfl, by decide +kernel, by decide +kernel⟩
abbrev s_Moment_build : Stmt := inClass (topS 72) 1
theorem sc_Moment_build : FnScope ["self"] ["self"] (defScope s_Moment_build) := ⟨rfl, rfl, rfl, by decide +kernel, rfl, by decide +kernel, by decide +kernel⟩
abbrev s_Moment_status : Stmt := inClass (topS 72) 2
theorem sc_Moment_status : FnScope ["self", "task"] ["self", "task"] (defScope s_Moment_status) := ⟨rfl, rfl, rfl, by decide +kernel, rfl, by decide +kernel, by decide +kernel⟩
abbrev s_Moment_answer : Stmt := inClass (topS 72) 3
theorem sc_Moment_answer : FnScope ["self", "task"] ["self", "task"] (defScope s_Moment_answer) := ⟨rfl, rfl, rfl, by decide +kernel, rfl, by decide +kernel, by decide +kernel⟩
abbrev s_Moment_rights : Stmt := inClass (topS 72) 4
theorem sc_Moment_rights : FnScope ["self", "task"] ["self", "task"] (defScope s_Moment_rights) := ⟨rfl, rfl, rfl, by decide +kernel, rfl, by decide +kernel, by decide +kernel⟩
abbrev s_Moment_held : Stmt := inClass (topS 72) 5
theorem sc_Moment_held : FnScope ["self", "task"] ["self", "task"] (defScope s_Moment_held) := ⟨rfl, rfl, rfl, by decide +kernel, rfl, by decide +kernel, by decide +kernel⟩
abbrev s_Moment_pages : Stmt := inClass (topS 72) 6
theorem sc_Moment_pages : FnScope ["self"] ["self"] (defScope s_Moment_pages) := ⟨rfl, rfl, rfl, by decide +kernel, rfl, by decide +kernel, by decide +kernel⟩
abbrev s_Moment_ports : Stmt := inClass (topS 72) 7
theorem sc_Moment_ports : FnScope ["self", "letters"] ["self"] (defScope s_Moment_ports) := ⟨rfl, rfl, rfl, by decide +kernel, rfl, by decide +kernel, by decide +kernel⟩
abbrev s_Moment_locks : Stmt := inClass (topS 72) 8
theorem sc_Moment_locks : FnScope ["self"] ["self"] (defScope s_Moment_locks) := ⟨rfl, rfl, rfl, by decide +kernel, rfl, by decide +kernel, by decide +kernel⟩
abbrev s_Moment_lines : Stmt := inClass (topS 72) 9
theorem sc_Moment_lines : FnScope ["self"] ["self"] (defScope s_Moment_lines) := ⟨rfl, rfl, rfl, by decide +kernel, rfl, by decide +kernel, by decide +kernel⟩
abbrev s_Moment_head : Stmt := inClass (topS 72) 10
theorem sc_Moment_head : FnScope ["self"] ["self"] (defScope s_Moment_head) := ⟨rfl, rfl, rfl, by decide +kernel, rfl, by decide +kernel, by decide +kernel⟩
abbrev s_Moment_running : Stmt := inClass (topS 72) 11
theorem sc_Moment_running : FnScope ["self"] ["self"] (defScope s_Moment_running) := ⟨rfl, rfl, rfl, by decide +kernel, rfl, by decide +kernel, by decide +kernel⟩
abbrev s_Moment_shape : Stmt := inClass (topS 72) 16
theorem sc_Moment_shape : FnScope ["self"] ["self"] (defScope s_Moment_shape) := ⟨rfl, rfl, rfl, by decide +kernel, rfl, by decide +kernel, by decide +kernel⟩
abbrev s_Moment___eq__ : Stmt := inClass (topS 72) 17
theorem sc_Moment___eq__ : FnScope ["self", "other"] ["self", "other"] (defScope s_Moment___eq__) := ⟨rfl, rfl, rfl, by decide +kernel, rfl, by decide +kernel, by decide +kernel⟩
abbrev s_check_task : Stmt := topS 73
theorem sc_check_task : FnScope ["build", "task"] ["build", "task"] (defScope s_check_task) := ⟨rfl, rfl, rfl, by decide +kernel, rfl, by decide +kernel, by decide +kernel⟩
abbrev s_first : Stmt := topS 76
theorem sc_first : FnScope ["build", "many", "rights", "ports", "locks", "running", "row", "size", "lock"] ["build"] (defScope s_first) := ⟨rfl, rfl, rfl, by decide +kernel, rfl, by decide +kernel, by decide +kernel⟩
abbrev s_Rules___init__ : Stmt := inClass (topS 78) 0
theorem sc_Rules___init__ : FnScope ["self", "build", "tasks", "side", "level"] ["self", "build"] (defScope s_Rules___init__) := ⟨rfl, rfl, rfl, by decide +kernel, rfl, by decide +kernel, by decide +kernel⟩
abbrev s_Rules_set_costs : Stmt := inClass (topS 78) 1
theorem sc_Rules_set_costs : FnScope ["self", "costs"] ["self", "costs"] (defScope s_Rules_set_costs) := ⟨rfl, rfl, rfl, by decide +kernel, rfl, by decide +kernel, by decide +kernel⟩
abbrev s_Rules_set_frames : Stmt := inClass (topS 78) 2
theorem sc_Rules_set_frames : FnScope ["self", "build"] ["self", "build"] (defScope s_Rules_set_frames) := ⟨rfl, rfl, rfl, by decide +kernel, rfl, by decide +kernel, by decide +kernel⟩
abbrev s_Rules_set_plan : Stmt := inClass (topS 78) 3
theorem sc_Rules_set_plan : FnScope ["self", "plan", "word", "how"] ["self", "plan"] (defScope s_Rules_set_plan) := ⟨rfl, rfl, rfl, by decide +kernel, rfl, by decide +kernel, by decide +kernel⟩
abbrev s_Rules_slot_ticks : Stmt := inClass (topS 78) 4
theorem sc_Rules_slot_ticks : FnScope ["self", "rows", "found", "task", "ticks", "gone", "fits"] ["self", "rows"] (defScope s_Rules_slot_ticks) := ⟨rfl, rfl, rfl, by decide +kernel, rfl, by decide +kernel, by decide +kernel⟩
abbrev s_Rules_set_letters : Stmt := inClass (topS 78) 5
theorem sc_Rules_set_letters : FnScope ["self", "outside"] ["self", "outside"] (defScope s_Rules_set_letters) := ⟨rfl, rfl, rfl, by decide +kernel, rfl, by decide +kernel, by decide +kernel⟩
abbrev s_Build___init__ : Stmt := inClass (topS 80) 0
theorem sc_Build___init__ : FnScope ["self", "tasks", "pages", "ports", "locks", "frames", "disk", "rights", "lines", "costs", "plan", "outside", "wipe", "pad", "lend", "share", "part", "counts", "flags", "row"] ["self", "tasks", "pages", "ports", "locks", "frames", "disk", "rights", "lines", "costs", "plan", "outside", "wipe", "pad", "lend", "share"] (defScope s_Build___init__) := ⟨rfl, rfl, rfl, by decide +kernel, rfl, by decide +kernel, by decide +kernel⟩
abbrev s_Build_tasks : Stmt := inClass (topS 80) 1
theorem sc_Build_tasks : FnScope ["self"] ["self"] (defScope s_Build_tasks) := ⟨rfl, rfl, rfl, by decide +kernel, rfl, by decide +kernel, by decide +kernel⟩
abbrev s_Build_pages : Stmt := inClass (topS 80) 2
theorem sc_Build_pages : FnScope ["self"] ["self"] (defScope s_Build_pages) := ⟨rfl, rfl, rfl, by decide +kernel, rfl, by decide +kernel, by decide +kernel⟩
abbrev s_Build_ports : Stmt := inClass (topS 80) 3
theorem sc_Build_ports : FnScope ["self"] ["self"] (defScope s_Build_ports) := ⟨rfl, rfl, rfl, by decide +kernel, rfl, by decide +kernel, by decide +kernel⟩
abbrev s_Build_locks : Stmt := inClass (topS 80) 4
theorem sc_Build_locks : FnScope ["self"] ["self"] (defScope s_Build_locks) := ⟨rfl, rfl, rfl, by decide +kernel, rfl, by decide +kernel, by decide +kernel⟩
abbrev s_Build_frames : Stmt := inClass (topS 80) 5
theorem sc_Build_frames : FnScope ["self"] ["self"] (defScope s_Build_frames) := ⟨rfl, rfl, rfl, by decide +kernel, rfl, by decide +kernel, by decide +kernel⟩
abbrev s_Build_disk : Stmt := inClass (topS 80) 6
theorem sc_Build_disk : FnScope ["self"] ["self"] (defScope s_Build_disk) := ⟨rfl, rfl, rfl, by decide +kernel, rfl, by decide +kernel, by decide +kernel⟩
abbrev s_Build_rights : Stmt := inClass (topS 80) 7
theorem sc_Build_rights : FnScope ["self", "row"] ["self"] (defScope s_Build_rights) := ⟨rfl, rfl, rfl, by decide +kernel, rfl, by decide +kernel, by decide +kernel⟩
abbrev s_Build_lines : Stmt := inClass (topS 80) 8
theorem sc_Build_lines : FnScope ["self"] ["self"] (defScope s_Build_lines) := ⟨rfl, rfl, rfl, by decide +kernel, rfl, by decide +kernel, by decide +kernel⟩
abbrev s_Build_costs : Stmt := inClass (topS 80) 9
theorem sc_Build_costs : FnScope ["self"] ["self"] (defScope s_Build_costs) := ⟨rfl, rfl, rfl, by decide +kernel, rfl, by decide +kernel, by decide +kernel⟩
abbrev s_Build_plan : Stmt := inClass (topS 80) 10
theorem sc_Build_plan : FnScope ["self", "word", "how"] ["self"] (defScope s_Build_plan) := ⟨rfl, rfl, rfl, by decide +kernel, rfl, by decide +kernel, by decide +kernel⟩
abbrev s_Build_outside : Stmt := inClass (topS 80) 11
theorem sc_Build_outside : FnScope ["self"] ["self"] (defScope s_Build_outside) := ⟨rfl, rfl, rfl, by decide +kernel, rfl, by decide +kernel, by decide +kernel⟩
abbrev s_Build_wipe : Stmt := inClass (topS 80) 12
theorem sc_Build_wipe : FnScope ["self"] ["self"] (defScope s_Build_wipe) := ⟨rfl, rfl, rfl, by decide +kernel, rfl, by decide +kernel, by decide +kernel⟩
abbrev s_Build_pad : Stmt := inClass (topS 80) 13
theorem sc_Build_pad : FnScope ["self"] ["self"] (defScope s_Build_pad) := ⟨rfl, rfl, rfl, by decide +kernel, rfl, by decide +kernel, by decide +kernel⟩
abbrev s_Build_lend : Stmt := inClass (topS 80) 14
theorem sc_Build_lend : FnScope ["self"] ["self"] (defScope s_Build_lend) := ⟨rfl, rfl, rfl, by decide +kernel, rfl, by decide +kernel, by decide +kernel⟩
abbrev s_Build_share : Stmt := inClass (topS 80) 15
theorem sc_Build_share : FnScope ["self"] ["self"] (defScope s_Build_share) := ⟨rfl, rfl, rfl, by decide +kernel, rfl, by decide +kernel, by decide +kernel⟩
abbrev s_Build_sides : Stmt := inClass (topS 80) 16
theorem sc_Build_sides : FnScope ["self", "side", "level"] ["self"] (defScope s_Build_sides) := ⟨rfl, rfl, rfl, by decide +kernel, rfl, by decide +kernel, by decide +kernel⟩
abbrev s_Build___eq__ : Stmt := inClass (topS 80) 17
theorem sc_Build___eq__ : FnScope ["self", "other"] ["self", "other"] (defScope s_Build___eq__) := ⟨rfl, rfl, rfl, by decide +kernel, rfl, by decide +kernel, by decide +kernel⟩
abbrev s_things_fault : Stmt := topS 81
theorem sc_things_fault : FnScope ["tasks", "pages", "ports", "locks", "frames", "disk"] ["tasks", "pages", "ports", "locks", "frames", "disk"] (defScope s_things_fault) := ⟨rfl, rfl, rfl, by decide +kernel, rfl, by decide +kernel, by decide +kernel⟩
abbrev s_ways_fault : Stmt := topS 82
theorem sc_ways_fault : FnScope ["counts", "rights", "lines", "costs", "plan", "outside"] ["counts", "rights", "lines", "costs", "plan", "outside"] (defScope s_ways_fault) := ⟨rfl, rfl, rfl, by decide +kernel, rfl, by decide +kernel, by decide +kernel⟩
abbrev s_flags_fault : Stmt := topS 83
theorem sc_flags_fault : FnScope ["flags", "name", "flag"] ["flags"] (defScope s_flags_fault) := ⟨rfl, rfl, rfl, by decide +kernel, rfl, by decide +kernel, by decide +kernel⟩
abbrev s_fit_as_tasks : Stmt := topS 84
theorem sc_fit_as_tasks : FnScope ["tasks", "task", "side", "level"] ["tasks"] (defScope s_fit_as_tasks) := ⟨rfl, rfl, rfl, by decide +kernel, rfl, by decide +kernel, by decide +kernel⟩
abbrev s_fit_as_numbers : Stmt := topS 85
theorem sc_fit_as_numbers : FnScope ["numbers", "most", "low", "high", "number"] ["numbers", "most", "low", "high"] (defScope s_fit_as_numbers) := ⟨rfl, rfl, rfl, by decide +kernel, rfl, by decide +kernel, by decide +kernel⟩
abbrev s_fit_as_rights : Stmt := topS 86
theorem sc_fit_as_rights : FnScope ["counts", "rights", "many", "row"] ["counts", "rights"] (defScope s_fit_as_rights) := ⟨rfl, rfl, rfl, by decide +kernel, rfl, by decide +kernel, by decide +kernel⟩
abbrev s_fit_as_row : Stmt := topS 87
theorem sc_fit_as_row : FnScope ["counts", "row", "right"] ["counts", "row"] (defScope s_fit_as_row) := ⟨rfl, rfl, rfl, by decide +kernel, rfl, by decide +kernel, by decide +kernel⟩
abbrev s_fit_as_lines : Stmt := topS 88
theorem sc_fit_as_lines : FnScope ["counts", "lines", "many", "line"] ["counts", "lines"] (defScope s_fit_as_lines) := ⟨rfl, rfl, rfl, by decide +kernel, rfl, by decide +kernel, by decide +kernel⟩
abbrev s_fit_as_costs : Stmt := topS 89
theorem sc_fit_as_costs : FnScope ["costs"] ["costs"] (defScope s_fit_as_costs) := ⟨rfl, rfl, rfl, by decide +kernel, rfl, by decide +kernel, by decide +kernel⟩
abbrev s_fit_as_plan : Stmt := topS 90
theorem sc_fit_as_plan : FnScope ["counts", "plan", "row"] ["counts", "plan"] (defScope s_fit_as_plan) := ⟨rfl, rfl, rfl, by decide +kernel, rfl, by decide +kernel, by decide +kernel⟩
abbrev s_fits_as_slot : Stmt := topS 91
theorem sc_fits_as_slot : FnScope ["counts", "row"] ["counts", "row"] (defScope s_fits_as_slot) := ⟨rfl, rfl, rfl, by decide +kernel, rfl, by decide +kernel, by decide +kernel⟩
abbrev s_fits_as_outside : Stmt := topS 92
theorem sc_fits_as_outside : FnScope ["counts", "outside"] ["counts", "outside"] (defScope s_fits_as_outside) := ⟨rfl, rfl, rfl, by decide +kernel, rfl, by decide +kernel, by decide +kernel⟩
abbrev s__law_cell : Stmt := topS 94
theorem sc__law_cell : FnScope ["_law_script", "_law_k"] ["_law_script", "_law_k"] (defScope s__law_cell) := ⟨rfl, rfl, rfl, by decide +kernel, rfl, by decide +kernel, by decide +kernel⟩
abbrev s__law_digits : Stmt := topS 95
theorem sc__law_digits : FnScope ["_law_cell_here", "_law_sizes", "_law_found", "_law_number", "_law_k", "_law_mixed"] ["_law_cell_here", "_law_sizes"] (defScope s__law_digits) := ⟨rfl, rfl, rfl, by decide +kernel, rfl, by decide +kernel, by decide +kernel⟩
abbrev s__law_same : Stmt := topS 96
theorem sc__law_same : FnScope ["_law_told", "_law_due", "_law_k"] ["_law_told", "_law_due"] (defScope s__law_same) := ⟨rfl, rfl, rfl, by decide +kernel, rfl, by decide +kernel, by decide +kernel⟩
abbrev s__law_menu : Stmt := topS 97
theorem sc__law_menu : FnScope ["_law_many", "_law_pages", "_law_ports", "_law_locks", "_law_disk", "_law_menu_here", "_law_k"] ["_law_many", "_law_pages", "_law_ports", "_law_locks", "_law_disk"] (defScope s__law_menu) := ⟨rfl, rfl, rfl, by decide +kernel, rfl, by decide +kernel, by decide +kernel⟩
abbrev s__law_rights : Stmt := topS 98
theorem sc__law_rights : FnScope ["_law_cell_here", "_law_menu_here", "_law_draws", "_law_row", "_law_k"] ["_law_cell_here", "_law_menu_here"] (defScope s__law_rights) := ⟨rfl, rfl, rfl, by decide +kernel, rfl, by decide +kernel, by decide +kernel⟩
abbrev s__law_things : Stmt := topS 99
theorem sc__law_things : FnScope ["_law_script", "_law_d", "_law_tasks", "_law_parts_here", "_law_menu_here", "_law_k", "_law_row"] ["_law_script"] (defScope s__law_things) := ⟨rfl, rfl, rfl, by decide +kernel, rfl, by decide +kernel, by decide +kernel⟩
abbrev s__law_parts : Stmt := topS 100
theorem sc__law_parts : FnScope ["_law_script", "_law_parts_here", "_law_e", "_law_most", "_law_rows", "_law_k", "_law_ticks"] ["_law_script"] (defScope s__law_parts) := ⟨rfl, rfl, rfl, by decide +kernel, rfl, by decide +kernel, by decide +kernel⟩
abbrev s__law_build : Stmt := topS 101
theorem sc__law_build : FnScope ["_law_parts_here", "_law_flags", "_law_rights_here", "_law_plan", "_law_row"] ["_law_parts_here"] (defScope s__law_build) := ⟨rfl, rfl, rfl, by decide +kernel, rfl, by decide +kernel, by decide +kernel⟩
abbrev s__law_asked : Stmt := topS 102
theorem sc__law_asked : FnScope ["_law_moment", "_law_which", "_law_task"] ["_law_moment", "_law_which", "_law_task"] (defScope s__law_asked) := ⟨rfl, rfl, rfl, by decide +kernel, rfl, by decide +kernel, by decide +kernel⟩
abbrev s__law_refused : Stmt := topS 103
theorem sc__law_refused : FnScope ["_law_moment", "_law_which", "_law_task", "_law_kind", "_law_other", "_law_e"] ["_law_moment", "_law_which", "_law_task"] (defScope s__law_refused) := ⟨rfl, rfl, rfl, by decide +kernel, rfl, by decide +kernel, by decide +kernel⟩
abbrev s__law_lists_of : Stmt := topS 104
theorem sc__law_lists_of : FnScope ["_law_moment"] ["_law_moment"] (defScope s__law_lists_of) := ⟨rfl, rfl, rfl, by decide +kernel, rfl, by decide +kernel, by decide +kernel⟩
abbrev s__law_tells : Stmt := topS 105
theorem sc__law_tells : FnScope ["_law_moment", "_law_parts_here", "_law_many", "_law_lists", "_law_task", "_law_told", "_law_shape", "_law_size", "_law_k", "_law_which", "_law_row"] ["_law_moment", "_law_parts_here"] (defScope s__law_tells) := ⟨rfl, rfl, rfl, by decide +kernel, rfl, by decide +kernel, by decide +kernel⟩
abbrev s_law : Stmt := topS 106
theorem sc_law : FnScope ["_law_script", "_law_parts_here", "_law_build_here", "_law_moment", "_law_row", "_law_told", "_law_k", "_law_unlike", "_law_flags", "_law_at", "_law_other", "_law_bad"] ["_law_script"] (defScope s_law) := ⟨rfl, rfl, rfl, by decide +kernel, rfl, by decide +kernel, by decide +kernel⟩
section
variable {P : Program} {w : World} {K : PySem.W.Frag} {mg : Str → Option Value} {base : Heap}
def dBetween (d : PyData) (lo hi : Int) : Bool := match d with | .int i => decide (lo ≤ i) && decide (i ≤ hi) | _ => false
def dTupleOf (d : PyData) (n : Nat) : Bool := match d with | .tuple ds => decide (ds.length = n) | _ => false
def dListOf (d : PyData) (lo hi : Int) : Bool := match d with | .list ds => decide (lo ≤ ds.length) && decide ((ds.length : Int) ≤ hi) | _ => false
def spInteger (K : PySem.W.Frag) : Sp := fun vs H Q _ => ∃ (x : V) (d : PyData), vs = [x] ∧ Dp K H x d ∧ Q (.bl (isInt d && !isBool d)) H
theorem ok_is_integer (B : Bl mg) (d : DefAt K mg "is_integer" s_is_integer ["thing"]) : Cal P w K mg base 1 "is_integer" ["thing"] (spInteger K) := by
 refine Hk.hold ?_
 simp (disch := with_unfolding_all (
 exact Hk.disch (d.cal fun f fd F => by
  refine F.ok sc_is_integer (fun vs H Q E h => ?_) (fun cdv A outer s H vs Q E hr h => ?_)
  · obtain ⟨x, d, rfl, _⟩ := h; rfl
  · obtain ⟨x, d, rfl, hd, q⟩ := h
    refine ⟨_, (pss_one (ps_ret (pe_and (pe_callB call_isi rfl B.isinstance hb_isinstance (pa_cons (pv 0) (pa_cons (pe_bltn (v := .ty "int") rfl B.int_ hb_int rfl) pa_nil))) (pe_one (pe_not (pe_callB call_isi rfl B.isinstance hb_isinstance (pa_cons (pv 0) (pa_cons (pe_bltn (v := .ty "bool") rfl B.bool_ hb_bool rfl) pa_nil)))))))), ?_⟩
    walk_at "st0"
    refine q_if (fun hc => ?_) (fun hc => ?_)
    · walk_at "st"
      rw [hc] at q; exact q
    · rw [hc] at q; exact q))) only [↓Hk.hold_s]
def spBetween (K : PySem.W.Frag) : Sp := fun vs H Q _ => ∃ (x : V) (d : PyData) (lo hi : Int), vs = [x, .int lo, .int hi] ∧ Dp K H x d ∧ Q (.bl (dBetween d lo hi)) H
theorem ok_is_between (B : Bl mg) (d : DefAt K mg "is_between" s_is_between ["thing", "low", "high"]) (c_is_integer : Cal P w K mg base 1 "is_integer" ["thing"] (spInteger K)) : Cal P w K mg base 2 "is_between" ["thing", "low", "high"] (spBetween K) := by
 refine Hk.hold ?_
 simp (disch := with_unfolding_all (
 exact Hk.disch (d.cal fun f fd F => by
  refine F.ok sc_is_between (fun vs H Q E h => ?_) (fun cdv A outer s H vs Q E hr h => ?_)
  · obtain ⟨x, d, lo, hi, rfl, _⟩ := h; rfl
  · obtain ⟨x, d, lo, hi, rfl, hd, q⟩ := h
    refine ⟨_, (pss_one (ps_ret (pe_and (pe_cal c_is_integer (hr.mono (by omega)) rfl (pa_cons (pv 0) pa_nil)) (pe_one (pe_chain op_le op_le (pv 1) (pv 0) (pv 2)))))), ?_⟩
    walk_at "st0"
    refine ⟨_, _, rfl, hd, ?_⟩
    walk_at "st"
    cases d with
    | int i =>
      refine iteT ?_
      cases hd
      walk_at "st"
      refine q_if (fun hc => ?_) (fun hc => ?_)
      · walk_at "st"
        simpa [dBetween, hc] using q
      · simpa [dBetween, hc] using q
    | _ => exact iteF q))) only [↓Hk.hold_s]
def spIndex (K : PySem.W.Frag) : Sp := fun vs H Q _ => ∃ (x : V) (d : PyData) (n : Int), vs = [x, .int n] ∧ Dp K H x d ∧ Q (.bl (dBetween d 0 (n - 1))) H
theorem ok_is_index (B : Bl mg) (d : DefAt K mg "is_index" s_is_index ["thing", "many"]) (c_is_between : Cal P w K mg base 2 "is_between" ["thing", "low", "high"] (spBetween K)) : Cal P w K mg base 3 "is_index" ["thing", "many"] (spIndex K) := d.cal fun f fd F => by
  refine F.ok sc_is_index (fun vs H Q E h => ?_) (fun cdv A outer s H vs Q E hr h => ?_)
  · obtain ⟨x, d, n, rfl, _⟩ := h; rfl
  · obtain ⟨x, d, n, rfl, hd, q⟩ := h
    refine ⟨_, (pss_one (ps_ret (pe_cal c_is_between (hr.mono (by omega)) rfl (pa_cons (pv 0) (pa_cons pe_int (pa_cons (pe_op op_sub (pv 1) pe_int) pa_nil)))))), ?_⟩
    walk_at "st0"
    exact ⟨_, _, _, _, rfl, hd, q⟩
def spTupleOf (K : PySem.W.Frag) : Sp := fun vs H Q _ => ∃ (x : V) (d : PyData) (n : Nat), vs = [x, .int n] ∧ Dp K H x d ∧ Q (.bl (dTupleOf d n)) H
theorem ok_is_tuple (B : Bl mg) (d : DefAt K mg "is_tuple" s_is_tuple ["thing", "many"]) : Cal P w K mg base 1 "is_tuple" ["thing", "many"] (spTupleOf K) := by
 refine Hk.hold ?_
 simp (disch := with_unfolding_all (
 exact Hk.disch (d.cal fun f fd F => by
  refine F.ok sc_is_tuple (fun vs H Q E h => ?_) (fun cdv A outer s H vs Q E hr h => ?_)
  · obtain ⟨x, d, n, rfl, _⟩ := h; rfl
  · obtain ⟨x, d, n, rfl, hd, q⟩ := h
    refine ⟨_, (pss_one (ps_ret (pe_and (pe_callB call_isi rfl B.isinstance hb_isinstance (pa_cons (pv 0) (pa_cons (pe_bltn (v := .ty "tuple") rfl B.tuple_ hb_tuple rfl) pa_nil))) (pe_one (pe_cmpR op_eq (pe_callB call_len_seq rfl B.len hb_len (pa_cons (pv 0) pa_nil)) (pv 1) (nomark _)))))), ?_⟩
    walk_at "st0"
    cases d with
    | tuple ds =>
      refine iteT ?_
      cases hd with
      | tup hs ha =>
        walk_at "st"
        refine ⟨_, _, rfl, .inr hs, ?_⟩
        walk_at "st"
        refine q_eq rfl ?_
        simp only [dTupleOf] at q
        have e : decide ((ds.length : Int) = (n : Int)) = decide (ds.length = n) := decide_eq_decide.mpr (by omega)
        simpa [ha.length, e] using q
    | _ => exact iteF q))) only [↓Hk.hold_s]
def spListOf (K : PySem.W.Frag) : Sp := fun vs H Q _ => ∃ (x : V) (d : PyData) (lo hi : Int), vs = [x, .int lo, .int hi] ∧ Dp K H x d ∧ Q (.bl (dListOf d lo hi)) H
theorem ok_is_list (B : Bl mg) (d : DefAt K mg "is_list" s_is_list ["thing", "low", "high"]) : Cal P w K mg base 1 "is_list" ["thing", "low", "high"] (spListOf K) := by
 refine Hk.hold ?_
 simp (disch := with_unfolding_all (
 exact Hk.disch (d.cal fun f fd F => by
  refine F.ok sc_is_list (fun vs H Q E h => ?_) (fun cdv A outer s H vs Q E hr h => ?_)
  · obtain ⟨x, d, lo, hi, rfl, _⟩ := h; rfl
  · obtain ⟨x, d, lo, hi, rfl, hd, q⟩ := h
    refine ⟨_, (pss_one (ps_ret (pe_and (pe_callB call_isi rfl B.isinstance hb_isinstance (pa_cons (pv 0) (pa_cons (pe_bltn (v := .ty "list") rfl B.list_ hb_list rfl) pa_nil))) (pe_one (pe_chain op_le op_le (pv 1) (pe_callB call_len_seq rfl B.len hb_len (pa_cons (pv 0) pa_nil)) (pv 2)))))), ?_⟩
    walk_at "st0"
    cases d with
    | list ds =>
      refine iteT ?_
      cases hd with
      | lst hs ha =>
        walk_at "st"
        refine ⟨_, _, rfl, .inl hs, ?_⟩
        walk_at "st"
        rw [ha.length]
        refine q_if (fun hc => ?_) (fun hc => ?_)
        · walk_at "st"
          simpa [dListOf, hc] using q
        · simpa [dListOf, hc] using q
    | _ => exact iteF q))) only [↓Hk.hold_s]
end
end T
namespace T
section
variable {P : Program} {w : World} {K : PySem.W.Frag} {mg : Str → Option Value} {base : Heap}
/-- rights as they are handed in: a list of tuples -/
def RtAt (K : PySem.W.Frag) (H : Hp) (x : V) (r : Str × Int) : Prop := ∃ t, x = .ref t ∧ SqT K H t [.str r.1, .int r.2]
def ascWI : List (Str × Int) → Bool
  | a :: b :: r => ltWI a b && ascWI (b :: r)
  | _ => true
theorem ascWI_iff : ∀ {l : List (Str × Int)}, ascWI l = true ↔ ∀ i a b, l[i]? = some a → l[i + 1]? = some b → ltWI a b = true
  | [] => by simp [ascWI]
  | [_] => by simp [ascWI]
  | a :: b :: r => by
    unfold ascWI
    rw [Bool.and_eq_true, ascWI_iff (l := b :: r)]
    constructor
    · rintro ⟨h, k⟩ i x y e1 e2
      cases i with
      | zero => simp at e1 e2; subst e1 e2; exact h
      | succ i => exact k i x y (by simpa using e1) (by simpa using e2)
    · intro h
      exact ⟨h 0 a b rfl rfl, fun i x y e1 e2 => h (i + 1) x y (by simpa using e1) (by simpa using e2)⟩
def spAsc (K : PySem.W.Frag) : Sp := fun vs H Q _ => ∃ (a : Addr) (xs : List V) (rs : List (Str × Int)), vs = [.ref a] ∧ SqL K H a xs ∧ Paired (RtAt K H) xs rs ∧ rs.length ≤ 1000 ∧ ∀ H', Same H H' → Q (.bl (ascWI rs)) H'
theorem hu0_of {A : Around} {k : Nat} (hr : Room k A) : A.units < cLine := Nat.lt_of_succ_lt (hu_of hr)
theorem paired_get {α β : Type} {R : α → β → Prop} : ∀ {xs : List α} {ys : List β}, Paired R xs ys → ∀ {i : Nat} {x : α}, xs[i]? = some x → ∃ y, ys[i]? = some y ∧ R x y
  | _, _, .nil, _, _, e => by simp at e
  | _, _, .cons r t, 0, _, e => by simp at e; subst e; exact ⟨_, rfl, r⟩
  | _, _, .cons r t, i + 1, _, e => by simpa using paired_get t (by simpa using e)
theorem cut1 (xs : List V) : cutV xs (some 1) none = xs.drop 1 := by
  unfold cutV
  rw [show HT.sIx xs.length 0 (some 1) = min 1 xs.length from HT.sIx_nat xs.length 0 1, HT.sIx_none]
  cases xs with
  | nil => rfl
  | cons x r =>
    have e : min 1 (x :: r).length = 1 := by simp
    rw [e]
    simp
theorem ok_is_ascending (B : Bl mg) (d : DefAt K mg "is_ascending" s_is_ascending ["items"]) : Cal P w K mg base 1 "is_ascending" ["items"] (spAsc K) := by
 refine Hk.hold ?_
 simp (disch := with_unfolding_all (
 exact Hk.disch (d.cal fun f fd F => by
  refine F.ok sc_is_ascending (fun vs H Q E h => ?_) (fun cdv A outer s H vs Q E hr h => ?_)
  · obtain ⟨a, xs, rs, rfl, _⟩ := h; rfl
  · obtain ⟨a, xs, rs, rfl, hl, hp, few, q⟩ := h
    have lx : xs.length = rs.length := Paired.length hp
    refine ⟨_, (pss_one (ps_ret (pe_callB (cr_all rfl) rfl B.all hb_all (pa_cons (pe_lc (own := [("low", 1), ("high", 2)]) (tt := tYes) rfl sc_is_ascending.nd (pi_zip rfl B.zip (pa_cons (pv 0) (pa_cons (pe_slice sl_list (pv 0) (po_some pe_int) po_none) pa_nil))) (blkOk_by (N := ["items", "low", "high"]) (sc := defScope s_is_ascending) (by decide +kernel)) (fun _ _ _ _ _ => (show PG _ _ (gTup K 2 _) from pg_tup rfl (pgs_cons (pg_name (i := 1) sc_is_ascending.nd rfl (Or.inl rfl)) (pgs_cons (pg_name (i := 2) sc_is_ascending.nd rfl (Or.inl rfl)) pgs_nil)))) (fun _ _ _ _ _ => pts_nil) (fun _ _ _ _ _ => (pe_cmpR (show OpR _ _ (rLtWI K) from op_ltWI (hu0_of hr)) (pv 1) (pv 2) (nomark _)))) pa_nil)))), ?_⟩
    walk_at "st0"
    refine ⟨.ref a, rfl, .ref a, rfl, 1, rfl, a, xs, rfl, hl, fun c nc => ?_⟩
    have s1 := same_new (o := .lst (cutV xs (some 1) none)) nc
    have h1 := s1.seq hl
    have h2 : SqL K (upd H c (.lst (cutV xs (some 1) none))) c (xs.drop 1) := by rw [cut1]; exact SqL.of upd_same
    refine ⟨a, c, _, _, rfl, h1, h2, fun D nD => ?_⟩
    have key : ∀ i, i < rs.length - 1 → ∃ x y a b, xs[i]? = some x ∧ (xs.drop 1)[i]? = some y ∧ rs[i]? = some a ∧ rs[i + 1]? = some b ∧ RtAt K H x a ∧ RtAt K H y b := fun i lt => by
      have e1 : xs[i]? = some (xs[i]'(by omega)) := List.getElem?_eq_getElem _
      have e2 : xs[i + 1]? = some (xs[i + 1]'(by omega)) := List.getElem?_eq_getElem _
      obtain ⟨b1, f1, g1⟩ := paired_get hp e1
      obtain ⟨b2, f2, g2⟩ := paired_get hp e2
      exact ⟨_, _, b1, b2, e1, by rw [List.getElem?_drop, Nat.add_comm 1 i]; exact e2, f1, f2, g1, g2⟩
    refine lc_val (n := rs.length - 1) (walk_zip (by rw [List.length_drop]; omega)) (fun i => .bl (ltWI (rs.getD i default) (rs.getD (i + 1) default))) nD (by exact sz1000 (by omega)) (fun H2 s => ⟨s.seq h1, s.seq h2⟩) ypair_same ?_ ?_
    · rintro i x H2 H3 lt s2 ⟨t, u, v, rfl, nt, rfl, e1, e2⟩ Q2 k
      obtain ⟨x', y', a', b', f1, f2, f3, f4, ⟨t1, rfl, g1⟩, ⟨t2, rfl, g2⟩⟩ := key i lt
      replace e1 := e1.symm.trans f1; cases e1
      replace e2 := e2.symm.trans f2; cases e2
      have s3 := same_new (o := .tup [V.ref t1, V.ref t2]) nt
      refine ⟨t, [.ref t1, .ref t2], rfl, SqT.of upd_same, rfl, .ref t1, [.ref t2], rfl, .ref t2, [], rfl, rfl, rfl, ?_⟩
      walk_at "st"
      refine ⟨t1, t2, a', b', rfl, rfl, Same.sqT s3 (Same.sqT s2 (Same.sqT s1 g1)), Same.sqT s3 (Same.sqT s2 (Same.sqT s1 g2)), ?_⟩
      have z := k _ (Same.refl _)
      simpa [List.getD_eq_getElem?_getD, f3, f4] using z
    · intro H2 s2 e
      refine ⟨_, (List.range (rs.length - 1)).map fun i => ltWI (rs.getD i default) (rs.getD (i + 1) default), rfl, SqL.of (by rw [e, List.map_map]; rfl), ?_⟩
      have z : (((List.range (rs.length - 1)).map fun i => ltWI (rs.getD i default) (rs.getD (i + 1) default)).all id) = ascWI rs := by
        rw [Bool.eq_iff_iff, hk_all_range, ascWI_iff]
        constructor
        · intro h i a b e1 e2
          have lt : i + 1 < rs.length := (List.getElem?_eq_some_iff.mp e2).1
          simpa [List.getD_eq_getElem?_getD, e1, e2] using h i (by omega)
        · intro h i lt
          exact h i _ _ (by simp [List.getD_eq_getElem?_getD, List.getElem?_eq_getElem (show i < rs.length by omega)]) (by simp [List.getD_eq_getElem?_getD, List.getElem?_eq_getElem (show i + 1 < rs.length by omega)])
      rw [z]
      exact q H2 (s1.trans s2)))) only [↓Hk.hold_s]
end
end T
namespace T
section
variable {P : Program} {w : World} {K : PySem.W.Frag} {mg : Str → Option Value} {base : Heap}
def cntOf (t p q l d : Int) : Cnt := [("task", t), ("page", p), ("port", q), ("lock", l), ("value", 2), ("place", d), ("disk", if 1 < d then 1 else d)]
def spCounted : Sp := fun vs H Q _ => ∃ t p q l d : Int, vs = [.int t, .int p, .int q, .int l, .int d] ∧ ∀ c H', Same H H' → H c = none → H' c = some (.dK (countKV (cntOf t p q l d))) → Q (.ref c) H'
theorem ok_counted (B : Bl mg) (d : DefAt K mg "counted" s_counted ["tasks", "pages", "ports", "locks", "disk"]) : Cal P w K mg base 1 "counted" ["tasks", "pages", "ports", "locks", "disk"] spCounted := by
 refine Hk.hold ?_
 simp (disch := with_unfolding_all (
 exact Hk.disch (d.cal fun f fd F => by
  refine F.ok sc_counted (fun vs H Q E h => ?_) (fun cdv A outer s H vs Q E hr h => ?_)
  · obtain ⟨t, p, q, l, d, rfl, _⟩ := h; rfl
  · obtain ⟨t, p, q, l, d, rfl, k⟩ := h
    refine ⟨_, (pss_one (ps_ret (pe_disp (pps_cons pe_str (pv 0) (pps_cons pe_str (pv 1) (pps_cons pe_str (pv 2) (pps_cons pe_str (pv 3) (pps_cons pe_str pe_int (pps_cons pe_str (pv 4) (pps_cons pe_str (pe_callB (call_min2 rfl) rfl B.min hb_min (pa_cons (pv 4) (pa_cons pe_int pa_nil))) pps_nil))))))) rfl rfl (by simp) (by decide)))), ?_⟩
    walk_at "st0"
    intro c nc
    unfold tPairs; walk_at "st"; unfold tPairs; walk_at "st"; unfold tPairs; walk_at "st"; unfold tPairs; walk_at "st"; unfold tPairs; walk_at "st"; unfold tPairs; walk_at "st"; unfold tPairs; walk_at "st"
    refine ⟨_, _, rfl, ?_⟩
    unfold tPairs
    refine ⟨upd_same, [(Sum.inr "task", .int t), (Sum.inr "page", .int p), (Sum.inr "port", .int q), (Sum.inr "lock", .int l), (Sum.inr "value", .int 2), (Sum.inr "place", .int d), (Sum.inr "disk", .int (if 1 < d then 1 else d))], rfl, by simp, ?_⟩
    refine k c _ (fun b o e => ?_) nc ?_
    · have hb := ne_of_none e nc
      rw [upd_ne hb, upd_ne hb]; exact e
    · rw [upd_same]; rfl))) only [↓Hk.hold_s]
def dWord (d : PyData) : Str := match d with | .tuple (.str z :: _) => z | _ => ""
def spWord (K : PySem.W.Frag) : Sp := fun vs H Q _ => ∃ (x : V) (d : PyData), vs = [x] ∧ Dp K H x d ∧ Q (.str (dWord d)) H
theorem ok_word_of (B : Bl mg) (d : DefAt K mg "word_of" s_word_of ["thing"]) : Cal P w K mg base 1 "word_of" ["thing"] (spWord K) := by
 refine Hk.hold ?_
 simp (disch := with_unfolding_all (
 exact Hk.disch (d.cal fun f fd F => by
  refine F.ok sc_word_of (fun vs H Q E h => ?_) (fun cdv A outer s H vs Q E hr h => ?_)
  · obtain ⟨x, d, rfl, _⟩ := h; rfl
  · obtain ⟨x, d, rfl, hd, q⟩ := h
    refine ⟨_, (pss_cons (ps_if (PW.pt (pw_and (pt_val (pe_callB call_isi rfl B.isinstance hb_isinstance (pa_cons (pv 0) (pa_cons (pe_bltn (v := .ty "tuple") rfl B.tuple_ hb_tuple rfl) pa_nil)))) (pw_and (pt_cmpR op_gt (pe_callB call_len_seq rfl B.len hb_len (pa_cons (pv 0) pa_nil)) pe_int (nomark _)) (pw_and1 (pt_val (pe_callB call_isi rfl B.isinstance hb_isinstance (pa_cons (pe_ix ix_tup (pv 0) pe_int (fun _ _ => rfl)) (pa_cons (pe_bltn (v := .ty "str") rfl B.str_ hb_str rfl) pa_nil)))))))) (pss_one (ps_ret (pe_ix ix_tup (pv 0) pe_int (fun _ _ => rfl)))) pss_nil)
      (pss_one (ps_ret pe_str))), ?_⟩
    walk_at "st0"
    cases d with
    | tuple ds =>
      refine iteT ?_
      cases hd with
      | @tup a xs _ hs ha =>
      walk_at "st"
      refine ⟨_, _, rfl, .inr hs, ?_⟩
      walk_at "st"
      cases ha with
      | nil => exact iteF (iteF q)
      | @cons y ys e es h1 h2 =>
        refine q_if (fun hc => ?_) (fun hc => by simp at hc)
        walk_at "st"
        refine q_ixT hs (atI0 rfl) ?_
        walk_at "st"
        cases e with
        | str z =>
          cases h1
          refine iteT ?_
          walk_at "st"
          exact q_ixT hs (atI0 rfl) q
        | _ => exact iteF q
    | _ => exact iteF (iteF q)))) only [↓Hk.hold_s]
/-- each item of its kind -/
def dKinds (kf : Str → PyData → Bool) (ks : List Str) (ds : List PyData) : Bool := (List.range (min ks.length ds.length)).all fun i => kf (ks.getD i default) (ds.getD i .none)
def dFormed (kf : Str → PyData → Bool) (o : Option (List Str)) (d : PyData) : Bool := match o, d with
  | some ks, .tuple ds => decide (ds.length = ks.length + 1) && dKinds kf ks (ds.drop 1)
  | _, _ => false
def spKind (K : PySem.W.Frag) (good : Cnt → Str → Prop) (kf : Cnt → Str → PyData → Bool) : Sp := fun vs H Q _ => ∃ (a : Addr) (c : Cnt) (z : Str) (x : V) (d : PyData), vs = [.ref a, .str z, x] ∧ H a = some (.dK (countKV c)) ∧ good c z ∧ Dp K H x d ∧ ∀ H', Same H H' → Q (.bl (kf c z d)) H'
def spFormed (K : PySem.W.Frag) (good : Cnt → Str → Prop) (kf : Cnt → Str → PyData → Bool) : Sp := fun vs H Q _ => ∃ (a : Addr) (c : Cnt) (k : V) (o : Option (List Str)) (x : V) (d : PyData), vs = [.ref a, k, x] ∧ H a = some (.dK (countKV c)) ∧ Dp K H x d ∧
  (match o with | none => k = .non | some ks => (∃ t, k = .ref t ∧ SqT K H t (ks.map V.str)) ∧ (∃ ds, d = .tuple ds) ∧ ks.length ≤ 100 ∧ ∀ z ∈ ks, good c z) ∧ ∀ H', Same H H' → Q (.bl (dFormed (kf c) o d)) H'
theorem ok_is_formed {j : Nat} {good : Cnt → Str → Prop} {kf : Cnt → Str → PyData → Bool} (B : Bl mg) (d : DefAt K mg "is_formed" s_is_formed ["counts", "kinds", "thing"]) (c_is_of_kind : Cal P w K mg base j "is_of_kind" ["counts", "kind", "item"] (spKind K good kf)) :
    Cal P w K mg base (j + 1) "is_formed" ["counts", "kinds", "thing"] (spFormed K good kf) := by
 refine Hk.hold ?_
 simp (disch := with_unfolding_all (
 exact Hk.disch (d.cal fun f fd F => by
  refine F.ok sc_is_formed (fun vs H Q E h => ?_) (fun cdv A outer s H vs Q E hr h => ?_)
  · obtain ⟨a, c, k, o, x, d, rfl, _⟩ := h; rfl
  · obtain ⟨a, c, k, o, x, d, rfl, hc, hd, ho, q⟩ := h
    refine ⟨_, (pss_cons (ps_if (PW.pt (pw_or (pt_cmp (pc_isN (pv 1))) (pw_or1 (pt_cmpR op_ne (pe_callB call_len_seq rfl B.len hb_len (pa_cons (pv 2) pa_nil)) (pe_op op_add (pe_callB call_len_seq rfl B.len hb_len (pa_cons (pv 1) pa_nil)) pe_int) (nomark _))))) (pss_one (ps_ret pe_bl)) pss_nil)
      (pss_one (ps_ret (pe_callB (cr_all rfl) rfl B.all hb_all (pa_cons (pe_lc (own := [("kind", 3), ("item", 4)]) (tt := tYes) rfl sc_is_formed.nd (RZ.pi_zipA rfl B.zip (pa_cons (pv 1) (pa_cons (pe_slice sl_tup (pv 2) (po_some pe_int) po_none) pa_nil))) (blkOk_by (N := ["counts", "kinds", "thing", "kind", "item"]) (sc := defScope s_is_formed) (by decide +kernel)) (fun _ _ _ _ _ => (show PG _ _ (gTup K 2 _) from pg_tup rfl (pgs_cons (pg_name (i := 3) sc_is_formed.nd rfl (Or.inl rfl)) (pgs_cons (pg_name (i := 4) sc_is_formed.nd rfl (Or.inl rfl)) pgs_nil)))) (fun _ _ _ _ _ => pts_nil) (fun _ _ _ _ _ => (pe_cal c_is_of_kind (hr.mono (by omega)) rfl (pa_cons (pv 0) (pa_cons (pv 3) (pa_cons (pv 4) pa_nil)))))) pa_nil))))), ?_⟩
    walk_at "st0"
    match o, ho with
    | none, ho =>
      subst ho
      refine iteT (iteT ?_)
      walk_at "st"
      exact q H (Same.refl H)
    | some ks, ⟨⟨t, ek, ht⟩, ⟨ds, ed⟩, few, hg⟩ =>
      subst ek ed
      refine iteF ?_
      walk_at "st"
      cases hd with
      | @tup b xs _ hs ha =>
      refine ⟨_, _, rfl, .inr hs, ?_⟩
      walk_at "st"
      refine ⟨_, _, rfl, .inr ht, ?_⟩
      walk_at "st"
      refine q_ne rfl ?_
      walk_at "st"
      have lx := ha.length
      have e1 : (!decide (V.int (xs.length : Int) = V.int (((ks.map V.str).length : Int) + 1))) = !decide (ds.length = ks.length + 1) := by
        congr 1
        rw [decide_eq_decide, V.int.injEq, List.length_map]
        omega
      rw [e1]
      by_cases hl : ds.length = ks.length + 1
      · rw [decide_eq_true hl]
        refine iteF ?_
        walk_at "st"
        refine ⟨_, rfl, .ref b, rfl, 1, rfl, b, xs, rfl, hs, ?_, fun p np => ?_⟩
        · rw [show HT.sIx xs.length 0 (some 1) = min 1 xs.length from HT.sIx_nat xs.length 0 1]
          omega
        rw [cut1]
        have s1 := same_new (o := .tup (xs.drop 1)) np
        have h1 : SqT K (upd H p (.tup (xs.drop 1))) t (ks.map V.str) := Same.sqT s1 ht
        have h2 : SqT K (upd H p (.tup (xs.drop 1))) p (xs.drop 1) := SqT.of upd_same
        refine ⟨t, p, ks.map V.str, xs.drop 1, rfl, .inr ⟨h1, h2, fun D nD => ?_⟩⟩
        have ha2 := ha.drop 1
        refine lc_val (n := ks.length) (walk_zipT (by rw [List.length_drop, List.length_map]; omega)) (fun i => .bl (kf c (ks.getD i default) ((ds.drop 1).getD i .none))) nD (by exact sz1000 (by omega)) (fun H2 s => ⟨Same.sqT s h1, Same.sqT s h2⟩) ypair_same ?_ ?_
        · rintro i x2 H2 H3 lt s2 ⟨T2, u, v, rfl, nT, rfl, e1, e2⟩ Q2 k2
          replace e1 : (ks.map V.str)[i]? = some u := e1
          replace e2 : (xs.drop 1)[i]? = some v := e2
          rw [List.getElem?_map, List.getElem?_eq_getElem lt] at e1
          cases e1
          obtain ⟨d2, f2, g2⟩ := ha2.get' e2
          have s3 := same_new (o := .tup [V.str ks[i], v]) nT
          refine ⟨T2, [.str ks[i], v], rfl, SqT.of upd_same, rfl, .str ks[i], [v], rfl, v, [], rfl, rfl, rfl, ?_⟩
          walk_at "st"
          refine ⟨a, c, ks[i], v, d2, rfl, s3 _ _ (s2 _ _ (s1 _ _ hc)), hg _ (List.getElem_mem lt), Dp.mono (s1.trans (s2.trans s3)) g2, fun H4 s4 => ?_⟩
          have z := k2 H4 s4
          simp only [List.getD_eq_getElem?_getD, f2, List.getElem?_eq_getElem lt, Option.getD_some] at z
          exact z
        · intro H2 s2 e
          refine ⟨_, (List.range ks.length).map fun i => kf c (ks.getD i default) ((ds.drop 1).getD i .none), rfl, SqL.of (by rw [e, List.map_map]; rfl), ?_⟩
          have z : (((List.range ks.length).map fun i => kf c (ks.getD i default) ((ds.drop 1).getD i .none)).all id) = dFormed (kf c) (some ks) (.tuple ds) := by
            simp only [dFormed, dKinds]
            rw [decide_eq_true hl, Bool.true_and, List.length_drop, show min ks.length (ds.length - 1) = ks.length by omega, List.all_map]
            rfl
          rw [z]
          exact q H2 (s1.trans s2)
      · rw [decide_eq_false hl]
        refine iteT ?_
        walk_at "st"
        have z := q H (Same.refl H)
        simp only [dFormed] at z
        rw [decide_eq_false hl] at z
        exact z))) only [↓Hk.hold_s]
def good1 (c : Cnt) (z : Str) : Prop := z ≠ "right" ∧ (z = "ticks" ∨ ∃ n, c.lookup z = some n)
def kf1 (c : Cnt) (z : Str) (d : PyData) : Bool := if z = "ticks" then dBetween d 1 2 else dBetween d 0 ((c.lookup z).getD 0 - 1)
theorem ok_is_of_kind1 (B : Bl mg) (d : DefAt K mg "is_of_kind" s_is_of_kind ["counts", "kind", "item"]) (c_is_between : Cal P w K mg base 2 "is_between" ["thing", "low", "high"] (spBetween K)) (c_is_index : Cal P w K mg base 3 "is_index" ["thing", "many"] (spIndex K)) :
    Cal P w K mg base 4 "is_of_kind" ["counts", "kind", "item"] (spKind K good1 kf1) := by
 refine Hk.hold ?_
 simp (disch := with_unfolding_all (
 exact Hk.disch (d.cal fun f fd F => by
  refine F.ok sc_is_of_kind (fun vs H Q E h => ?_) (fun cdv A outer s H vs Q E hr h => ?_)
  · obtain ⟨a, c, z, x, d, rfl, _⟩ := h; rfl
  · obtain ⟨a, c, z, x, d, rfl, hc, ⟨g1, g2⟩, hd, q⟩ := h
    have hu := hu_of hr
    refine ⟨_, (pss_cons (ps_if (pt_cmpR op_eq (pv 1) pe_str (nomark _)) (pss_one (ps_never)) pss_nil)
      (pss_cons (ps_if (pt_cmpR op_eq (pv 1) pe_str (nomark _)) (pss_one (ps_ret (pe_cal c_is_between (hr.mono (by omega)) rfl (pa_cons (pv 2) (pa_cons pe_int (pa_cons pe_int pa_nil)))))) pss_nil)
      (pss_one (ps_ret (pe_cal c_is_index (hr.mono (by omega)) rfl (pa_cons (pv 2) (pa_cons (pe_dget hu (pv 0) (pv 1) (fun _ _ => rfl)) pa_nil))))))), ?_⟩
    walk_at "st0"
    refine q_eq rfl ?_
    walk_at "st"
    have e1 : decide (V.str z = V.str "right") = false := decide_eq_false fun q => g1 (V.str.inj q)
    rw [e1]
    refine iteF ?_
    walk_at "st"
    refine q_eq rfl ?_
    walk_at "st"
    have z0 := q H (Same.refl H)
    by_cases e2 : z = "ticks"
    · rw [decide_eq_true (by rw [e2])]
      refine iteT ?_
      walk_at "st"
      refine ⟨x, d, 1, 2, rfl, hd, ?_⟩
      simpa [kf1, e2] using z0
    · rw [decide_eq_false (fun q => e2 (V.str.inj q))]
      refine iteF ?_
      obtain ⟨n, hn⟩ := g2.resolve_left e2
      walk_at "st"
      refine ⟨a, .int n, rfl, dgetC hc hn, ?_⟩
      walk_at "st"
      refine ⟨x, d, n, rfl, hd, ?_⟩
      simpa [kf1, e2, hn] using z0))) only [↓Hk.hold_s]
/-- the words of rights -/
def rTab : List (Str × List Str) := [("read", ["page"]), ("write", ["page"]), ("send", ["port"]), ("take", ["port"]), ("lock", ["lock"]), ("hand", ["task"]), ("strip", ["task"]), ("seek", ["disk"])]
structure RForms (K : PySem.W.Frag) (w : World) (mg : Str → Option Value) (d : Addr) : Prop where
  g_forms : mg "RIGHT_FORMS" = some (.ref d)
  forms : FormsAt K w d rTab
def dRight (c : Cnt) (d : PyData) : Bool := dFormed (kf1 c) (rTab.lookup (dWord d)) d
def cntGood (c : Cnt) : Prop := ∃ t p q l d, c = cntOf t p q l d
theorem rTab_good {c : Cnt} (h : cntGood c) {z : Str} {ks : List Str} (e : rTab.lookup z = some ks) : ks.length ≤ 100 ∧ ∀ k ∈ ks, good1 c k := by
  obtain ⟨t, p, q, l, d, rfl⟩ := h
  have m : ks ∈ rTab.map (·.2) := List.mem_map_of_mem (f := (·.2)) (lookup_mem e)
  simp only [rTab, List.map_cons, List.map_nil, List.mem_cons, List.not_mem_nil, or_false] at m
  rcases m with m | m | m | m | m | m | m | m <;> subst m <;> exact ⟨by simp, fun k hk => by
    rw [List.mem_singleton] at hk; subst hk; exact ⟨by decide +kernel, .inr ⟨_, rfl⟩⟩⟩
def spRight (K : PySem.W.Frag) : Sp := fun vs H Q _ => ∃ (a : Addr) (c : Cnt) (x : V) (d : PyData), vs = [.ref a, x] ∧ H a = some (.dK (countKV c)) ∧ cntGood c ∧ Dp K H x d ∧ ∀ H', Same H H' → Q (.bl (dRight c d)) H'
theorem dWord_tup {d : PyData} {ks : List Str} (e : rTab.lookup (dWord d) = some ks) : ∃ ds, d = .tuple ds := by
  cases d with
  | tuple ds => exact ⟨ds, rfl⟩
  | _ =>
    have z : rTab.lookup ("" : Str) = none := by decide +kernel
    have e2 : rTab.lookup ("" : Str) = some ks := e
    rw [z] at e2; cases e2
theorem ok_is_right {dF : Addr} (B : Bl mg) (T : RForms K w mg dF) (d : DefAt K mg "is_right" s_is_right ["counts", "thing"]) (c_word_of : Cal P w K mg base 1 "word_of" ["thing"] (spWord K)) (c_is_formed : Cal P w K mg base 5 "is_formed" ["counts", "kinds", "thing"] (spFormed K good1 kf1)) :
    Cal P w K mg base 6 "is_right" ["counts", "thing"] (spRight K) := by
 refine Hk.hold ?_
 simp (disch := with_unfolding_all (
 exact Hk.disch (d.cal fun f fd F => by
  refine F.ok sc_is_right (fun vs H Q E h => ?_) (fun cdv A outer s H vs Q E hr h => ?_)
  · obtain ⟨a, c, x, d, rfl, _⟩ := h; rfl
  · obtain ⟨a, c, x, d, rfl, hc, cg, hd, q⟩ := h
    refine ⟨_, (pss_one (ps_ret (pe_cal c_is_formed (hr.mono (by omega)) rfl (pa_cons (pv 0) (pa_cons (pe_kget T.forms (pe_glob (v := .ref dF) rfl T.g_forms rfl) (pe_cal c_word_of (hr.mono (by omega)) rfl (pa_cons (pv 1) pa_nil)) ⟨rfl, rfl, rfl, rfl⟩) (pa_cons (pv 1) pa_nil)))))), ?_⟩
    walk_at "st0"
    refine ⟨rfl, ?_⟩
    walk_at "st"
    refine ⟨x, d, rfl, hd, dWord d, rfl, fun t ks e ht => ?_, fun e => ?_⟩
    · walk_at "st"
      obtain ⟨ds, ed⟩ := dWord_tup e
      refine ⟨a, c, _, some ks, x, d, rfl, hc, hd, ⟨⟨t, rfl, ht H⟩, ⟨ds, ed⟩, rTab_good cg e⟩, fun H2 s2 => ?_⟩
      have z := q H2 s2
      simp only [dRight, e] at z
      exact z
    · walk_at "st"
      refine ⟨a, c, _, none, x, d, rfl, hc, hd, rfl, fun H2 s2 => ?_⟩
      have z := q H2 s2
      simp only [dRight, e] at z
      exact z))) only [↓Hk.hold_s]
end
end T
namespace T
section
variable {P : Program} {w : World} {K : PySem.W.Frag} {mg : Str → Option Value} {base : Heap}
def okNumbers (d : PyData) (most lo hi : Int) : Bool := dListOf d 0 most && (match d with | .list ds => ds.all fun e => dBetween e lo hi | _ => false)
def spNumbers (K : PySem.W.Frag) : Sp := fun vs H Q _ => ∃ (x : V) (d : PyData) (m lo hi : Int), vs = [x, .int m, .int lo, .int hi] ∧ Dp K H x d ∧ m ≤ 100 ∧ ∀ H', Same H H' → Q (.bl (okNumbers d m lo hi)) H'
theorem dListOf_list {d : PyData} {lo hi : Int} (h : dListOf d lo hi = true) : ∃ ds, d = .list ds ∧ lo ≤ ds.length ∧ (ds.length : Int) ≤ hi := by
  cases d with
  | list ds => simp [dListOf] at h; exact ⟨ds, rfl, h⟩
  | _ => simp [dListOf] at h
theorem ok_fit_as_numbers (B : Bl mg) (d : DefAt K mg "fit_as_numbers" s_fit_as_numbers ["numbers", "most", "low", "high"]) (c_is_list : Cal P w K mg base 1 "is_list" ["thing", "low", "high"] (spListOf K)) (c_is_between : Cal P w K mg base 2 "is_between" ["thing", "low", "high"] (spBetween K)) :
    Cal P w K mg base 3 "fit_as_numbers" ["numbers", "most", "low", "high"] (spNumbers K) := by
 refine Hk.hold ?_
 simp (disch := with_unfolding_all (
 exact Hk.disch (d.cal fun f fd F => by
  refine F.ok sc_fit_as_numbers (fun vs H Q E h => ?_) (fun cdv A outer s H vs Q E hr h => ?_)
  · obtain ⟨x, d, m, lo, hi, rfl, _⟩ := h; rfl
  · obtain ⟨x, d, m, lo, hi, rfl, hd, hm, q⟩ := h
    refine ⟨_, (pss_one (ps_ret (pe_and (pe_cal c_is_list (hr.mono (by omega)) rfl (pa_cons (pv 0) (pa_cons pe_int (pa_cons (pv 1) pa_nil)))) (pe_one (pe_callB (cr_all rfl) rfl B.all hb_all (pa_cons (pe_lc (own := [("number", 4)]) (tt := tYes) rfl sc_fit_as_numbers.nd (pi_list (pv 0)) (blkOk_by (N := ["numbers", "most", "low", "high", "number"]) (sc := defScope s_fit_as_numbers) (by decide +kernel)) (fun _ _ _ _ _ => (pg_name (i := 4) sc_fit_as_numbers.nd rfl (Or.inl rfl))) (fun _ _ _ _ _ => pts_nil) (fun _ _ _ _ _ => (pe_cal c_is_between (hr.mono (by omega)) rfl (pa_cons (pv 4) (pa_cons (pv 2) (pa_cons (pv 3) pa_nil)))))) pa_nil)))))), ?_⟩
    walk_at "st0"
    refine ⟨x, d, 0, m, rfl, hd, ?_⟩
    walk_at "st"
    refine q_if (fun hc => ?_) (fun hc => ?_)
    · obtain ⟨ds, rfl, h0, h1⟩ := dListOf_list hc
      cases hd with
      | @lst a xs _ hs ha =>
      walk_at "st"
      refine ⟨.ref a, rfl, a, rfl, ⟨xs, hs⟩, fun D nD => lc_test (fun e => dBetween e lo hi) hs ha (by omega) nD ?_ ?_⟩
      · intro x2 d2 H2 h2 _ s2 Q2 k2
        refine ⟨rfl, ?_⟩
        walk_at "st"
        exact ⟨x2, d2, lo, hi, rfl, h2, k2 _ (Same.refl _)⟩
      · intro H2 s2 e
        refine ⟨D, _, rfl, e, ?_⟩
        have z := q H2 s2
        simp only [okNumbers, hc, Bool.true_and] at z
        rw [all_map_id]; exact z
    · have z := q H (Same.refl H)
      simp only [okNumbers, hc, Bool.false_and] at z
      exact z))) only [↓Hk.hold_s]
def okRow (c : Cnt) (d : PyData) : Bool := dListOf d 0 8 && (match d with | .list ds => ds.all (dRight c) && ascWI (ds.map fun e => match e with | .tuple [.str z, .int i] => (z, i) | _ => default) | _ => false)
theorem dRight_shape {c : Cnt} {d : PyData} (h : dRight c d = true) : ∃ z i, d = .tuple [.str z, .int i] := by
 refine Hk.hold ?_
 simp (disch := with_unfolding_all (
 exact Hk.disch (by
  unfold dRight dFormed at h
  cases e : rTab.lookup (dWord d) with
  | none => rw [e] at h; cases h
  | some ks =>
    obtain ⟨ds, rfl⟩ := dWord_tup e
    rw [e] at h
    have m := lookup_mem e
    have z0 : rTab.lookup ("" : Str) = none := by decide +kernel
    have hz : ∃ z es, ds = .str z :: es := by
      cases ds with
      | nil => exact nomatch z0.symm.trans e
      | cons a r => cases a with
        | str z => exact ⟨z, r, rfl⟩
        | _ => exact nomatch z0.symm.trans e
    obtain ⟨z, es, rfl⟩ := hz
    have k1 : ∃ kd, ks = [kd] ∧ kd ≠ "ticks" := by
      simp only [rTab, List.mem_cons, Prod.mk.injEq, List.not_mem_nil, or_false] at m
      rcases m with ⟨_, m⟩ | ⟨_, m⟩ | ⟨_, m⟩ | ⟨_, m⟩ | ⟨_, m⟩ | ⟨_, m⟩ | ⟨_, m⟩ | ⟨_, m⟩ <;> subst m <;> exact ⟨_, rfl, by decide +kernel⟩
    obtain ⟨kd, rfl, nt⟩ := k1
    simp only [Bool.and_eq_true, decide_eq_true_eq] at h
    obtain ⟨hl, hk⟩ := h
    match es, hl with
    | [x], _ =>
      simp [dKinds, kf1, nt] at hk
      cases x with
      | int i => exact ⟨z, i, rfl⟩
      | _ => simp [dBetween] at hk))) only [↓Hk.hold_s]
theorem rows_rt {H : Hp} {c : Cnt} {xs : List V} {ds : List PyData} (ha : DpAll K H xs ds) (h : ds.all (dRight c) = true) :
    Paired (RtAt K H) xs (ds.map fun e => match e with | .tuple [.str z, .int i] => (z, i) | _ => default) := by
  induction ds generalizing xs with
  | nil => cases ha; exact .nil
  | cons d ds ih =>
    cases ha with
    | cons h1 h2 =>
      rw [List.all_cons, Bool.and_eq_true] at h
      obtain ⟨z, i, rfl⟩ := dRight_shape h.1
      refine .cons ?_ (ih h2 h.2)
      cases h1 with
      | @tup a ys _ hs hy => cases hy with
        | cons g1 g2 => cases g1; cases g2 with
          | cons g3 g4 => cases g3; cases g4; exact ⟨a, rfl, hs⟩
def spRow (K : PySem.W.Frag) (p : Cnt → PyData → Bool) : Sp := fun vs H Q _ => ∃ (a : Addr) (c : Cnt) (x : V) (d : PyData), vs = [.ref a, x] ∧ H a = some (.dK (countKV c)) ∧ cntGood c ∧ Dp K H x d ∧ ∀ H', Same H H' → Q (.bl (p c d)) H'
theorem ok_fit_as_row (B : Bl mg) (d : DefAt K mg "fit_as_row" s_fit_as_row ["counts", "row"]) (c_is_list : Cal P w K mg base 1 "is_list" ["thing", "low", "high"] (spListOf K)) (c_is_right : Cal P w K mg base 6 "is_right" ["counts", "thing"] (spRight K)) (c_is_ascending : Cal P w K mg base 1 "is_ascending" ["items"] (spAsc K)) :
    Cal P w K mg base 7 "fit_as_row" ["counts", "row"] (spRow K okRow) := by
 refine Hk.hold ?_
 simp (disch := with_unfolding_all (
 exact Hk.disch (d.cal fun f fd F => by
  refine F.ok sc_fit_as_row (fun vs H Q E h => ?_) (fun cdv A outer s H vs Q E hr h => ?_)
  · obtain ⟨a, c, x, d, rfl, _⟩ := h; rfl
  · obtain ⟨b, c, x, d, rfl, hc0, cg, hd, q⟩ := h
    refine ⟨_, (pss_one (ps_ret (pe_and (pe_cal c_is_list (hr.mono (by omega)) rfl (pa_cons (pv 1) (pa_cons pe_int (pa_cons pe_int pa_nil)))) (pe_and (pe_callB (cr_all rfl) rfl B.all hb_all (pa_cons (pe_lc (own := [("right", 2)]) (tt := tYes) rfl sc_fit_as_row.nd (pi_list (pv 1)) (blkOk_by (N := ["counts", "row", "right"]) (sc := defScope s_fit_as_row) (by decide +kernel)) (fun _ _ _ _ _ => (pg_name (i := 2) sc_fit_as_row.nd rfl (Or.inl rfl))) (fun _ _ _ _ _ => pts_nil) (fun _ _ _ _ _ => (pe_cal c_is_right (hr.mono (by omega)) rfl (pa_cons (pv 0) (pa_cons (pv 2) pa_nil))))) pa_nil)) (pe_one (pe_cal c_is_ascending (hr.mono (by omega)) rfl (pa_cons (pv 1) pa_nil))))))), ?_⟩
    walk_at "st0"
    refine ⟨x, d, 0, 8, rfl, hd, ?_⟩
    walk_at "st"
    refine q_if (fun hc => ?_) (fun hc => ?_)
    · obtain ⟨ds, rfl, h0, h1⟩ := dListOf_list hc
      cases hd with
      | @lst a xs _ hs ha =>
      walk_at "st"
      refine ⟨.ref a, rfl, a, rfl, ⟨xs, hs⟩, fun D nD => lc_test (dRight c) hs ha (by omega) nD ?_ ?_⟩
      · intro x2 d2 H2 h2 _ s2 Q2 k2
        refine ⟨rfl, ?_⟩
        walk_at "st"
        exact ⟨b, c, x2, d2, rfl, s2 _ _ hc0, cg, h2, fun H3 s3 => k2 _ s3⟩
      · intro H2 s2 e
        refine ⟨D, _, rfl, e, ?_⟩
        walk_at "st"
        rw [all_map_id]
        have z := q
        simp only [okRow, hc, Bool.true_and] at z
        refine q_if (fun hr2 => ?_) (fun hr2 => ?_)
        · walk_at "st"
          refine ⟨a, xs, _, rfl, s2.seq hs, rows_rt (L2.DpAll.mono s2 ha) hr2, by rw [List.length_map]; omega, fun H3 s3 => ?_⟩
          have z2 := z H3 (s2.trans s3)
          rw [hr2, Bool.true_and] at z2
          exact z2
        · have z2 := z H2 s2
          rw [hr2, Bool.false_and] at z2
          exact z2
    · have z := q H (Same.refl H)
      simp only [okRow, hc, Bool.false_and] at z
      exact z))) only [↓Hk.hold_s]
def cnt (c : Cnt) (z : Str) : Int := (c.lookup z).getD 0
def okRights (c : Cnt) (d : PyData) : Bool := dListOf d (cnt c "task") (cnt c "task") && (match d with | .list ds => ds.all (okRow c) | _ => false)
theorem cnt_get {c : Cnt} (h : cntGood c) {z : Str} (hz : z ∈ (["task", "page", "port"] : List Str)) : c.lookup z = some (cnt c z) := by
  obtain ⟨t, p, q, l, d, rfl⟩ := h
  simp only [List.mem_cons, List.not_mem_nil, or_false] at hz
  rcases hz with rfl | rfl | rfl <;> rfl
def cntSmall (c : Cnt) : Prop := cntGood c ∧ cnt c "task" ≤ 100 ∧ cnt c "page" ≤ 100
def spPart (K : PySem.W.Frag) (p : Cnt → PyData → Bool) : Sp := fun vs H Q _ => ∃ (a : Addr) (c : Cnt) (x : V) (d : PyData), vs = [.ref a, x] ∧ H a = some (.dK (countKV c)) ∧ cntSmall c ∧ Dp K H x d ∧ ∀ H', Same H H' → Q (.bl (p c d)) H'
theorem ok_fit_as_rights (B : Bl mg) (d : DefAt K mg "fit_as_rights" s_fit_as_rights ["counts", "rights"]) (c_is_list : Cal P w K mg base 1 "is_list" ["thing", "low", "high"] (spListOf K)) (c_fit_as_row : Cal P w K mg base 7 "fit_as_row" ["counts", "row"] (spRow K okRow)) :
    Cal P w K mg base 8 "fit_as_rights" ["counts", "rights"] (spPart K okRights) := by
 refine Hk.hold ?_
 simp (disch := with_unfolding_all (
 exact Hk.disch (d.cal fun f fd F => by
  refine F.ok sc_fit_as_rights (fun vs H Q E h => ?_) (fun cdv A outer s H vs Q E hr h => ?_)
  · obtain ⟨a, c, x, d, rfl, _⟩ := h; rfl
  · obtain ⟨b, c, x, d, rfl, hc0, ⟨cg, c1, c2⟩, hd, q⟩ := h
    have hu := hu_of hr
    refine ⟨_, (pss_cons (ps_set (i := 2) sc_fit_as_rights.nd rfl (Or.inl rfl) (pe_dget hu (pv 0) pe_str (fun _ _ => rfl)))
      (pss_one (ps_ret (pe_and (pe_cal c_is_list (hr.mono (by omega)) rfl (pa_cons (pv 1) (pa_cons (pv 2) (pa_cons (pv 2) pa_nil)))) (pe_one (pe_callB (cr_all rfl) rfl B.all hb_all (pa_cons (pe_lc (own := [("row", 3)]) (tt := tYes) rfl sc_fit_as_rights.nd (pi_list (pv 1)) (blkOk_by (N := ["counts", "rights", "many", "row"]) (sc := defScope s_fit_as_rights) (by decide +kernel)) (fun _ _ _ _ _ => (pg_name (i := 3) sc_fit_as_rights.nd rfl (Or.inl rfl))) (fun _ _ _ _ _ => pts_nil) (fun _ _ _ _ _ => (pe_cal c_fit_as_row (hr.mono (by omega)) rfl (pa_cons (pv 0) (pa_cons (pv 3) pa_nil))))) pa_nil))))))), ?_⟩
    walk_at "st0"
    refine ⟨b, _, rfl, dgetC hc0 (cnt_get cg (by simp)), ?_⟩
    walk_at "st"
    refine ⟨x, d, _, _, rfl, hd, ?_⟩
    walk_at "st"
    refine q_if (fun hc => ?_) (fun hc => ?_)
    · obtain ⟨ds, rfl, h0, h1⟩ := dListOf_list hc
      cases hd with
      | @lst a xs _ hs ha =>
      walk_at "st"
      refine ⟨.ref a, rfl, a, rfl, ⟨xs, hs⟩, fun D nD => lc_test (okRow c) hs ha (by omega) nD ?_ ?_⟩
      · intro x2 d2 H2 h2 _ s2 Q2 k2
        refine ⟨rfl, ?_⟩
        walk_at "st"
        exact ⟨b, c, x2, d2, rfl, s2 _ _ hc0, cg, h2, fun H3 s3 => k2 _ s3⟩
      · intro H2 s2 e
        refine ⟨D, _, rfl, e, ?_⟩
        have z := q H2 s2
        simp only [okRights, hc, Bool.true_and] at z
        rw [all_map_id]; exact z
    · have z := q H (Same.refl H)
      simp only [okRights, hc, Bool.false_and] at z
      exact z))) only [↓Hk.hold_s]
def okLine (d : PyData) : Bool := match d with | .none => true | _ => dBetween d 0 1
def okLines (c : Cnt) (d : PyData) : Bool := dListOf d (cnt c "page") (cnt c "page") && (match d with | .list ds => ds.all okLine | _ => false)
theorem ok_fit_as_lines (B : Bl mg) (d : DefAt K mg "fit_as_lines" s_fit_as_lines ["counts", "lines"]) (c_is_list : Cal P w K mg base 1 "is_list" ["thing", "low", "high"] (spListOf K)) (c_is_between : Cal P w K mg base 2 "is_between" ["thing", "low", "high"] (spBetween K)) :
    Cal P w K mg base 3 "fit_as_lines" ["counts", "lines"] (spPart K okLines) := by
 refine Hk.hold ?_
 simp (disch := with_unfolding_all (
 exact Hk.disch (d.cal fun f fd F => by
  refine F.ok sc_fit_as_lines (fun vs H Q E h => ?_) (fun cdv A outer s H vs Q E hr h => ?_)
  · obtain ⟨a, c, x, d, rfl, _⟩ := h; rfl
  · obtain ⟨b, c, x, d, rfl, hc0, ⟨cg, c1, c2⟩, hd, q⟩ := h
    have hu := hu_of hr
    refine ⟨_, (pss_cons (ps_set (i := 2) sc_fit_as_lines.nd rfl (Or.inl rfl) (pe_dget hu (pv 0) pe_str (fun _ _ => rfl)))
      (pss_one (ps_ret (pe_and (pe_cal c_is_list (hr.mono (by omega)) rfl (pa_cons (pv 1) (pa_cons (pv 2) (pa_cons (pv 2) pa_nil)))) (pe_one (pe_callB (cr_all rfl) rfl B.all hb_all (pa_cons (pe_lc (own := [("line", 3)]) (tt := tYes) rfl sc_fit_as_lines.nd (pi_list (pv 1)) (blkOk_by (N := ["counts", "lines", "many", "line"]) (sc := defScope s_fit_as_lines) (by decide +kernel)) (fun _ _ _ _ _ => (pg_name (i := 3) sc_fit_as_lines.nd rfl (Or.inl rfl))) (fun _ _ _ _ _ => pts_nil) (fun _ _ _ _ _ => (pe_or (pe_cmp (pc_isN (pv 3))) (pe_one (pe_cal c_is_between (hr.mono (by omega)) rfl (pa_cons (pv 3) (pa_cons pe_int (pa_cons pe_int pa_nil)))))))) pa_nil))))))), ?_⟩
    walk_at "st0"
    refine ⟨b, _, rfl, dgetC hc0 (cnt_get cg (by simp)), ?_⟩
    walk_at "st"
    refine ⟨x, d, _, _, rfl, hd, ?_⟩
    walk_at "st"
    refine q_if (fun hc => ?_) (fun hc => ?_)
    · obtain ⟨ds, rfl, h0, h1⟩ := dListOf_list hc
      cases hd with
      | @lst a xs _ hs ha =>
      walk_at "st"
      refine ⟨.ref a, rfl, a, rfl, ⟨xs, hs⟩, fun D nD => lc_test okLine hs ha (by omega) nD ?_ ?_⟩
      · intro x2 d2 H2 h2 _ s2 Q2 k2
        refine ⟨rfl, ?_⟩
        walk_at "st"
        have h3 := h2
        cases h2 with
        | non => exact iteT (k2 _ (Same.refl _))
        | _ =>
          refine iteF ?_
          walk_at "st"
          exact ⟨_, _, 0, 1, rfl, h3, k2 _ (Same.refl _)⟩
      · intro H2 s2 e
        refine ⟨D, _, rfl, e, ?_⟩
        have z := q H2 s2
        simp only [okLines, hc, Bool.true_and] at z
        rw [all_map_id]; exact z
    · have z := q H (Same.refl H)
      simp only [okLines, hc, Bool.false_and] at z
      exact z))) only [↓Hk.hold_s]
end
end T
namespace T
section
variable {P : Program} {w : World} {K : PySem.W.Frag} {mg : Str → Option Value} {base : Heap}
theorem dTupleOf_tup {d : PyData} {n : Nat} (h : dTupleOf d n = true) : ∃ ds, d = .tuple ds ∧ ds.length = n := by
  cases d with
  | tuple ds => simp [dTupleOf] at h; exact ⟨ds, rfl, h⟩
  | _ => simp [dTupleOf] at h
def okCosts (d : PyData) : Bool := dTupleOf d 3 && (match d with | .tuple [a, b, c] => dBetween a 1 3 && (dBetween b 0 3 && dBetween c 0 2) | _ => false)
def spOk (K : PySem.W.Frag) (p : PyData → Bool) : Sp := fun vs H Q _ => ∃ (x : V) (d : PyData), vs = [x] ∧ Dp K H x d ∧ ∀ H', Same H H' → Q (.bl (p d)) H'
theorem ok_fit_as_costs (B : Bl mg) (d : DefAt K mg "fit_as_costs" s_fit_as_costs ["costs"]) (c_is_tuple : Cal P w K mg base 1 "is_tuple" ["thing", "many"] (spTupleOf K)) (c_is_between : Cal P w K mg base 2 "is_between" ["thing", "low", "high"] (spBetween K)) :
    Cal P w K mg base 3 "fit_as_costs" ["costs"] (spOk K okCosts) := by
 refine Hk.hold ?_
 simp (disch := with_unfolding_all (
 exact Hk.disch (d.cal fun f fd F => by
  refine F.ok sc_fit_as_costs (fun vs H Q E h => ?_) (fun cdv A outer s H vs Q E hr h => ?_)
  · obtain ⟨x, d, rfl, _⟩ := h; rfl
  · obtain ⟨x, d, rfl, hd, q⟩ := h
    have z := q H (Same.refl H)
    refine ⟨_, (pss_cons (ps_if (pt_not (pt_val (pe_cal c_is_tuple (hr.mono (by omega)) rfl (pa_cons (pv 0) (pa_cons pe_int pa_nil))))) (pss_one (ps_ret pe_bl)) pss_nil)
      (pss_one (ps_ret (pe_and (pe_cal c_is_between (hr.mono (by omega)) rfl (pa_cons (pe_ix ix_tup (pv 0) pe_int (fun _ _ => rfl)) (pa_cons pe_int (pa_cons pe_int pa_nil)))) (pe_and (pe_cal c_is_between (hr.mono (by omega)) rfl (pa_cons (pe_ix ix_tup (pv 0) pe_int (fun _ _ => rfl)) (pa_cons pe_int (pa_cons pe_int pa_nil)))) (pe_one (pe_cal c_is_between (hr.mono (by omega)) rfl (pa_cons (pe_ix ix_tup (pv 0) pe_int (fun _ _ => rfl)) (pa_cons pe_int (pa_cons pe_int pa_nil)))))))))), ?_⟩
    walk_at "st0"
    refine ⟨x, d, 3, rfl, hd, ?_⟩
    walk_at "st"
    cases hc : dTupleOf d 3 with
    | false =>
      refine iteT ?_
      walk_at "st"
      simp only [okCosts, hc, Bool.false_and] at z
      exact z
    | true =>
      refine iteF ?_
      obtain ⟨ds, rfl, l3⟩ := dTupleOf_tup hc
      simp only [okCosts, hc, Bool.true_and] at z
      match ds, l3, hd, z with
      | [a, b, c], _, hd, z =>
        cases hd with
        | @tup t xs _ hs ha =>
        cases ha with
        | @cons x0 r0 _ _ a0 ha => cases ha with
          | @cons x1 r1 _ _ a1 ha => cases ha with
            | @cons x2 r2 _ _ a2 ha =>
              cases ha
              walk_at "st"
              refine q_ixT hs (atI0 rfl) ?_
              walk_at "st"
              refine ⟨x0, a, 1, 3, rfl, a0, ?_⟩
              walk_at "st"
              refine q_if (fun h1 => ?_) (fun h1 => ?_)
              · walk_at "st"
                refine q_ixT hs (atI1 rfl) ?_
                walk_at "st"
                refine ⟨x1, b, 0, 3, rfl, a1, ?_⟩
                walk_at "st"
                refine q_if (fun h2 => ?_) (fun h2 => ?_)
                · walk_at "st"
                  refine q_ixT hs (atI_nat (j := 2) rfl) ?_
                  walk_at "st"
                  refine ⟨x2, c, 0, 2, rfl, a2, ?_⟩
                  simpa [h1, h2] using z
                · simpa [h1, h2] using z
              · simpa [h1] using z))) only [↓Hk.hold_s]
def okSlot (c : Cnt) (d : PyData) : Bool := dTupleOf d 2 && (match d with | .tuple [a, b] => dBetween a 0 (cnt c "task" - 1) && dBetween b 1 12 | _ => false)
theorem ok_fits_as_slot (B : Bl mg) (d : DefAt K mg "fits_as_slot" s_fits_as_slot ["counts", "row"]) (c_is_tuple : Cal P w K mg base 1 "is_tuple" ["thing", "many"] (spTupleOf K)) (c_is_between : Cal P w K mg base 2 "is_between" ["thing", "low", "high"] (spBetween K)) (c_is_index : Cal P w K mg base 3 "is_index" ["thing", "many"] (spIndex K)) :
    Cal P w K mg base 4 "fits_as_slot" ["counts", "row"] (spPart K okSlot) := by
 refine Hk.hold ?_
 simp (disch := with_unfolding_all (
 exact Hk.disch (d.cal fun f fd F => by
  refine F.ok sc_fits_as_slot (fun vs H Q E h => ?_) (fun cdv A outer s H vs Q E hr h => ?_)
  · obtain ⟨a, c, x, d, rfl, _⟩ := h; rfl
  · obtain ⟨b, c, x, d, rfl, hc0, ⟨cg, c1, c2⟩, hd, q⟩ := h
    have hu := hu_of hr
    have z := q H (Same.refl H)
    refine ⟨_, (pss_one (ps_ret (pe_and (pe_cal c_is_tuple (hr.mono (by omega)) rfl (pa_cons (pv 1) (pa_cons pe_int pa_nil))) (pe_and (pe_cal c_is_index (hr.mono (by omega)) rfl (pa_cons (pe_ix ix_tup (pv 1) pe_int (fun _ _ => rfl)) (pa_cons (pe_dget hu (pv 0) pe_str (fun _ _ => rfl)) pa_nil))) (pe_one (pe_cal c_is_between (hr.mono (by omega)) rfl (pa_cons (pe_ix ix_tup (pv 1) pe_int (fun _ _ => rfl)) (pa_cons pe_int (pa_cons pe_int pa_nil))))))))), ?_⟩
    walk_at "st0"
    refine ⟨x, d, 2, rfl, hd, ?_⟩
    walk_at "st"
    cases hc : dTupleOf d 2 with
    | false =>
      refine iteF ?_
      simp only [okSlot, hc, Bool.false_and] at z
      exact z
    | true =>
      refine iteT ?_
      obtain ⟨ds, rfl, l3⟩ := dTupleOf_tup hc
      simp only [okSlot, hc, Bool.true_and] at z
      match ds, l3, hd, z with
      | [e0, e1], _, hd, z =>
        cases hd with
        | @tup t xs _ hs ha =>
        cases ha with
        | @cons x0 r0 _ _ a0 ha => cases ha with
          | @cons x1 r1 _ _ a1 ha =>
            cases ha
            walk_at "st"
            refine q_ixT hs (atI0 rfl) ?_
            walk_at "st"
            refine ⟨b, _, rfl, dgetC hc0 (cnt_get cg (by simp)), ?_⟩
            walk_at "st"
            refine ⟨x0, e0, _, rfl, a0, ?_⟩
            walk_at "st"
            refine q_if (fun h1 => ?_) (fun h1 => ?_)
            · walk_at "st"
              refine q_ixT hs (atI1 rfl) ?_
              walk_at "st"
              refine ⟨x1, e1, 1, 12, rfl, a1, ?_⟩
              simpa [h1] using z
            · simpa [h1] using z))) only [↓Hk.hold_s]
def okOut2 (c : Cnt) (d : PyData) : Bool := dTupleOf d 2 && (match d with | .tuple [a, b] => dBetween a 0 (cnt c "port" - 1) && dBetween b 1 4 | _ => false)
def okOutside (c : Cnt) (d : PyData) : Bool := match d with | .none => true | _ => okOut2 c d
theorem ok_fits_as_outside (B : Bl mg) (d : DefAt K mg "fits_as_outside" s_fits_as_outside ["counts", "outside"]) (c_is_tuple : Cal P w K mg base 1 "is_tuple" ["thing", "many"] (spTupleOf K)) (c_is_between : Cal P w K mg base 2 "is_between" ["thing", "low", "high"] (spBetween K)) (c_is_index : Cal P w K mg base 3 "is_index" ["thing", "many"] (spIndex K)) :
    Cal P w K mg base 4 "fits_as_outside" ["counts", "outside"] (spPart K okOutside) := by
 refine Hk.hold ?_
 simp (disch := with_unfolding_all (
 exact Hk.disch (d.cal fun f fd F => by
  refine F.ok sc_fits_as_outside (fun vs H Q E h => ?_) (fun cdv A outer s H vs Q E hr h => ?_)
  · obtain ⟨a, c, x, d, rfl, _⟩ := h; rfl
  · obtain ⟨b, c, x, d, rfl, hc0, ⟨cg, c1, c2⟩, hd, q⟩ := h
    have hu := hu_of hr
    have z := q H (Same.refl H)
    refine ⟨_, (pss_cons (ps_if (pt_cmp (pc_isN (pv 1))) (pss_one (ps_ret pe_bl)) pss_nil)
      (pss_one (ps_ret (pe_and (pe_cal c_is_tuple (hr.mono (by omega)) rfl (pa_cons (pv 1) (pa_cons pe_int pa_nil))) (pe_and (pe_cal c_is_index (hr.mono (by omega)) rfl (pa_cons (pe_ix ix_tup (pv 1) pe_int (fun _ _ => rfl)) (pa_cons (pe_dget hu (pv 0) pe_str (fun _ _ => rfl)) pa_nil))) (pe_one (pe_cal c_is_between (hr.mono (by omega)) rfl (pa_cons (pe_ix ix_tup (pv 1) pe_int (fun _ _ => rfl)) (pa_cons pe_int (pa_cons pe_int pa_nil)))))))))), ?_⟩
    walk_at "st0"
    by_cases hn : x = .non
    · subst hn
      cases hd
      refine iteT ?_
      walk_at "st"
      exact z
    · have zz : okOutside c d = okOut2 c d := by
        cases hd with
        | non => exact absurd rfl hn
        | _ => rfl
      rw [zz] at z
      clear zz q
      rw [decide_eq_false hn]
      refine iteF ?_
      walk_at "st"
      refine ⟨x, d, 2, rfl, hd, ?_⟩
      walk_at "st"
      cases hc : dTupleOf d 2 with
      | false =>
        refine iteF ?_
        simp only [okOut2, hc, Bool.false_and] at z
        exact z
      | true =>
        refine iteT ?_
        obtain ⟨ds, rfl, l3⟩ := dTupleOf_tup hc
        simp only [okOut2, hc, Bool.true_and] at z
        match ds, l3, hd, z with
        | [e0, e1], _, hd, z =>
          cases hd with
          | @tup t xs _ hs ha =>
          cases ha with
          | @cons x0 r0 _ _ a0 ha => cases ha with
            | @cons x1 r1 _ _ a1 ha =>
              cases ha
              walk_at "st"
              refine q_ixT hs (atI0 rfl) ?_
              walk_at "st"
              refine ⟨b, _, rfl, dgetC hc0 (cnt_get cg (by simp)), ?_⟩
              walk_at "st"
              refine ⟨x0, e0, _, rfl, a0, ?_⟩
              walk_at "st"
              refine q_if (fun h1 => ?_) (fun h1 => ?_)
              · walk_at "st"
                refine q_ixT hs (atI1 rfl) ?_
                walk_at "st"
                refine ⟨x1, e1, 1, 4, rfl, a1, ?_⟩
                simpa [h1] using z
              · simpa [h1] using z))) only [↓Hk.hold_s]
end
end T
namespace T
section
variable {P : Program} {w : World} {K : PySem.W.Frag} {mg : Str → Option Value} {base : Heap}
def okSlots (c : Cnt) (d : PyData) : Bool := dListOf d 1 4 && (match d with | .list rs => rs.all (okSlot c) | _ => false)
def okPlan (c : Cnt) (d : PyData) : Bool := dTupleOf d 2 && (match d with | .tuple [.str z, e] => if z = "levels" then dBetween e 1 8 else decide (z = "slots") && okSlots c e | _ => false)
def strHead (d : PyData) : Prop := ∀ e0 e1, d = .tuple [e0, e1] → ∃ z, e0 = .str z
def spPlan (K : PySem.W.Frag) : Sp := fun vs H Q _ => ∃ (a : Addr) (c : Cnt) (x : V) (d : PyData), vs = [.ref a, x] ∧ H a = some (.dK (countKV c)) ∧ cntSmall c ∧ Dp K H x d ∧ strHead d ∧ ∀ H', Same H H' → Q (.bl (okPlan c d)) H'
theorem ok_fit_as_plan (B : Bl mg) (d : DefAt K mg "fit_as_plan" s_fit_as_plan ["counts", "plan"]) (c_is_tuple : Cal P w K mg base 1 "is_tuple" ["thing", "many"] (spTupleOf K)) (c_is_between : Cal P w K mg base 2 "is_between" ["thing", "low", "high"] (spBetween K))
    (c_is_list : Cal P w K mg base 1 "is_list" ["thing", "low", "high"] (spListOf K)) (c_fits_as_slot : Cal P w K mg base 4 "fits_as_slot" ["counts", "row"] (spPart K okSlot)) : Cal P w K mg base 5 "fit_as_plan" ["counts", "plan"] (spPlan K) := by
 refine Hk.hold ?_
 simp (disch := with_unfolding_all (
 exact Hk.disch (d.cal fun f fd F => by
  refine F.ok sc_fit_as_plan (fun vs H Q E h => ?_) (fun cdv A outer s H vs Q E hr h => ?_)
  · obtain ⟨a, c, x, d, rfl, _⟩ := h; rfl
  · obtain ⟨b, c, x, d, rfl, hc0, cs, hd, hz, q⟩ := h
    refine ⟨_, (pss_cons (ps_if (pt_not (pt_val (pe_cal c_is_tuple (hr.mono (by omega)) rfl (pa_cons (pv 1) (pa_cons pe_int pa_nil))))) (pss_one (ps_ret pe_bl)) pss_nil)
      (pss_cons (ps_if (pt_cmpR op_eq (pe_ix ix_tup (pv 1) pe_int (fun _ _ => rfl)) pe_str (nomark _)) (pss_one (ps_ret (pe_cal c_is_between (hr.mono (by omega)) rfl (pa_cons (pe_ix ix_tup (pv 1) pe_int (fun _ _ => rfl)) (pa_cons pe_int (pa_cons pe_int pa_nil)))))) pss_nil)
      (pss_one (ps_ret (pe_and (pe_cmpR op_eq (pe_ix ix_tup (pv 1) pe_int (fun _ _ => rfl)) pe_str (nomark _)) (pe_and (pe_cal c_is_list (hr.mono (by omega)) rfl (pa_cons (pe_ix ix_tup (pv 1) pe_int (fun _ _ => rfl)) (pa_cons pe_int (pa_cons pe_int pa_nil)))) (pe_one (pe_callB (cr_all rfl) rfl B.all hb_all (pa_cons (pe_lc (own := [("row", 2)]) (tt := tYes) rfl sc_fit_as_plan.nd (pi_list (pe_ix ix_tup (pv 1) pe_int (fun _ _ => rfl))) (blkOk_by (N := ["counts", "plan", "row"]) (sc := defScope s_fit_as_plan) (by decide +kernel)) (fun _ _ _ _ _ => (pg_name (i := 2) sc_fit_as_plan.nd rfl (Or.inl rfl))) (fun _ _ _ _ _ => pts_nil) (fun _ _ _ _ _ => (pe_cal c_fits_as_slot (hr.mono (by omega)) rfl (pa_cons (pv 0) (pa_cons (pv 2) pa_nil))))) pa_nil))))))))), ?_⟩
    walk_at "st0"
    refine ⟨x, d, 2, rfl, hd, ?_⟩
    walk_at "st"
    cases hc : dTupleOf d 2 with
    | false =>
      refine iteT ?_
      walk_at "st"
      have z := q H (Same.refl H)
      simp only [okPlan, hc, Bool.false_and] at z
      exact z
    | true =>
      refine iteF ?_
      obtain ⟨ds, rfl, l2⟩ := dTupleOf_tup hc
      simp only [okPlan, hc, Bool.true_and] at q
      match ds, l2, hd, hz, q with
      | [e0, e1], _, hd, hz, q =>
        obtain ⟨z, rfl⟩ := hz e0 e1 rfl
        cases hd with
        | @tup t xs _ hs ha =>
        cases ha with
        | @cons x0 r0 _ _ a0 ha => cases ha with
          | @cons x1 r1 _ _ a1 ha =>
            cases ha
            cases a0
            walk_at "st"
            refine q_ixT hs (atI0 rfl) ?_
            walk_at "st"
            refine q_eq rfl ?_
            walk_at "st"
            by_cases h1 : z = "levels"
            · subst h1
              rw [decide_eq_true rfl]
              refine iteT ?_
              walk_at "st"
              refine q_ixT hs (atI1 rfl) ?_
              walk_at "st"
              refine ⟨x1, e1, 1, 8, rfl, a1, ?_⟩
              have z0 := q H (Same.refl H)
              simpa using z0
            · rw [decide_eq_false (fun q => h1 (V.str.inj q))]
              refine iteF ?_
              walk_at "st"
              refine q_ixT hs (atI0 rfl) ?_
              walk_at "st"
              refine q_eq rfl ?_
              walk_at "st"
              simp only [if_neg h1] at q
              by_cases h2 : z = "slots"
              · subst h2
                rw [decide_eq_true rfl]
                refine iteT ?_
                walk_at "st"
                refine q_ixT hs (atI1 rfl) ?_
                walk_at "st"
                refine ⟨x1, e1, 1, 4, rfl, a1, ?_⟩
                walk_at "st"
                simp only [decide_true, Bool.true_and] at q
                refine q_if (fun hl => ?_) (fun hl => ?_)
                · obtain ⟨rs, rfl, g0, g1⟩ := dListOf_list hl
                  have a2 := a1
                  cases a1 with
                  | @lst a ys _ hy hb =>
                  walk_at "st"
                  refine ⟨.ref t, rfl, ?_⟩
                  walk_at "st"
                  refine q_ixT hs (atI1 rfl) ?_
                  refine ⟨a, rfl, ⟨ys, hy⟩, fun D nD => lc_test (okSlot c) hy hb (by omega) nD ?_ ?_⟩
                  · intro x2 d2 H2 h2 _ s2 Q2 k2
                    refine ⟨rfl, ?_⟩
                    walk_at "st"
                    exact ⟨b, c, x2, d2, rfl, s2 _ _ hc0, cs, h2, fun H3 s3 => k2 _ s3⟩
                  · intro H2 s2 e
                    refine ⟨D, _, rfl, e, ?_⟩
                    have z0 := q H2 s2
                    simp only [okSlots, hl, Bool.true_and] at z0
                    rw [all_map_id]; exact z0
                · have z0 := q H (Same.refl H)
                  simp only [okSlots, hl, Bool.false_and] at z0
                  exact z0
              · rw [decide_eq_false (fun q => h2 (V.str.inj q))]
                refine iteF ?_
                have z0 := q H (Same.refl H)
                rw [decide_eq_false h2, Bool.false_and] at z0
                exact z0))) only [↓Hk.hold_s]
def okTask (d : PyData) : Bool := dTupleOf d 2 && (match d with | .tuple [a, b] => dBetween a 0 3 && dBetween b 0 2 | _ => false)
def sideD (d : PyData) : Int := match d with | .tuple [.int s, _] => s | _ => 0
def okTasks (d : PyData) : Bool := dListOf d 2 4 && (match d with | .list ds => ds.all okTask && decide (1 < distinct (ds.map sideD)) | _ => false)
theorem okTask_shape {d : PyData} (h : okTask d = true) : ∃ s l, d = .tuple [.int s, .int l] ∧ 0 ≤ s ∧ s ≤ 3 ∧ 0 ≤ l ∧ l ≤ 2 := by
  unfold okTask at h
  rw [Bool.and_eq_true] at h
  obtain ⟨h1, h2⟩ := h
  obtain ⟨ds, rfl, l2⟩ := dTupleOf_tup h1
  match ds, l2, h2 with
  | [a, b], _, h2 =>
    rw [Bool.and_eq_true] at h2
    obtain ⟨h2, h3⟩ := h2
    cases a with
    | int s => cases b with
      | int l => simp [dBetween] at h2 h3; exact ⟨s, l, rfl, h2.1, h2.2, h3.1, h3.2⟩
      | _ => simp [dBetween] at h3
    | _ => simp [dBetween] at h2
theorem ok_fit_as_tasks (B : Bl mg) (d : DefAt K mg "fit_as_tasks" s_fit_as_tasks ["tasks"]) (c_is_list : Cal P w K mg base 1 "is_list" ["thing", "low", "high"] (spListOf K)) (c_is_tuple : Cal P w K mg base 1 "is_tuple" ["thing", "many"] (spTupleOf K)) (c_is_between : Cal P w K mg base 2 "is_between" ["thing", "low", "high"] (spBetween K)) :
    Cal P w K mg base 3 "fit_as_tasks" ["tasks"] (spOk K okTasks) := by
 refine Hk.hold ?_
 simp (disch := with_unfolding_all (
 exact Hk.disch (d.cal fun f fd F => by
  refine F.ok sc_fit_as_tasks (fun vs H Q E h => ?_) (fun cdv A outer s H vs Q E hr h => ?_)
  · obtain ⟨x, d, rfl, _⟩ := h; rfl
  · obtain ⟨x, d, rfl, hd, q⟩ := h
    refine ⟨_, (pss_cons (ps_if (pt_not (pt_val (pe_cal c_is_list (hr.mono (by omega)) rfl (pa_cons (pv 0) (pa_cons pe_int (pa_cons pe_int pa_nil)))))) (pss_one (ps_ret pe_bl)) pss_nil)
      (pss_cons (ps_for PassesOwn.never rfl (pi_list (pv 0)) (pg_name (i := 1) sc_fit_as_tasks.nd rfl (Or.inl rfl)) (pss_one (ps_if (pt_not (PW.pt (pw_and (pt_val (pe_cal c_is_tuple (hr.mono (by omega)) rfl (pa_cons (pv 1) (pa_cons pe_int pa_nil)))) (pw_and (pt_val (pe_cal c_is_between (hr.mono (by omega)) rfl (pa_cons (pe_ix ix_tup (pv 1) pe_int (fun _ _ => rfl)) (pa_cons pe_int (pa_cons pe_int pa_nil))))) (pw_and1 (pt_val (pe_cal c_is_between (hr.mono (by omega)) rfl (pa_cons (pe_ix ix_tup (pv 1) pe_int (fun _ _ => rfl)) (pa_cons pe_int (pa_cons pe_int pa_nil)))))))))) (pss_one (ps_ret pe_bl)) pss_nil)))
      (pss_one (ps_ret (pe_cmpR op_gt (pe_lenSetD rfl rfl B.len rfl B.set_ (pe_lc (own := [("side", 2), ("level", 3)]) (tt := tYes) rfl sc_fit_as_tasks.nd (pi_list (pv 0)) (blkOk_by (N := ["tasks", "task", "side", "level"]) (sc := defScope s_fit_as_tasks) (by decide +kernel)) (fun _ _ _ _ _ => (show PG _ _ (gTup K 2 _) from pg_tup rfl (pgs_cons (pg_name (i := 2) sc_fit_as_tasks.nd rfl (Or.inl rfl)) (pgs_cons (pg_name (i := 3) sc_fit_as_tasks.nd rfl (Or.inl rfl)) pgs_nil)))) (fun _ _ _ _ _ => pts_nil) (fun _ _ _ _ _ => (pv 2)))) pe_int (nomark _)))))), ?_⟩
    walk_at "st0"
    refine ⟨x, d, 2, 4, rfl, hd, ?_⟩
    walk_at "st"
    cases hc : dListOf d 2 4 with
    | false =>
      refine iteT ?_
      walk_at "st"
      have z := q H (Same.refl H)
      simp only [okTasks, hc, Bool.false_and] at z
      exact z
    | true =>
      refine iteF ?_
      obtain ⟨ds, rfl, h0, h1⟩ := dListOf_list hc
      simp only [okTasks, hc, Bool.true_and] at q
      cases hd with
      | @lst a xs _ hs ha =>
      have lx := ha.length
      walk_at "st"
      refine q_forV xs (fun i σ H2 => (∃ v, σ = [some (.ref a), v, none, none]) ∧ H2 = H ∧ ∀ j, j < i → okTask (ds.getD j .none) = true) rfl hs ⟨⟨none, rfl⟩, rfl, fun j h => by omega⟩ (fun i σ H2 _ h => by rw [h.2.1]; exact hs) ?_ ?_
      · rintro i x2 σ H2 hx ⟨⟨v, rfl⟩, rfl, hall⟩
        obtain ⟨d2, e2, h2⟩ := ha.get' hx
        have lt : i < ds.length := (List.getElem?_eq_some_iff.mp e2).1
        have fin : okTask d2 = true → (fun (σ : L2.St) (H2 : Hp) => (∃ v, σ = [some (.ref a), v, none, none]) ∧ H2 = H2 ∧ ∀ j, j < i + 1 → okTask (ds.getD j .none) = true) [some (.ref a), some x2, none, none] H2 := fun hh => ⟨⟨_, rfl⟩, rfl, fun j hj => by
          rcases Nat.lt_succ_iff_lt_or_eq.mp hj with z | z
          · exact hall j z
          · subst z; rw [List.getD_eq_getElem?_getD, e2]; exact hh⟩
        have bad : okTask d2 = false → Q (.bl false) H2 := fun hh => by
          have z := q H2 (Same.refl H2)
          have e : ds.all okTask = false := by
            rw [Bool.eq_false_iff]
            intro hh2
            rw [List.all_eq_true] at hh2
            exact absurd (hh2 d2 (List.mem_of_getElem? e2)) (by rw [hh]; simp)
          rw [e, Bool.false_and] at z
          exact z
        show tIfS _ _ _ _ _ _
        walk_at "st"
        refine ⟨x2, d2, 2, rfl, h2, ?_⟩
        walk_at "st"
        cases hc2 : dTupleOf d2 2 with
        | false =>
          refine iteF (iteT ?_)
          walk_at "st"
          exact bad (by unfold okTask; rw [hc2]; rfl)
        | true =>
          obtain ⟨es, rfl, l2⟩ := dTupleOf_tup hc2
          match es, l2, h2, fin, bad with
          | [p, r], _, h2, fin, bad =>
            cases h2 with
            | @tup t ys _ ht hb =>
            cases hb with
            | @cons x0 r0 _ _ a0 hb => cases hb with
              | @cons x1 r1 _ _ a1 hb =>
                cases hb
                refine iteT ?_
                walk_at "st"
                refine q_ixT ht (atI0 rfl) ?_
                walk_at "st"
                refine ⟨x0, p, 0, 3, rfl, a0, ?_⟩
                walk_at "st"
                refine q_if (fun h1 => ?_) (fun h1 => ?_)
                · walk_at "st"
                  refine q_ixT ht (atI1 rfl) ?_
                  walk_at "st"
                  refine ⟨x1, r, 0, 2, rfl, a1, ?_⟩
                  walk_at "st"
                  cases h2 : dBetween r 0 2 with
                  | false =>
                    refine iteT ?_
                    walk_at "st"
                    exact bad (by simp [okTask, dTupleOf, h1, h2])
                  | true =>
                    refine iteF ?_
                    walk_at "st"
                    exact fin (by simp [okTask, dTupleOf, h1, h2])
                · refine iteT ?_
                  walk_at "st"
                  exact bad (by simp [okTask, dTupleOf, h1])
      · rintro σ H2 ⟨⟨v, rfl⟩, rfl, hall⟩
        have e0 : ds.all okTask = true := by
          rw [List.all_eq_true]
          intro d2 hm
          obtain ⟨j, hj⟩ := List.getElem?_of_mem hm
          have z := hall j (by rw [lx]; exact (List.getElem?_eq_some_iff.mp hj).1)
          rwa [List.getD_eq_getElem?_getD, hj] at z
        rw [e0, Bool.true_and] at q
        walk_at "st"
        refine ⟨.ref a, rfl, a, rfl, ⟨xs, hs⟩, fun D nD => lc_map (fun d => V.int (sideD d)) hs ha (by omega) nD ?_ ?_⟩
        · intro x2 d2 H3 h2 hm s2 Q2 k2
          obtain ⟨sd, l, rfl, _⟩ := okTask_shape (List.all_eq_true.mp e0 d2 hm)
          cases h2 with
          | @tup t ys _ ht hb =>
          cases hb with
          | @cons x0 r0 _ _ a0 hb => cases hb with
            | @cons x1 r1 _ _ a1 hb =>
              cases hb
              cases a0
              refine ⟨t, _, rfl, ht, rfl, _, _, rfl, _, _, rfl, rfl, rfl, ?_⟩
              walk_at "st"
              exact k2 _ (Same.refl _)
        · intro H3 s3 e3
          refine ⟨D, ds.map sideD, rfl, SqL.of (by rw [e3, List.map_map]; rfl), by rw [List.length_map]; omega, ?_⟩
          walk_at "st"
          have z := q H3 s3
          have e4 : decide ((1 : Int) < (distinct (ds.map sideD) : Int)) = decide (1 < distinct (ds.map sideD)) := decide_eq_decide.mpr (by omega)
          rw [e4]; exact z))) only [↓Hk.hold_s]
end
end T
namespace T
section
variable {P : Program} {w : World} {K : PySem.W.Frag} {mg : Str → Option Value} {base : Heap}
def okDisk (d : PyData) : Bool := dBetween d 0 4 && (match d with | .int i => !decide (i = 1) | _ => false)
def thingsV (d1 d2 d3 d4 d5 d6 : PyData) : V :=
  if okTasks d1 = false then .str "tasks" else if okNumbers d2 3 0 1 = false then .str "pages" else if okNumbers d3 2 1 2 = false then .str "ports" else
  if dBetween d4 0 2 = false then .str "locks" else if dBetween d5 0 3 = false then .str "frames" else if okDisk d6 = false then .str "disk" else .non
def spThings (K : PySem.W.Frag) : Sp := fun vs H Q _ => ∃ (x1 x2 x3 x4 x5 x6 : V) (d1 d2 d3 d4 d5 d6 : PyData), vs = [x1, x2, x3, x4, x5, x6] ∧ Dp K H x1 d1 ∧ Dp K H x2 d2 ∧ Dp K H x3 d3 ∧ Dp K H x4 d4 ∧ Dp K H x5 d5 ∧ Dp K H x6 d6 ∧ ∀ H', Same H H' → Q (thingsV d1 d2 d3 d4 d5 d6) H'
theorem ok_things_fault (B : Bl mg) (d : DefAt K mg "things_fault" s_things_fault ["tasks", "pages", "ports", "locks", "frames", "disk"]) (c_fit_as_tasks : Cal P w K mg base 3 "fit_as_tasks" ["tasks"] (spOk K okTasks)) (c_fit_as_numbers : Cal P w K mg base 3 "fit_as_numbers" ["numbers", "most", "low", "high"] (spNumbers K))
    (c_is_between : Cal P w K mg base 2 "is_between" ["thing", "low", "high"] (spBetween K)) : Cal P w K mg base 4 "things_fault" ["tasks", "pages", "ports", "locks", "frames", "disk"] (spThings K) := by
 refine Hk.hold ?_
 simp (disch := with_unfolding_all (
 exact Hk.disch (d.cal fun f fd F => by
  refine F.ok sc_things_fault (fun vs H Q E h => ?_) (fun cdv A outer s H vs Q E hr h => ?_)
  · obtain ⟨x1, x2, x3, x4, x5, x6, d1, d2, d3, d4, d5, d6, rfl, _⟩ := h; rfl
  · obtain ⟨x1, x2, x3, x4, x5, x6, d1, d2, d3, d4, d5, d6, rfl, h1, h2, h3, h4, h5, h6, q⟩ := h
    refine ⟨_, (pss_cons (ps_if (pt_not (pt_val (pe_cal c_fit_as_tasks (hr.mono (by omega)) rfl (pa_cons (pv 0) pa_nil)))) (pss_one (ps_ret pe_str)) pss_nil)
      (pss_cons (ps_if (pt_not (pt_val (pe_cal c_fit_as_numbers (hr.mono (by omega)) rfl (pa_cons (pv 1) (pa_cons pe_int (pa_cons pe_int (pa_cons pe_int pa_nil))))))) (pss_one (ps_ret pe_str)) pss_nil)
      (pss_cons (ps_if (pt_not (pt_val (pe_cal c_fit_as_numbers (hr.mono (by omega)) rfl (pa_cons (pv 2) (pa_cons pe_int (pa_cons pe_int (pa_cons pe_int pa_nil))))))) (pss_one (ps_ret pe_str)) pss_nil)
      (pss_cons (ps_if (pt_not (pt_val (pe_cal c_is_between (hr.mono (by omega)) rfl (pa_cons (pv 3) (pa_cons pe_int (pa_cons pe_int pa_nil)))))) (pss_one (ps_ret pe_str)) pss_nil)
      (pss_cons (ps_if (pt_not (pt_val (pe_cal c_is_between (hr.mono (by omega)) rfl (pa_cons (pv 4) (pa_cons pe_int (pa_cons pe_int pa_nil)))))) (pss_one (ps_ret pe_str)) pss_nil)
      (pss_cons (ps_if (pt_not (PW.pt (pw_and (pt_val (pe_cal c_is_between (hr.mono (by omega)) rfl (pa_cons (pv 5) (pa_cons pe_int (pa_cons pe_int pa_nil))))) (pw_and1 (pt_cmpR op_ne (pv 5) pe_int (nomark _)))))) (pss_one (ps_ret pe_str)) pss_nil)
      (pss_one (ps_ret pe_non)))))))), ?_⟩
    walk_at "st0"
    refine ⟨x1, d1, rfl, h1, fun H1 s1 => ?_⟩
    walk_at "st"
    unfold thingsV at q
    cases e1 : okTasks d1 with
    | false =>
      refine iteT ?_
      walk_at "st"
      rw [e1] at q; exact q H1 s1
    | true =>
    refine iteF ?_
    rw [e1, if_neg (by simp)] at q
    walk_at "st"
    refine ⟨x2, d2, 3, 0, 1, rfl, L2.Dp.mono s1 h2, by omega, fun H2 s2 => ?_⟩
    have t2 := s1.trans s2
    walk_at "st"
    cases e2 : okNumbers d2 3 0 1 with
    | false =>
      refine iteT ?_
      walk_at "st"
      rw [e2] at q; exact q H2 t2
    | true =>
    refine iteF ?_
    rw [e2, if_neg (by simp)] at q
    walk_at "st"
    refine ⟨x3, d3, 2, 1, 2, rfl, L2.Dp.mono t2 h3, by omega, fun H3 s3 => ?_⟩
    have t3 := t2.trans s3
    walk_at "st"
    cases e3 : okNumbers d3 2 1 2 with
    | false =>
      refine iteT ?_
      walk_at "st"
      rw [e3] at q; exact q H3 t3
    | true =>
    refine iteF ?_
    rw [e3, if_neg (by simp)] at q
    walk_at "st"
    refine ⟨x4, d4, 0, 2, rfl, L2.Dp.mono t3 h4, ?_⟩
    walk_at "st"
    cases e4 : dBetween d4 0 2 with
    | false =>
      refine iteT ?_
      walk_at "st"
      rw [e4] at q; exact q H3 t3
    | true =>
    refine iteF ?_
    rw [e4, if_neg (by simp)] at q
    walk_at "st"
    refine ⟨x5, d5, 0, 3, rfl, L2.Dp.mono t3 h5, ?_⟩
    walk_at "st"
    cases e5 : dBetween d5 0 3 with
    | false =>
      refine iteT ?_
      walk_at "st"
      rw [e5] at q; exact q H3 t3
    | true =>
    refine iteF ?_
    rw [e5, if_neg (by simp)] at q
    walk_at "st"
    refine ⟨x6, d6, 0, 4, rfl, L2.Dp.mono t3 h6, ?_⟩
    walk_at "st"
    unfold okDisk at q
    cases e6 : dBetween d6 0 4 with
    | false =>
      refine iteF (iteT ?_)
      walk_at "st"
      rw [e6] at q; exact q H3 t3
    | true =>
    refine iteT ?_
    rw [e6, Bool.true_and] at q
    cases d6 with
    | int i =>
      cases h6
      walk_at "st"
      refine q_ne rfl ?_
      walk_at "st"
      have z := q H3 t3
      by_cases e7 : i = 1
      · subst e7
        rw [decide_eq_true rfl]
        refine iteT ?_
        walk_at "st"
        exact z
      · rw [decide_eq_false (fun q => e7 (V.int.inj q))]
        refine iteF ?_
        walk_at "st"
        simpa [e7] using z
    | _ => simp [dBetween] at e6))) only [↓Hk.hold_s]
def waysV (c : Cnt) (d1 d2 d3 d4 d5 : PyData) : V :=
  if okRights c d1 = false then .str "rights" else if okLines c d2 = false then .str "lines" else if okCosts d3 = false then .str "costs" else
  if okPlan c d4 = false then .str "plan" else if okOutside c d5 = false then .str "outside" else .non
def spWays (K : PySem.W.Frag) : Sp := fun vs H Q _ => ∃ (a : Addr) (c : Cnt) (x1 x2 x3 x4 x5 : V) (d1 d2 d3 d4 d5 : PyData), vs = [.ref a, x1, x2, x3, x4, x5] ∧ H a = some (.dK (countKV c)) ∧ cntSmall c ∧ Dp K H x1 d1 ∧ Dp K H x2 d2 ∧ Dp K H x3 d3 ∧ Dp K H x4 d4 ∧ Dp K H x5 d5 ∧
  strHead d4 ∧ ∀ H', Same H H' → Q (waysV c d1 d2 d3 d4 d5) H'
theorem ok_ways_fault (B : Bl mg) (d : DefAt K mg "ways_fault" s_ways_fault ["counts", "rights", "lines", "costs", "plan", "outside"]) (c_fit_as_rights : Cal P w K mg base 8 "fit_as_rights" ["counts", "rights"] (spPart K okRights)) (c_fit_as_lines : Cal P w K mg base 3 "fit_as_lines" ["counts", "lines"] (spPart K okLines))
    (c_fit_as_costs : Cal P w K mg base 3 "fit_as_costs" ["costs"] (spOk K okCosts)) (c_fit_as_plan : Cal P w K mg base 5 "fit_as_plan" ["counts", "plan"] (spPlan K)) (c_fits_as_outside : Cal P w K mg base 4 "fits_as_outside" ["counts", "outside"] (spPart K okOutside)) :
    Cal P w K mg base 9 "ways_fault" ["counts", "rights", "lines", "costs", "plan", "outside"] (spWays K) := by
 refine Hk.hold ?_
 simp (disch := with_unfolding_all (
 exact Hk.disch (d.cal fun f fd F => by
  refine F.ok sc_ways_fault (fun vs H Q E h => ?_) (fun cdv A outer s H vs Q E hr h => ?_)
  · obtain ⟨a, c, x1, x2, x3, x4, x5, d1, d2, d3, d4, d5, rfl, _⟩ := h; rfl
  · obtain ⟨b, c, x1, x2, x3, x4, x5, d1, d2, d3, d4, d5, rfl, hc0, cs, h1, h2, h3, h4, h5, hz, q⟩ := h
    refine ⟨_, (pss_cons (ps_if (pt_not (pt_val (pe_cal c_fit_as_rights (hr.mono (by omega)) rfl (pa_cons (pv 0) (pa_cons (pv 1) pa_nil))))) (pss_one (ps_ret pe_str)) pss_nil)
      (pss_cons (ps_if (pt_not (pt_val (pe_cal c_fit_as_lines (hr.mono (by omega)) rfl (pa_cons (pv 0) (pa_cons (pv 2) pa_nil))))) (pss_one (ps_ret pe_str)) pss_nil)
      (pss_cons (ps_if (pt_not (pt_val (pe_cal c_fit_as_costs (hr.mono (by omega)) rfl (pa_cons (pv 3) pa_nil)))) (pss_one (ps_ret pe_str)) pss_nil)
      (pss_cons (ps_if (pt_not (pt_val (pe_cal c_fit_as_plan (hr.mono (by omega)) rfl (pa_cons (pv 0) (pa_cons (pv 4) pa_nil))))) (pss_one (ps_ret pe_str)) pss_nil)
      (pss_cons (ps_if (pt_not (pt_val (pe_cal c_fits_as_outside (hr.mono (by omega)) rfl (pa_cons (pv 0) (pa_cons (pv 5) pa_nil))))) (pss_one (ps_ret pe_str)) pss_nil)
      (pss_one (ps_ret pe_non))))))), ?_⟩
    walk_at "st0"
    refine ⟨b, c, x1, d1, rfl, hc0, cs, h1, fun H1 s1 => ?_⟩
    walk_at "st"
    unfold waysV at q
    cases e1 : okRights c d1 with
    | false =>
      refine iteT ?_
      walk_at "st"
      rw [e1] at q; exact q H1 s1
    | true =>
    refine iteF ?_
    rw [e1, if_neg (by simp)] at q
    walk_at "st"
    refine ⟨b, c, x2, d2, rfl, s1 _ _ hc0, cs, L2.Dp.mono s1 h2, fun H2 s2 => ?_⟩
    have t2 := s1.trans s2
    walk_at "st"
    cases e2 : okLines c d2 with
    | false =>
      refine iteT ?_
      walk_at "st"
      rw [e2] at q; exact q H2 t2
    | true =>
    refine iteF ?_
    rw [e2, if_neg (by simp)] at q
    walk_at "st"
    refine ⟨x3, d3, rfl, L2.Dp.mono t2 h3, fun H3 s3 => ?_⟩
    have t3 := t2.trans s3
    walk_at "st"
    cases e3 : okCosts d3 with
    | false =>
      refine iteT ?_
      walk_at "st"
      rw [e3] at q; exact q H3 t3
    | true =>
    refine iteF ?_
    rw [e3, if_neg (by simp)] at q
    walk_at "st"
    refine ⟨b, c, x4, d4, rfl, t3 _ _ hc0, cs, L2.Dp.mono t3 h4, hz, fun H4 s4 => ?_⟩
    have t4 := t3.trans s4
    walk_at "st"
    cases e4 : okPlan c d4 with
    | false =>
      refine iteT ?_
      walk_at "st"
      rw [e4] at q; exact q H4 t4
    | true =>
    refine iteF ?_
    rw [e4, if_neg (by simp)] at q
    walk_at "st"
    refine ⟨b, c, x5, d5, rfl, t4 _ _ hc0, cs, L2.Dp.mono t4 h5, fun H5 s5 => ?_⟩
    have t5 := t4.trans s5
    walk_at "st"
    cases e5 : okOutside c d5 with
    | false =>
      refine iteT ?_
      walk_at "st"
      rw [e5] at q; exact q H5 t5
    | true =>
    refine iteF ?_
    walk_at "st"
    rw [e5] at q
    simpa using q H5 t5))) only [↓Hk.hold_s]
/-- named data, as a dict -/
def DatKV (K : PySem.W.Frag) (H : Hp) : List (Key × V) → List (Str × PyData) → Prop := Paired fun p q => p.1 = Sum.inr q.1 ∧ Dp K H p.2 q.2
def flagsV (l : List (Str × PyData)) : V := match l.find? fun p => !isBool p.2 with | some p => .str p.1 | none => .non
def spFlags (K : PySem.W.Frag) : Sp := fun vs H Q _ => ∃ (a : Addr) (kvs : List (Key × V)) (l : List (Str × PyData)), vs = [.ref a] ∧ H a = some (.dK kvs) ∧ DatKV K H kvs l ∧ ∀ H', Same H H' → Q (flagsV l) H'
theorem ok_flags_fault (B : Bl mg) (d : DefAt K mg "flags_fault" s_flags_fault ["flags"]) : Cal P w K mg base 1 "flags_fault" ["flags"] (spFlags K) := by
 refine Hk.hold ?_
 simp (disch := with_unfolding_all (
 exact Hk.disch (d.cal fun f fd F => by
  refine F.ok sc_flags_fault (fun vs H Q E h => ?_) (fun cdv A outer s H vs Q E hr h => ?_)
  · obtain ⟨a, kvs, l, rfl, _⟩ := h; rfl
  · obtain ⟨a, kvs, l, rfl, ha, hk, q⟩ := h
    refine ⟨_, (pss_cons (ps_lock (ps_for PassesOwn.never rfl (pi_items (pv 0)) (pg_tup rfl (pgs_cons (pg_name (i := 1) sc_flags_fault.nd rfl (Or.inl rfl)) (pgs_cons (pg_name (i := 2) sc_flags_fault.nd rfl (Or.inl rfl)) pgs_nil))) (pss_one (ps_if (pt_not (pt_val (pe_callB call_isi rfl B.isinstance hb_isinstance (pa_cons (pv 2) (pa_cons (pe_bltn (v := .ty "bool") rfl B.bool_ hb_bool rfl) pa_nil))))) (pss_one (ps_ret (pv 1))) pss_nil))))
      (pss_one (ps_ret pe_non))), ?_⟩
    walk_at "st0"
    have inv : ∀ {H2 : Hp} {od : Obj}, H2 a = some (.frz od (.dK kvs)) → (∀ b o, H b = some o → b ≠ a → H2 b = some o) → Same H (upd H2 a (.dK kvs)) := fun {H2 od} e k b o hb => by
      by_cases hba : b = a
      · subst hba; rw [upd_same, ← ha, hb]
      · rw [upd_ne hba]; exact k b o hb hba
    refine ⟨a, .dK kvs, ha, trivial, fun od => ?_⟩
    refine q_for ⟨.ref a, rfl, a, od, kvs, rfl, upd_same, for_it walk_items (fun i σ H2 => (∃ v1 v2, σ = [some (.ref a), v1, v2]) ∧ H2 a = some (.frz od (.dK kvs)) ∧ (∀ b o, H b = some o → b ≠ a → H2 b = some o) ∧ ∀ j, j < i → ∀ p, l[j]? = some p → isBool p.2 = true) ?_ (fun i σ H2 _ h => h.2.1) ?_ ?_⟩
    · exact ⟨⟨none, none, rfl⟩, upd_same, fun b o hb hba => by rw [upd_ne hba]; exact hb, fun j h => by omega⟩
    · rintro i x σ H2 H3 lt ⟨⟨v1, v2, rfl⟩, hf, hk2, hb⟩ ⟨t, y, z, rfl, nt, rfl, e1, e2⟩
      have lt2 : kvs[i]? = some kvs[i] := List.getElem?_eq_getElem lt
      replace e1 : kvs[i]?.map (fun kv => kV kv.1) = some y := e1
      replace e2 : kvs[i]?.map Prod.snd = some z := e2
      rw [lt2] at e1 e2
      cases e1
      cases e2
      obtain ⟨p, ep, en, hd⟩ := paired_get hk lt2
      have s3 := same_new (o := .tup [kV kvs[i].1, kvs[i].2]) nt
      have na : a ≠ t := ne_of_none hf nt
      have hd3 : Dp K (upd (upd H2 t (.tup [kV kvs[i].1, kvs[i].2])) a (.dK kvs)) kvs[i].2 p.2 := L2.Dp.mono (fun b o h => by
        by_cases hba : b = a
        · subst hba; rw [upd_same, ← ha, h]
        · rw [upd_ne hba]; exact s3 _ _ (hk2 b o h hba)) hd
      refine ⟨t, _, rfl, SqT.of upd_same, rfl, _, _, rfl, _, _, rfl, rfl, ?_⟩
      have tyb : TyX K (upd H2 t (.tup [kV kvs[i].1, kvs[i].2])) kvs[i].2 (.type (dTy p.2)) := by
        exact ty_but hd ha fun b o h hba => s3 _ _ (hk2 b o h hba)
      show tIfS _ _ _ _ _ _
      walk_at "st"
      refine ⟨_, _, _, _, _, rfl, .ty "bool", tyb, kit_ty (kb_bool p.2 hd.nodict), ?_⟩
      walk_at "st"
      cases hbb : isBool p.2 with
      | true =>
        refine iteF ?_
        walk_at "st"
        refine ⟨⟨_, _, rfl⟩, by rw [upd_ne na]; exact hf, fun b o h hba => s3 _ _ (hk2 b o h hba), fun j hj p2 e => ?_⟩
        rcases Nat.lt_succ_iff_lt_or_eq.mp hj with z | z
        · exact hb j z p2 e
        · subst z; rw [ep] at e; cases e; exact hbb
      | false =>
        refine iteT ?_
        walk_at "st"
        have s4 : Same H (upd (upd H2 t (.tup [kV kvs[i].1, kvs[i].2])) a (.dK kvs)) := inv (H2 := upd H2 t (.tup [kV kvs[i].1, kvs[i].2])) (od := od) (by rw [upd_ne na]; exact hf) (fun b o h hba => s3 _ _ (hk2 b o h hba))
        refine ⟨by rw [upd_ne na]; exact hf, ?_⟩
        have z := q _ s4
        have ef : l.find? (fun p => !isBool p.2) = some p := by
          rw [List.find?_eq_some_iff_getElem]
          obtain ⟨hi, ei⟩ := List.getElem?_eq_some_iff.mp ep
          refine ⟨by simp [hbb], i, hi, ei, fun j hj => ?_⟩
          simp [hb j hj _ (List.getElem?_eq_getElem (by omega))]
        rw [flagsV, ef] at z
        have en2 : kV kvs[i].1 = .str p.1 := by rw [en]; rfl
        rw [en2] at z ⊢; exact z
    · rintro σ H2 ⟨⟨v1, v2, rfl⟩, hf, hk2, hb⟩
      refine ⟨hf, ?_⟩
      walk_at "st"
      have z := q _ (inv hf hk2)
      have ef : l.find? (fun p => !isBool p.2) = none := by
        rw [List.find?_eq_none]
        intro p hm
        obtain ⟨j, hj⟩ := List.getElem?_of_mem hm
        have lj : j < kvs.length := by rw [Paired.length hk]; exact (List.getElem?_eq_some_iff.mp hj).1
        simp [hb j lj p hj]
      rw [flagsV, ef] at z
      exact z))) only [↓Hk.hold_s]
end
end T
namespace T
section
variable {P : Program} {w : World} {K : PySem.W.Frag} {mg : Str → Option Value} {base : Heap} {C : Addr}
/-- what the text says of Build -/
structure BCls (K : PySem.W.Frag) (C : Addr) : Prop where
  cls : Cls K C
  n_parts : NoAttr K C "_parts"
  n_rules : NoAttr K C "rules"
def cOf (b : BD) : Cnt := match b.tasks, b.pages, b.ports, b.locks, b.disk with
  | .list t, .list p, .list q, .int l, .int d => cntOf t.length p.length q.length l d
  | _, _, _, _, _ => cntOf 0 0 0 0 0
structure BOk (b : BD) : Prop where
  tasks : okTasks b.tasks = true
  pages : okNumbers b.pages 3 0 1 = true
  ports : okNumbers b.ports 2 1 2 = true
  locks : dBetween b.locks 0 2 = true
  frames : dBetween b.frames 0 3 = true
  disk : okDisk b.disk = true
  rights : okRights (cOf b) b.rights = true
  lines : okLines (cOf b) b.lines = true
  costs : okCosts b.costs = true
  plan : okPlan (cOf b) b.plan = true
  outside : okOutside (cOf b) b.outside = true
  wipe : isBool b.wipe = true
  pad : isBool b.pad = true
  lend : isBool b.lend = true
  share : isBool b.share = true
structure PartsAt (K : PySem.W.Frag) (C : Addr) (H : Hp) (p : Addr) (b : BD) : Prop where
  ok : BOk b
  ex : ∃ (dx : Addr) (fs : List (Str × V)) (q : Addr) (kvs : List (Key × V)), H p = some (.ins C dx fs) ∧ fs.lookup ("_parts" : Str) = some (.ref q) ∧ H q = some (.dK kvs) ∧ Paired (fun p q => p.1 = Sum.inr q.1 ∧ Dp K H p.2 q.2) kvs b.parts ∧ ∀ m : Str, m ≠ ("_parts" : Str) → m ≠ ("rules" : Str) → fs.lookup m = none
theorem pairedKV_mono {H H' : Hp} (s : Same H H') {kvs : List (Key × V)} {l : List (Str × PyData)} (h : Paired (fun p q => p.1 = Sum.inr q.1 ∧ Dp K H p.2 q.2) kvs l) : Paired (fun p q => p.1 = Sum.inr q.1 ∧ Dp K H' p.2 q.2) kvs l := Paired.mapP h fun a b r => ⟨r.1, L2.Dp.mono s r.2⟩
theorem PartsAt.mono {H H' : Hp} {p : Addr} {b : BD} (s : Same H H') (h : PartsAt K C H p b) : PartsAt K C H' p b := by
  obtain ⟨ok, dx, fs, q, kvs, e1, e2, e3, e4, e5⟩ := h
  exact ⟨ok, dx, fs, q, kvs, s _ _ e1, e2, s _ _ e3, pairedKV_mono s e4, e5⟩
theorem okList {d : PyData} {m lo hi : Int} (h : okNumbers d m lo hi = true) : ∃ ds, d = .list ds ∧ (ds.length : Int) ≤ m ∧ ∀ e ∈ ds, ∃ i, e = .int i ∧ lo ≤ i ∧ i ≤ hi := by
  unfold okNumbers at h
  rw [Bool.and_eq_true] at h
  obtain ⟨ds, rfl, h0, h1⟩ := dListOf_list h.1
  refine ⟨ds, rfl, h1, fun e he => ?_⟩
  have z := List.all_eq_true.mp h.2 e he
  cases e with
  | int i => simp [dBetween] at z; exact ⟨i, rfl, z.1, z.2⟩
  | _ => simp [dBetween] at z
theorem okTasksL {d : PyData} (h : okTasks d = true) : ∃ ds, d = .list ds ∧ 2 ≤ ds.length ∧ ds.length ≤ 4 ∧ ∀ e ∈ ds, okTask e = true := by
  unfold okTasks at h
  rw [Bool.and_eq_true] at h
  obtain ⟨ds, rfl, h0, h1⟩ := dListOf_list h.1
  rw [Bool.and_eq_true] at h
  exact ⟨ds, rfl, by omega, by omega, List.all_eq_true.mp h.2.1⟩
theorem okLinesL {c : Cnt} {d : PyData} (h : okLines c d = true) : ∃ ds, d = .list ds ∧ (ds.length : Int) = cnt c "page" ∧ ∀ e ∈ ds, okLine e = true := by
  unfold okLines at h
  rw [Bool.and_eq_true] at h
  obtain ⟨ds, rfl, h0, h1⟩ := dListOf_list h.1
  exact ⟨ds, rfl, by omega, List.all_eq_true.mp h.2⟩
/-- a list that is new, of these data -/
def NewL (K : PySem.W.Frag) (H H' : Hp) (v : V) (d : PyData) : Prop := ∃ l xs ds, v = .ref l ∧ H l = none ∧ H' l = some (.lst xs) ∧ d = .list ds ∧ DpAll K H' xs ds
def spGet (K : PySem.W.Frag) (C : Addr) (R : BD → Hp → V → Hp → Prop) : Sp := fun vs H Q _ => ∃ (p : Addr) (b : BD), vs = [.ref p] ∧ PartsAt K C H p b ∧ ∀ v H', Same H H' → R b H v H' → Q v H'
theorem call_listOf {H : Hp} {Q : VK} {v : V} {ds : List PyData} (hd : Dp K H v (.tuple ds)) (k : ∀ l xs, H l = none → Same H (upd H l (.lst xs)) → DpAll K (upd H l (.lst xs)) xs ds → Q (.ref l) (upd H l (.lst xs))) :
    ∃ p ys, [v] = [.ref p] ∧ (SqL K H p ys ∨ SqT K H p ys) ∧ ∀ l, H l = none → Q (.ref l) (upd H l (.lst ys)) := by
  cases hd with
  | @tup a xs _ hs ha => exact ⟨a, xs, rfl, .inr hs, fun l nl => k l xs nl (same_new nl) (L2.DpAll.mono (same_new nl) ha)⟩
theorem ok_Build_tasks (B : Bl mg) (T : BCls K C) (d : MethAt K C "tasks" "Build.tasks" s_Build_tasks ["self"]) : MCal P w K mg base 1 C "tasks" ["self"] (spGet K C fun b H v H' => NewL K H H' v b.tasks) := by
 refine Hk.hold ?_
 simp (disch := with_unfolding_all (
 exact Hk.disch (d.cal fun f fd F => by
  refine F.ok sc_Build_tasks (fun vs H Q E h => ?_) (fun cdv A outer s H vs Q E hr h => ?_)
  · obtain ⟨p, b, rfl, _⟩ := h; rfl
  · obtain ⟨p, b, rfl, ⟨ok, dx, fs, q0, kvs, e1, e2, e3, e4, e5⟩, q⟩ := h
    have hu := hu_of hr
    refine ⟨_, (pss_one (ps_ret (pe_callTy call_list_of rfl B.list_ hb_list (pa_cons (pe_dget hu (pe_fld (pv 0) rfl) pe_str (fun _ _ => rfl)) pa_nil)))), ?_⟩
    walk_at "st0"
    refine ⟨p, C, dx, fs, _, rfl, e1, T.cls, T.n_parts, e2, ?_⟩
    walk_at "st"
    obtain ⟨v, g1, g2⟩ := pairedKV_get (z := "tasks") e4 rfl
    refine ⟨q0, v, rfl, by rw [← g1]; exact DGet.k (k := Sum.inr "tasks") e3, ?_⟩
    walk_at "st"
    obtain ⟨ds, ed, _⟩ := okTasksL ok.tasks
    rw [ed] at g2
    exact call_listOf (ds := ds) g2 fun l xs nl sm ha => q _ _ sm ⟨l, xs, ds, rfl, nl, upd_same, ed, ha⟩))) only [↓Hk.hold_s]
theorem ok_Build_pages (B : Bl mg) (T : BCls K C) (d : MethAt K C "pages" "Build.pages" s_Build_pages ["self"]) : MCal P w K mg base 1 C "pages" ["self"] (spGet K C fun b H v H' => NewL K H H' v b.pages) := by
 refine Hk.hold ?_
 simp (disch := with_unfolding_all (
 exact Hk.disch (d.cal fun f fd F => by
  refine F.ok sc_Build_pages (fun vs H Q E h => ?_) (fun cdv A outer s H vs Q E hr h => ?_)
  · obtain ⟨p, b, rfl, _⟩ := h; rfl
  · obtain ⟨p, b, rfl, ⟨ok, dx, fs, q0, kvs, e1, e2, e3, e4, e5⟩, q⟩ := h
    have hu := hu_of hr
    refine ⟨_, (pss_one (ps_ret (pe_callTy call_list_of rfl B.list_ hb_list (pa_cons (pe_dget hu (pe_fld (pv 0) rfl) pe_str (fun _ _ => rfl)) pa_nil)))), ?_⟩
    walk_at "st0"
    refine ⟨p, C, dx, fs, _, rfl, e1, T.cls, T.n_parts, e2, ?_⟩
    walk_at "st"
    obtain ⟨v, g1, g2⟩ := pairedKV_get (z := "pages") e4 rfl
    refine ⟨q0, v, rfl, by rw [← g1]; exact DGet.k (k := Sum.inr "pages") e3, ?_⟩
    walk_at "st"
    obtain ⟨ds, ed, _⟩ := okList ok.pages
    rw [ed] at g2
    exact call_listOf (ds := ds) g2 fun l xs nl sm ha => q _ _ sm ⟨l, xs, ds, rfl, nl, upd_same, ed, ha⟩))) only [↓Hk.hold_s]
theorem ok_Build_ports (B : Bl mg) (T : BCls K C) (d : MethAt K C "ports" "Build.ports" s_Build_ports ["self"]) : MCal P w K mg base 1 C "ports" ["self"] (spGet K C fun b H v H' => NewL K H H' v b.ports) := by
 refine Hk.hold ?_
 simp (disch := with_unfolding_all (
 exact Hk.disch (d.cal fun f fd F => by
  refine F.ok sc_Build_ports (fun vs H Q E h => ?_) (fun cdv A outer s H vs Q E hr h => ?_)
  · obtain ⟨p, b, rfl, _⟩ := h; rfl
  · obtain ⟨p, b, rfl, ⟨ok, dx, fs, q0, kvs, e1, e2, e3, e4, e5⟩, q⟩ := h
    have hu := hu_of hr
    refine ⟨_, (pss_one (ps_ret (pe_callTy call_list_of rfl B.list_ hb_list (pa_cons (pe_dget hu (pe_fld (pv 0) rfl) pe_str (fun _ _ => rfl)) pa_nil)))), ?_⟩
    walk_at "st0"
    refine ⟨p, C, dx, fs, _, rfl, e1, T.cls, T.n_parts, e2, ?_⟩
    walk_at "st"
    obtain ⟨v, g1, g2⟩ := pairedKV_get (z := "ports") e4 rfl
    refine ⟨q0, v, rfl, by rw [← g1]; exact DGet.k (k := Sum.inr "ports") e3, ?_⟩
    walk_at "st"
    obtain ⟨ds, ed, _⟩ := okList ok.ports
    rw [ed] at g2
    exact call_listOf (ds := ds) g2 fun l xs nl sm ha => q _ _ sm ⟨l, xs, ds, rfl, nl, upd_same, ed, ha⟩))) only [↓Hk.hold_s]
theorem ok_Build_lines (B : Bl mg) (T : BCls K C) (d : MethAt K C "lines" "Build.lines" s_Build_lines ["self"]) : MCal P w K mg base 1 C "lines" ["self"] (spGet K C fun b H v H' => NewL K H H' v b.lines) := by
 refine Hk.hold ?_
 simp (disch := with_unfolding_all (
 exact Hk.disch (d.cal fun f fd F => by
  refine F.ok sc_Build_lines (fun vs H Q E h => ?_) (fun cdv A outer s H vs Q E hr h => ?_)
  · obtain ⟨p, b, rfl, _⟩ := h; rfl
  · obtain ⟨p, b, rfl, ⟨ok, dx, fs, q0, kvs, e1, e2, e3, e4, e5⟩, q⟩ := h
    have hu := hu_of hr
    refine ⟨_, (pss_one (ps_ret (pe_callTy call_list_of rfl B.list_ hb_list (pa_cons (pe_dget hu (pe_fld (pv 0) rfl) pe_str (fun _ _ => rfl)) pa_nil)))), ?_⟩
    walk_at "st0"
    refine ⟨p, C, dx, fs, _, rfl, e1, T.cls, T.n_parts, e2, ?_⟩
    walk_at "st"
    obtain ⟨v, g1, g2⟩ := pairedKV_get (z := "lines") e4 rfl
    refine ⟨q0, v, rfl, by rw [← g1]; exact DGet.k (k := Sum.inr "lines") e3, ?_⟩
    walk_at "st"
    obtain ⟨ds, ed, _⟩ := okLinesL ok.lines
    rw [ed] at g2
    exact call_listOf (ds := ds) g2 fun l xs nl sm ha => q _ _ sm ⟨l, xs, ds, rfl, nl, upd_same, ed, ha⟩))) only [↓Hk.hold_s]
theorem ok_Build_locks (B : Bl mg) (T : BCls K C) (d : MethAt K C "locks" "Build.locks" s_Build_locks ["self"]) : MCal P w K mg base 1 C "locks" ["self"] (spGet K C fun b H v H' => Dp K H' v b.locks) := by
 refine Hk.hold ?_
 simp (disch := with_unfolding_all (
 exact Hk.disch (d.cal fun f fd F => by
  refine F.ok sc_Build_locks (fun vs H Q E h => ?_) (fun cdv A outer s H vs Q E hr h => ?_)
  · obtain ⟨p, b, rfl, _⟩ := h; rfl
  · obtain ⟨p, b, rfl, ⟨ok, dx, fs, q0, kvs, e1, e2, e3, e4, e5⟩, q⟩ := h
    have hu := hu_of hr
    refine ⟨_, (pss_one (ps_ret (pe_dget hu (pe_fld (pv 0) rfl) pe_str (fun _ _ => rfl)))), ?_⟩
    walk_at "st0"
    refine ⟨p, C, dx, fs, _, rfl, e1, T.cls, T.n_parts, e2, ?_⟩
    walk_at "st"
    obtain ⟨v, g1, g2⟩ := pairedKV_get (z := "locks") e4 rfl
    exact ⟨q0, v, rfl, by rw [← g1]; exact DGet.k (k := Sum.inr "locks") e3, q _ _ (Same.refl _) g2⟩))) only [↓Hk.hold_s]
theorem ok_Build_frames (B : Bl mg) (T : BCls K C) (d : MethAt K C "frames" "Build.frames" s_Build_frames ["self"]) : MCal P w K mg base 1 C "frames" ["self"] (spGet K C fun b H v H' => Dp K H' v b.frames) := by
 refine Hk.hold ?_
 simp (disch := with_unfolding_all (
 exact Hk.disch (d.cal fun f fd F => by
  refine F.ok sc_Build_frames (fun vs H Q E h => ?_) (fun cdv A outer s H vs Q E hr h => ?_)
  · obtain ⟨p, b, rfl, _⟩ := h; rfl
  · obtain ⟨p, b, rfl, ⟨ok, dx, fs, q0, kvs, e1, e2, e3, e4, e5⟩, q⟩ := h
    have hu := hu_of hr
    refine ⟨_, (pss_one (ps_ret (pe_dget hu (pe_fld (pv 0) rfl) pe_str (fun _ _ => rfl)))), ?_⟩
    walk_at "st0"
    refine ⟨p, C, dx, fs, _, rfl, e1, T.cls, T.n_parts, e2, ?_⟩
    walk_at "st"
    obtain ⟨v, g1, g2⟩ := pairedKV_get (z := "frames") e4 rfl
    exact ⟨q0, v, rfl, by rw [← g1]; exact DGet.k (k := Sum.inr "frames") e3, q _ _ (Same.refl _) g2⟩))) only [↓Hk.hold_s]
theorem ok_Build_disk (B : Bl mg) (T : BCls K C) (d : MethAt K C "disk" "Build.disk" s_Build_disk ["self"]) : MCal P w K mg base 1 C "disk" ["self"] (spGet K C fun b H v H' => Dp K H' v b.disk) := by
 refine Hk.hold ?_
 simp (disch := with_unfolding_all (
 exact Hk.disch (d.cal fun f fd F => by
  refine F.ok sc_Build_disk (fun vs H Q E h => ?_) (fun cdv A outer s H vs Q E hr h => ?_)
  · obtain ⟨p, b, rfl, _⟩ := h; rfl
  · obtain ⟨p, b, rfl, ⟨ok, dx, fs, q0, kvs, e1, e2, e3, e4, e5⟩, q⟩ := h
    have hu := hu_of hr
    refine ⟨_, (pss_one (ps_ret (pe_dget hu (pe_fld (pv 0) rfl) pe_str (fun _ _ => rfl)))), ?_⟩
    walk_at "st0"
    refine ⟨p, C, dx, fs, _, rfl, e1, T.cls, T.n_parts, e2, ?_⟩
    walk_at "st"
    obtain ⟨v, g1, g2⟩ := pairedKV_get (z := "disk") e4 rfl
    exact ⟨q0, v, rfl, by rw [← g1]; exact DGet.k (k := Sum.inr "disk") e3, q _ _ (Same.refl _) g2⟩))) only [↓Hk.hold_s]
theorem ok_Build_costs (B : Bl mg) (T : BCls K C) (d : MethAt K C "costs" "Build.costs" s_Build_costs ["self"]) : MCal P w K mg base 1 C "costs" ["self"] (spGet K C fun b H v H' => Dp K H' v b.costs) := by
 refine Hk.hold ?_
 simp (disch := with_unfolding_all (
 exact Hk.disch (d.cal fun f fd F => by
  refine F.ok sc_Build_costs (fun vs H Q E h => ?_) (fun cdv A outer s H vs Q E hr h => ?_)
  · obtain ⟨p, b, rfl, _⟩ := h; rfl
  · obtain ⟨p, b, rfl, ⟨ok, dx, fs, q0, kvs, e1, e2, e3, e4, e5⟩, q⟩ := h
    have hu := hu_of hr
    refine ⟨_, (pss_one (ps_ret (pe_dget hu (pe_fld (pv 0) rfl) pe_str (fun _ _ => rfl)))), ?_⟩
    walk_at "st0"
    refine ⟨p, C, dx, fs, _, rfl, e1, T.cls, T.n_parts, e2, ?_⟩
    walk_at "st"
    obtain ⟨v, g1, g2⟩ := pairedKV_get (z := "costs") e4 rfl
    exact ⟨q0, v, rfl, by rw [← g1]; exact DGet.k (k := Sum.inr "costs") e3, q _ _ (Same.refl _) g2⟩))) only [↓Hk.hold_s]
theorem ok_Build_outside (B : Bl mg) (T : BCls K C) (d : MethAt K C "outside" "Build.outside" s_Build_outside ["self"]) : MCal P w K mg base 1 C "outside" ["self"] (spGet K C fun b H v H' => Dp K H' v b.outside) := by
 refine Hk.hold ?_
 simp (disch := with_unfolding_all (
 exact Hk.disch (d.cal fun f fd F => by
  refine F.ok sc_Build_outside (fun vs H Q E h => ?_) (fun cdv A outer s H vs Q E hr h => ?_)
  · obtain ⟨p, b, rfl, _⟩ := h; rfl
  · obtain ⟨p, b, rfl, ⟨ok, dx, fs, q0, kvs, e1, e2, e3, e4, e5⟩, q⟩ := h
    have hu := hu_of hr
    refine ⟨_, (pss_one (ps_ret (pe_dget hu (pe_fld (pv 0) rfl) pe_str (fun _ _ => rfl)))), ?_⟩
    walk_at "st0"
    refine ⟨p, C, dx, fs, _, rfl, e1, T.cls, T.n_parts, e2, ?_⟩
    walk_at "st"
    obtain ⟨v, g1, g2⟩ := pairedKV_get (z := "outside") e4 rfl
    exact ⟨q0, v, rfl, by rw [← g1]; exact DGet.k (k := Sum.inr "outside") e3, q _ _ (Same.refl _) g2⟩))) only [↓Hk.hold_s]
theorem ok_Build_wipe (B : Bl mg) (T : BCls K C) (d : MethAt K C "wipe" "Build.wipe" s_Build_wipe ["self"]) : MCal P w K mg base 1 C "wipe" ["self"] (spGet K C fun b H v H' => Dp K H' v b.wipe) := by
 refine Hk.hold ?_
 simp (disch := with_unfolding_all (
 exact Hk.disch (d.cal fun f fd F => by
  refine F.ok sc_Build_wipe (fun vs H Q E h => ?_) (fun cdv A outer s H vs Q E hr h => ?_)
  · obtain ⟨p, b, rfl, _⟩ := h; rfl
  · obtain ⟨p, b, rfl, ⟨ok, dx, fs, q0, kvs, e1, e2, e3, e4, e5⟩, q⟩ := h
    have hu := hu_of hr
    refine ⟨_, (pss_one (ps_ret (pe_dget hu (pe_fld (pv 0) rfl) pe_str (fun _ _ => rfl)))), ?_⟩
    walk_at "st0"
    refine ⟨p, C, dx, fs, _, rfl, e1, T.cls, T.n_parts, e2, ?_⟩
    walk_at "st"
    obtain ⟨v, g1, g2⟩ := pairedKV_get (z := "wipe") e4 rfl
    exact ⟨q0, v, rfl, by rw [← g1]; exact DGet.k (k := Sum.inr "wipe") e3, q _ _ (Same.refl _) g2⟩))) only [↓Hk.hold_s]
theorem ok_Build_pad (B : Bl mg) (T : BCls K C) (d : MethAt K C "pad" "Build.pad" s_Build_pad ["self"]) : MCal P w K mg base 1 C "pad" ["self"] (spGet K C fun b H v H' => Dp K H' v b.pad) := by
 refine Hk.hold ?_
 simp (disch := with_unfolding_all (
 exact Hk.disch (d.cal fun f fd F => by
  refine F.ok sc_Build_pad (fun vs H Q E h => ?_) (fun cdv A outer s H vs Q E hr h => ?_)
  · obtain ⟨p, b, rfl, _⟩ := h; rfl
  · obtain ⟨p, b, rfl, ⟨ok, dx, fs, q0, kvs, e1, e2, e3, e4, e5⟩, q⟩ := h
    have hu := hu_of hr
    refine ⟨_, (pss_one (ps_ret (pe_dget hu (pe_fld (pv 0) rfl) pe_str (fun _ _ => rfl)))), ?_⟩
    walk_at "st0"
    refine ⟨p, C, dx, fs, _, rfl, e1, T.cls, T.n_parts, e2, ?_⟩
    walk_at "st"
    obtain ⟨v, g1, g2⟩ := pairedKV_get (z := "pad") e4 rfl
    exact ⟨q0, v, rfl, by rw [← g1]; exact DGet.k (k := Sum.inr "pad") e3, q _ _ (Same.refl _) g2⟩))) only [↓Hk.hold_s]
theorem ok_Build_lend (B : Bl mg) (T : BCls K C) (d : MethAt K C "lend" "Build.lend" s_Build_lend ["self"]) : MCal P w K mg base 1 C "lend" ["self"] (spGet K C fun b H v H' => Dp K H' v b.lend) := by
 refine Hk.hold ?_
 simp (disch := with_unfolding_all (
 exact Hk.disch (d.cal fun f fd F => by
  refine F.ok sc_Build_lend (fun vs H Q E h => ?_) (fun cdv A outer s H vs Q E hr h => ?_)
  · obtain ⟨p, b, rfl, _⟩ := h; rfl
  · obtain ⟨p, b, rfl, ⟨ok, dx, fs, q0, kvs, e1, e2, e3, e4, e5⟩, q⟩ := h
    have hu := hu_of hr
    refine ⟨_, (pss_one (ps_ret (pe_dget hu (pe_fld (pv 0) rfl) pe_str (fun _ _ => rfl)))), ?_⟩
    walk_at "st0"
    refine ⟨p, C, dx, fs, _, rfl, e1, T.cls, T.n_parts, e2, ?_⟩
    walk_at "st"
    obtain ⟨v, g1, g2⟩ := pairedKV_get (z := "lend") e4 rfl
    exact ⟨q0, v, rfl, by rw [← g1]; exact DGet.k (k := Sum.inr "lend") e3, q _ _ (Same.refl _) g2⟩))) only [↓Hk.hold_s]
theorem ok_Build_share (B : Bl mg) (T : BCls K C) (d : MethAt K C "share" "Build.share" s_Build_share ["self"]) : MCal P w K mg base 1 C "share" ["self"] (spGet K C fun b H v H' => Dp K H' v b.share) := by
 refine Hk.hold ?_
 simp (disch := with_unfolding_all (
 exact Hk.disch (d.cal fun f fd F => by
  refine F.ok sc_Build_share (fun vs H Q E h => ?_) (fun cdv A outer s H vs Q E hr h => ?_)
  · obtain ⟨p, b, rfl, _⟩ := h; rfl
  · obtain ⟨p, b, rfl, ⟨ok, dx, fs, q0, kvs, e1, e2, e3, e4, e5⟩, q⟩ := h
    have hu := hu_of hr
    refine ⟨_, (pss_one (ps_ret (pe_dget hu (pe_fld (pv 0) rfl) pe_str (fun _ _ => rfl)))), ?_⟩
    walk_at "st0"
    refine ⟨p, C, dx, fs, _, rfl, e1, T.cls, T.n_parts, e2, ?_⟩
    walk_at "st"
    obtain ⟨v, g1, g2⟩ := pairedKV_get (z := "share") e4 rfl
    exact ⟨q0, v, rfl, by rw [← g1]; exact DGet.k (k := Sum.inr "share") e3, q _ _ (Same.refl _) g2⟩))) only [↓Hk.hold_s]
end
end T
namespace T
section
variable {P : Program} {w : World} {K : PySem.W.Frag} {mg : Str → Option Value} {base : Heap} {C : Addr}
theorem okPlanL {c : Cnt} {d : PyData} (h : okPlan c d = true) : ∃ z e, d = .tuple [.str z, e] ∧ ((z = "levels" ∧ ∃ i, e = .int i ∧ 1 ≤ i ∧ i ≤ 8) ∨ (z = "slots" ∧ okSlots c e = true)) := by
  unfold okPlan at h
  rw [Bool.and_eq_true] at h
  obtain ⟨h1, h2⟩ := h
  obtain ⟨ds, rfl, l2⟩ := dTupleOf_tup h1
  match ds, l2, h2 with
  | [a, e], _, h2 =>
    cases a with
    | str z =>
      refine ⟨z, e, rfl, ?_⟩
      by_cases hz : z = "levels"
      · simp only [hz, if_pos] at h2
        left
        cases e with
        | int i => simp [dBetween] at h2; exact ⟨hz, i, rfl, h2.1, h2.2⟩
        | _ => simp [dBetween] at h2
      · simp only [if_neg hz] at h2
        rw [Bool.and_eq_true] at h2
        exact .inr ⟨of_decide_eq_true h2.1, h2.2⟩
    | _ => simp at h2
theorem okSlotsL {c : Cnt} {e : PyData} (h : okSlots c e = true) : ∃ rs, e = .list rs ∧ 1 ≤ rs.length ∧ rs.length ≤ 4 ∧ ∀ r ∈ rs, ∃ t k, r = .tuple [.int t, .int k] ∧ 0 ≤ t ∧ t ≤ cnt c "task" - 1 ∧ 1 ≤ k ∧ k ≤ 12 := by
  unfold okSlots at h
  rw [Bool.and_eq_true] at h
  obtain ⟨rs, rfl, h0, h1⟩ := dListOf_list h.1
  refine ⟨rs, rfl, by omega, by omega, fun r hr => ?_⟩
  have z := List.all_eq_true.mp h.2 r hr
  unfold okSlot at z
  rw [Bool.and_eq_true] at z
  obtain ⟨ds, rfl, l2⟩ := dTupleOf_tup z.1
  match ds, l2, z with
  | [a, b], _, z =>
    have z2 := z.2
    rw [Bool.and_eq_true] at z2
    cases a with
    | int t => cases b with
      | int k => simp [dBetween] at z2; exact ⟨t, k, rfl, z2.1.1, by omega, z2.2.1, z2.2.2⟩
      | _ => simp [dBetween] at z2
    | _ => simp [dBetween] at z2
theorem slots_ne : ¬ ("levels" : Str) = "slots" := by decide +kernel
theorem ok_Build_plan (B : Bl mg) (T : BCls K C) (d : MethAt K C "plan" "Build.plan" s_Build_plan ["self"]) : MCal P w K mg base 1 C "plan" ["self"] (spGet K C fun b H v H' => Dp K H' v b.plan) := by
 refine Hk.hold ?_
 simp (disch := with_unfolding_all (
 exact Hk.disch (d.cal fun f fd F => by
  refine F.ok sc_Build_plan (fun vs H Q E h => ?_) (fun cdv A outer s H vs Q E hr h => ?_)
  · obtain ⟨p, b, rfl, _⟩ := h; rfl
  · obtain ⟨p, b, rfl, ⟨ok, dx, fs, q0, kvs, e1, e2, e3, e4, e5⟩, q⟩ := h
    have hu := hu_of hr
    refine ⟨_, (pss_cons (ps_asg (pe_dget hu (pe_fld (pv 0) rfl) pe_str (fun _ _ => rfl)) (pg_tup rfl (pgs_cons (pg_name (i := 1) sc_Build_plan.nd rfl (Or.inl rfl)) (pgs_cons (pg_name (i := 2) sc_Build_plan.nd rfl (Or.inl rfl)) pgs_nil))))
      (pss_one (ps_ret (pe_ifExp (pt_cmpR op_eq (pv 1) pe_str (nomark _)) (pe_tup (pa_cons (pv 1) (pa_cons (pe_callTy call_list_of rfl B.list_ hb_list (pa_cons (pv 2) pa_nil)) pa_nil))) (pe_tup (pa_cons (pv 1) (pa_cons (pv 2) pa_nil))))))), ?_⟩
    walk_at "st0"
    refine ⟨p, C, dx, fs, _, rfl, e1, T.cls, T.n_parts, e2, ?_⟩
    walk_at "st"
    obtain ⟨v, g1, g2⟩ := pairedKV_get (z := "plan") e4 rfl
    refine ⟨q0, v, rfl, by rw [← g1]; exact DGet.k (k := Sum.inr "plan") e3, ?_⟩
    obtain ⟨z, e, ep, hz⟩ := okPlanL ok.plan
    simp only [ep] at q g2
    simp only [planT] at g2
    cases g2 with
    | @tup a xs _ hs ha =>
    cases ha with
    | @cons x0 r0 _ _ a0 ha => cases ha with
      | @cons x1 r1 _ _ a1 ha =>
        cases ha
        cases a0
        refine ⟨a, _, rfl, hs, rfl, _, _, rfl, _, _, rfl, rfl, ?_⟩
        walk_at "st"
        refine q_eq rfl ?_
        walk_at "st"
        rcases hz with ⟨rfl, i, rfl, _⟩ | ⟨rfl, hz⟩
        · rw [decide_eq_false (fun q => slots_ne (V.str.inj q))]
          refine iteF ?_
          walk_at "st"
          refine ⟨by show 2 ≤ sizeLine; decide, fun t nt => ?_⟩
          rw [if_neg slots_ne] at a1
          exact q _ _ (same_new nt) (.tup (SqT.of upd_same) (.cons (.str _) (.cons (L2.Dp.mono (same_new nt) a1) .nil)))
        · rw [decide_eq_true rfl]
          refine iteT ?_
          walk_at "st"
          obtain ⟨rs, rfl, _⟩ := okSlotsL hz
          rw [if_pos rfl] at a1
          cases a1 with
          | @tup a2 ys _ hs2 hb2 =>
          refine ⟨a2, ys, rfl, .inr hs2, fun l nl => ?_⟩
          have sm := same_new (o := .lst ys) nl
          walk_at "st"
          refine ⟨by show 2 ≤ sizeLine; decide, fun t nt => ?_⟩
          have st := same_new (o := .tup [V.str "slots", .ref l]) nt
          exact q _ _ (sm.trans st) (.tup (SqT.of upd_same) (.cons (.str _) (.cons (.lst (st.seq (SqL.of upd_same)) (L2.DpAll.mono (sm.trans st) hb2)) .nil)))))) only [↓Hk.hold_s]
def sidesOf (b : BD) : List Int := match b.tasks with | .list ds => ds.map sideD | _ => []
/-- the sides, each once, ascending, as a new list -/
def IsSides (b : BD) (H : Hp) (v : V) (H' : Hp) : Prop := ∃ (l : Addr) (ns : List Int), v = .ref l ∧ H l = none ∧ H' l = some (.lst (ns.map V.int)) ∧ ns.Pairwise (· < ·) ∧ ∀ k, k ∈ ns ↔ k ∈ sidesOf b
theorem ok_Build_sides (B : Bl mg) (T : BCls K C) (d : MethAt K C "sides" "Build.sides" s_Build_sides ["self"]) : MCal P w K mg base 1 C "sides" ["self"] (spGet K C IsSides) := by
 refine Hk.hold ?_
 simp (disch := with_unfolding_all (
 exact Hk.disch (d.cal fun f fd F => by
  refine F.ok sc_Build_sides (fun vs H Q E h => ?_) (fun cdv A outer s H vs Q E hr h => ?_)
  · obtain ⟨p, b, rfl, _⟩ := h; rfl
  · obtain ⟨p, b, rfl, ⟨ok, dx, fs, q0, kvs, e1, e2, e3, e4, e5⟩, q⟩ := h
    have hu := hu_of hr
    refine ⟨_, (pss_one (ps_ret (pe_callB (cr_sortedSet rfl) rfl B.sorted hb_sorted (pa_cons (pe_callTy (cr_setL rfl) rfl B.set_ hb_set (pa_cons (pe_lc (own := [("side", 1), ("level", 2)]) (tt := tYes) rfl sc_Build_sides.nd (pi_tup (pe_dget hu (pe_fld (pv 0) rfl) pe_str (fun _ _ => rfl))) (blkOk_by (N := ["self", "side", "level"]) (sc := defScope s_Build_sides) (by decide +kernel)) (fun _ _ _ _ _ => (show PG _ _ (gTup K 2 _) from pg_tup rfl (pgs_cons (pg_name (i := 1) sc_Build_sides.nd rfl (Or.inl rfl)) (pgs_cons (pg_name (i := 2) sc_Build_sides.nd rfl (Or.inl rfl)) pgs_nil)))) (fun _ _ _ _ _ => pts_nil) (fun _ _ _ _ _ => (pv 1))) pa_nil)) pa_nil)))), ?_⟩
    walk_at "st0"
    obtain ⟨v, g1, g2⟩ := pairedKV_get (z := "tasks") e4 rfl
    obtain ⟨ds, ed, l2, l4, hall⟩ := okTasksL ok.tasks
    rw [ed] at g2
    cases g2 with
    | @tup a xs _ hs ha =>
    refine ⟨.ref p, rfl, ⟨p, C, dx, fs, _, rfl, e1, T.cls, T.n_parts, e2, ?_⟩⟩
    walk_at "st"
    refine ⟨q0, _, rfl, by rw [← g1]; exact DGet.k (k := Sum.inr "tasks") e3, a, rfl, ⟨xs, hs⟩, fun D nD => lc_mapT (fun d => V.int (sideD d)) hs ha (by omega) nD ?_ ?_⟩
    · intro x2 d2 H3 h2 hm s2 Q2 k2
      obtain ⟨sd, l, rfl, _⟩ := okTask_shape (hall d2 hm)
      cases h2 with
      | @tup t ys _ ht hb =>
      cases hb with
      | @cons x0 r0 _ _ a0 hb => cases hb with
        | @cons x1 r1 _ _ a1 hb =>
          cases hb
          cases a0
          refine ⟨t, _, rfl, ht, rfl, _, _, rfl, _, _, rfl, rfl, rfl, ?_⟩
          walk_at "st"
          exact k2 _ (Same.refl _)
    · intro H3 s3 e3
      refine ⟨D, ds.map sideD, rfl, SqL.of (by rw [e3, List.map_map]; rfl), by rw [List.length_map]; omega, fun c n nc ln => ?_⟩
      walk_at "st"
      rw [List.length_map] at ln
      refine ⟨c, _, n, rfl, upd_same, by omega, fun ns l asc mem len nl => ?_⟩
      have sc := same_new (o := SetO w c (fun j => decide (j ∈ ds.map sideD)) n) nc
      have nl3 : H3 l = none := sc.free nl
      refine q _ _ (s3.trans (sc.trans (same_new nl))) ⟨l, ns, rfl, s3.free nl3, upd_same, asc, fun k => ?_⟩
      rw [mem k, decide_eq_true_eq, sidesOf, ed]))) only [↓Hk.hold_s]
end
end T
namespace T
section
variable {P : Program} {w : World} {K : PySem.W.Frag} {mg : Str → Option Value} {base : Heap} {C CR : Addr}
def RN : List Str := ["task_count", "levels", "side_of", "sizes", "line_of", "places", "counts", "wipes", "pads", "lends", "plain", "miss", "switch", "greatest", "all_frames", "side_frames", "has_slots", "span", "slots", "letter_port", "every", "period"]
structure RCls (K : PySem.W.Frag) (CR : Addr) : Prop where
  cls : Cls K CR
  no : ∀ f, f ∈ RN → NoAttr K CR f
theorem PartsAt.but {H H' : Hp} {p r dx : Addr} {fs : List (Str × V)} {b : BD} (h : PartsAt K C H p b) (e : H r = some (.ins CR dx fs)) (s : But r H H') (ne : p ≠ r) : PartsAt K C H' p b := by
  obtain ⟨ok, dx2, fs2, q, kvs, e1, e2, e3, e4, e5⟩ := h
  have k := But.keep e s
  exact ⟨ok, dx2, fs2, q, kvs, s _ _ e1 ne, e2, k _ _ e3 (by simp), Paired.mapP e4 fun a b r => ⟨r.1, dpKeep k r.2⟩, e5⟩
theorem okCostsL {d : PyData} (h : okCosts d = true) : ∃ a b c, d = .tuple [.int a, .int b, .int c] ∧ 1 ≤ a ∧ a ≤ 3 ∧ 0 ≤ b ∧ b ≤ 3 ∧ 0 ≤ c ∧ c ≤ 2 := by
  unfold okCosts at h
  rw [Bool.and_eq_true] at h
  obtain ⟨ds, rfl, l3⟩ := dTupleOf_tup h.1
  match ds, l3, h with
  | [x, y, z], _, h =>
    have h2 := h.2
    cases x with
    | int a => cases y with
      | int b => cases z with
        | int c => simp [dBetween] at h2; exact ⟨a, b, c, rfl, h2.1.1, h2.1.2, h2.2.1.1, h2.2.1.2, h2.2.2.1, h2.2.2.2⟩
        | _ => simp [dBetween] at h2
      | _ => simp [dBetween] at h2
    | _ => simp [dBetween] at h2
/-- what a method that fills fields of self leaves -/
def Filled (CR : Addr) (names : List Str) (r dx : Addr) (fs fs' : List (Str × V)) (H H' : Hp) : Prop := But r H H' ∧ H' r = some (.ins CR dx fs') ∧ Only fs' RN ∧ fs'.length ≤ fs.length + names.length ∧ ∀ g, g ∉ names → fs'.lookup g = fs.lookup g
def spSetCosts (K : PySem.W.Frag) (CR : Addr) : Sp := fun vs H Q _ => ∃ (r dx : Addr) (fs : List (Str × V)) (v : V) (pl a b c : Int), vs = [.ref r, v] ∧ H r = some (.ins CR dx fs) ∧ Only fs RN ∧ fs.length ≤ 500 ∧ fs.lookup ("places" : Str) = some (.int pl) ∧ Dp K H v (.tuple [.int a, .int b, .int c]) ∧
  ∀ fs' H', Filled CR ["plain", "miss", "switch", "greatest"] r dx fs fs' H H' → fs'.lookup ("plain" : Str) = some (.int a) → fs'.lookup ("miss" : Str) = some (.int b) → fs'.lookup ("switch" : Str) = some (.int c) →
    fs'.lookup ("greatest" : Str) = some (.int (a + if pl - 1 > b then pl - 1 else b)) → Q .non H'
theorem ok_set_costs (B : Bl mg) (R : RCls K CR) (d : MethAt K CR "set_costs" "Rules.set_costs" s_Rules_set_costs ["self", "costs"]) : MCal P w K mg base 1 CR "set_costs" ["self", "costs"] (spSetCosts K CR) := by
 refine Hk.hold ?_
 simp (disch := with_unfolding_all (
 exact Hk.disch (d.cal fun f fd F => by
  refine F.ok sc_Rules_set_costs (fun vs H Q E h => ?_) (fun cdv A outer s H vs Q E hr h => ?_)
  · obtain ⟨r, dx, fs, v, pl, a, b, c, rfl, _⟩ := h; rfl
  · obtain ⟨r, dx, fs, v, pl, a, b, c, rfl, hR, hO, hl, hp, hd, q⟩ := h
    refine ⟨_, (pss_cons (ps_asg (pv 1) (pg_tup rfl (pgs_cons (pg_fld (pv 0)) (pgs_cons (pg_fld (pv 0)) (pgs_cons (pg_fld (pv 0)) pgs_nil)))))
      (pss_one (ps_fld (pv 0) (pe_op op_add (pe_fld (pv 0) rfl) (pe_callB (call_max2 rfl) rfl B.max hb_max (pa_cons (pe_fld (pv 0) rfl) (pa_cons (pe_op op_sub (pe_fld (pv 0) rfl) pe_int) pa_nil)))) rfl))), ?_⟩
    walk_at "st0"
    cases hd with
    | @tup t xs _ hs ha =>
    cases ha with
    | @cons x0 r0 _ _ a0 ha => cases ha with
      | @cons x1 r1 _ _ a1 ha => cases ha with
        | @cons x2 r2 _ _ a2 ha =>
          cases ha; cases a0; cases a1; cases a2
          have l1 := length_putF "plain" (V.int a) fs
          have l2 := length_putF "miss" (V.int b) (putF "plain" (V.int a) fs)
          have l3 := length_putF "switch" (V.int c) (putF "miss" (V.int b) (putF "plain" (V.int a) fs))
          refine ⟨t, _, rfl, hs, rfl, _, _, rfl, ⟨_, rfl, r, CR, dx, fs, rfl, hR, R.cls, R.no _ (by decide +kernel), by omega, ?_⟩⟩
          refine ⟨_, _, rfl, ⟨_, rfl, r, CR, dx, _, rfl, upd_same, R.cls, R.no _ (by decide +kernel), by omega, ?_⟩⟩
          refine ⟨_, _, rfl, ⟨_, rfl, r, CR, dx, _, rfl, upd_same, R.cls, R.no _ (by decide +kernel), by omega, ?_⟩⟩
          refine ⟨rfl, ?_⟩
          walk_at "st"
          refine ⟨r, CR, dx, _, .int a, rfl, upd_same, R.cls, R.no _ (by decide +kernel), by walk_at "lk", ?_⟩
          walk_at "st"
          refine ⟨r, CR, dx, _, .int b, rfl, upd_same, R.cls, R.no _ (by decide +kernel), by walk_at "lk", ?_⟩
          walk_at "st"
          refine ⟨r, CR, dx, _, .int pl, rfl, upd_same, R.cls, R.no _ (by decide +kernel), by walk_at "lk", ?_⟩
          walk_at "st"
          refine ⟨b, pl - 1, rfl, ?_⟩
          walk_at "st"
          refine ⟨r, CR, dx, _, rfl, upd_same, R.cls, R.no _ (by decide +kernel), by omega, ?_⟩
          have l4 := length_putF "greatest" (V.int (a + if pl - 1 > b then pl - 1 else b)) (putF "switch" (V.int c) (putF "miss" (V.int b) (putF "plain" (V.int a) fs)))
          refine q _ _ ⟨fun z o h n => by simp only [upd_ne n]; exact h, upd_same, (((hO.put (by decide +kernel)).put (by decide +kernel)).put (by decide +kernel)).put (by decide +kernel), by simp only [List.length_cons, List.length_nil]; omega, fun g hg => ?_⟩
            (by walk_at "lk") (by walk_at "lk") (by walk_at "lk") (put_same _ _ _)
          simp only [List.mem_cons, List.not_mem_nil, or_false, not_or] at hg
          rw [put_ne _ _ hg.2.2.2, put_ne _ _ hg.2.2.1, put_ne _ _ hg.2.1, put_ne _ _ hg.1]))) only [↓Hk.hold_s]
end
end T
namespace T
section
variable {P : Program} {w : World} {K : PySem.W.Frag} {mg : Str → Option Value} {base : Heap} {C CR : Addr}
theorem Keep.trans {H H1 H2 : Hp} (a : Keep H H1) (b : Keep H1 H2) : Keep H H2 := fun x o h n => b x o (a x o h n) n
theorem okBetween {d : PyData} {lo hi : Int} (h : dBetween d lo hi = true) : ∃ i, d = .int i ∧ lo ≤ i ∧ i ≤ hi := by
  cases d with
  | int i => simp [dBetween] at h; exact ⟨i, rfl, h.1, h.2⟩
  | _ => simp [dBetween] at h
theorem okBool {d : PyData} (h : isBool d = true) : ∃ b, d = .bool b := by
  cases d with
  | bool b => exact ⟨b, rfl⟩
  | _ => simp [isBool] at h
theorem sides_pos {b : BD} (ok : BOk b) {ns : List Int} (h : ∀ k, k ∈ ns ↔ k ∈ sidesOf b) : 0 < ns.length := by
  obtain ⟨ds, ed, l2, _⟩ := okTasksL ok.tasks
  match ds, ed, l2 with
  | x :: r, ed, _ =>
    have z := (h (sideD x)).mpr (by rw [sidesOf, ed]; simp)
    exact List.length_pos_of_mem z
theorem sides_few {b : BD} (ok : BOk b) {ns : List Int} (p : ns.Pairwise (· < ·)) (h : ∀ k, k ∈ ns ↔ k ∈ sidesOf b) : ns.length ≤ 4 := by
  obtain ⟨ds, ed, _, l4, _⟩ := okTasksL ok.tasks
  have nd : ns.Nodup := p.imp fun h => Int.ne_of_lt h
  have sb : ns ⊆ ds.map sideD := fun k hk => by have z := (h k).mp hk; rwa [sidesOf, ed] at z
  have z := List.Nodup.length_le_of_subset nd sb
  rw [List.length_map] at z
  omega
def spSetFrames (K : PySem.W.Frag) (C CR : Addr) : Sp := fun vs H Q _ => ∃ (r dx : Addr) (fs : List (Str × V)) (p : Addr) (b : BD), vs = [.ref r, .ref p] ∧ H r = some (.ins CR dx fs) ∧ Only fs RN ∧ fs.length ≤ 500 ∧ p ≠ r ∧ PartsAt K C H p b ∧
  ∀ fs' H', Filled CR ["all_frames", "side_frames", "side_frames"] r dx fs fs' H H' → Q .non H'
theorem ok_set_frames (B : Bl mg) (R : RCls K CR) (m_frames : MCal P w K mg base 1 C "frames" ["self"] (spGet K C fun b H v H' => Dp K H' v b.frames)) (m_share : MCal P w K mg base 1 C "share" ["self"] (spGet K C fun b H v H' => Dp K H' v b.share)) (m_sides : MCal P w K mg base 1 C "sides" ["self"] (spGet K C IsSides))
    (d : MethAt K CR "set_frames" "Rules.set_frames" s_Rules_set_frames ["self", "build"]) : MCal P w K mg base 2 CR "set_frames" ["self", "build"] (spSetFrames K C CR) := by
 refine Hk.hold ?_
 simp (disch := with_unfolding_all (
 exact Hk.disch (d.cal fun f fd F => by
  refine F.ok sc_Rules_set_frames (fun vs H Q E h => ?_) (fun cdv A outer s H vs Q E hr h => ?_)
  · obtain ⟨r, dx, fs, p, b, rfl, _⟩ := h; rfl
  · obtain ⟨r, dx, fs, p, b, rfl, hR, hO, hl, hne, hp, q⟩ := h
    have hu := hu_of hr
    refine ⟨_, (pss_cons (ps_fld (pv 0) (pe_mcal0 m_frames (hr.mono (by omega)) (pv 1)) rfl)
      (pss_cons (ps_fld (pv 0) (pe_fld (pv 0) rfl) rfl)
      (pss_one (ps_if (pt_val (pe_mcal0 m_share (hr.mono (by omega)) (pv 1))) (pss_one (ps_fld (pv 0) (pe_op op_fdivW (pe_fld (pv 0) rfl) (pe_callB call_len_seq rfl B.len hb_len (pa_cons (pe_mcal0 m_sides (hr.mono (by omega)) (pv 1)) pa_nil))) rfl)) pss_nil)))), ?_⟩
    have nof : ∀ m : Str, m ≠ ("_parts" : Str) → m ≠ ("rules" : Str) → ∃ dx2 fs2, H p = some (.ins C dx2 fs2) ∧ fs2.lookup m = none := by
      obtain ⟨ok, dx2, fs2, q0, kvs, e1, e2, e3, e4, e5⟩ := hp
      exact fun m h1 h2 => ⟨dx2, fs2, e1, e5 m h1 h2⟩
    walk_at "st0"
    obtain ⟨dx2, fs2, ep, en⟩ := nof "frames" (by decide +kernel) (by decide +kernel)
    refine ⟨p, dx2, fs2, rfl, ep, en, ?_⟩
    walk_at "st"
    refine ⟨p, b, rfl, hp, fun v1 H1 s1 d1 => ?_⟩
    walk_at "st"
    obtain ⟨i, ei, _⟩ := okBetween hp.ok.frames
    simp only [ei] at d1
    cases d1
    have hR1 := s1 _ _ hR
    have l1 := length_putF "all_frames" (V.int i) fs
    refine ⟨r, CR, dx, fs, rfl, hR1, R.cls, R.no _ (by decide +kernel), by omega, ?_⟩
    walk_at "st"
    refine ⟨r, CR, dx, _, .int i, rfl, upd_same, R.cls, R.no _ (by decide +kernel), by walk_at "lk", ?_⟩
    walk_at "st"
    refine ⟨r, CR, dx, _, rfl, upd_same, R.cls, R.no _ (by decide +kernel), by omega, ?_⟩
    have l2 := length_putF "side_frames" (V.int i) (putF "all_frames" (V.int i) fs)
    have b1 : But r H (upd H1 r (.ins CR dx (putF "all_frames" (V.int i) fs))) := (But.same s1).trans But.put
    have b2 : But r H (upd (upd H1 r (.ins CR dx (putF "all_frames" (V.int i) fs))) r (.ins CR dx (putF "side_frames" (V.int i) (putF "all_frames" (V.int i) fs)))) := b1.trans But.put
    walk_at "st"
    obtain ⟨dx3, fs3, ep3, en3⟩ := nof "share" (by decide +kernel) (by decide +kernel)
    refine ⟨p, dx3, fs3, rfl, b2 _ _ ep3 hne, en3, ?_⟩
    walk_at "st"
    have hp2 := hp.but hR b2 hne
    refine ⟨p, b, rfl, hp2, fun v3 H3 s3 d3 => ?_⟩
    obtain ⟨sh, es⟩ := okBool hp.ok.share
    simp only [es] at d3
    cases d3
    walk_at "st"
    refine q_if (fun hc => ?_) (fun hc => ?_)
    · walk_at "st"
      have hR3 := s3 _ _ (upd_same : upd _ r _ r = _)
      refine ⟨r, CR, dx, _, .int i, rfl, hR3, R.cls, R.no _ (by decide +kernel), by walk_at "lk", ?_⟩
      walk_at "st"
      obtain ⟨dx4, fs4, ep4, en4⟩ := nof "sides" (by decide +kernel) (by decide +kernel)
      refine ⟨p, dx4, fs4, rfl, s3 _ _ (b2 _ _ ep4 hne), en4, ?_⟩
      walk_at "st"
      refine ⟨p, b, rfl, hp2.mono s3, fun v4 H4 s4 d4 => ?_⟩
      obtain ⟨l, ns, rfl, _, hns, pw, mem⟩ := d4
      refine ⟨l, _, rfl, .inl (SqL.of hns), ?_⟩
      rw [List.length_map]
      have pos := sides_pos hp.ok mem
      have few := sides_few hp.ok pw mem
      refine ⟨i, (ns.length : Int), rfl, rfl, wide_div (b := 3) (by omega) (by show ((ns.length : Int)).natAbs < 8; omega) (by omega) (by omega), ?_⟩
      walk_at "st"
      refine ⟨r, CR, dx, _, rfl, s4 _ _ hR3, R.cls, R.no _ (by decide +kernel), by omega, ?_⟩
      have b4 : But r H H4 := b2.trans ((But.same s3).trans (But.same s4))
      have l3 := length_putF "side_frames" (V.int (i / (ns.length : Int))) (putF "side_frames" (V.int i) (putF "all_frames" (V.int i) fs))
      have hq := q (putF "side_frames" (V.int (i / (ns.length : Int))) (putF "side_frames" (V.int i) (putF "all_frames" (V.int i) fs))) _ ⟨b4.trans But.put, upd_same, (((hO.put (by decide +kernel)).put (by decide +kernel)).put (by decide +kernel)), by simp only [List.length_cons, List.length_nil]; omega, fun g hg => ?_⟩
      · exact hq
      · simp only [List.mem_cons, List.not_mem_nil, or_false, not_or] at hg
        rw [put_ne _ _ hg.2.1, put_ne _ _ hg.2.1, put_ne _ _ hg.1]
    · refine q (putF "side_frames" (V.int i) (putF "all_frames" (V.int i) fs)) _ ⟨b2.trans (But.same s3), s3 _ _ upd_same, ((hO.put (by decide +kernel)).put (by decide +kernel)), by simp only [List.length_cons, List.length_nil]; omega, fun g hg => ?_⟩
      simp only [List.mem_cons, List.not_mem_nil, or_false, not_or] at hg
      rw [put_ne _ _ hg.2.1, put_ne _ _ hg.1]))) only [↓Hk.hold_s]
end
end T
namespace T
section
variable {P : Program} {w : World} {K : PySem.W.Frag} {mg : Str → Option Value} {base : Heap} {C CR : Addr}
theorem q_gname {σ : L2.St} {H : Hp} {i : Nat} {v : V} {q : L2.St → Hp → Prop} (h : q (σ.set i (some v)) H) : gName i v σ H q := h
theorem q_app {σ : L2.St} {H : Hp} {D : Ends} {i : Nat} {te : TE} {a : Addr} {acc : List V} (hv : σ[i]? = some (some (.ref a))) (ha : H a = some (.lst acc)) (h : te σ H fun y H2 => ∃ l xs z, V.ref a = .ref l ∧ [y] = [z] ∧ H2 l = some (.lst xs) ∧ xs.length < sizeLine ∧ D.nx σ (upd H2 l (.lst (xs ++ [z])))) : tDrop (tBM K "list" rAppend (tVar i) (tCons te tNil)) D σ H :=
  ⟨_, hv, .inl ⟨rfl, acc, SqL.of ha⟩, h⟩
/-- what stands at a tick of the slots -/
abbrev STick := Int × Bool × Bool
def RowV (H : Hp) (y : V) (s : STick) : Prop := ∃ t, y = .ref t ∧ H t = some (.tup [.int s.1, .bl s.2.1, .bl s.2.2])
def slotOf : PyData → Int × Int | .tuple [.int t, .int k] => (t, k) | _ => (0, 0)
def tickAt (sw g t k : Int) (j : Nat) : STick := (t, decide ((0 : Int) + j = 0), decide ((0 : Int) + j ≥ sw) && decide (k - (0 + j) ≥ g))
def ticksOf (sw g : Int) (p : Int × Int) : List STick := (List.range p.2.toNat).map (tickAt sw g p.1 p.2)
def slotTicks (sw g : Int) (rs : List PyData) : List STick := rs.flatMap fun r => ticksOf sw g (slotOf r)
def okSlotRow (d : PyData) : Prop := ∃ t k, d = .tuple [.int t, .int k] ∧ 1 ≤ k ∧ k ≤ 12
theorem slotTicks_len {sw g : Int} : ∀ {rs : List PyData}, (∀ r ∈ rs, okSlotRow r) → (slotTicks sw g rs).length ≤ 12 * rs.length
  | [], _ => by simp [slotTicks]
  | r :: rs, h => by
    have z := slotTicks_len (sw := sw) (g := g) (rs := rs) fun x hx => h x (List.mem_cons_of_mem _ hx)
    obtain ⟨t, k, rfl, h1, h2⟩ := h r List.mem_cons_self
    unfold slotTicks at z ⊢
    rw [List.flatMap_cons, List.length_append, List.length_cons]
    have e : (ticksOf sw g (slotOf (.tuple [.int t, .int k]))).length = k.toNat := by simp [ticksOf, slotOf]
    omega
theorem slotTicks_snoc {sw g : Int} {rs : List PyData} {r : PyData} : slotTicks sw g (rs ++ [r]) = slotTicks sw g rs ++ ticksOf sw g (slotOf r) := by simp [slotTicks]
theorem RowV.keep {H H' : Hp} {D : Addr} {acc : List V} (e : H D = some (.lst acc)) (k : But D H H') : ∀ {y : V} {s : STick}, RowV H y s → RowV H' y s := by
  rintro y s ⟨t, rfl, h⟩
  exact ⟨t, rfl, k _ _ h fun z => by subst z; rw [e] at h; cases h⟩
theorem paired_snoc {α β : Type} {R : α → β → Prop} : ∀ {xs : List α} {ys : List β} {x : α} {y : β}, Paired R xs ys → R x y → Paired R (xs ++ [x]) (ys ++ [y])
  | [], [], _, _, .nil, r => .cons r .nil
  | _ :: _, _ :: _, _, _, .cons a t, r => .cons a (paired_snoc t r)
theorem paired_len {α β : Type} {R : α → β → Prop} : ∀ {xs : List α} {ys : List β}, Paired R xs ys → xs.length = ys.length
  | [], [], .nil => rfl
  | _ :: _, _ :: _, .cons _ t => by simp [paired_len t]
def spSlotTicks (K : PySem.W.Frag) (CR : Addr) : Sp := fun vs H Q _ => ∃ (r dx : Addr) (fs : List (Str × V)) (v : V) (sw g : Int) (rs : List PyData), vs = [.ref r, v] ∧ H r = some (.ins CR dx fs) ∧ fs.lookup ("switch" : Str) = some (.int sw) ∧ fs.lookup ("greatest" : Str) = some (.int g) ∧ Dp K H v (.list rs) ∧ rs.length ≤ 4 ∧ (∀ x ∈ rs, okSlotRow x) ∧
  ∀ t ys H', Same H H' → H t = none → H' t = some (.tup ys) → Paired (RowV H') ys (slotTicks sw g rs) → Q (.ref t) H'
theorem ok_slot_ticks (B : Bl mg) (R : RCls K CR) (d : MethAt K CR "slot_ticks" "Rules.slot_ticks" s_Rules_slot_ticks ["self", "rows"]) : MCal P w K mg base 1 CR "slot_ticks" ["self", "rows"] (spSlotTicks K CR) := by
 refine Hk.hold ?_
 simp (disch := with_unfolding_all (
 exact Hk.disch (d.cal fun f fd F => by
  refine F.ok sc_Rules_slot_ticks (fun vs H Q E h => ?_) (fun cdv A outer s H vs Q E hr h => ?_)
  · obtain ⟨r, dx, fs, v, sw, g, rs, rfl, _⟩ := h; rfl
  · obtain ⟨r, dx, fs, v, sw, g, rs, rfl, hR, hsw, hg, hd, l4, hall, q⟩ := h
    refine ⟨_, (pss_cons (ps_set (i := 2) sc_Rules_slot_ticks.nd rfl (Or.inl rfl) (pe_lst pa_nil))
      (pss_cons (ps_for PassesOwn.never rfl (pi_list (pv 1)) (pg_tup rfl (pgs_cons (pg_name (i := 3) sc_Rules_slot_ticks.nd rfl (Or.inl rfl)) (pgs_cons (pg_name (i := 4) sc_Rules_slot_ticks.nd rfl (Or.inl rfl)) pgs_nil))) (pss_one (ps_for PassesOwn.never rfl (pi_range1 rfl B.range (pa_cons (pv 4) pa_nil)) (pg_name (i := 5) sc_Rules_slot_ticks.nd rfl (Or.inl rfl)) (pss_cons (ps_set (i := 6) sc_Rules_slot_ticks.nd rfl (Or.inl rfl) (pe_and (pe_cmpR op_ge (pv 5) (pe_fld (pv 0) rfl) (nomark _)) (pe_one (pe_cmpR op_ge (pe_op op_sub (pv 4) (pv 5)) (pe_fld (pv 0) rfl) (nomark _)))))
      (pss_one (ps_expr (pe_bm PySem.F.plainAttrs_list PySem.F.slot_list_append PySem.F.type_list_append mt_append (pv 2) (pa_cons (pe_tup (pa_cons (pv 3) (pa_cons (pe_cmpR op_eq (pv 5) pe_int (nomark _)) (pa_cons (pv 6) pa_nil)))) pa_nil))))))))
      (pss_one (ps_ret (pe_callTy call_tuple_of rfl B.tuple_ hb_tuple (pa_cons (pv 2) pa_nil)))))), ?_⟩
    cases hd with
    | @lst a xs _ hs ha =>
    have lx : xs.length = rs.length := ha.length
    walk_at "st0"
    refine ⟨by show 0 ≤ sizeLine; decide, fun D nD => ?_⟩
    have sD := same_new (o := .lst []) nD
    walk_at "st"
    let I : Nat → L2.St → Hp → Prop := fun i σ H2 => ∃ o1 o2 o3 o4, σ = [some (.ref r), some (.ref a), some (.ref D), o1, o2, o3, o4] ∧ Same H H2 ∧ ∃ acc, H2 D = some (.lst acc) ∧ Paired (RowV H2) acc (slotTicks sw g (rs.take i))
    refine q_forV xs I rfl (sD.seq hs) ⟨_, _, _, _, rfl, sD, [], upd_same, by simpa [slotTicks] using Paired.nil⟩ (fun i σ H2 _ hI => ?_) (fun i x σ H2 ex hI => ?_) (fun σ H2 hI => ?_)
    · obtain ⟨o1, o2, o3, o4, rfl, s2, _⟩ := hI
      exact s2.seq hs
    · obtain ⟨o1, o2, o3, o4, rfl, s2, acc, eD, pr⟩ := hI
      obtain ⟨dr, er, hdr⟩ := ha.get' ex
      obtain ⟨t, k, rfl, k1, k2⟩ := hall dr (List.mem_of_getElem? er)
      have hdr2 := L2.Dp.mono s2 hdr
      cases hdr2 with
      | @tup b ys _ hb hc =>
      cases hc with
      | @cons x0 r0 _ _ a0 hc => cases hc with
        | @cons x1 r1 _ _ a1 hc =>
          cases hc; cases a0; cases a1
          refine ⟨b, _, rfl, hb, rfl, _, _, rfl, _, _, rfl, rfl, ?_⟩
          dsimp only [List.set_cons_zero, List.set_cons_succ]
          have lt : i < rs.length := by rw [← lx]; exact (List.getElem?_eq_some_iff.mp ex).1
          have tk : rs.take (i + 1) = rs.take i ++ [.tuple [.int t, .int k]] := by
            rw [List.take_add_one, er]; rfl
          have lacc := paired_len pr
          have lst := slotTicks_len (sw := sw) (g := g) (rs := rs.take i) fun z hz => hall z (List.mem_of_mem_take hz)
          rw [List.length_take] at lst
          let J : Nat → L2.St → Hp → Prop := fun j σ H3 => ∃ o3 o4, σ = [some (.ref r), some (.ref a), some (.ref D), some (.int t), some (.int k), o3, o4] ∧ Same H H3 ∧ ∃ acc, H3 D = some (.lst acc) ∧ Paired (RowV H3) acc (slotTicks sw g (rs.take i) ++ (List.range j).map (tickAt sw g t k))
          refine q_forR J rfl (by omega) (by omega) ⟨_, _, rfl, s2, acc, eD, by simpa using pr⟩ (fun j σ H3 lj hJ => ?_) (fun σ H3 hJ => ?_)
          · obtain ⟨o3, o4, rfl, s3, acc3, eD3, pr3⟩ := hJ
            have l3 := paired_len pr3
            rw [List.length_append, List.length_map, List.length_range] at l3
            refine q_gname ?_
            dsimp only [List.set_cons_zero, List.set_cons_succ]
            walk_at "st"
            refine ⟨r, CR, dx, fs, _, rfl, s3 _ _ hR, R.cls, R.no _ (by decide +kernel), hsw, ?_⟩
            walk_at "st"
            have fin : ∀ v : Bool, v = (decide ((0 : Int) + j ≥ sw) && decide (k - (0 + j) ≥ g)) → ∀ p, H3 p = none → J (j + 1) [some (.ref r), some (.ref a), some (.ref D), some (.int t), some (.int k), some (.int (0 + j)), some (.bl v)] (upd (upd H3 p (.tup [.int t, .bl (decide (V.int (0 + (j : Int)) = V.int 0)), .bl v])) D (.lst (acc3 ++ [.ref p]))) := fun v ev p np => by
              have sp := same_new (o := .tup [.int t, .bl (decide (V.int (0 + (j : Int)) = V.int 0)), .bl v]) np
              have bt : But D (upd H3 p (.tup [.int t, .bl (decide (V.int (0 + (j : Int)) = V.int 0)), .bl v])) (upd (upd H3 p (.tup [.int t, .bl (decide (V.int (0 + (j : Int)) = V.int 0)), .bl v])) D (.lst (acc3 ++ [.ref p]))) := But.put
              refine ⟨_, _, rfl, fun b o hb => bt _ _ (sp _ _ (s3 _ _ hb)) (ne_of_none hb nD), _, upd_same, ?_⟩
              rw [List.range_succ, List.map_append, ← List.append_assoc]
              refine paired_snoc (Paired.mapP pr3 fun y s h => RowV.keep (sp _ _ eD3) bt (by obtain ⟨t, rfl, h⟩ := h; exact ⟨t, rfl, sp _ _ h⟩)) ⟨p, rfl, ?_⟩
              refine bt _ _ ?_ (fun z => ?_)
              · rw [upd_same, ev]
                simp only [tickAt, V.int.injEq]
              · subst z; rw [np] at eD3; cases eD3
            refine q_if (fun hc => ?_) (fun hc => ?_)
            · walk_at "st"
              refine ⟨r, CR, dx, fs, _, rfl, s3 _ _ hR, R.cls, R.no _ (by decide +kernel), hg, ?_⟩
              refine q_rI0 ?_
              refine q_app rfl eD3 ?_
              walk_at "st"
              refine q_eq rfl ?_
              walk_at "st"
              refine ⟨by show 3 ≤ sizeLine; decide, fun p np => ⟨D, acc3, _, rfl, rfl, same_new np _ _ eD3, sz1000 (by omega), ?_⟩⟩
              refine fin _ ?_ p np
              rw [hc, Bool.true_and]
            · refine q_app rfl eD3 ?_
              walk_at "st"
              refine q_eq rfl ?_
              walk_at "st"
              refine ⟨by show 3 ≤ sizeLine; decide, fun p np => ⟨D, acc3, _, rfl, rfl, same_new np _ _ eD3, sz1000 (by omega), ?_⟩⟩
              refine fin _ ?_ p np
              rw [hc, Bool.false_and]
          · obtain ⟨o3, o4, rfl, s3, acc3, eD3, pr3⟩ := hJ
            refine ⟨_, _, _, _, rfl, s3, acc3, eD3, ?_⟩
            rw [tk, slotTicks_snoc]
            exact pr3
    · obtain ⟨o1, o2, o3, o4, rfl, s2, acc, eD, pr⟩ := hI
      rw [lx, List.take_length] at pr
      walk_at "st"
      refine ⟨D, acc, rfl, .inl ⟨SqL.of eD, fun p np => ?_⟩⟩
      have sp := same_new (o := .tup acc) np
      exact q p acc _ (s2.trans sp) (s2.free np) upd_same (Paired.mapP pr fun y s h => by obtain ⟨t, rfl, h⟩ := h; exact ⟨t, rfl, sp _ _ h⟩)))) only [↓Hk.hold_s]
end
end T
namespace T
section
variable {P : Program} {w : World} {K : PySem.W.Frag} {mg : Str → Option Value} {base : Heap} {C CR : Addr}
def planHas : PyData → Bool | .tuple [.str z, _] => decide (z = "slots") | _ => false
def planSpan : PyData → Int | .tuple [.str _, .int n] => n | _ => 0
def planTicks (sw g : Int) : PyData → List STick | .tuple [.str _, .list rs] => slotTicks sw g rs | _ => []
def spSetPlan (K : PySem.W.Frag) (CR : Addr) : Sp := fun vs H Q _ => ∃ (r dx : Addr) (fs : List (Str × V)) (v : V) (sw g : Int) (c : Cnt) (pl : PyData), vs = [.ref r, v] ∧ H r = some (.ins CR dx fs) ∧ Only fs RN ∧ fs.length ≤ 500 ∧ fs.lookup ("switch" : Str) = some (.int sw) ∧ fs.lookup ("greatest" : Str) = some (.int g) ∧ Dp K H v pl ∧ okPlan c pl = true ∧
  ∀ fs' H' t ys, Filled CR ["has_slots", "span", "slots"] r dx fs fs' H H' → fs'.lookup ("has_slots" : Str) = some (.bl (planHas pl)) → fs'.lookup ("span" : Str) = some (.int (planSpan pl)) → fs'.lookup ("slots" : Str) = some (.ref t) → H' t = some (.tup ys) → Paired (RowV H') ys (planTicks sw g pl) → ys.length ≤ 48 → Q .non H'
theorem ok_set_plan (B : Bl mg) (R : RCls K CR) (m_slot_ticks : MCal P w K mg base 1 CR "slot_ticks" ["self", "rows"] (spSlotTicks K CR)) (d : MethAt K CR "set_plan" "Rules.set_plan" s_Rules_set_plan ["self", "plan"]) : MCal P w K mg base 2 CR "set_plan" ["self", "plan"] (spSetPlan K CR) := by
 refine Hk.hold ?_
 simp (disch := with_unfolding_all (
 exact Hk.disch (d.cal fun f fd F => by
  refine F.ok sc_Rules_set_plan (fun vs H Q E h => ?_) (fun cdv A outer s H vs Q E hr h => ?_)
  · obtain ⟨r, dx, fs, v, sw, g, c, pl, rfl, _⟩ := h; rfl
  · obtain ⟨r, dx, fs, v, sw, g, c, pl, rfl, hR, hO, hl, hsw, hg, hd, ok, q⟩ := h
    refine ⟨_, (pss_cons (ps_asg (pv 1) (pg_tup rfl (pgs_cons (pg_name (i := 2) sc_Rules_set_plan.nd rfl (Or.inl rfl)) (pgs_cons (pg_name (i := 3) sc_Rules_set_plan.nd rfl (Or.inl rfl)) pgs_nil))))
      (pss_cons (ps_fld (pv 0) (pe_cmpR op_eq (pv 2) pe_str (nomark _)) rfl)
      (pss_cons (ps_fld (pv 0) (pe_ifExp (pt_val (pe_fld (pv 0) rfl)) pe_int (pv 3)) rfl)
      (pss_one (ps_fld (pv 0) (pe_ifExp (pt_val (pe_fld (pv 0) rfl)) (pe_mcal m_slot_ticks (hr.mono (by omega)) (pv 0) (pa_cons (pv 3) pa_nil)) (pe_tup pa_nil)) rfl))))), ?_⟩
    obtain ⟨z, e, rfl, hz⟩ := okPlanL ok
    walk_at "st0"
    cases hd with
    | @tup a xs _ hs ha =>
    cases ha with
    | @cons x0 r0 _ _ a0 ha => cases ha with
      | @cons x1 r1 _ _ a1 ha =>
        cases ha
        cases a0
        refine ⟨a, _, rfl, hs, rfl, _, _, rfl, _, _, rfl, rfl, ?_⟩
        walk_at "st"
        refine q_eq rfl ?_
        walk_at "st"
        have l1 := length_putF "has_slots" (V.bl (decide (V.str z = V.str "slots"))) fs
        refine ⟨r, CR, dx, fs, rfl, hR, R.cls, R.no _ (by decide +kernel), by omega, ?_⟩
        walk_at "st"
        refine ⟨r, CR, dx, _, _, rfl, upd_same, R.cls, R.no _ (by decide +kernel), by walk_at "lk", ?_⟩
        walk_at "st"
        rcases hz with ⟨rfl, i, rfl, _⟩ | ⟨rfl, hz⟩
        · have e1 : decide (V.str "levels" = V.str "slots") = false := decide_eq_false (fun q => slots_ne (V.str.inj q))
          rw [e1] at l1 ⊢
          refine iteF ?_
          cases a1
          walk_at "st"
          have l2 := length_putF "span" (V.int i) (putF "has_slots" (V.bl false) fs)
          refine ⟨r, CR, dx, _, rfl, upd_same, R.cls, R.no _ (by decide +kernel), by omega, ?_⟩
          walk_at "st"
          refine ⟨r, CR, dx, _, _, rfl, upd_same, R.cls, R.no _ (by decide +kernel), by walk_at "lk", ?_⟩
          walk_at "st"
          refine iteF ?_
          walk_at "st"
          refine ⟨by show 0 ≤ sizeLine; decide, fun p np => ?_⟩
          have sp := same_new (o := .tup []) np
          walk_at "st"
          have l3 := length_putF "slots" (V.ref p) (putF "span" (V.int i) (putF "has_slots" (V.bl false) fs))
          refine ⟨r, CR, dx, _, rfl, sp _ _ upd_same, R.cls, R.no _ (by decide +kernel), by omega, ?_⟩
          have bt := ((((But.refl (r := r) (H := H)).trans But.put).trans But.put).trans (But.same sp)).trans (But.put (o := .ins CR dx (putF "slots" (V.ref p) (putF "span" (V.int i) (putF "has_slots" (V.bl false) fs)))))
          have npr : p ≠ r := fun z => by subst z; rw [upd_same] at np; cases np
          refine q _ _ p [] ⟨bt, upd_same, ((hO.put (by decide +kernel)).put (by decide +kernel)).put (by decide +kernel), by simp only [List.length_cons, List.length_nil]; omega, fun g hg => ?_⟩ (by rw [planHas]; walk_at "lk") (by rw [planSpan]; walk_at "lk") (put_same _ _ _) (But.put _ _ upd_same npr) .nil (by simp)
          simp only [List.mem_cons, List.not_mem_nil, or_false, not_or] at hg
          rw [put_ne _ _ hg.2.2, put_ne _ _ hg.2.1, put_ne _ _ hg.1]
        · have e1 : decide (V.str "slots" = V.str "slots") = true := decide_eq_true rfl
          rw [e1] at l1 ⊢
          refine iteT ?_
          obtain ⟨rs, rfl, r1, r4, hall⟩ := okSlotsL hz
          walk_at "st"
          have l2 := length_putF "span" (V.int 0) (putF "has_slots" (V.bl true) fs)
          refine ⟨r, CR, dx, _, rfl, upd_same, R.cls, R.no _ (by decide +kernel), by omega, ?_⟩
          walk_at "st"
          refine ⟨r, CR, dx, _, _, rfl, upd_same, R.cls, R.no _ (by decide +kernel), by walk_at "lk", ?_⟩
          walk_at "st"
          refine iteT ?_
          walk_at "st"
          refine ⟨r, dx, _, rfl, upd_same, by rw [put_ne _ _ (by decide +kernel), put_ne _ _ (by decide +kernel)]; exact hO _ (by decide +kernel), ?_⟩
          have hk := But.keep hR ((But.put (r := r) (H := H) (o := .ins CR dx (putF "has_slots" (V.bl true) fs))).trans (But.put (o := .ins CR dx (putF "span" (V.int 0) (putF "has_slots" (V.bl true) fs)))))
          walk_at "st"
          have ha : ∀ x ∈ rs, okSlotRow x := fun x hx => by
            obtain ⟨t, k, e, _, _, k1, k2⟩ := hall x hx
            exact ⟨t, k, e, k1, k2⟩
          refine ⟨r, dx, _, _, sw, g, rs, rfl, upd_same, by walk_at "lk", by walk_at "lk", dpKeep hk a1, r4, ha, fun t ys H2 s2 nt ht pr => ?_⟩
          walk_at "st"
          have l3 := length_putF "slots" (V.ref t) (putF "span" (V.int 0) (putF "has_slots" (V.bl true) fs))
          refine ⟨r, CR, dx, _, rfl, s2 _ _ upd_same, R.cls, R.no _ (by decide +kernel), by omega, ?_⟩
          have bt := ((((But.refl (r := r) (H := H)).trans But.put).trans But.put).trans (But.same s2)).trans (But.put (o := .ins CR dx (putF "slots" (V.ref t) (putF "span" (V.int 0) (putF "has_slots" (V.bl true) fs)))))
          have ntr : t ≠ r := fun z => by subst z; rw [upd_same] at nt; cases nt
          have ly := paired_len pr
          have lt := slotTicks_len (sw := sw) (g := g) ha
          refine q _ _ t ys ⟨bt, upd_same, ((hO.put (by decide +kernel)).put (by decide +kernel)).put (by decide +kernel), by simp only [List.length_cons, List.length_nil]; omega, fun g hg => ?_⟩ (by rw [planHas]; walk_at "lk") (by show _ = some (V.int (0 : Int)); walk_at "lk") (put_same _ _ _) (But.put _ _ ht ntr) (Paired.mapP pr fun y s h => ?_) (by omega)
          · simp only [List.mem_cons, List.not_mem_nil, or_false, not_or] at hg
            rw [put_ne _ _ hg.2.2, put_ne _ _ hg.2.1, put_ne _ _ hg.1]
          · obtain ⟨t2, rfl, h⟩ := h
            refine ⟨t2, rfl, But.put _ _ h fun z => ?_⟩
            subst z
            rw [s2 _ _ upd_same] at h; cases h))) only [↓Hk.hold_s]
end
end T
namespace T
section
variable {P : Program} {w : World} {K : PySem.W.Frag} {mg : Str → Option Value} {base : Heap} {C CR : Addr}
structure LG (mg : Str → Option Value) : Prop where
  g_lcm : mg "lcm" = some (.builtin "math.lcm")
def outPort : PyData → V | .tuple [.int p, _] => .int p | _ => .non
def outEvery : PyData → Int | .tuple [_, .int e] => e | _ => 1
theorem okOutsideL {c : Cnt} {d : PyData} (h : okOutside c d = true) : d = .none ∨ ∃ p e, d = .tuple [.int p, .int e] ∧ 0 ≤ p ∧ p ≤ cnt c "port" - 1 ∧ 1 ≤ e ∧ e ≤ 4 := by
  have two : okOut2 c d = true → ∃ p e, d = .tuple [.int p, .int e] ∧ 0 ≤ p ∧ p ≤ cnt c "port" - 1 ∧ 1 ≤ e ∧ e ≤ 4 := fun h => by
    unfold okOut2 at h
    rw [Bool.and_eq_true] at h
    obtain ⟨ds, rfl, l2⟩ := dTupleOf_tup h.1
    match ds, l2, h with
    | [a, b], _, h =>
      have h2 := h.2
      rw [Bool.and_eq_true] at h2
      obtain ⟨i, rfl, i1, i2⟩ := okBetween h2.1
      obtain ⟨j, rfl, j1, j2⟩ := okBetween h2.2
      exact ⟨i, j, rfl, i1, i2, j1, j2⟩
  cases d with
  | none => exact .inl rfl
  | _ => exact .inr (two h)
def spSetLetters (K : PySem.W.Frag) (CR : Addr) : Sp := fun vs H Q _ => ∃ (r dx : Addr) (fs : List (Str × V)) (v : V) (t : Addr) (ys : List V) (c : Cnt) (d : PyData), vs = [.ref r, v] ∧ H r = some (.ins CR dx fs) ∧ Only fs RN ∧ fs.length ≤ 500 ∧ fs.lookup ("slots" : Str) = some (.ref t) ∧ H t = some (.tup ys) ∧ ys.length ≤ 48 ∧ Dp K H v d ∧ okOutside c d = true ∧
  ∀ fs' H', Filled CR ["letter_port", "every", "period"] r dx fs fs' H H' → fs'.lookup ("letter_port" : Str) = some (outPort d) → fs'.lookup ("every" : Str) = some (.int (outEvery d)) → fs'.lookup ("period" : Str) = some (.int ((Nat.lcm (outEvery d).natAbs (max ys.length 1) : Nat) : Int)) → Q .non H'
theorem ok_set_letters (B : Bl mg) (T : LG mg) (R : RCls K CR) (d : MethAt K CR "set_letters" "Rules.set_letters" s_Rules_set_letters ["self", "outside"]) : MCal P w K mg base 1 CR "set_letters" ["self", "outside"] (spSetLetters K CR) := by
 refine Hk.hold ?_
 simp (disch := with_unfolding_all (
 exact Hk.disch (d.cal fun f fd F => by
  refine F.ok sc_Rules_set_letters (fun vs H Q E h => ?_) (fun cdv A outer s H vs Q E hr h => ?_)
  · obtain ⟨r, dx, fs, v, t, ys, c, d, rfl, _⟩ := h; rfl
  · obtain ⟨r, dx, fs, v, t, ys, c, d, rfl, hR, hO, hl, ht, hys, l48, hd, ok, q⟩ := h
    refine ⟨_, (pss_cons (ps_asg (pe_ifExp (pt_cmp (pc_isN (pv 1))) (pe_tup (pa_cons pe_non (pa_cons pe_int pa_nil))) (pv 1)) (pg_tup rfl (pgs_cons (pg_fld (pv 0)) (pgs_cons (pg_fld (pv 0)) pgs_nil))))
      (pss_one (ps_fld (pv 0) (pe_callBfun cr_lcm rfl T.g_lcm (pa_cons (pe_fld (pv 0) rfl) (pa_cons (pe_callB (call_max2 rfl) rfl B.max hb_max (pa_cons (pe_callB call_len_seq rfl B.len hb_len (pa_cons (pe_fld (pv 0) rfl) pa_nil)) (pa_cons pe_int pa_nil))) pa_nil))) rfl))), ?_⟩
    walk_at "st0"
    have ntr : t ≠ r := fun z => by subst z; rw [hys] at hR; cases hR
    rcases okOutsideL ok with rfl | ⟨p, e, rfl, p0, p1, e1, e4⟩
    · cases hd
      refine iteT ?_
      walk_at "st"
      refine ⟨by show 2 ≤ sizeLine; decide, fun a na => ?_⟩
      have sa := same_new (o := .tup [V.non, V.int 1]) na
      refine ⟨a, _, rfl, SqT.of upd_same, rfl, _, _, rfl, ⟨_, rfl, r, CR, dx, fs, rfl, sa _ _ hR, R.cls, R.no _ (by decide +kernel), by omega, ?_⟩⟩
      have l1 := length_putF "letter_port" (V.non) fs
      refine ⟨_, _, rfl, ⟨_, rfl, r, CR, dx, _, rfl, upd_same, R.cls, R.no _ (by decide +kernel), by omega, rfl, ?_⟩⟩
      have l2 := length_putF "every" (V.int 1) (putF "letter_port" (V.non) fs)
      walk_at "st"
      refine ⟨r, CR, dx, _, _, rfl, upd_same, R.cls, R.no _ (by decide +kernel), by walk_at "lk", ?_⟩
      walk_at "st"
      refine ⟨r, CR, dx, _, _, rfl, upd_same, R.cls, R.no _ (by decide +kernel), by walk_at "lk", ?_⟩
      walk_at "st"
      have bt := (((But.same (r := r) sa).trans (But.put (o := .ins CR dx (putF "letter_port" (V.non) fs)))).trans (But.put (o := .ins CR dx (putF "every" (V.int 1) (putF "letter_port" (V.non) fs)))))
      refine ⟨t, ys, rfl, .inr (SqT.of (bt _ _ hys ntr)), ?_⟩
      walk_at "st"
      refine ⟨_, _, rfl, ?_⟩
      have em : (if (1 : Int) > (ys.length : Int) then (1 : Int) else (ys.length : Int)) = ((max ys.length 1 : Nat) : Int) := by split <;> omega
      rw [em]
      refine ⟨_, _, rfl, by omega, by omega, by omega, by omega, ?_⟩
      rw [Int.natAbs_natCast]
      walk_at "st"
      have l3 := length_putF "period" (V.int ((Nat.lcm (1 : Int).natAbs (max ys.length 1) : Nat) : Int)) (putF "every" (V.int 1) (putF "letter_port" (V.non) fs))
      refine ⟨r, CR, dx, _, rfl, upd_same, R.cls, R.no _ (by decide +kernel), by omega, ?_⟩
      refine q _ _ ⟨bt.trans But.put, upd_same, ((hO.put (by decide +kernel)).put (by decide +kernel)).put (by decide +kernel), by simp only [List.length_cons, List.length_nil]; omega, fun g hg => ?_⟩ (by show _ = some (V.non); walk_at "lk") (by show _ = some (V.int 1); walk_at "lk") (put_same _ _ _)
      simp only [List.mem_cons, List.not_mem_nil, or_false, not_or] at hg
      rw [put_ne _ _ hg.2.2, put_ne _ _ hg.2.1, put_ne _ _ hg.1]
    · rw [decide_eq_false (fun z => by subst z; cases hd)]
      refine iteF ?_
      walk_at "st"
      have sa := Same.refl H
      cases hd with
      | @tup a xs _ hs ha =>
      cases ha with
      | @cons x0 r0 _ _ a0 ha => cases ha with
        | @cons x1 r1 _ _ a1 ha =>
        cases ha; cases a0; cases a1
        refine ⟨a, _, rfl, hs, rfl, _, _, rfl, ⟨_, rfl, r, CR, dx, fs, rfl, sa _ _ hR, R.cls, R.no _ (by decide +kernel), by omega, ?_⟩⟩
        have l1 := length_putF "letter_port" (V.int p) fs
        refine ⟨_, _, rfl, ⟨_, rfl, r, CR, dx, _, rfl, upd_same, R.cls, R.no _ (by decide +kernel), by omega, rfl, ?_⟩⟩
        have l2 := length_putF "every" (V.int e) (putF "letter_port" (V.int p) fs)
        walk_at "st"
        refine ⟨r, CR, dx, _, _, rfl, upd_same, R.cls, R.no _ (by decide +kernel), by walk_at "lk", ?_⟩
        walk_at "st"
        refine ⟨r, CR, dx, _, _, rfl, upd_same, R.cls, R.no _ (by decide +kernel), by walk_at "lk", ?_⟩
        walk_at "st"
        have bt := (((But.same (r := r) sa).trans (But.put (o := .ins CR dx (putF "letter_port" (V.int p) fs)))).trans (But.put (o := .ins CR dx (putF "every" (V.int e) (putF "letter_port" (V.int p) fs)))))
        refine ⟨t, ys, rfl, .inr (SqT.of (bt _ _ hys ntr)), ?_⟩
        walk_at "st"
        refine ⟨_, _, rfl, ?_⟩
        have em : (if (1 : Int) > (ys.length : Int) then (1 : Int) else (ys.length : Int)) = ((max ys.length 1 : Nat) : Int) := by split <;> omega
        rw [em]
        refine ⟨_, _, rfl, by omega, by omega, by omega, by omega, ?_⟩
        rw [Int.natAbs_natCast]
        walk_at "st"
        have l3 := length_putF "period" (V.int ((Nat.lcm (e : Int).natAbs (max ys.length 1) : Nat) : Int)) (putF "every" (V.int e) (putF "letter_port" (V.int p) fs))
        refine ⟨r, CR, dx, _, rfl, upd_same, R.cls, R.no _ (by decide +kernel), by omega, ?_⟩
        refine q _ _ ⟨bt.trans But.put, upd_same, ((hO.put (by decide +kernel)).put (by decide +kernel)).put (by decide +kernel), by simp only [List.length_cons, List.length_nil]; omega, fun g hg => ?_⟩ (by show _ = some (V.int p); walk_at "lk") (by show _ = some (V.int e); walk_at "lk") (put_same _ _ _)
        simp only [List.mem_cons, List.not_mem_nil, or_false, not_or] at hg
        rw [put_ne _ _ hg.2.2, put_ne _ _ hg.2.1, put_ne _ _ hg.1]))) only [↓Hk.hold_s]
end
end T
namespace T
section
variable {P : Program} {w : World} {K : PySem.W.Frag} {mg : Str → Option Value} {base : Heap} {C CR : Addr}
/-- where the making of rules stands -/
structure RS (CR r dx : Addr) (H0 H : Hp) (fs : List (Str × V)) (n : Nat) : Prop where
  ins : H r = some (.ins CR dx fs)
  only : Only fs RN
  len : fs.length ≤ n
  but : But r H0 H
theorem RS.mono {r dx : Addr} {H0 H H' : Hp} {fs : List (Str × V)} {n : Nat} (S : RS CR r dx H0 H fs n) (s : Same H H') : RS CR r dx H0 H' fs n := ⟨s _ _ S.ins, S.only, S.len, S.but.trans (But.same s)⟩
theorem RS.put {r dx : Addr} {H0 H : Hp} {fs : List (Str × V)} {n : Nat} (S : RS CR r dx H0 H fs n) (f : Str) (v : V) (hf : f ∈ RN) : RS CR r dx H0 (upd H r (.ins CR dx (putF f v fs))) (putF f v fs) (n + 1) :=
  ⟨upd_same, S.only.put hf, by have := length_putF f v fs; have := S.len; omega, S.but.trans But.put⟩
theorem RS.fill {r dx : Addr} {H0 H H' : Hp} {fs fs' : List (Str × V)} {n : Nat} {names : List Str} (S : RS CR r dx H0 H fs n) (F : Filled CR names r dx fs fs' H H') : RS CR r dx H0 H' fs' (n + names.length) :=
  ⟨F.2.1, F.2.2.1, by have := F.2.2.2.1; have := S.len; omega, S.but.trans F.1⟩
theorem RS.parts {r dx p dx0 : Addr} {H0 H : Hp} {fs fs0 : List (Str × V)} {n : Nat} {b : BD} (S : RS CR r dx H0 H fs n) (e : H0 r = some (.ins CR dx0 fs0)) (hp : PartsAt K C H0 p b) (ne : p ≠ r) : PartsAt K C H p b := hp.but e S.but ne
theorem q_get {p : Addr} {b : BD} {H : Hp} {m : Str} {R : BD → Hp → V → Hp → Prop} {Q : VK} {σ : L2.St} (hp : PartsAt K C H p b) (h1 : m ≠ ("_parts" : Str)) (h2 : m ≠ ("rules" : Str)) (k : ∀ v H', Same H H' → R b H v H' → Q v H') :
    ∃ a dx fs, V.ref p = .ref a ∧ H a = some (.ins C dx fs) ∧ fs.lookup m = none ∧ tNil σ H fun vs H2 => spGet K C R (V.ref p :: (vs ++ [])) H2 Q E0 := by
  obtain ⟨ok, dx2, fs2, q0, kvs, e1, e2, e3, e4, e5⟩ := id hp
  exact ⟨p, dx2, fs2, rfl, e1, e5 m h1 h2, p, b, rfl, hp, k⟩
theorem RS.kp {r dx : Addr} {H0 H : Hp} {fs : List (Str × V)} {n : Nat} (S : RS CR r dx H0 H fs n) (f : Str) (v : V) : Keep H (upd H r (.ins CR dx (putF f v fs))) := But.keep S.ins But.put
theorem tl_mono {H H' : Hp} {tl : Addr} {txs : List V} {tds : List PyData} (s : Keep H H') (h : H tl = some (.lst txs) ∧ DpAll K H txs tds) : H' tl = some (.lst txs) ∧ DpAll K H' txs tds := ⟨s _ _ h.1 (by simp), dpAllKeep s h.2⟩
theorem same_keep {H H' : Hp} (s : Same H H') : Keep H H' := fun b o h _ => s _ _ h
/-- the data that rules hold -/
inductive RF where | task_count | levels | side_of | sizes | line_of | places | wipes | pads | lends | plain | miss | switch | greatest | has_slots | span | slots | letter_port | every | period
  deriving DecidableEq
def RF.nm : RF → Str
  | .task_count => "task_count" | .levels => "levels" | .side_of => "side_of" | .sizes => "sizes" | .line_of => "line_of" | .places => "places" | .wipes => "wipes" | .pads => "pads" | .lends => "lends" | .plain => "plain" | .miss => "miss" | .switch => "switch"
  | .greatest => "greatest" | .has_slots => "has_slots" | .span => "span" | .slots => "slots" | .letter_port => "letter_port" | .every => "every" | .period => "period"
def RF.all : List RF := [.period, .every, .letter_port, .slots, .span, .has_slots, .greatest, .switch, .miss, .plain, .lends, .pads, .wipes, .places, .line_of, .sizes, .side_of, .levels, .task_count]
def RF.ix : Str → Option RF := fun z => (RF.all.find? fun f => decide (f.nm = z))
theorem RF.ix_nm (f : RF) : RF.ix f.nm = some f := by cases f <;> decide +kernel
theorem RF.inj : ∀ f g : RF, f.nm = g.nm → f = g := fun f g h => by
  have z := RF.ix_nm f
  rw [h, RF.ix_nm g] at z
  exact (Option.some.inj z).symm
def dl : PyData → List PyData | .list l => l | _ => []
def dInt0 : PyData → Int | .int i => i | _ => 0
def cost3 : PyData → Int × Int × Int | .tuple [.int a, .int b, .int c] => (a, b, c) | _ => (0, 0, 0)
def levelD (d : PyData) : Int := match d with | .tuple [_, .int s] => s | _ => 0
def greatOf (b : BD) : Int := (cost3 b.costs).1 + if dInt0 b.disk - 1 > (cost3 b.costs).2.1 then dInt0 b.disk - 1 else (cost3 b.costs).2.1
def ticksOfB (b : BD) : List STick := planTicks (cost3 b.costs).2.2 (greatOf b) b.plan
def stickD (s : STick) : PyData := .tuple [.int s.1, .bool s.2.1, .bool s.2.2]
def outD : PyData → PyData | .tuple [.int p, _] => .int p | _ => .none
def periodOf (b : BD) : Int := ((Nat.lcm (outEvery b.outside).natAbs (max (ticksOfB b).length 1) : Nat) : Int)
/-- what each field of rules is -/
def rulesD (b : BD) : RF → PyData
  | .task_count => .int (dl b.tasks).length
  | .levels => .tuple ((dl b.tasks).map fun d => .int (levelD d))
  | .side_of => .tuple ((dl b.tasks).map fun d => .int (sideD d))
  | .sizes => tupOf b.ports
  | .line_of => tupOf b.lines
  | .places => b.disk
  | .wipes => b.wipe
  | .pads => b.pad
  | .lends => b.lend
  | .plain => .int (cost3 b.costs).1
  | .miss => .int (cost3 b.costs).2.1
  | .switch => .int (cost3 b.costs).2.2
  | .greatest => .int (greatOf b)
  | .has_slots => .bool (planHas b.plan)
  | .span => .int (planSpan b.plan)
  | .slots => .tuple ((ticksOfB b).map stickD)
  | .letter_port => outD b.outside
  | .every => .int (outEvery b.outside)
  | .period => .int (periodOf b)
theorem dpAll_ints {H : Hp} (f : PyData → Int) : ∀ l : List PyData, DpAll K H (l.map fun d => V.int (f d)) (l.map fun d => PyData.int (f d))
  | [] => .nil
  | x :: r => .cons (.int _) (dpAll_ints f r)
theorem dpAll_rows {H : Hp} : ∀ {ys : List V} {ss : List STick}, Paired (RowV H) ys ss → DpAll K H ys (ss.map stickD)
  | [], [], .nil => .nil
  | _ :: _, s :: _, .cons h t => .cons (by obtain ⟨t, rfl, e⟩ := h; exact .tup (SqT.of e) (.cons (.int _) (.cons (.bl _) (.cons (.bl _) .nil)))) (dpAll_rows t)
theorem Told.fill {r dx : Addr} {names : List Str} {fs fs' : List (Str × V)} {H H' : Hp} {D : RF → PyData} {ns : List RF} (h : Told K RF.nm H fs D ns) (e : H r = some (.ins CR dx fs)) (F : Filled CR names r dx fs fs' H H') (hn : ∀ f ∈ ns, f.nm ∉ names) : Told K RF.nm H' fs' D ns := fun f hf => by
  obtain ⟨v, e1, d1⟩ := h f hf
  exact ⟨v, by rw [F.2.2.2.2 _ (hn f hf)]; exact e1, dpKeep (But.keep e F.1) d1⟩
theorem Told.new {fs : List (Str × V)} {H : Hp} {D : RF → PyData} {ns : List RF} {v : V} (h : Told K RF.nm H fs D ns) (f : RF) (e : fs.lookup f.nm = some v) (d : Dp K H v (D f)) : Told K RF.nm H fs D (f :: ns) := fun g hg => by
  rcases List.mem_cons.mp hg with rfl | hg
  · exact ⟨v, e, d⟩
  · exact h g hg
/-- the table of counts -/
def CntsAt (H : Hp) (fs : List (Str × V)) (b : BD) : Prop := ∃ c, fs.lookup ("counts" : Str) = some (.ref c) ∧ H c = some (.dK (countKV (cOf b)))
theorem CntsAt.mono {H H' : Hp} {fs : List (Str × V)} {b : BD} (h : CntsAt H fs b) (s : Same H H') : CntsAt H' fs b := by
  obtain ⟨c, e1, e2⟩ := h; exact ⟨c, e1, s _ _ e2⟩
theorem CntsAt.keep {H H' : Hp} {fs : List (Str × V)} {b : BD} (h : CntsAt H fs b) (s : Keep H H') : CntsAt H' fs b := by
  obtain ⟨c, e1, e2⟩ := h; exact ⟨c, e1, s _ _ e2 (by simp)⟩
theorem CntsAt.put {H : Hp} {fs : List (Str × V)} {b : BD} (h : CntsAt H fs b) {g : Str} {v : V} (ne : ("counts" : Str) ≠ g) : CntsAt H (putF g v fs) b := by
  obtain ⟨c, e1, e2⟩ := h; exact ⟨c, by rw [put_ne _ _ ne]; exact e1, e2⟩
theorem CntsAt.fill {r dx : Addr} {names : List Str} {fs fs' : List (Str × V)} {H H' : Hp} {b : BD} (h : CntsAt H fs b) (e : H r = some (.ins CR dx fs)) (F : Filled CR names r dx fs fs' H H') (hn : ("counts" : Str) ∉ names) : CntsAt H' fs' b := by
  obtain ⟨c, e1, e2⟩ := h.keep (But.keep e F.1)
  exact ⟨c, by rw [F.2.2.2.2 _ hn]; exact e1, e2⟩
theorem RS.counts {r dx : Addr} {H0 H : Hp} {fs : List (Str × V)} {n : Nat} {b : BD} (S : RS CR r dx H0 H fs n) (c : Addr) (e : H c = some (.dK (countKV (cOf b)))) : CntsAt (upd H r (.ins CR dx (putF "counts" (.ref c) fs))) (putF "counts" (.ref c) fs) b :=
  CntsAt.keep ⟨c, put_same _ _ _, e⟩ (S.kp "counts" (.ref c))
/-- rules of a build -/
def RulesAt (K : PySem.W.Frag) (CR : Addr) (H : Hp) (r : Addr) (b : BD) : Prop := ∃ dx fs, H r = some (.ins CR dx fs) ∧ Only fs RN ∧ Told K RF.nm H fs (rulesD b) RF.all ∧ CntsAt H fs b
theorem RulesAt.mono {H H' : Hp} {r : Addr} {b : BD} (h : RulesAt K CR H r b) (s : Same H H') : RulesAt K CR H' r b := by
  obtain ⟨dx, fs, e, o, t, c⟩ := h
  exact ⟨dx, fs, s _ _ e, o, t.mono s, c.mono s⟩
theorem RulesAt.but {H H' : Hp} {r p C' dx' : Addr} {fs' : List (Str × V)} {b : BD} (h : RulesAt K CR H r b) (e : H p = some (.ins C' dx' fs')) (s : But p H H') (ne : r ≠ p) : RulesAt K CR H' r b := by
  obtain ⟨dx, fs, e1, o, t, c⟩ := h
  exact ⟨dx, fs, s _ _ e1 ne, o, t.keep (But.keep e s), c.keep (But.keep e s)⟩
theorem RulesAt.get {H : Hp} {r : Addr} {b : BD} (h : RulesAt K CR H r b) (f : RF) (hf : f ∈ RF.all := by decide) : ∃ dx fs v, H r = some (.ins CR dx fs) ∧ fs.lookup f.nm = some v ∧ Dp K H v (rulesD b f) := by
  obtain ⟨dx, fs, e, o, t, c⟩ := h
  obtain ⟨v, e1, e2⟩ := t f hf
  exact ⟨dx, fs, v, e, e1, e2⟩
def spRules (K : PySem.W.Frag) (C CR : Addr) : Sp := fun vs H Q _ => ∃ (r dx : Addr) (p : Addr) (b : BD), vs = [.ref r, .ref p] ∧ H r = some (.ins CR dx []) ∧ p ≠ r ∧ PartsAt K C H p b ∧
  ∀ H', But r H H' → RulesAt K CR H' r b → Q .non H'
theorem ok_Rules (B : Bl mg) (R : RCls K CR)
    (c_counted : Cal P w K mg base 1 "counted" ["tasks", "pages", "ports", "locks", "disk"] spCounted)
    (m_tasks : MCal P w K mg base 1 C "tasks" ["self"] (spGet K C fun b H v H' => NewL K H H' v b.tasks))
    (m_pages : MCal P w K mg base 1 C "pages" ["self"] (spGet K C fun b H v H' => NewL K H H' v b.pages))
    (m_ports : MCal P w K mg base 1 C "ports" ["self"] (spGet K C fun b H v H' => NewL K H H' v b.ports))
    (m_lines : MCal P w K mg base 1 C "lines" ["self"] (spGet K C fun b H v H' => NewL K H H' v b.lines))
    (m_locks : MCal P w K mg base 1 C "locks" ["self"] (spGet K C fun b H v H' => Dp K H' v b.locks))
    (m_disk : MCal P w K mg base 1 C "disk" ["self"] (spGet K C fun b H v H' => Dp K H' v b.disk))
    (m_costs : MCal P w K mg base 1 C "costs" ["self"] (spGet K C fun b H v H' => Dp K H' v b.costs))
    (m_plan : MCal P w K mg base 1 C "plan" ["self"] (spGet K C fun b H v H' => Dp K H' v b.plan))
    (m_outside : MCal P w K mg base 1 C "outside" ["self"] (spGet K C fun b H v H' => Dp K H' v b.outside))
    (m_wipe : MCal P w K mg base 1 C "wipe" ["self"] (spGet K C fun b H v H' => Dp K H' v b.wipe))
    (m_pad : MCal P w K mg base 1 C "pad" ["self"] (spGet K C fun b H v H' => Dp K H' v b.pad))
    (m_lend : MCal P w K mg base 1 C "lend" ["self"] (spGet K C fun b H v H' => Dp K H' v b.lend))
    (m_set_costs : MCal P w K mg base 1 CR "set_costs" ["self", "costs"] (spSetCosts K CR))
    (m_set_frames : MCal P w K mg base 2 CR "set_frames" ["self", "build"] (spSetFrames K C CR))
    (m_set_plan : MCal P w K mg base 2 CR "set_plan" ["self", "plan"] (spSetPlan K CR))
    (m_set_letters : MCal P w K mg base 1 CR "set_letters" ["self", "outside"] (spSetLetters K CR)) :
    ∀ f fd, Fun K "__init__" "Rules.__init__" s_Rules___init__ f fd → FnOk P w K mg base CX0 3 f fd ["self", "build"] (spRules K C CR) := by
 refine Hk.hold ?_
 simp (disch := with_unfolding_all (
 exact Hk.disch (fun f fd F => by
  refine F.ok sc_Rules___init__ (fun vs H Q E h => ?_) (fun cdv A outer s H vs Q E hr h => ?_)
  · obtain ⟨r, dx, p, b, rfl, _⟩ := h; rfl
  · obtain ⟨r, dx, p, b, rfl, hR, hne, hp, q⟩ := h
    refine ⟨_, (pss_cons (ps_set (i := 2) sc_Rules___init__.nd rfl (Or.inl rfl) (pe_mcal0 m_tasks (hr.mono (by omega)) (pv 1)))
      (pss_cons (ps_fld (pv 0) (pe_callB call_len_seq rfl B.len hb_len (pa_cons (pv 2) pa_nil)) rfl)
      (pss_cons (ps_fld (pv 0) (pe_callTy call_tuple_of rfl B.tuple_ hb_tuple (pa_cons (pe_lc (own := [("side", 3), ("level", 4)]) (tt := tYes) rfl sc_Rules___init__.nd (pi_list (pv 2)) (blkOk_by (N := ["self", "build", "tasks", "side", "level"]) (sc := defScope s_Rules___init__) (by decide +kernel)) (fun _ _ _ _ _ => (show PG _ _ (gTup K 2 _) from pg_tup rfl (pgs_cons (pg_name (i := 3) sc_Rules___init__.nd rfl (Or.inl rfl)) (pgs_cons (pg_name (i := 4) sc_Rules___init__.nd rfl (Or.inl rfl)) pgs_nil)))) (fun _ _ _ _ _ => pts_nil) (fun _ _ _ _ _ => (pv 4))) pa_nil)) rfl)
      (pss_cons (ps_fld (pv 0) (pe_callTy call_tuple_of rfl B.tuple_ hb_tuple (pa_cons (pe_lc (own := [("side", 3), ("level", 4)]) (tt := tYes) rfl sc_Rules___init__.nd (pi_list (pv 2)) (blkOk_by (N := ["self", "build", "tasks", "side", "level"]) (sc := defScope s_Rules___init__) (by decide +kernel)) (fun _ _ _ _ _ => (show PG _ _ (gTup K 2 _) from pg_tup rfl (pgs_cons (pg_name (i := 3) sc_Rules___init__.nd rfl (Or.inl rfl)) (pgs_cons (pg_name (i := 4) sc_Rules___init__.nd rfl (Or.inl rfl)) pgs_nil)))) (fun _ _ _ _ _ => pts_nil) (fun _ _ _ _ _ => (pv 3))) pa_nil)) rfl)
      (pss_cons (ps_fld (pv 0) (pe_callTy call_tuple_of rfl B.tuple_ hb_tuple (pa_cons (pe_mcal0 m_ports (hr.mono (by omega)) (pv 1)) pa_nil)) rfl)
      (pss_cons (ps_fld (pv 0) (pe_callTy call_tuple_of rfl B.tuple_ hb_tuple (pa_cons (pe_mcal0 m_lines (hr.mono (by omega)) (pv 1)) pa_nil)) rfl)
      (pss_cons (ps_fld (pv 0) (pe_mcal0 m_disk (hr.mono (by omega)) (pv 1)) rfl)
      (pss_cons (ps_fld (pv 0) (pe_cal c_counted (hr.mono (by omega)) rfl (pa_cons (pe_callB call_len_seq rfl B.len hb_len (pa_cons (pv 2) pa_nil)) (pa_cons (pe_callB call_len_seq rfl B.len hb_len (pa_cons (pe_mcal0 m_pages (hr.mono (by omega)) (pv 1)) pa_nil)) (pa_cons (pe_callB call_len_seq rfl B.len hb_len (pa_cons (pe_fld (pv 0) rfl) pa_nil)) (pa_cons (pe_mcal0 m_locks (hr.mono (by omega)) (pv 1)) (pa_cons (pe_fld (pv 0) rfl) pa_nil)))))) rfl)
      (pss_cons (ps_fld (pv 0) (pe_mcal0 m_wipe (hr.mono (by omega)) (pv 1)) rfl)
      (pss_cons (ps_fld (pv 0) (pe_mcal0 m_pad (hr.mono (by omega)) (pv 1)) rfl)
      (pss_cons (ps_fld (pv 0) (pe_mcal0 m_lend (hr.mono (by omega)) (pv 1)) rfl)
      (pss_cons (ps_expr (pe_mcal m_set_costs (hr.mono (by omega)) (pv 0) (pa_cons (pe_mcal0 m_costs (hr.mono (by omega)) (pv 1)) pa_nil)))
      (pss_cons (ps_expr (pe_mcal m_set_frames (hr.mono (by omega)) (pv 0) (pa_cons (pv 1) pa_nil)))
      (pss_cons (ps_expr (pe_mcal m_set_plan (hr.mono (by omega)) (pv 0) (pa_cons (pe_mcal0 m_plan (hr.mono (by omega)) (pv 1)) pa_nil)))
      (pss_one (ps_expr (pe_mcal m_set_letters (hr.mono (by omega)) (pv 0) (pa_cons (pe_mcal0 m_outside (hr.mono (by omega)) (pv 1)) pa_nil)))))))))))))))))), ?_⟩
    have S : RS CR r dx H H [] 0 := ⟨hR, fun _ _ => rfl, by simp, But.refl⟩
    have TD : Told K RF.nm H [] (rulesD b) [] := fun f hf => (nomatch hf)
    have ok := hp.ok
    walk_at "st0"
    refine q_get hp (by decide +kernel) (by decide +kernel) fun v1 H1 s1 d1 => ?_
    replace S := S.mono s1
    replace TD := TD.mono s1
    walk_at "st"
    obtain ⟨tl, txs, tds, rfl, ntl, etl, ed, hta⟩ := d1
    obtain ⟨ds', ed', t2, t4, tall⟩ := okTasksL ok.tasks
    rw [ed] at ed'; cases ed'
    have ltx := hta.length
    refine ⟨tl, txs, rfl, .inl (SqL.of etl), ?_⟩
    walk_at "st"
    refine ⟨r, CR, dx, _, rfl, S.ins, R.cls, R.no _ (by decide +kernel), Nat.lt_of_le_of_lt S.len (by decide), ?_⟩
    have TL := tl_mono (S.kp "task_count" (V.int txs.length)) ⟨etl, hta⟩
    replace TD := (TD.add RF.inj (f := .task_count) (v := (V.int txs.length)) (by decide) (by show Dp K _ _ (.int ((dl b.tasks).length : Int)); rw [ed]; show Dp K _ _ (.int (tds.length : Int)); rw [← ltx]; exact .int _)).keep (S.kp "task_count" (V.int txs.length))
    replace S := S.put "task_count" (V.int txs.length) (by decide +kernel)
    walk_at "st"
    refine ⟨_, rfl, tl, rfl, ⟨txs, SqL.of TL.1⟩, fun D nD => lc_map (fun d => V.int (levelD d)) (SqL.of TL.1) TL.2 (by omega) nD ?_ ?_⟩
    · intro x2 d2 H3 h2 hm s2 Q2 k2
      obtain ⟨sd, l, rfl, _⟩ := okTask_shape (tall d2 hm)
      cases h2 with
      | @tup t ys _ ht hb =>
      cases hb with
      | @cons x0 r0 _ _ a0 hb => cases hb with
        | @cons x1 r1 _ _ a1 hb =>
          cases hb
          cases a0; cases a1
          refine ⟨t, _, rfl, ht, rfl, _, _, rfl, _, _, rfl, rfl, rfl, ?_⟩
          walk_at "st"
          exact k2 _ (Same.refl _)
    intro H3 s3 e3
    replace S := S.mono s3
    replace TD := TD.mono s3
    replace TL := tl_mono (same_keep s3) TL
    refine ⟨D, _, rfl, .inl ⟨SqL.of e3, fun p1 n1 => ?_⟩⟩
    replace TL := tl_mono (same_keep (same_new (o := .tup (tds.map fun d => V.int (levelD d))) n1)) TL
    replace S := S.mono (same_new (o := .tup (tds.map fun d => V.int (levelD d))) n1)
    replace TD := TD.mono (same_new (o := .tup (tds.map fun d => V.int (levelD d))) n1)
    walk_at "st"
    refine ⟨r, CR, dx, _, rfl, S.ins, R.cls, R.no _ (by decide +kernel), Nat.lt_of_le_of_lt S.len (by decide), ?_⟩
    replace TL := tl_mono (S.kp "levels" (V.ref p1)) TL
    replace TD := (TD.add RF.inj (f := .levels) (v := (V.ref p1)) (by decide) (by show Dp K _ _ (.tuple ((dl b.tasks).map fun d => .int (levelD d))); rw [ed]; exact .tup (SqT.of upd_same) (dpAll_ints _ _))).keep (S.kp "levels" (V.ref p1))
    replace S := S.put "levels" (V.ref p1) (by decide +kernel)
    walk_at "st"
    refine ⟨_, rfl, tl, rfl, ⟨txs, SqL.of TL.1⟩, fun D2 nD2 => lc_map (fun d => V.int (sideD d)) (SqL.of TL.1) TL.2 (by omega) nD2 ?_ ?_⟩
    · intro x2 d2 H3 h2 hm s2 Q2 k2
      obtain ⟨sd, l, rfl, _⟩ := okTask_shape (tall d2 hm)
      cases h2 with
      | @tup t ys _ ht hb =>
      cases hb with
      | @cons x0 r0 _ _ a0 hb => cases hb with
        | @cons x1 r1 _ _ a1 hb =>
          cases hb
          cases a0; cases a1
          refine ⟨t, _, rfl, ht, rfl, _, _, rfl, _, _, rfl, rfl, rfl, ?_⟩
          walk_at "st"
          exact k2 _ (Same.refl _)
    intro H4 s4 e4
    replace S := S.mono s4
    replace TD := TD.mono s4
    replace TL := tl_mono (same_keep s4) TL
    refine ⟨D2, _, rfl, .inl ⟨SqL.of e4, fun p2 n2 => ?_⟩⟩
    replace TL := tl_mono (same_keep (same_new (o := .tup (tds.map fun d => V.int (sideD d))) n2)) TL
    replace S := S.mono (same_new (o := .tup (tds.map fun d => V.int (sideD d))) n2)
    replace TD := TD.mono (same_new (o := .tup (tds.map fun d => V.int (sideD d))) n2)
    walk_at "st"
    refine ⟨r, CR, dx, _, rfl, S.ins, R.cls, R.no _ (by decide +kernel), Nat.lt_of_le_of_lt S.len (by decide), ?_⟩
    replace TL := tl_mono (S.kp "side_of" (V.ref p2)) TL
    replace TD := (TD.add RF.inj (f := .side_of) (v := (V.ref p2)) (by decide) (by show Dp K _ _ (.tuple ((dl b.tasks).map fun d => .int (sideD d))); rw [ed]; exact .tup (SqT.of upd_same) (dpAll_ints _ _))).keep (S.kp "side_of" (V.ref p2))
    replace S := S.put "side_of" (V.ref p2) (by decide +kernel)
    walk_at "st"
    refine q_get (S.parts hR hp hne) (by decide +kernel) (by decide +kernel) fun v5 H5 s5 d5 => ?_
    replace S := S.mono s5
    replace TD := TD.mono s5
    replace TL := tl_mono (same_keep s5) TL
    walk_at "st"
    obtain ⟨pl, pxs, pds, rfl, npl, epl, edp, hpa⟩ := d5
    obtain ⟨qds, edp', q2, _⟩ := okList ok.ports
    rw [edp] at edp'; cases edp'
    have lpx := hpa.length
    refine ⟨pl, pxs, rfl, .inl ⟨SqL.of epl, fun p5 n5 => ?_⟩⟩
    replace TL := tl_mono (same_keep (same_new (o := .tup pxs) n5)) TL
    replace S := S.mono (same_new (o := .tup pxs) n5)
    replace TD := TD.mono (same_new (o := .tup pxs) n5)
    have SZ : upd H5 p5 (.tup pxs) p5 = some (.tup pxs) := upd_same
    walk_at "st"
    refine ⟨r, CR, dx, _, rfl, S.ins, R.cls, R.no _ (by decide +kernel), Nat.lt_of_le_of_lt S.len (by decide), ?_⟩
    replace SZ := S.kp "sizes" (V.ref p5) _ _ SZ (by simp)
    replace TL := tl_mono (S.kp "sizes" (V.ref p5)) TL
    replace TD := (TD.add RF.inj (f := .sizes) (v := (V.ref p5)) (by decide) (by show Dp K _ _ (tupOf b.ports); rw [edp]; exact .tup (SqT.of upd_same) (L2.DpAll.mono (same_new n5) hpa))).keep (S.kp "sizes" (V.ref p5))
    replace S := S.put "sizes" (V.ref p5) (by decide +kernel)
    walk_at "st"
    refine q_get (S.parts hR hp hne) (by decide +kernel) (by decide +kernel) fun v6 H6 s6 d6 => ?_
    replace S := S.mono s6
    replace TD := TD.mono s6
    replace TL := tl_mono (same_keep s6) TL
    replace SZ := s6 _ _ SZ
    walk_at "st"
    obtain ⟨ll, lxs, lds, rfl, nll, ell, edl, hla⟩ := d6
    refine ⟨ll, lxs, rfl, .inl ⟨SqL.of ell, fun p6 n6 => ?_⟩⟩
    replace TL := tl_mono (same_keep (same_new (o := .tup lxs) n6)) TL
    replace S := S.mono (same_new (o := .tup lxs) n6)
    replace TD := TD.mono (same_new (o := .tup lxs) n6)
    replace SZ := same_new (o := .tup lxs) n6 _ _ SZ
    walk_at "st"
    refine ⟨r, CR, dx, _, rfl, S.ins, R.cls, R.no _ (by decide +kernel), Nat.lt_of_le_of_lt S.len (by decide), ?_⟩
    replace SZ := S.kp "line_of" (V.ref p6) _ _ SZ (by simp)
    replace TL := tl_mono (S.kp "line_of" (V.ref p6)) TL
    replace TD := (TD.add RF.inj (f := .line_of) (v := (V.ref p6)) (by decide) (by show Dp K _ _ (tupOf b.lines); rw [edl]; exact .tup (SqT.of upd_same) (L2.DpAll.mono (same_new n6) hla))).keep (S.kp "line_of" (V.ref p6))
    replace S := S.put "line_of" (V.ref p6) (by decide +kernel)
    walk_at "st"
    refine q_get (S.parts hR hp hne) (by decide +kernel) (by decide +kernel) fun v7 H7 s7 d7 => ?_
    replace S := S.mono s7
    replace TD := TD.mono s7
    replace TL := tl_mono (same_keep s7) TL
    replace SZ := s7 _ _ SZ
    have okd := ok.disk
    unfold okDisk at okd
    rw [Bool.and_eq_true] at okd
    obtain ⟨dn, edn, _⟩ := okBetween okd.1
    simp only [edn] at d7
    cases d7
    walk_at "st"
    refine ⟨r, CR, dx, _, rfl, S.ins, R.cls, R.no _ (by decide +kernel), Nat.lt_of_le_of_lt S.len (by decide), ?_⟩
    replace SZ := S.kp "places" (V.int dn) _ _ SZ (by simp)
    replace TL := tl_mono (S.kp "places" (V.int dn)) TL
    replace TD := (TD.add RF.inj (f := .places) (v := (V.int dn)) (by decide) (by show Dp K _ _ b.disk; rw [edn]; exact .int _)).keep (S.kp "places" (V.int dn))
    replace S := S.put "places" (V.int dn) (by decide +kernel)
    walk_at "st"
    refine ⟨tl, txs, rfl, .inl (SqL.of TL.1), ?_⟩
    walk_at "st"
    refine q_get (S.parts hR hp hne) (by decide +kernel) (by decide +kernel) fun v8 H8 s8 d8 => ?_
    replace S := S.mono s8
    replace TD := TD.mono s8
    replace SZ := s8 _ _ SZ
    clear TL
    obtain ⟨gl, gxs, gds, rfl, ngl, egl, edg, hga⟩ := d8
    walk_at "st"
    refine ⟨gl, gxs, rfl, .inl (SqL.of egl), ?_⟩
    walk_at "st"
    refine ⟨r, CR, dx, _, _, rfl, S.ins, R.cls, R.no _ (by decide +kernel), by walk_at "lk", ?_⟩
    walk_at "st"
    refine ⟨p5, pxs, rfl, .inr (SqT.of SZ), ?_⟩
    walk_at "st"
    refine q_get (S.parts hR hp hne) (by decide +kernel) (by decide +kernel) fun v9 H9 s9 d9 => ?_
    replace S := S.mono s9
    replace TD := TD.mono s9
    clear SZ
    obtain ⟨kn, ekn, _⟩ := okBetween ok.locks
    simp only [ekn] at d9
    cases d9
    walk_at "st"
    refine ⟨r, CR, dx, _, _, rfl, S.ins, R.cls, R.no _ (by decide +kernel), by walk_at "lk", ?_⟩
    walk_at "st"
    refine ⟨_, _, _, _, _, rfl, fun c10 H10 s10 nc10 ec10 => ?_⟩
    replace S := S.mono s10
    replace TD := TD.mono s10
    walk_at "st"
    refine ⟨r, CR, dx, _, rfl, S.ins, R.cls, R.no _ (by decide +kernel), Nat.lt_of_le_of_lt S.len (by decide), ?_⟩
    replace TD := (TD.off (g := "counts") (v := (V.ref c10)) (by decide +kernel)).keep (S.kp "counts" (V.ref c10))
    have CT := S.counts (b := b) c10 (by rw [show cOf b = _ from (by unfold cOf; rw [ed, edg, edp, ekn, edn])]; show _ = some (HO.dK (countKV (cntOf tds.length gds.length pds.length kn dn))); rw [← ltx, ← hga.length, ← lpx]; exact ec10)
    replace S := S.put "counts" (V.ref c10) (by decide +kernel)
    walk_at "st"
    refine q_get (S.parts hR hp hne) (by decide +kernel) (by decide +kernel) fun v11 H11 s11 d11 => ?_
    replace S := S.mono s11
    replace TD := TD.mono s11
    replace CT := CT.mono s11
    walk_at "st"
    refine ⟨r, CR, dx, _, rfl, S.ins, R.cls, R.no _ (by decide +kernel), Nat.lt_of_le_of_lt S.len (by decide), ?_⟩
    replace TD := (TD.add RF.inj (f := .wipes) (v := v11) (by decide) (by exact d11)).keep (S.kp "wipes" v11)
    replace CT := (CT.put (g := "wipes") (v := v11) (by decide +kernel)).keep (S.kp "wipes" v11)
    replace S := S.put "wipes" v11 (by decide +kernel)
    walk_at "st"
    refine q_get (S.parts hR hp hne) (by decide +kernel) (by decide +kernel) fun v12 H12 s12 d12 => ?_
    replace S := S.mono s12
    replace TD := TD.mono s12
    replace CT := CT.mono s12
    walk_at "st"
    refine ⟨r, CR, dx, _, rfl, S.ins, R.cls, R.no _ (by decide +kernel), Nat.lt_of_le_of_lt S.len (by decide), ?_⟩
    replace TD := (TD.add RF.inj (f := .pads) (v := v12) (by decide) (by exact d12)).keep (S.kp "pads" v12)
    replace CT := (CT.put (g := "pads") (v := v12) (by decide +kernel)).keep (S.kp "pads" v12)
    replace S := S.put "pads" v12 (by decide +kernel)
    walk_at "st"
    refine q_get (S.parts hR hp hne) (by decide +kernel) (by decide +kernel) fun v13 H13 s13 d13 => ?_
    replace S := S.mono s13
    replace TD := TD.mono s13
    replace CT := CT.mono s13
    walk_at "st"
    refine ⟨r, CR, dx, _, rfl, S.ins, R.cls, R.no _ (by decide +kernel), Nat.lt_of_le_of_lt S.len (by decide), ?_⟩
    replace TD := (TD.add RF.inj (f := .lends) (v := v13) (by decide) (by exact d13)).keep (S.kp "lends" v13)
    replace CT := (CT.put (g := "lends") (v := v13) (by decide +kernel)).keep (S.kp "lends" v13)
    replace S := S.put "lends" v13 (by decide +kernel)
    walk_at "st"
    refine ⟨r, dx, _, rfl, S.ins, S.only _ (by decide +kernel), ?_⟩
    walk_at "st"
    refine q_get (S.parts hR hp hne) (by decide +kernel) (by decide +kernel) fun v14 H14 s14 d14 => ?_
    replace S := S.mono s14
    replace TD := TD.mono s14
    replace CT := CT.mono s14
    walk_at "st"
    obtain ⟨ca, cb, cc, ecs, _⟩ := okCostsL ok.costs
    simp only [ecs] at d14
    refine ⟨r, dx, _, v14, dn, ca, cb, cc, rfl, S.ins, S.only, Nat.le_trans S.len (by decide), by walk_at "lk", d14, fun fs15 H15 F15 l15a l15b l15c l15d => ?_⟩
    replace TD := Told.fill TD S.ins F15 (by decide +kernel)
    replace CT := CT.fill S.ins F15 (by decide +kernel)
    have e3 : cost3 b.costs = (ca, cb, cc) := by rw [ecs]; rfl
    have eg : greatOf b = ca + if dn - 1 > cb then dn - 1 else cb := by unfold greatOf; rw [e3, edn]; rfl
    replace TD := Told.new TD .plain l15a (by show Dp K _ _ (.int (cost3 b.costs).1); rw [e3]; exact .int _)
    replace TD := Told.new TD .miss l15b (by show Dp K _ _ (.int (cost3 b.costs).2.1); rw [e3]; exact .int _)
    replace TD := Told.new TD .switch l15c (by show Dp K _ _ (.int (cost3 b.costs).2.2); rw [e3]; exact .int _)
    replace TD := Told.new TD .greatest l15d (by show Dp K _ _ (.int (greatOf b)); rw [eg]; exact .int _)
    replace S := S.fill F15
    walk_at "st"
    refine ⟨r, dx, _, rfl, S.ins, S.only _ (by decide +kernel), ?_⟩
    walk_at "st"
    refine ⟨r, dx, _, p, b, rfl, S.ins, S.only, Nat.le_trans S.len (by decide), hne, S.parts hR hp hne, fun fs16 H16 F16 => ?_⟩
    replace TD := Told.fill TD S.ins F16 (by decide +kernel)
    replace CT := CT.fill S.ins F16 (by decide +kernel)
    replace S := S.fill F16
    have k16 := F16.2.2.2.2
    walk_at "st"
    refine ⟨r, dx, _, rfl, S.ins, S.only _ (by decide +kernel), ?_⟩
    walk_at "st"
    refine q_get (S.parts hR hp hne) (by decide +kernel) (by decide +kernel) fun v17 H17 s17 d17 => ?_
    replace S := S.mono s17
    replace TD := TD.mono s17
    replace CT := CT.mono s17
    walk_at "st"
    refine ⟨r, dx, _, v17, cc, _, cOf b, b.plan, rfl, S.ins, S.only, Nat.le_trans S.len (by decide), by rw [k16 _ (by decide +kernel)]; exact l15c, by rw [k16 _ (by decide +kernel)]; exact l15d, d17, ok.plan, fun fs18 H18 ts ys F18 l18a l18b l18c ets prs lys => ?_⟩
    replace TD := Told.fill TD S.ins F18 (by decide +kernel)
    replace CT := CT.fill S.ins F18 (by decide +kernel)
    have et : ticksOfB b = planTicks cc (ca + if dn - 1 > cb then dn - 1 else cb) b.plan := by unfold ticksOfB; rw [e3, eg]
    have lyt := paired_len prs
    replace TD := Told.new TD .has_slots l18a (.bl _)
    replace TD := Told.new TD .span l18b (.int _)
    replace TD := Told.new TD .slots l18c (by show Dp K _ _ (.tuple ((ticksOfB b).map stickD)); rw [et]; exact .tup (SqT.of ets) (dpAll_rows prs))
    replace S := S.fill F18
    walk_at "st"
    refine ⟨r, dx, _, rfl, S.ins, S.only _ (by decide +kernel), ?_⟩
    walk_at "st"
    refine q_get (S.parts hR hp hne) (by decide +kernel) (by decide +kernel) fun v19 H19 s19 d19 => ?_
    replace S := S.mono s19
    replace TD := TD.mono s19
    replace CT := CT.mono s19
    walk_at "st"
    refine ⟨r, dx, _, v19, ts, ys, cOf b, b.outside, rfl, S.ins, S.only, Nat.le_trans S.len (by decide), l18c, s19 _ _ ets, lys, d19, ok.outside, fun fs20 H20 F20 l20a l20b l20c => ?_⟩
    replace TD := Told.fill TD S.ins F20 (by decide +kernel)
    replace CT := CT.fill S.ins F20 (by decide +kernel)
    replace TD := Told.new TD .letter_port l20a (by show Dp K _ _ (outD b.outside); rcases okOutsideL ok.outside with e | ⟨_, _, e, _⟩ <;> rw [e] <;> constructor)
    replace TD := Told.new TD .every l20b (.int _)
    replace TD := Told.new TD .period l20c (by show Dp K _ _ (.int (periodOf b)); unfold periodOf; rw [et, ← lyt]; exact .int _)
    replace S := S.fill F20
    exact q _ S.but ⟨dx, _, S.ins, S.only, TD, CT⟩))) only [↓Hk.hold_s]
end
end T
namespace T
section
variable {P : Program} {w : World} {K : PySem.W.Frag} {mg : Str → Option Value} {base : Heap} {C CR : Addr}
/-- all but instances and dicts is as it was -/
def KeepD (H H' : Hp) : Prop := ∀ b o, H b = some o → (∀ C dx fs, o ≠ .ins C dx fs) → (∀ kvs, o ≠ .dK kvs) → H' b = some o
theorem KeepD.sqL {H H' : Hp} {a : Addr} {xs : List V} (s : KeepD H H') (h : SqL K H a xs) : SqL K H' a xs := by
  rcases h with (h | ⟨o, h⟩) | h
  · exact .inl (.inl (s _ _ h (by simp) (by simp)))
  · exact .inl (.inr ⟨o, s _ _ h (by simp) (by simp)⟩)
  · exact .inr h
theorem KeepD.sqT {H H' : Hp} {a : Addr} {xs : List V} (s : KeepD H H') (h : SqT K H a xs) : SqT K H' a xs := by
  rcases h with (h | ⟨o, h⟩) | h
  · exact .inl (.inl (s _ _ h (by simp) (by simp)))
  · exact .inl (.inr ⟨o, s _ _ h (by simp) (by simp)⟩)
  · exact .inr h
mutual
theorem dpKeepD {H H' : Hp} (s : KeepD H H') : ∀ {v : V} {d : PyData}, Dp K H v d → Dp K H' v d
  | _, _, .non => .non
  | _, _, .bl b => .bl b
  | _, _, .int i => .int i
  | _, _, .str x => .str x
  | _, _, .lst h a => .lst (KeepD.sqL s h) (dpAllKeepD s a)
  | _, _, .tup h a => .tup (KeepD.sqT s h) (dpAllKeepD s a)
theorem dpAllKeepD {H H' : Hp} (s : KeepD H H') : ∀ {vs : List V} {ds : List PyData}, DpAll K H vs ds → DpAll K H' vs ds
  | _, _, .nil => .nil
  | _, _, .cons h t => .cons (dpKeepD s h) (dpAllKeepD s t)
end
theorem merge_app : ∀ (more acc : List (Key × V)), ((acc ++ more).map (·.1)).Nodup → mergeK acc more = acc ++ more
  | [], acc, _ => by simp [mergeK]
  | x :: r, acc, h => by
    have hx : valV acc x.1 = none := by
      unfold valV
      rw [Option.map_eq_none_iff, List.find?_eq_none]
      intro p hp
      have z : p.1 ≠ x.1 := by
        rw [List.map_append, List.nodup_append] at h
        exact h.2.2 _ (List.mem_map_of_mem hp) _ (by simp)
      simpa using z
    have e : mergeK acc (x :: r) = mergeK (putK acc x.1 x.2) r := rfl
    rw [e, putK_new x.2 hx, merge_app r _ (by simpa using h)]
    simp
theorem em11 (v1 v2 v3 v4 v5 v6 v7 v8 v9 v10 v11 : V) : mergeK [] [(Sum.inr "tasks", v1), (Sum.inr "pages", v2), (Sum.inr "ports", v3), (Sum.inr "locks", v4), (Sum.inr "frames", v5), (Sum.inr "disk", v6), (Sum.inr "rights", v7), (Sum.inr "lines", v8), (Sum.inr "costs", v9), (Sum.inr "plan", v10), (Sum.inr "outside", v11)] = ([(Sum.inr "tasks", v1), (Sum.inr "pages", v2), (Sum.inr "ports", v3), (Sum.inr "locks", v4), (Sum.inr "frames", v5), (Sum.inr "disk", v6), (Sum.inr "rights", v7), (Sum.inr "lines", v8), (Sum.inr "costs", v9), (Sum.inr "plan", v10), (Sum.inr "outside", v11)] : List (Key × V)) :=
  merge_app _ [] (by show ([Sum.inr "tasks", Sum.inr "pages", Sum.inr "ports", Sum.inr "locks", Sum.inr "frames", Sum.inr "disk", Sum.inr "rights", Sum.inr "lines", Sum.inr "costs", Sum.inr "plan", Sum.inr "outside"] : List Key).Nodup; decide +kernel)
theorem em15 (v1 v2 v3 v4 v5 v6 v7 v8 v9 v10 v11 u1 u2 u3 u4 : V) : mergeK [(Sum.inr "tasks", v1), (Sum.inr "pages", v2), (Sum.inr "ports", v3), (Sum.inr "locks", v4), (Sum.inr "frames", v5), (Sum.inr "disk", v6), (Sum.inr "rights", v7), (Sum.inr "lines", v8), (Sum.inr "costs", v9), (Sum.inr "plan", v10), (Sum.inr "outside", v11)] [(Sum.inr "wipe", u1), (Sum.inr "pad", u2), (Sum.inr "lend", u3), (Sum.inr "share", u4)] = ([(Sum.inr "tasks", v1), (Sum.inr "pages", v2), (Sum.inr "ports", v3), (Sum.inr "locks", v4), (Sum.inr "frames", v5), (Sum.inr "disk", v6), (Sum.inr "rights", v7), (Sum.inr "lines", v8), (Sum.inr "costs", v9), (Sum.inr "plan", v10), (Sum.inr "outside", v11), (Sum.inr "wipe", u1), (Sum.inr "pad", u2), (Sum.inr "lend", u3), (Sum.inr "share", u4)] : List (Key × V)) :=
  merge_app _ _ (by show ([Sum.inr "tasks", Sum.inr "pages", Sum.inr "ports", Sum.inr "locks", Sum.inr "frames", Sum.inr "disk", Sum.inr "rights", Sum.inr "lines", Sum.inr "costs", Sum.inr "plan", Sum.inr "outside", Sum.inr "wipe", Sum.inr "pad", Sum.inr "lend", Sum.inr "share"] : List Key).Nodup; decide +kernel)
abbrev rTupOf (K : PySem.W.Frag) : List V → Hp → VK → Prop := fun xs H Q => ∃ p ys, xs = [V.ref p] ∧ ((SqL K H p ys ∧ ∀ l, H l = none → Q (.ref l) (upd H l (.tup ys))) ∨ SqT K H p ys ∧ Q (.ref p) H)
/-- a build with its rules -/
def BuildAt (K : PySem.W.Frag) (C CR : Addr) (H : Hp) (p : Addr) (b : BD) : Prop := PartsAt K C H p b ∧ ∃ dx fs r, H p = some (.ins C dx fs) ∧ fs.lookup ("rules" : Str) = some (.ref r) ∧ RulesAt K CR H r b
theorem BuildAt.mono {H H' : Hp} {p : Addr} {b : BD} (h : BuildAt K C CR H p b) (s : Same H H') : BuildAt K C CR H' p b := by
  obtain ⟨h1, dx, fs, r, e1, e2, h2⟩ := h
  exact ⟨h1.mono s, dx, fs, r, s _ _ e1, e2, h2.mono s⟩
theorem BuildAt.but {H H' : Hp} {p k C' dx' : Addr} {fs' : List (Str × V)} {b : BD} (h : BuildAt K C CR H p b) (e : H k = some (.ins C' dx' fs')) (s : But k H H') (n1 : p ≠ k) (n2 : C' ≠ CR) : BuildAt K C CR H' p b := by
  obtain ⟨⟨ok, dx2, fs2, q, kvs, e1, e2, e3, e4, e5⟩, dx, fs, r, f1, f2, h2⟩ := h
  have kk := But.keep e s
  refine ⟨⟨ok, dx2, fs2, q, kvs, s _ _ e1 n1, e2, kk _ _ e3 (by simp), Paired.mapP e4 fun a b r => ⟨r.1, dpKeep kk r.2⟩, e5⟩, dx, fs, r, s _ _ f1 n1, f2, h2.but e s fun z => ?_⟩
  subst z
  obtain ⟨dx3, fs3, g, _⟩ := h2
  rw [e] at g
  cases g
  exact n2 rfl
def spBuild (K : PySem.W.Frag) (C CR : Addr) : Sp := fun vs H Q _ => ∃ (p dx : Addr) (x1 x2 x3 x4 x5 x6 x7 x8 x9 x10 x11 x12 x13 x14 x15 : V) (b : BD), vs = [.ref p, x1, x2, x3, x4, x5, x6, x7, x8, x9, x10, x11, x12, x13, x14, x15] ∧ H p = some (.ins C dx []) ∧ BOk b ∧
  Dp K H x1 b.tasks ∧ Dp K H x2 b.pages ∧ Dp K H x3 b.ports ∧ Dp K H x4 b.locks ∧ Dp K H x5 b.frames ∧ Dp K H x6 b.disk ∧ Dp K H x7 b.rights ∧ Dp K H x8 b.lines ∧ Dp K H x9 b.costs ∧ Dp K H x10 b.plan ∧ Dp K H x11 b.outside ∧
  Dp K H x12 b.wipe ∧ Dp K H x13 b.pad ∧ Dp K H x14 b.lend ∧ Dp K H x15 b.share ∧ ∀ H', But p H H' → BuildAt K C CR H' p b → Q .non H'
theorem tup_fact {H : Hp} {a : Addr} {ds : List PyData} (hd : Dp K H (.ref a) (.list ds)) : ∃ xs, SqL K H a xs ∧ ∀ l, H l = none → Dp K (upd H l (.tup xs)) (.ref l) (.tuple ds) := by
  cases hd with
  | @lst a xs _ hs ha => exact ⟨xs, hs, fun l nl => .tup (SqT.of upd_same) (L2.DpAll.mono (same_new nl) ha)⟩
theorem okRightsL {c : Cnt} {d : PyData} (h : okRights c d = true) : ∃ rs, d = .list rs ∧ (rs.length : Int) = cnt c "task" ∧ ∀ r ∈ rs, ∃ l, r = .list l := by
  unfold okRights at h
  rw [Bool.and_eq_true] at h
  obtain ⟨rs, rfl, h0, h1⟩ := dListOf_list h.1
  refine ⟨rs, rfl, by omega, fun r hr => ?_⟩
  have z := List.all_eq_true.mp h.2 r hr
  unfold okRow at z
  rw [Bool.and_eq_true] at z
  obtain ⟨l, rfl, _⟩ := dListOf_list z.1
  exact ⟨l, rfl⟩
theorem thingsV_ok {b : BD} (ok : BOk b) : thingsV b.tasks b.pages b.ports b.locks b.frames b.disk = .non := by
  unfold thingsV
  rw [ok.tasks, ok.pages, ok.ports, ok.locks, ok.frames, ok.disk]; rfl
theorem waysV_ok {b : BD} (ok : BOk b) : waysV (cOf b) b.rights b.lines b.costs b.plan b.outside = .non := by
  unfold waysV
  rw [ok.rights, ok.lines, ok.costs, ok.plan, ok.outside]; rfl
theorem build_end (T : BCls K C) {p dx pq : Addr} {σ : L2.St} {H HF : Hp} {kvs : List (Key × V)} {Q : VK} {b : BD} (ok : BOk b) (hp : H p = some (.ins C dx [])) (hq : HF pq = some (.dK kvs)) (hk : Paired (fun p q => p.1 = Sum.inr q.1 ∧ Dp K HF p.2 q.2) kvs b.parts) (s : Same H HF)
    (q : ∀ H', But p H H' → BuildAt K C CR H' p b → Q .non H') (s0 : σ[0]? = some (some (.ref p))) :
    ∃ a C_1 dx fs, V.ref p = V.ref a ∧ HF a = some (.ins C_1 dx fs) ∧ Cls K C_1 ∧ NoAttr K C_1 "_parts" ∧ fs.length < 1000 ∧ sFld K (tVar 0) (tMake CR (spRules K C CR) [] E0 (tCons (tVar 0) tNil)) "rules" { nx := fun x H' => Q .non H', rt := Q } σ (upd HF a (.ins C_1 dx (putF "_parts" (.ref pq) fs))) := by
 refine Hk.hold ?_
 simp (disch := with_unfolding_all (
 exact Hk.disch (by
  have hpF := s _ _ hp
  have npq : pq ≠ p := ne_of hq hpF (by simp)
  refine ⟨p, C, dx, [], rfl, hpF, T.cls, T.n_parts, by simp, ?_⟩
  have k1 : Keep HF (upd HF p (.ins C dx (putF "_parts" (.ref pq) []))) := But.keep hpF But.put
  refine ⟨_, s0, ?_⟩
  intro x dxn nx ndx nex
  have m2 : Same (upd HF p (.ins C dx (putF "_parts" (.ref pq) []))) (upd (upd (upd HF p (.ins C dx (putF "_parts" (.ref pq) []))) dxn (.own x)) x (.ins CR dxn [])) := (same_new ndx).trans (same_new (by rw [upd_ne (Ne.symm nex)]; exact nx))
  have npx : p ≠ x := fun z => by subst z; rw [upd_same] at nx; cases nx
  have nHx : H x = none := s.free (by rw [upd_ne (Ne.symm npx)] at nx; exact nx)
  have at1 : PartsAt K C (upd HF p (.ins C dx (putF "_parts" (.ref pq) []))) p b :=
    ⟨ok, dx, _, pq, kvs, upd_same, put_same _ _ _, k1 _ _ hq (by simp), Paired.mapP hk fun a b r => ⟨r.1, dpKeep k1 r.2⟩, fun m h1 _ => by rw [put_ne _ _ h1]; rfl⟩
  refine ⟨x, dxn, p, b, rfl, upd_same, npx, at1.mono m2, fun H3 bt er => ⟨rfl, ?_⟩⟩
  have hp3 := bt _ _ (m2 _ _ upd_same) npx
  refine ⟨_, s0, p, C, dx, _, rfl, hp3, T.cls, T.n_rules, by have := length_putF "_parts" (V.ref pq) []; simp at this; omega, ?_⟩
  have k2 := Keep.trans k1 (Keep.trans (same_keep m2) (Keep.trans (But.keep (upd_same : upd _ x _ x = _) bt) (But.keep hp3 (But.put (o := .ins C dx (putF "rules" (.ref x) (putF "_parts" (.ref pq) [])))))))
  show Q .non _
  have LK : (putF "rules" (V.ref x) (putF "_parts" (V.ref pq) [])).lookup ("_parts" : Str) = some (V.ref pq) := by rw [put_ne _ _ (by decide +kernel)]; exact put_same _ _ _
  refine q _ (fun a o ha na => ?_) ⟨⟨ok, dx, _, pq, kvs, upd_same, LK, k2 _ _ hq (by simp), Paired.mapP hk fun a b r => ⟨r.1, dpKeep k2 r.2⟩, fun m h1 h2 => by rw [put_ne _ _ h2, put_ne _ _ h1]; rfl⟩, dx, _, x, upd_same, put_same _ _ _, er.but hp3 But.put (Ne.symm npx)⟩
  rw [upd_ne na]
  exact bt _ _ (m2 _ _ (by rw [upd_ne na]; exact s _ _ ha)) (ne_of_none ha nHx)))) only [↓Hk.hold_s]
theorem ok_Build (B : Bl mg) (T : BCls K C) (c_counted : Cal P w K mg base 1 "counted" ["tasks", "pages", "ports", "locks", "disk"] spCounted)
    (c_things_fault : Cal P w K mg base 4 "things_fault" ["tasks", "pages", "ports", "locks", "frames", "disk"] (spThings K))
    (c_ways_fault : Cal P w K mg base 9 "ways_fault" ["counts", "rights", "lines", "costs", "plan", "outside"] (spWays K))
    (c_flags_fault : Cal P w K mg base 1 "flags_fault" ["flags"] (spFlags K))
    (c_Rules : MkCal P w K mg base 3 CR "Rules" ["self", "build"] (spRules K C CR)) :
    ∀ f fd, Fun K "__init__" "Build.__init__" s_Build___init__ f fd → FnOk P w K mg base CX0 10 f fd ["self", "tasks", "pages", "ports", "locks", "frames", "disk", "rights", "lines", "costs", "plan", "outside", "wipe", "pad", "lend", "share"] (spBuild K C CR) := by
 refine Hk.hold ?_
 simp (disch := with_unfolding_all (
 exact Hk.disch (fun f fd F => by
  refine F.ok sc_Build___init__ (fun vs H Q E h => ?_) (fun cdv A outer s H vs Q E hr h => ?_)
  · obtain ⟨p, dx, x1, x2, x3, x4, x5, x6, x7, x8, x9, x10, x11, x12, x13, x14, x15, b, rfl, _⟩ := h; rfl
  · obtain ⟨p, dx, x1, x2, x3, x4, x5, x6, x7, x8, x9, x10, x11, x12, x13, x14, x15, b, rfl, hP, ok, D1, D2, D3, D4, D5, D6, D7, D8, D9, D10, D11, D12, D13, D14, D15, q⟩ := h
    refine ⟨_, (pss_cons (ps_set (i := 16) sc_Build___init__.nd rfl (Or.inl rfl) (pe_cal c_things_fault (hr.mono (by omega)) rfl (pa_cons (pv 1) (pa_cons (pv 2) (pa_cons (pv 3) (pa_cons (pv 4) (pa_cons (pv 5) (pa_cons (pv 6) pa_nil))))))))
      (pss_cons (ps_if (pt_cmp (pc_notN (pv 16))) (pss_one ps_never) pss_nil)
      (pss_cons (ps_set (i := 17) sc_Build___init__.nd rfl (Or.inl rfl) (pe_cal c_counted (hr.mono (by omega)) rfl (pa_cons (pe_callB call_len_seq rfl B.len hb_len (pa_cons (pv 1) pa_nil)) (pa_cons (pe_callB call_len_seq rfl B.len hb_len (pa_cons (pv 2) pa_nil)) (pa_cons (pe_callB call_len_seq rfl B.len hb_len (pa_cons (pv 3) pa_nil)) (pa_cons (pv 4) (pa_cons (pv 6) pa_nil)))))))
      (pss_cons (ps_set (i := 16) sc_Build___init__.nd rfl (Or.inl rfl) (pe_cal c_ways_fault (hr.mono (by omega)) rfl (pa_cons (pv 17) (pa_cons (pv 7) (pa_cons (pv 8) (pa_cons (pv 9) (pa_cons (pv 10) (pa_cons (pv 11) pa_nil))))))))
      (pss_cons (ps_if (pt_cmp (pc_notN (pv 16))) (pss_one ps_never) pss_nil)
      (pss_cons (ps_set (i := 18) sc_Build___init__.nd rfl (Or.inl rfl) (pe_disp (pps_cons pe_str (pv 12) (pps_cons pe_str (pv 13) (pps_cons pe_str (pv 14) (pps_cons pe_str (pv 15) pps_nil)))) rfl rfl (by simp) (by decide)))
      (pss_cons (ps_set (i := 16) sc_Build___init__.nd rfl (Or.inl rfl) (pe_cal c_flags_fault (hr.mono (by omega)) rfl (pa_cons (pv 18) pa_nil)))
      (pss_cons (ps_if (pt_cmp (pc_notN (pv 16))) (pss_one ps_never) pss_nil)
      (pss_cons (ps_fld (pv 0) (pe_dispS (d0 := .Constant .none 0 ⟨0, 0, 0, 0⟩) (pps_cons pe_str (pe_callTy call_tuple_of rfl B.tuple_ hb_tuple (pa_cons (pv 1) pa_nil)) (pps_cons pe_str (pe_callTy call_tuple_of rfl B.tuple_ hb_tuple (pa_cons (pv 2) pa_nil)) (pps_cons pe_str (pe_callTy call_tuple_of rfl B.tuple_ hb_tuple (pa_cons (pv 3) pa_nil)) (pps_cons pe_str (pv 4) (pps_cons pe_str (pv 5) (pps_cons pe_str (pv 6) (pps_cons pe_str (pe_callTy call_tuple_of rfl B.tuple_ hb_tuple (pa_cons (pe_lc (own := [("row", 19)]) (tt := tYes) rfl sc_Build___init__.nd (pi_list (pv 7)) (blkOk_by (N := ["self", "tasks", "pages", "ports", "locks", "frames", "disk", "rights", "lines", "costs", "plan", "outside", "wipe", "pad", "lend", "share", "part", "counts", "flags", "row"]) (sc := defScope s_Build___init__) (by decide +kernel)) (fun _ _ _ _ _ => (pg_name (i := 19) sc_Build___init__.nd rfl (Or.inl rfl))) (fun _ _ _ _ _ => pts_nil) (fun _ _ _ _ _ => (pe_callTy (show CallR _ _ (rTupOf K) from call_tuple_of) rfl B.tuple_ hb_tuple (pa_cons (pv 19) pa_nil)))) pa_nil)) (pps_cons pe_str (pe_callTy call_tuple_of rfl B.tuple_ hb_tuple (pa_cons (pv 8) pa_nil)) (pps_cons pe_str (pv 9) (pps_cons pe_str (pe_tup (pa_cons (pe_ix ix_tup (pv 10) pe_int (fun _ _ => rfl)) (pa_cons (pe_ifExp (pt_cmpR op_eq (pe_ix ix_tup (pv 10) pe_int (fun _ _ => rfl)) pe_str (nomark _)) (pe_callTy call_tuple_of rfl B.tuple_ hb_tuple (pa_cons (pe_ix ix_tup (pv 10) pe_int (fun _ _ => rfl)) pa_nil)) (pe_ix ix_tup (pv 10) pe_int (fun _ _ => rfl))) pa_nil))) (pps_cons pe_str (pv 11) pps_nil))))))))))) (pv 18)) rfl)
      (pss_one (ps_fld (pv 0) (pe_mk c_Rules (hr.mono (by omega)) rfl (pa_cons (pv 0) pa_nil)) rfl))))))))))), ?_⟩
    walk_at "st0"
    refine ⟨x1, x2, x3, x4, x5, x6, b.tasks, b.pages, b.ports, b.locks, b.frames, b.disk, rfl, D1, D2, D3, D4, D5, D6, fun H1 s1 => ?_⟩
    rw [thingsV_ok ok]
    walk_at "st"
    refine iteF ?_
    walk_at "st"
    obtain ⟨tds, et, t2, t4, tall⟩ := okTasksL ok.tasks
    obtain ⟨pds, ep, p3, pall⟩ := okList ok.pages
    obtain ⟨qds, eq, q2, qall⟩ := okList ok.ports
    obtain ⟨kn, ek, k0, k2⟩ := okBetween ok.locks
    have okd := ok.disk
    unfold okDisk at okd
    rw [Bool.and_eq_true] at okd
    obtain ⟨dn, ed, d0, d4⟩ := okBetween okd.1
    have ec : cOf b = cntOf tds.length pds.length qds.length kn dn := by unfold cOf; rw [et, ep, eq, ek, ed]
    have sm : cntSmall (cOf b) := by
      rw [ec]
      exact ⟨⟨_, _, _, _, _, rfl⟩, by show (tds.length : Int) ≤ 100; omega, by show (pds.length : Int) ≤ 100; omega⟩
    have E1 := L2.Dp.mono s1 D1
    have E2 := L2.Dp.mono s1 D2
    have E3 := L2.Dp.mono s1 D3
    have E4 := D4
    have E6 := D6
    rw [et] at E1; rw [ep] at E2; rw [eq] at E3; rw [ek] at E4; rw [ed] at E6
    cases E4
    cases E6
    cases E1 with
    | @lst a1 xs1 _ hs1 ha1 =>
    cases E2 with
    | @lst a2 xs2 _ hs2 ha2 =>
    cases E3 with
    | @lst a3 xs3 _ hs3 ha3 =>
    refine ⟨a1, xs1, rfl, .inl hs1, ?_⟩
    walk_at "st"
    refine ⟨a2, xs2, rfl, .inl hs2, ?_⟩
    walk_at "st"
    refine ⟨a3, xs3, rfl, .inl hs3, ?_⟩
    walk_at "st"
    refine ⟨_, _, _, _, _, rfl, fun c2 H2 s2 nc2 ec2 => ?_⟩
    replace s2 := s1.trans s2
    rw [ha1.length, ha2.length, ha3.length, ← ec] at ec2
    walk_at "st"
    refine ⟨c2, cOf b, x7, x8, x9, x10, x11, b.rights, b.lines, b.costs, b.plan, b.outside, rfl, ec2, sm, L2.Dp.mono s2 D7, L2.Dp.mono s2 D8, L2.Dp.mono s2 D9, L2.Dp.mono s2 D10, L2.Dp.mono s2 D11, ?_, fun H3 s3 => ?_⟩
    · obtain ⟨z, e, ez, _⟩ := okPlanL ok.plan
      intro e0 e1 h
      rw [ez] at h
      cases h
      exact ⟨z, rfl⟩
    replace s3 := s2.trans s3
    rw [waysV_ok ok]
    walk_at "st"
    refine iteF ?_
    walk_at "st"
    intro c4 nc4
    unfold tPairs; walk_at "st"; unfold tPairs; walk_at "st"; unfold tPairs; walk_at "st"; unfold tPairs; walk_at "st"
    unfold tPairs
    refine ⟨upd_same, [(Sum.inr "wipe", x12), (Sum.inr "pad", x13), (Sum.inr "lend", x14), (Sum.inr "share", x15)], rfl, by simp, ?_⟩
    have s4 : Same H (upd (upd H3 c4 (.dK [])) c4 (.dK (mergeK [] [(Sum.inr "wipe", x12), (Sum.inr "pad", x13), (Sum.inr "lend", x14), (Sum.inr "share", x15)]))) := fun b o e => by
      have hb := ne_of_none (s3 _ _ e) nc4
      rw [upd_ne hb, upd_ne hb]; exact s3 _ _ e
    have em : mergeK [] [(Sum.inr "wipe", x12), (Sum.inr "pad", x13), (Sum.inr "lend", x14), (Sum.inr "share", x15)] = ([(Sum.inr "wipe", x12), (Sum.inr "pad", x13), (Sum.inr "lend", x14), (Sum.inr "share", x15)] : List (Key × V)) := rfl
    rw [em] at s4 ⊢
    walk_at "st"
    refine ⟨c4, _, [("wipe", b.wipe), ("pad", b.pad), ("lend", b.lend), ("share", b.share)], rfl, upd_same, .cons ⟨rfl, L2.Dp.mono s4 D12⟩ (.cons ⟨rfl, L2.Dp.mono s4 D13⟩ (.cons ⟨rfl, L2.Dp.mono s4 D14⟩ (.cons ⟨rfl, L2.Dp.mono s4 D15⟩ .nil))), fun H5 s5 => ?_⟩
    have ef : flagsV [("wipe", b.wipe), ("pad", b.pad), ("lend", b.lend), ("share", b.share)] = .non := by
      unfold flagsV
      simp [List.find?, ok.wipe, ok.pad, ok.lend, ok.share]
    rw [ef]
    have ec5 := s5 _ _ (upd_same : upd _ c4 _ c4 = _)
    replace s5 := s4.trans s5
    walk_at "st"
    refine iteF ?_
    walk_at "st"
    intro pq nq
    have s6 : Same H (upd H5 pq (.dK [])) := s5.trans (same_new nq)
    have e6 : upd H5 pq (.dK []) pq = some (.dK []) := upd_same
    have ec6 := same_new (o := .dK []) nq _ _ ec5
    unfold tPairs
    walk_at "st"
    have G1 := L2.Dp.mono s6 D1
    rw [et] at G1
    obtain ⟨ys1, hys1, T1⟩ := tup_fact G1
    refine ⟨a1, ys1, rfl, .inl ⟨hys1, fun l1 n1 => ?_⟩⟩
    replace T1 := T1 l1 n1
    have m1 := same_new (o := .tup ys1) n1
    replace s6 := s6.trans m1
    replace e6 := m1 _ _ e6
    replace ec6 := m1 _ _ ec6
    unfold tPairs
    walk_at "st"
    have G2 := L2.Dp.mono s6 D2
    rw [ep] at G2
    obtain ⟨ys2, hys2, T2⟩ := tup_fact G2
    refine ⟨a2, ys2, rfl, .inl ⟨hys2, fun l2 n2 => ?_⟩⟩
    replace T2 := T2 l2 n2
    have m2 := same_new (o := .tup ys2) n2
    replace s6 := s6.trans m2
    replace e6 := m2 _ _ e6
    replace ec6 := m2 _ _ ec6
    replace T1 := L2.Dp.mono m2 T1
    unfold tPairs
    walk_at "st"
    have G3 := L2.Dp.mono s6 D3
    rw [eq] at G3
    obtain ⟨ys3, hys3, T3⟩ := tup_fact G3
    refine ⟨a3, ys3, rfl, .inl ⟨hys3, fun l3 n3 => ?_⟩⟩
    replace T3 := T3 l3 n3
    have m3 := same_new (o := .tup ys3) n3
    replace s6 := s6.trans m3
    replace e6 := m3 _ _ e6
    replace ec6 := m3 _ _ ec6
    replace T1 := L2.Dp.mono m3 T1
    replace T2 := L2.Dp.mono m3 T2
    unfold tPairs; walk_at "st"; unfold tPairs; walk_at "st"; unfold tPairs; walk_at "st"; unfold tPairs; walk_at "st"
    obtain ⟨rds, er, rl, rall⟩ := okRightsL ok.rights
    have rl8 : rds.length ≤ 4 := by
      rw [ec] at rl
      have z : cnt (cntOf tds.length pds.length qds.length kn dn) "task" = tds.length := rfl
      omega
    have G7 := L2.Dp.mono s6 D7
    rw [er] at G7
    cases G7 with
    | @lst a7 xs7 _ hs7 ha7 =>
    have l7 := ha7.length
    generalize upd (upd (upd (upd H5 pq (.dK [])) l1 (.tup ys1)) l2 (.tup ys2)) l3 (.tup ys3) = HX at *
    refine ⟨_, rfl, a7, rfl, ⟨xs7, hs7⟩, fun D nD => lc_rel walk_list (fun i y Hh => ∃ (t : Addr) (xs : List V) (l : List PyData), y = .ref t ∧ Hh t = some (.tup xs) ∧ rds[i]? = some (.list l) ∧ DpAll K HX xs l) nD (sz1000 (by omega)) (fun H2 s => s.seq hs7) yat_same ?_ ?_ ?_⟩
    · rintro i y Ha Hb acc e bt ⟨t, xs, l, rfl, h1, h2, h3⟩
      exact ⟨t, xs, l, rfl, bt _ _ h1 (fun z => by subst z; rw [h1] at e; cases e), h2, h3⟩
    · rintro i x H' H2 lt s y Q' k
      obtain ⟨rfl, e⟩ := y
      obtain ⟨d, e2, hd2⟩ := ha7.get' e
      obtain ⟨l, rfl⟩ := rall d (List.mem_of_getElem? e2)
      cases hd2 with
      | @lst a xs _ hs ha =>
      refine q_gname ?_
      refine ⟨rfl, ?_⟩
      walk_at "st"
      exact ⟨a, xs, rfl, .inl ⟨s.seq hs, fun l2 nl => k _ _ (same_new nl) ⟨l2, xs, l, rfl, upd_same, e2, ha⟩⟩⟩
    intro ys7 H8 s8 e8 l8 r8
    refine ⟨D, ys7, rfl, .inl ⟨SqL.of e8, fun l77 n7 => ?_⟩⟩
    have m7 := s8.trans (same_new (o := .tup ys7) n7)
    have T7 : Dp K (upd H8 l77 (.tup ys7)) (.ref l77) (.tuple (rds.map tupOf)) := by
      refine .tup (SqT.of upd_same) (dpAll_of (by rw [List.length_map]; omega) fun i x d ex ed2 => ?_)
      obtain ⟨t, xs, l, rfl, h1, h2, h3⟩ := r8 i x ex
      rw [List.getElem?_map, h2] at ed2
      cases ed2
      exact .tup (SqT.of (same_new n7 _ _ h1)) (L2.DpAll.mono m7 h3)
    replace s6 := s6.trans m7
    replace e6 := m7 _ _ e6
    replace ec6 := m7 _ _ ec6
    replace T1 := L2.Dp.mono m7 T1
    replace T2 := L2.Dp.mono m7 T2
    replace T3 := L2.Dp.mono m7 T3
    generalize upd H8 l77 (.tup ys7) = HY at *
    unfold tPairs
    walk_at "st"
    obtain ⟨lds, el, _⟩ := okLinesL ok.lines
    have G8 := L2.Dp.mono s6 D8
    rw [el] at G8
    cases G8 with
    | @lst a8 xs8 _ hs8 ha8 =>
    refine ⟨a8, xs8, rfl, .inl ⟨hs8, fun l88 n8 => ?_⟩⟩
    have m8 := same_new (o := .tup xs8) n8
    have T8 : Dp K (upd HY l88 (.tup xs8)) (.ref l88) (.tuple lds) := .tup (SqT.of upd_same) (L2.DpAll.mono m8 ha8)
    replace s6 := s6.trans m8
    replace e6 := m8 _ _ e6
    replace ec6 := m8 _ _ ec6
    replace T1 := L2.Dp.mono m8 T1
    replace T2 := L2.Dp.mono m8 T2
    replace T3 := L2.Dp.mono m8 T3
    replace T7 := L2.Dp.mono m8 T7
    generalize upd HY l88 (.tup xs8) = HZ at *
    unfold tPairs; walk_at "st"; unfold tPairs; walk_at "st"
    obtain ⟨z, e, epl, hz⟩ := okPlanL ok.plan
    have G10 := L2.Dp.mono s6 D10
    rw [epl] at G10
    cases G10 with
    | @tup a10 xs10 _ hs10 ha10 =>
    cases ha10 with
    | @cons y0 r0 _ _ b0 ha10 => cases ha10 with
      | @cons y1 r1 _ _ b1 ha10 =>
        cases ha10
        cases b0
        refine q_ixT hs10 (atI0 rfl) ?_
        walk_at "st"
        refine q_ixT hs10 (atI0 rfl) ?_
        walk_at "st"
        refine q_eq rfl ?_
        rcases hz with ⟨rfl, i, rfl, _⟩ | ⟨rfl, hz⟩
        · rw [decide_eq_false (fun q => slots_ne (V.str.inj q))]
          walk_at "st"
          refine iteF ?_
          walk_at "st"
          refine q_ixT hs10 (atI1 rfl) ?_
          walk_at "st"
          refine ⟨by show 2 ≤ sizeLine; decide, fun l99 n9 => ?_⟩
          have m9 := same_new (o := .tup [.str "levels", y1]) n9
          have T10 : Dp K (upd HZ l99 (.tup [.str "levels", y1])) (.ref l99) (planT b.plan) := by
            rw [epl]
            simp only [planT]
            rw [if_neg slots_ne]
            exact .tup (SqT.of upd_same) (.cons (.str _) (.cons (L2.Dp.mono m9 b1) .nil))
          replace s6 := s6.trans m9
          replace e6 := m9 _ _ e6
          replace ec6 := m9 _ _ ec6
          replace T1 := L2.Dp.mono m9 T1
          replace T2 := L2.Dp.mono m9 T2
          replace T3 := L2.Dp.mono m9 T3
          replace T7 := L2.Dp.mono m9 T7
          replace T8 := L2.Dp.mono m9 T8
          generalize upd HZ l99 (.tup [.str "levels", y1]) = HV at *
          unfold tPairs; walk_at "st"
          unfold tPairs
          refine ⟨e6, [(Sum.inr "tasks", .ref l1), (Sum.inr "pages", .ref l2), (Sum.inr "ports", .ref l3), (Sum.inr "locks", .int kn), (Sum.inr "frames", x5), (Sum.inr "disk", .int dn), (Sum.inr "rights", .ref l77), (Sum.inr "lines", .ref l88), (Sum.inr "costs", x9), (Sum.inr "plan", .ref l99), (Sum.inr "outside", x11)], rfl, by simp, ?_⟩
          rw [em11]
          walk_at "st"
          have nc : c4 ≠ pq := ne_of_none ec5 nq
          refine ⟨c4, [(Sum.inr "wipe", x12), (Sum.inr "pad", x13), (Sum.inr "lend", x14), (Sum.inr "share", x15)], rfl, nc, .inl (by rw [upd_ne nc]; exact ec6), upd_same, by simp, by simp, ?_⟩
          rw [em15]
          walk_at "st"
          have k4 : KeepD HV (upd (upd HV pq (.dK [(Sum.inr "tasks", .ref l1), (Sum.inr "pages", .ref l2), (Sum.inr "ports", .ref l3), (Sum.inr "locks", .int kn), (Sum.inr "frames", x5), (Sum.inr "disk", .int dn), (Sum.inr "rights", .ref l77), (Sum.inr "lines", .ref l88), (Sum.inr "costs", x9), (Sum.inr "plan", .ref l99), (Sum.inr "outside", x11)])) pq (.dK [(Sum.inr "tasks", .ref l1), (Sum.inr "pages", .ref l2), (Sum.inr "ports", .ref l3), (Sum.inr "locks", .int kn), (Sum.inr "frames", x5), (Sum.inr "disk", .int dn), (Sum.inr "rights", .ref l77), (Sum.inr "lines", .ref l88), (Sum.inr "costs", x9), (Sum.inr "plan", .ref l99), (Sum.inr "outside", x11), (Sum.inr "wipe", x12), (Sum.inr "pad", x13), (Sum.inr "lend", x14), (Sum.inr "share", x15)])) := fun a o ha _ nd => by
            have na : a ≠ pq := fun z => by subst z; rw [e6] at ha; cases ha; exact nd _ rfl
            rw [upd_ne na, upd_ne na]; exact ha
          have nqH : H pq = none := (s5.free nq)
          refine build_end T ok hP upd_same ?_ (fun a o ha => ?_) q rfl
          · refine .cons ⟨rfl, ?_⟩ (.cons ⟨rfl, ?_⟩ (.cons ⟨rfl, ?_⟩ (.cons ⟨rfl, ?_⟩ (.cons ⟨rfl, ?_⟩ (.cons ⟨rfl, ?_⟩ (.cons ⟨rfl, ?_⟩ (.cons ⟨rfl, ?_⟩ (.cons ⟨rfl, ?_⟩ (.cons ⟨rfl, ?_⟩ (.cons ⟨rfl, ?_⟩ (.cons ⟨rfl, ?_⟩ (.cons ⟨rfl, ?_⟩ (.cons ⟨rfl, ?_⟩ (.cons ⟨rfl, ?_⟩ .nil))))))))))))))
            · show Dp K _ (.ref l1) (tupOf b.tasks); rw [et]; exact dpKeepD k4 T1
            · show Dp K _ (.ref l2) (tupOf b.pages); rw [ep]; exact dpKeepD k4 T2
            · show Dp K _ (.ref l3) (tupOf b.ports); rw [eq]; exact dpKeepD k4 T3
            · exact dpKeepD k4 (L2.Dp.mono s6 D4)
            · exact dpKeepD k4 (L2.Dp.mono s6 D5)
            · exact dpKeepD k4 (L2.Dp.mono s6 D6)
            · show Dp K _ (.ref l77) (rowsT b.rights); rw [er]; exact dpKeepD k4 T7
            · show Dp K _ (.ref l88) (tupOf b.lines); rw [el]; exact dpKeepD k4 T8
            · exact dpKeepD k4 (L2.Dp.mono s6 D9)
            · exact dpKeepD k4 T10
            · exact dpKeepD k4 (L2.Dp.mono s6 D11)
            · exact dpKeepD k4 (L2.Dp.mono s6 D12)
            · exact dpKeepD k4 (L2.Dp.mono s6 D13)
            · exact dpKeepD k4 (L2.Dp.mono s6 D14)
            · exact dpKeepD k4 (L2.Dp.mono s6 D15)
          · have na := ne_of_none ha nqH
            rw [upd_ne na, upd_ne na]; exact s6 _ _ ha
        · rw [decide_eq_true rfl]
          walk_at "st"
          refine iteT ?_
          obtain ⟨srs, rfl, _⟩ := okSlotsL hz
          cases b1 with
          | @lst a98 xs98 _ hs98 ha98 =>
          walk_at "st"
          refine q_ixT hs10 (atI1 rfl) ?_
          walk_at "st"
          refine ⟨a98, xs98, rfl, .inl ⟨hs98, fun l98 n98 => ?_⟩⟩
          have m98 := same_new (o := .tup xs98) n98
          have T98 : Dp K (upd HZ l98 (.tup xs98)) (.ref l98) (.tuple srs) := .tup (SqT.of upd_same) (L2.DpAll.mono m98 ha98)
          replace s6 := s6.trans m98
          replace e6 := m98 _ _ e6
          replace ec6 := m98 _ _ ec6
          replace T1 := L2.Dp.mono m98 T1
          replace T2 := L2.Dp.mono m98 T2
          replace T3 := L2.Dp.mono m98 T3
          replace T7 := L2.Dp.mono m98 T7
          replace T8 := L2.Dp.mono m98 T8
          generalize upd HZ l98 (.tup xs98) = HW at *
          walk_at "st"
          refine ⟨by show 2 ≤ sizeLine; decide, fun l99 n9 => ?_⟩
          have m9 := same_new (o := .tup [.str "slots", .ref l98]) n9
          have T10 : Dp K (upd HW l99 (.tup [.str "slots", .ref l98])) (.ref l99) (planT b.plan) := by
            rw [epl]
            simp only [planT]
            rw [if_pos trivial]
            exact .tup (SqT.of upd_same) (.cons (.str _) (.cons (L2.Dp.mono m9 T98) .nil))
          replace s6 := s6.trans m9
          replace e6 := m9 _ _ e6
          replace ec6 := m9 _ _ ec6
          replace T1 := L2.Dp.mono m9 T1
          replace T2 := L2.Dp.mono m9 T2
          replace T3 := L2.Dp.mono m9 T3
          replace T7 := L2.Dp.mono m9 T7
          replace T8 := L2.Dp.mono m9 T8
          generalize upd HW l99 (.tup [.str "slots", .ref l98]) = HV at *
          unfold tPairs; walk_at "st"
          unfold tPairs
          refine ⟨e6, [(Sum.inr "tasks", .ref l1), (Sum.inr "pages", .ref l2), (Sum.inr "ports", .ref l3), (Sum.inr "locks", .int kn), (Sum.inr "frames", x5), (Sum.inr "disk", .int dn), (Sum.inr "rights", .ref l77), (Sum.inr "lines", .ref l88), (Sum.inr "costs", x9), (Sum.inr "plan", .ref l99), (Sum.inr "outside", x11)], rfl, by simp, ?_⟩
          rw [em11]
          walk_at "st"
          have nc : c4 ≠ pq := ne_of_none ec5 nq
          refine ⟨c4, [(Sum.inr "wipe", x12), (Sum.inr "pad", x13), (Sum.inr "lend", x14), (Sum.inr "share", x15)], rfl, nc, .inl (by rw [upd_ne nc]; exact ec6), upd_same, by simp, by simp, ?_⟩
          rw [em15]
          walk_at "st"
          have k4 : KeepD HV (upd (upd HV pq (.dK [(Sum.inr "tasks", .ref l1), (Sum.inr "pages", .ref l2), (Sum.inr "ports", .ref l3), (Sum.inr "locks", .int kn), (Sum.inr "frames", x5), (Sum.inr "disk", .int dn), (Sum.inr "rights", .ref l77), (Sum.inr "lines", .ref l88), (Sum.inr "costs", x9), (Sum.inr "plan", .ref l99), (Sum.inr "outside", x11)])) pq (.dK [(Sum.inr "tasks", .ref l1), (Sum.inr "pages", .ref l2), (Sum.inr "ports", .ref l3), (Sum.inr "locks", .int kn), (Sum.inr "frames", x5), (Sum.inr "disk", .int dn), (Sum.inr "rights", .ref l77), (Sum.inr "lines", .ref l88), (Sum.inr "costs", x9), (Sum.inr "plan", .ref l99), (Sum.inr "outside", x11), (Sum.inr "wipe", x12), (Sum.inr "pad", x13), (Sum.inr "lend", x14), (Sum.inr "share", x15)])) := fun a o ha _ nd => by
            have na : a ≠ pq := fun z => by subst z; rw [e6] at ha; cases ha; exact nd _ rfl
            rw [upd_ne na, upd_ne na]; exact ha
          have nqH : H pq = none := (s5.free nq)
          refine build_end T ok hP upd_same ?_ (fun a o ha => ?_) q rfl
          · refine .cons ⟨rfl, ?_⟩ (.cons ⟨rfl, ?_⟩ (.cons ⟨rfl, ?_⟩ (.cons ⟨rfl, ?_⟩ (.cons ⟨rfl, ?_⟩ (.cons ⟨rfl, ?_⟩ (.cons ⟨rfl, ?_⟩ (.cons ⟨rfl, ?_⟩ (.cons ⟨rfl, ?_⟩ (.cons ⟨rfl, ?_⟩ (.cons ⟨rfl, ?_⟩ (.cons ⟨rfl, ?_⟩ (.cons ⟨rfl, ?_⟩ (.cons ⟨rfl, ?_⟩ (.cons ⟨rfl, ?_⟩ .nil))))))))))))))
            · show Dp K _ (.ref l1) (tupOf b.tasks); rw [et]; exact dpKeepD k4 T1
            · show Dp K _ (.ref l2) (tupOf b.pages); rw [ep]; exact dpKeepD k4 T2
            · show Dp K _ (.ref l3) (tupOf b.ports); rw [eq]; exact dpKeepD k4 T3
            · exact dpKeepD k4 (L2.Dp.mono s6 D4)
            · exact dpKeepD k4 (L2.Dp.mono s6 D5)
            · exact dpKeepD k4 (L2.Dp.mono s6 D6)
            · show Dp K _ (.ref l77) (rowsT b.rights); rw [er]; exact dpKeepD k4 T7
            · show Dp K _ (.ref l88) (tupOf b.lines); rw [el]; exact dpKeepD k4 T8
            · exact dpKeepD k4 (L2.Dp.mono s6 D9)
            · exact dpKeepD k4 T10
            · exact dpKeepD k4 (L2.Dp.mono s6 D11)
            · exact dpKeepD k4 (L2.Dp.mono s6 D12)
            · exact dpKeepD k4 (L2.Dp.mono s6 D13)
            · exact dpKeepD k4 (L2.Dp.mono s6 D14)
            · exact dpKeepD k4 (L2.Dp.mono s6 D15)
          · have na := ne_of_none ha nqH
            rw [upd_ne na, upd_ne na]; exact s6 _ _ ha))) only [↓Hk.hold_s]
end
end T
set_option Elab.async false
set_option linter.all false
set_option maxRecDepth 100000
set_option maxHeartbeats 4000000
namespace Hk
open PySem PySem.Spec PyProof.Rows L2 L2H
/-- the exception that a suite holds, at p: of the class at D, its own dict at d (where it has one) -/
structure ExA (K : PySem.W.Frag) (p : Addr × Obj) (D : Addr) (d : Option Addr) : Prop where
  z : Zc (.ref D) d p.2
  f : ∃ vs, p.2.data = .fields vs
  c : L2.ExcC K D
/-- its dict stands there -/
def XdAt (H : Hp) : Option Addr → List (Str × V) → Prop
  | none, fs => fs = []
  | some dd, fs => H dd = some (.xd fs)
section
variable {X : Cx} {k : Nat} {f C : Addr} {fd : FuncData} {ps : List Str} {sp : Addr × Obj → Sp} {x m : Str} {q pos apos : Pos} {e o : Expr} {es : List Expr} {ta : TE} {t : TA} {p : Addr × Obj}
/-- isinstance(e, c), e the exception that the suite holds -/
def rIsX (K : PySem.W.Frag) (p : Addr × Obj) : List V → Hp → VK → Prop := fun xs H Q => ∃ (D : Addr) (d : Option Addr) (fs : List (Str × V)) (c : V) (cv : Value) (b : Bool), ExA K p D d ∧ XdAt H d fs ∧ xs = [.ref p.1, c] ∧ (∀ u, RelV c u → u = cv) ∧ PySem.W.kitOne K (.ref D) cv = some b ∧ Q (.bl b) H
theorem ExA.at {X : Cx} {p : Addr × Obj} {D : Addr} {d : Option Addr} {fs : List (Str × V)} {pins : List (Addr × Obj)} {σ : L2.St} {H : Hp} {s : Shared} (EA : ExA X.K p D d) (xd : XdAt H d fs) (hp : p ∈ X.pn) (I : Inv X pins σ H s) :
    ∃ od, PySem.W.InstAt s.heap p.1 p.2 D od ∧ (d.isSome = true → ∃ (ob : Obj) (mA : Str → Option Value), od = some ob ∧ (∀ y, PySem.W.lookIn y ob = some (mA y)) ∧ ∀ y, RelO (fs.lookup y) (mA y)) := by
  obtain ⟨here, _⟩ := I.pin p (List.mem_append.mpr (Or.inl hp))
  obtain ⟨ws, hw⟩ := EA.f
  have plain : PySem.W.notCls p.2 = true := by unfold PySem.W.notCls; rw [hw]
  rcases d with _ | dd
  · exact ⟨none, ⟨here, EA.z.1, plain, by rw [EA.z.2]; trivial⟩, fun z => by cases z⟩
  · obtain ⟨mA, hn, rel⟩ : ∃ mA, s.heap.Ns1 dd mA ∧ ∀ y, RelO (fs.lookup y) (mA y) := I.hok dd _ xd
    obtain ⟨ob, e1, e2⟩ := lookIn_ns hn
    exact ⟨some ob, ⟨here, EA.z.1, plain, by rw [EA.z.2]; exact e1⟩, fun _ => ⟨ob, mA, rfl, e2, rel⟩⟩
theorem call_isX (hp : p ∈ X.pn) : CallR X (.builtin "isinstance") (rIsX X.K p) := by
  rintro pins s σ H xs us Q I r ⟨D, d, fs, c, cv, b, EA, xd, rfl, told, ans, due⟩
  match us, r with
  | [_, u], .cons same (.cons rel .nil) =>
    cases same
    cases told u rel
    obtain ⟨od, J, _⟩ := EA.at xd hp I
    have some_ : (PySem.W.clsIn X.K D).isSome = true := Option.isSome_iff_exists.mpr ((PySem.W.any_some EA.c.hd).imp fun _ z => z.1)
    apply PySem.W.kia_one (PySem.W.kitx_exc (ox := p.2) (od := od) some_ EA.c.hg EA.c.hk EA.c.hs EA.c.ha EA.c.hn EA.c.ht EA.c.hm) I.kIn J ans
    · intro z; cases z
    · intro tk
      exact ⟨.bl b, H, I.tok tk, rfl, due⟩
end
theorem q_gname {σ : L2.St} {H : Hp} {i : Nat} {v : V} {q : L2.St → Hp → Prop} (h : q (σ.set i (some v)) H) : gName i v σ H q := h
theorem q_app {K : PySem.W.Frag} {σ : L2.St} {H : Hp} {D : Ends} {i : Nat} {te : TE} {a : Addr} {acc : List V} (hv : σ[i]? = some (some (.ref a))) (ha : H a = some (.lst acc)) (h : te σ H fun y H2 => ∃ l xs z, V.ref a = .ref l ∧ [y] = [z] ∧ H2 l = some (.lst xs) ∧ xs.length < sizeLine ∧ D.nx σ (upd H2 l (.lst (xs ++ [z])))) : tDrop (tBM K "list" rAppend (tVar i) (tCons te tNil)) D σ H :=
  ⟨_, hv, .inl ⟨rfl, acc, SqL.of ha⟩, h⟩
/-- a loop over a range, its bound told already -/
def ForR (n : Nat) (g : TG) (tb : TS) (D : Ends) (σ : L2.St) (H1 : Hp) : Prop := ∃ W : Nat → Nat → L2.St → Hp → Prop, (∃ m, W 0 m σ H1) ∧ ∀ i m σ H, W i m σ H →
    ((Itr 0 n).stop i H ∧ D.nx σ H) ∨ ((Itr 0 n).go i H ∧ ∃ N : L2.St → Hp → Prop, (∀ σ' H', N σ' H' → ∃ m', m' < m ∧ W (i + 1) m' σ' H') ∧ ∀ x H', (Itr 0 n).yld i H x H' → g x σ H' fun σ2 H2 => tb { D with nx := N, ct := N, bk := D.nx } σ2 H2)
theorem q_forRA {ta : TA} {g : TG} {tb : TS} {D : Ends} {σ : L2.St} {H : Hp} (h : ta σ H fun vs H1 => ∃ j : Int, vs = [.int j] ∧ -(2 ^ 62) ≤ j ∧ j < 2 ^ 62 ∧ ForR j.toNat g tb D σ H1) : tFor (iRng1 ta) g tb D σ H := h
theorem forR {n : Nat} {g : TG} {tb : TS} {D : Ends} {σ : L2.St} {H : Hp} (Pv : Nat → L2.St → Hp → Prop) (h0 : Pv 0 σ H)
    (hs : ∀ i σ H, i < n → Pv i σ H → g (.int (0 + (i : Int))) σ H fun σ2 H2 => tb { D with nx := Pv (i + 1), ct := Pv (i + 1), bk := D.nx } σ2 H2) (hd : ∀ σ H, Pv n σ H → D.nx σ H) : ForR n g tb D σ H := for_range Pv h0 hs hd
theorem seq_if {c : TT} {t u R : TS} {D : Ends} {σ : L2.St} {H : Hp} (Pa : L2.St → Hp → Prop) (h2 : ∀ σ H, Pa σ H → R D σ H) (h1 : ∀ N : L2.St → Hp → Prop, (∀ σ H, Pa σ H → N σ H) → tIfS c t u { D with nx := N } σ H) : tSeq (tIfS c t u) R D σ H := h1 (R D) h2
end Hk
set_option Elab.async false
set_option linter.all false
set_option maxRecDepth 100000
set_option maxHeartbeats 4000000
namespace Hk
open PySem PySem.Spec PyProof.Rows L2
/-- an error class of the module: directly under the class at KE, which stands under ValueError -/
structure ECls (K : PySem.W.Frag) (mg : Str → Option Value) (KE : Addr) (x : Str) (C : Addr) : Prop where
  g : mg x = some (.ref C)
  L : ∃ (nm q : Str) (N : Addr) (bs : List Value) (sn : List Str) (sub : List Value) (ab : Bool) (col : Option Bool) (dd : Option Addr) (k0 k1 k2 k3 k5 : Option Value), K.lookup C = some (excClassObj nm q C N bs (.ref KE :: PySem.HandSPX.veTail) true sn sub ab col dd k0 k1 k2 k3 k5 "ValueError.__new__")
  ga : PySem.W.findIn K (.ref C) "__getattribute__" = some (some (.builtin "BaseException.__getattribute__"))
  gg : PySem.W.findIn K (.ref C) "__getattr__" = some none
  gc : PySem.W.findIn K (.ref C) "__class__" = some (some (.builtin "object.__class__"))
  kp : PySem.W.keepIn K (.ref C) = true
section
variable {K : PySem.W.Frag} {mg : Str → Option Value} {KE C : Addr} {x : Str}
theorem ECls.cls (E : ECls K mg KE x C) : ∃ cd : ClassData, PySem.W.clsIn K C = some cd ∧ cd.mro = .ref C :: .ref KE :: PySem.HandSPX.veTail ∧ cd.hasDict = true := by
  obtain ⟨nm, q, N, bs, sn, sub, ab, col, dd, k0, k1, k2, k3, k5, h⟩ := E.L
  refine ⟨_, by unfold PySem.W.clsIn; rw [h], rfl, rfl⟩
theorem ECls.mro (E : ECls K mg KE x C) (v : Value) : PySem.W.mroIn K C v = some ((Value.ref C :: .ref KE :: PySem.HandSPX.veTail).contains v) := by
  obtain ⟨cd, h1, h2, _⟩ := E.cls
  unfold PySem.W.mroIn
  rw [h1, Option.bind_some, h2]
  rfl
theorem ECls.sub (E : ECls K mg KE x C) (v : Value) : PySem.W.subIn K (.ref C) v = some ((Value.ref C :: .ref KE :: PySem.HandSPX.veTail).contains v) := E.mro v
theorem ECls.exC (E : ECls K mg KE x C) : PySem.W.subIn K (.ref C) (.type "BaseException") = some true := by
  rw [E.sub]; congr 1
theorem ECls.ty (E : ECls K mg KE x C) : PySem.W.typeIn K (.ref C) = some (.type "type") := by
  obtain ⟨nm, q, N, bs, sn, sub, ab, col, dd, k0, k1, k2, k3, k5, h⟩ := E.L
  show (K.lookup C).map (·.cls) = _
  rw [h]; rfl
theorem ECls.hd (E : ECls K mg KE x C) : PySem.W.hasDictIn K C = true := by
  obtain ⟨cd, h1, _, h3⟩ := E.cls
  unfold PySem.W.hasDictIn
  rw [h1]; exact h3
theorem ECls.isSome (E : ECls K mg KE x C) : (PySem.W.clsIn K C).isSome = true := by
  obtain ⟨cd, h1, _⟩ := E.cls
  rw [h1]; rfl
/-- what isinstance wants of the class -/
theorem ECls.exc (E : ECls K mg KE x C) (hn : PySem.W.specialIn K (.builtin "object.__class__") "__get__" = some (some (.builtin "getset_descriptor.__get__"))) (ht : PySem.W.takesIn K (.builtin "object.__class__") = some true) : L2.ExcC K C :=
  ⟨E.ga, E.gg, E.exC, E.hd, E.gc, hn, ht, by rw [E.mro]; congr 1⟩
theorem ref_beq (a b : Addr) : (Value.ref a == Value.ref b) = decide (a = b) := by
  by_cases h : a = b
  · subst h; simp
  · rw [decide_eq_false h]; exact beq_eq_false_iff_ne.mpr fun z => h (Value.ref.inj z)
/-- isinstance of an error of the class at C -/
theorem ECls.kitVE (E : ECls K mg KE x C) : PySem.W.kitOne K (.ref C) (.type "ValueError") = some true := by
  unfold PySem.W.kitOne PySem.W.kitCls
  have e : (Value.ref C == Value.type "ValueError") = false := beq_eq_false_iff_ne.mpr (by intro z; cases z)
  rw [e, if_neg (by decide)]
  dsimp only
  rw [if_pos (by decide +kernel), E.sub]
  congr 1
theorem ECls.kit {C2 : Addr} {y : Str} (E : ECls K mg KE x C) (E2 : ECls K mg KE y C2) (ne : C2 ≠ KE) : PySem.W.kitOne K (.ref C) (.ref C2) = some (decide (C = C2)) := by
  unfold PySem.W.kitOne
  rw [ref_beq]
  by_cases h : C = C2
  · rw [if_pos (by simpa using h), decide_eq_true h]
  · rw [if_neg (by simpa using h), decide_eq_false h]
    unfold PySem.W.kitCls
    dsimp only
    rw [if_pos (by rw [E2.isSome, E2.ty]; rfl), E.sub]
    congr 1
    rw [List.contains_cons, List.contains_cons, ref_beq, ref_beq, decide_eq_false (fun z => h z.symm), decide_eq_false ne]
    rfl
/-- except KernelError takes it -/
theorem ECls.exm (E : ECls K mg KE x C) (h1 : PySem.W.subIn K (.ref KE) (.type "BaseException") = some true) (hd : PySem.W.hasDictIn K KE = true) (ht : PySem.W.typeIn K (.ref KE) = some (.type "type")) : PySem.W.exmOne K (.ref C) (.ref KE) = some true := by
  refine PySem.W.exm_ref h1 hd ht ?_
  rw [E.sub]
  congr 1
  rw [List.contains_cons, List.contains_cons, ref_beq, ref_beq, decide_eq_true (rfl : KE = KE)]
  simp
end
/-- a def that may raise, as a promise by its name -/
structure CalX (P : Program) (w : World) (K : PySem.W.Frag) (mg : Str → Option Value) (base : Heap) (k : Nat) (x : Str) (ps : List Str) (sp : Sp) : Prop where
  ex : ∃ f fd, mg x = some (.ref f) ∧ PySem.W.keepIn K (.ref f) = true ∧ Binds K fd ps [] ∧ FnOk P w K mg base (L2.CX P w) k f fd ps sp
theorem DefAt.calX {P : Program} {w : World} {K : PySem.W.Frag} {mg : Str → Option Value} {base : Heap} {k : Nat} {x : Str} {st : Stmt} {ps : List Str} {sp : Sp} (d : DefAt K mg x st ps)
    (h : ∀ f fd, Fun K x x st f fd → FnOk P w K mg base (L2.CX P w) k f fd ps sp) : CalX P w K mg base k x ps sp := by
  obtain ⟨f, fd, F, g, b⟩ := d.ex
  exact ⟨f, fd, g, F.kp, b, h f fd F⟩
section
variable {X : Cx} {k : Nat} {x : Str} {ps : List Str} {sp : Sp} {spE : Addr × Obj → Sp} {p pos : Pos} {e : Expr} {es : List Expr} {t : TA} {W : WX} {pp : Addr × Obj}
theorem pe_calX (c : CalX X.prog X.w X.K X.mg X.base k x ps sp) (hr : Room k X.A) (hg : Gl X x) (tk : Takes X W) (ha : PA X (e :: es) t) (hdb : (x == ("__debug__" : Str)) = false := by decide)
    (he : starEach (e :: es) X.env = (false, eval e X.env) :: starEach es X.env := by rfl) (hpl : (backTo pos (starEach es X.env)).any (·.1) = false := by rfl) : PE X (.Call (.Name x p) (e :: es) [] pos) (tCallS sp (WE W) t) := by
  obtain ⟨f, fd, g, kp, b, F⟩ := c.ex
  exact pe_callS F hr hg g kp b (fun σ => passAt tk σ) ha hdb he hpl
end
end Hk
set_option Elab.async false
set_option linter.all false
set_option maxRecDepth 100000
set_option maxHeartbeats 4000000
namespace Hk
open PySem PySem.Spec PyProof.Rows L2
theorem vals_si {z : Str} {i : Int} {us : List Value} (r : Vals [.str z, .int i] us) : ∃ t u, us = [.str z t, .int i u] := by
  match us, r with
  | [_, _], .cons ⟨t, e⟩ (.cons ⟨u, f⟩ .nil) => exact ⟨t, u, by rw [e, f]⟩
theorem q_callS {sp : Sp} {E : L2.St → XK} {t : TA} {σ : L2.St} {H : Hp} {Q : VK} (h : t σ H fun vs H1 => sp vs H1 Q (E σ)) : tCallS sp E t σ H Q := h
theorem pss_all {X : Cx} {st : List Stmt} {t : Obj → TS} {cls : Value} {d : Option Addr} {oe : Obj} (hz : Zc cls d oe) (hf : ∃ vs, oe.data = .fields vs) (h : PSs X st (t oe)) : PSs X st (fun D σ H => ∀ oe, Zc cls d oe → (∃ vs, oe.data = .fields vs) → t oe D σ H) :=
  ⟨fun pins s σ H D I q => h.run pins s σ H D I (q oe hz hf)⟩
theorem iteT' {c : Bool} {A B : Prop} (h : c = true) (a : A) : if c = true then A else B := by rw [if_pos h]; exact a
theorem iteF' {c : Bool} {A B : Prop} (h : c = false) (b : B) : if c = true then A else B := by rw [h]; exact iteF b
theorem q_eqI {i j : Int} {Q : VK} {H : Hp} (q : Q (.bl (decide (i = j))) H) : rEq (.int i) (.int j) H Q := ⟨rfl, by
  have e : decide (V.int i = V.int j) = decide (i = j) := decide_eq_decide.mpr ⟨fun h => V.int.inj h, fun h => by rw [h]⟩
  rw [e]; exact q⟩
end Hk
set_option Elab.async false
set_option linter.all false
set_option maxRecDepth 100000
namespace Hk
open L2
open PySem PySem.Spec PyProof.Rows
mutual
theorem dp_plain {K : PySem.W.Frag} {H : Hp} : ∀ {v : V} {d : PyData}, Dp K H v d → d.plain = true
  | _, _, .non => rfl
  | _, _, .bl b => rfl
  | _, _, .int i => rfl
  | _, _, .str x => rfl
  | _, _, .lst h a => by simp only [PyData.plain]; exact dpAll_plain a
  | _, _, .tup h a => by simp only [PyData.plain]; exact dpAll_plain a
theorem dpAll_plain {K : PySem.W.Frag} {H : Hp} : ∀ {vs : List V} {ds : List PyData}, DpAll K H vs ds → PyData.plainAll ds = true
  | _, _, .nil => rfl
  | _, _, .cons h t => by simp only [PyData.plainAll, Bool.and_eq_true]; exact ⟨dp_plain h, dpAll_plain t⟩
end
section
variable {X : Cx} {H : Hp} {pins : List (Addr × Obj)} {σ : L2.St} {s : Shared}
theorem data_eqP (I : Inv X pins σ H s) {A : Around} {x y : V} {v u : Value} {d e : PyData} (hd : Dp X.K H x d) (he : Dp X.K H y e) (rx : RelV x v) (ry : RelV y u) (hu : A.units + min d.depth e.depth < cLine) : SeqAt.EqP X.prog X.w A s v u (PyData.eqv d e) := by
  have readX := Dp.reads I d x v hd rx
  have readY := Dp.reads I e y u he ry
  exact (SeqAt.eqAt_plain d e A s v u _ _ readX.choose_spec readY.choose_spec (dp_plain hd) (dp_plain he) hu).eqP
/-- the entries of two dicts with data, by the first's keys -/
def allEqv (l1 l2 : List (Str × PyData)) : Bool := l1.all fun p => match l2.lookup p.1 with
  | some e => PyData.eqv p.2 e
  | none => false
theorem hits_data (I : Inv X pins σ H s) {A : Around} {ls : List (Key × V)} {vb : List (Key × Value)} (rb : KV ls vb) {l2 : List (Str × PyData)} (hb : Paired (fun p q => p.1 = Sum.inr q.1 ∧ Dp X.K H p.2 q.2) ls l2) {ks : List (Key × V)} {va : List (Key × Value)} (ra : KV ks va) :
    ∀ {l1 : List (Str × PyData)}, Paired (fun p q => p.1 = Sum.inr q.1 ∧ Dp X.K H p.2 q.2) ks l1 → (∀ p ∈ l1, ∃ e, l2.lookup p.1 = some e ∧ A.units + min p.2.depth e.depth < cLine) → PySem.W.KeqHitsP X.prog X.w A s vb va (allEqv l1 l2) := by
  unfold KV at ra
  induction ra with
  | nil => intro l1 h1 _; cases h1; exact .nil
  | @cons p q ps qs h t k =>
    intro l1 h1 hp
    cases h1 with
    | @cons _ q1 _ l1 g g2 =>
    obtain ⟨h1, h2⟩ := h
    obtain ⟨e, el, hu⟩ := hp q1 List.mem_cons_self
    obtain ⟨z, zv, zd⟩ := pairedKV_get hb el
    have rr : RelO (some z) (valueAt vb p.1) := by rw [← zv, ← g.1]; exact rb.val p.1
    obtain ⟨yv, hy, ry⟩ := rr.some_of
    obtain ⟨key, v⟩ := q
    have h1' : p.1 = key := h1
    rw [h1'] at hy
    have ee : allEqv (q1 :: l1) l2 = (PyData.eqv q1.2 e && allEqv l1 l2) := by
      simp [allEqv, el]
    rw [ee]
    exact .hit hy (data_eqP I g.2 zd h2 ry hu) (k g2 fun p' hm => hp p' (List.mem_cons_of_mem _ hm))
end
section
variable {X : Cx}
/-- a == b, two dicts of data under the same keys -/
def rEqKV (K : PySem.W.Frag) : R2 := fun x y H Q => ∃ (a b : Addr) (ks ls : List (Key × V)) (l1 l2 : List (Str × PyData)), x = .ref a ∧ y = .ref b ∧ H a = some (.dK ks) ∧ H b = some (.dK ls) ∧ Paired (fun p q => p.1 = Sum.inr q.1 ∧ Dp K H p.2 q.2) ks l1 ∧ Paired (fun p q => p.1 = Sum.inr q.1 ∧ Dp K H p.2 q.2) ls l2 ∧
  l1.length = l2.length ∧ (∀ p ∈ l1, ∃ e, l2.lookup p.1 = some e ∧ p.2.depth ≤ 60) ∧ Q (.bl (allEqv l1 l2)) H
theorem op_eqKV (hu : X.A.units + 64 < cLine) : OpR X (compareOp .Eq) (rEqKV X.K) := by
 refine Hk.hold ?_
 simp (disch := with_unfolding_all (
 exact Hk.disch (by
  intro pn sh σ Hh xv yv v u Qk I relX relY told
  obtain ⟨d1, d2, ks, ls, l1, l2, rfl, rfl, at1, at2, p1, p2, hl, hp, q⟩ := told
  obtain rfl : v = .ref d1 := relX
  obtain rfl : u = .ref d2 := relY
  have ok1 : ObjOk X.prog X.w Hh sh.heap d1 (.dK ks) := I.hok d1 _ at1
  have ok2 : ObjOk X.prog X.w Hh sh.heap d2 (.dK ls) := I.hok d2 _ at2
  obtain ⟨_, n1, vs1, kv1, of1⟩ := ok1
  obtain ⟨_, n2, vs2, kv2, of2⟩ := ok2
  have e : vs1.length = vs2.length := by rw [← kv1.length, ← kv2.length, Paired.length p1, Paired.length p2, hl]
  refine PySem.W.rcP_dicts (knd := mixKind X.prog X.w) (r := allEqv l1 l2) n1 n2 of1 of2 (by omega) (fun _ => hits_data I kv2 p2 kv1 p1 fun p hm => ?_) X.xe _ ?_
  · obtain ⟨e, el, hd⟩ := hp p hm
    refine ⟨e, el, ?_⟩
    show X.A.units + 1 + _ < cLine
    omega
  · rw [show (vs1.length == vs2.length && allEqv l1 l2) = allEqv l1 l2 from by rw [e]; simp]
    exact ⟨.bl _, Hh, I, rfl, q⟩))) only [↓Hk.hold_s]
/-- a == b by an own __eq__ that answers with a bool -/
def rEqI (C : Addr) (sp : Sp) : R2 := fun x y H Q => ∃ a b dx dy fs gs, x = .ref a ∧ y = .ref b ∧ H a = some (.ins C dx fs) ∧ H b = some (.ins C dy gs) ∧ sp [.ref a, .ref b] H (fun v H' => ∃ k, v = .bl k ∧ Q (.bl k) H') E0
theorem op_eqI {k : Nat} {C : Addr} {ps : List Str} {sp : Sp} (c : MCal X.prog X.w X.K X.mg X.base k C "__eq__" ps sp) (hr : Room k X.A) (hu : X.A.units < cLine) : OpR X (compareOp .Eq) (rEqI C sp) := by
 refine Hk.hold ?_
 simp (disch := with_unfolding_all (
 exact Hk.disch (by
  intro pn sh σ Hh xv yv v u Qk I relX relY told
  obtain ⟨o1, o2, dx, dy, fs, gs, rfl, rfl, at1, at2, promise⟩ := told
  cases relX
  cases relY
  obtain ⟨f, fd, M, bound, F⟩ := c.ex
  obtain ⟨_, inst1, _⟩ := ins_get I.hok at1
  obtain ⟨_, inst2, _⟩ := ins_get I.hok at2
  obtain ⟨_, look1, _⟩ := inst1.look
  obtain ⟨_, look2, _⟩ := inst2.look
  obtain ⟨_, frame⟩ := I.fr
  refine PySem.W.cmp_K (op := .Eq) (tb := .ref C) hu frame I.ok.mod.kin look1 look2.type (by simp [PySem.W.notFirst]) M.at_ M.fn ?_
  have len := F.len _ _ _ _ promise
  have pair : Vals [V.ref o1, V.ref o2] [Value.ref o1, Value.ref o2] := Paired.cons rfl (Paired.cons rfl Paired.nil)
  have given := bound sh [.ref o1, .ref o2] I.kIn (by simpa using len)
  rw [List.append_nil] at given
  refine wpAny_call (codeAny_mono (F.run X.A X.stack sh Hh ⟨[.ref o1, .ref o2], []⟩ [.ref o1, .ref o2] [.ref o1, .ref o2] _ E0 hr I.env0 given pair promise) fun out sh2 back => ?_)
  match out, back with
  | .error e, back => exact pass0 pn σ Hh sh e sh2 I back
  | .ok (.ret w), back =>
    obtain ⟨z, H2, I2, rz, k, ez, qk⟩ := I.after back
    subst ez
    cases rz
    exact ⟨.bl k, H2, I2, rfl, qk⟩
  | .ok .next, back => exact back.elim
  | .ok .brk, back => exact back.elim
  | .ok .cont, back => exact back.elim))) only [↓Hk.hold_s]
end
end Hk
set_option Elab.async false
set_option linter.all false
set_option maxRecDepth 100000
namespace Hk
open L2
open PySem PySem.Spec PyProof.Rows
/-- all but what stands at Z is as it was -/
def OffZ (Z : List Addr) (H H' : Hp) : Prop := ∀ b o, H b = some o → b ∉ Z → H' b = some o
theorem OffZ.refl {Z : List Addr} {H : Hp} : OffZ Z H H := fun _ _ h _ => h
theorem OffZ.of {Z : List Addr} {H H' : Hp} (s : Same H H') : OffZ Z H H' := fun b o h _ => s b o h
theorem OffZ.trans {Z : List Addr} {H H1 H2 : Hp} (a : OffZ Z H H1) (b : OffZ Z H1 H2) : OffZ Z H H2 := fun x o h n => b x o (a x o h n) n
theorem OffZ.mono {Z Z' : List Addr} {H H' : Hp} (a : OffZ Z H H') (h : ∀ x ∈ Z, x ∈ Z') : OffZ Z' H H' := fun b o e n => a b o e fun z => n (h b z)
def leafD : PyData → Prop | .none => True | .bool _ => True | .int _ => True | .str _ => True | _ => False
inductive OwnsAll (F : V → PyData → List Addr → Prop) : List V → List PyData → List Addr → Prop
  | nil : OwnsAll F [] [] []
  | cons {x : V} {xs : List V} {d : PyData} {ds : List PyData} {S T : List Addr} : F x d S → OwnsAll F xs ds T → (∀ a ∈ S, a ∉ T) → OwnsAll F (x :: xs) (d :: ds) (S ++ T)
/-- v tells d in H; its lists are S, each once; k deep -/
def OwnV (K : PySem.W.Frag) : Nat → Hp → V → PyData → List Addr → Prop
  | 0, _, _, _, _ => False
  | k + 1, H, v, d, S => (leafD d ∧ Dp K H v d ∧ S = []) ∨
      (∃ a xs ds T, v = .ref a ∧ d = .list ds ∧ H a = some (.lst xs) ∧ ds.length ≤ 1000 ∧ S = a :: T ∧ a ∉ T ∧ OwnsAll (OwnV K k H) xs ds T) ∨
      (∃ a xs ds, v = .ref a ∧ d = .tuple ds ∧ SqT K H a xs ∧ ds.length ≤ 1000 ∧ OwnsAll (OwnV K k H) xs ds S)
section
variable {K : PySem.W.Frag} {H H' : Hp} {Z : List Addr}
theorem OwnsAll.imp {F G : V → PyData → List Addr → Prop} {xs : List V} {ds : List PyData} {T : List Addr} (h : OwnsAll F xs ds T) : (∀ x d S, F x d S → (∀ a ∈ S, a ∈ T) → G x d S) → OwnsAll G xs ds T := by
  induction h with
  | nil => intro _; exact .nil
  | cons f t n ih =>
    intro k
    exact .cons (k _ _ _ f fun a ha => List.mem_append_left _ ha) (ih fun x d S g hs => k x d S g fun a ha => List.mem_append_right _ (hs a ha)) n
theorem OwnsAll.length {F : V → PyData → List Addr → Prop} {xs : List V} {ds : List PyData} {T : List Addr} (h : OwnsAll F xs ds T) : xs.length = ds.length := by
  induction h with
  | nil => rfl
  | cons f t n ih => simp [ih]
theorem dp_leaf {v : V} {d : PyData} (l : leafD d) (h : Dp K H v d) : Dp K H' v d := by
  cases h with
  | non => exact .non
  | bl b => exact .bl b
  | int i => exact .int i
  | str z => exact .str z
  | lst _ _ => exact l.elim
  | tup _ _ => exact l.elim
theorem offZ_seqT {a : Addr} {xs : List V} (hZ : ∀ x ∈ Z, ∃ ys, H x = some (.lst ys)) (o : OffZ Z H H') (h : SqT K H a xs) : SqT K H' a xs := by
  rcases h with h | h
  · rcases h with h | ⟨u, h⟩
    · exact .inl (.inl (o _ _ h fun z => by obtain ⟨ys, e⟩ := hZ _ z; rw [h] at e; cases e))
    · exact .inl (.inr ⟨u, o _ _ h fun z => by obtain ⟨ys, e⟩ := hZ _ z; rw [h] at e; cases e⟩)
  · exact .inr h
/-- elsewhere lists have changed -/
theorem OwnV.off (hZ : ∀ x ∈ Z, ∃ ys, H x = some (.lst ys)) (o : OffZ Z H H') : ∀ {k : Nat} {v : V} {d : PyData} {S : List Addr}, (∀ a ∈ S, a ∉ Z) → OwnV K k H v d S → OwnV K k H' v d S
  | k + 1, v, d, S, hS, .inl ⟨l, h, e⟩ => .inl ⟨l, dp_leaf l h, e⟩
  | k + 1, v, d, S, hS, .inr (.inl ⟨a, xs, ds, T, e1, e2, e3, e4, e5, e6, e7⟩) => by
    subst e5
    exact .inr (.inl ⟨a, xs, ds, T, e1, e2, o _ _ e3 (hS a List.mem_cons_self), e4, rfl, e6, e7.imp fun x d S' h hs => OwnV.off hZ o (fun b hb => hS b (List.mem_cons_of_mem _ (hs b hb))) h⟩)
  | k + 1, v, d, S, hS, .inr (.inr ⟨a, xs, ds, e1, e2, e3, e4, e5⟩) => .inr (.inr ⟨a, xs, ds, e1, e2, offZ_seqT hZ o e3, e4, e5.imp fun x d S' h hs => OwnV.off hZ o (fun b hb => hS b (hs b hb)) h⟩)
theorem OwnV.mono (s : Same H H') {k : Nat} {v : V} {d : PyData} {S : List Addr} (h : OwnV K k H v d S) : OwnV K k H' v d S := OwnV.off (Z := []) (fun _ h => by cases h) (OffZ.of s) (fun _ _ h => by cases h) h
theorem OwnsAll.off {k : Nat} (hZ : ∀ x ∈ Z, ∃ ys, H x = some (.lst ys)) (o : OffZ Z H H') {xs : List V} {ds : List PyData} {T : List Addr} (hT : ∀ a ∈ T, a ∉ Z) (h : OwnsAll (OwnV K k H) xs ds T) : OwnsAll (OwnV K k H') xs ds T :=
  h.imp fun x d S' h hs => OwnV.off hZ o (fun b hb => hT b (hs b hb)) h
theorem OwnsAll.mono {k : Nat} (s : Same H H') {xs : List V} {ds : List PyData} {T : List Addr} (h : OwnsAll (OwnV K k H) xs ds T) : OwnsAll (OwnV K k H') xs ds T := h.imp fun x d S' h hs => h.mono s
theorem OwnsAll.all {F : V → PyData → List Addr → Prop} {P : Addr → Prop} {xs : List V} {ds : List PyData} {T : List Addr} (h : OwnsAll F xs ds T) : (∀ x d S, F x d S → ∀ a ∈ S, P a) → ∀ a ∈ T, P a := by
  induction h with
  | nil => intro _ a ha; cases ha
  | cons f t n ih =>
    intro k a ha
    rcases List.mem_append.mp ha with h | h
    · exact k _ _ _ f a h
    · exact ih k a h
/-- as data -/
theorem OwnsAll.dpAll {F : V → PyData → List Addr → Prop} {xs : List V} {ds : List PyData} {T : List Addr} (h : OwnsAll F xs ds T) : (∀ x d S, F x d S → Dp K H x d) → DpAll K H xs ds := by
  induction h with
  | nil => intro _; exact .nil
  | cons f t n ih => intro k; exact .cons (k _ _ _ f) (ih k)
theorem OwnV.dp : ∀ {k : Nat} {v : V} {d : PyData} {S : List Addr}, OwnV K k H v d S → Dp K H v d
  | k + 1, v, d, S, .inl ⟨_, h, _⟩ => h
  | k + 1, v, d, S, .inr (.inl ⟨b, xs, ds, T, e1, e2, e3, e4, e5, e6, e7⟩) => by
    subst e1 e2
    exact .lst (SqL.of e3) (e7.dpAll fun x d S f => OwnV.dp f)
  | k + 1, v, d, S, .inr (.inr ⟨b, xs, ds, e1, e2, e3, e4, e5⟩) => by
    subst e1 e2
    exact .tup e3 (e5.dpAll fun x d S f => OwnV.dp f)
theorem OwnV.nodup_nil {k : Nat} {v : V} {d : PyData} (l : leafD d) (h : Dp K H v d) : OwnV K (k + 1) H v d [] := .inl ⟨l, h, rfl⟩
/-- a thing without lists: it stays where lists change -/
def noList : PyData → Prop | .list _ => False | .tuple ds => ∀ d ∈ ds, leafD d | .dict _ => False | _ => True
end
end Hk
set_option Elab.async false
set_option linter.all false
set_option maxRecDepth 100000
namespace Hk
open L2
open PySem PySem.Spec PyProof.Rows
end Hk
set_option Elab.async false
set_option linter.all false
set_option maxRecDepth 100000
namespace Hk
open L2
open PySem PySem.Spec PyProof.Rows
end Hk
set_option Elab.async false
set_option linter.all false
set_option maxRecDepth 100000
set_option maxHeartbeats 4000000
namespace Hk
open PySem PySem.Spec PyProof.Rows L2
end Hk
set_option Elab.async false
set_option linter.all false
set_option maxRecDepth 100000
set_option maxHeartbeats 4000000
namespace Hk
open PySem PySem.Spec PyProof.Rows L2
theorem zip_lookup : ∀ {ps : List Str} {us : List Value}, us.length = ps.length → ∀ n ∈ ps, ((ps.zip us).lookup n).isSome = true
  | [], _, _, n, h => by simp at h
  | p :: ps, [], l, _, _ => by simp at l
  | p :: ps, u :: us, l, n, h => by
    rw [List.zip_cons_cons, List.lookup_cons]
    cases e : n == p with
    | true => rfl
    | false =>
      have h2 : n ∈ ps := by
        rcases List.mem_cons.mp h with rfl | h
        · simp at e
        · exact h
      exact zip_lookup (by simpa using l) n h2
theorem fm_congr {α β : Type} {f g : α → Option β} : ∀ {l : List α}, (∀ x ∈ l, f x = g x) → l.filterMap f = l.filterMap g
  | [], _ => rfl
  | x :: l, h => by rw [List.filterMap_cons, List.filterMap_cons, h x List.mem_cons_self, fm_congr fun y hy => h y (List.mem_cons_of_mem _ hy)]
theorem zip_back : ∀ {ps : List Str} {us : List Value}, us.length = ps.length → ps.Nodup → (ps.filterMap fun n => ((ps.zip us).lookup n).map (n, ·)) = ps.zip us
  | [], us, l, _ => rfl
  | p :: ps, [], l, _ => by simp at l
  | p :: ps, u :: us, l, nd => by
    rw [List.nodup_cons] at nd
    rw [List.zip_cons_cons, List.filterMap_cons]
    simp only [List.lookup_cons, beq_self_eq_true, Option.map_some]
    congr 1
    have ih := zip_back (ps := ps) (us := us) (by simpa using l) nd.2
    refine Eq.trans (fm_congr fun n hn => ?_) ih
    have ne : (n == p) = false := by
      cases e : n == p with
      | false => rfl
      | true => exact absurd (by rw [← eq_of_beq e]; exact hn) nd.1
    rw [ne]
theorem bindArgs_plain {fd : FuncData} {as : List Arg} {us : List Value} (hp : fd.params = ⟨[], as, none, [], [], none, []⟩) (hd : fd.defaults = .none) (nd : (as.map (·.arg)).Nodup) (l : us.length = (as.map (·.arg)).length) : bindArgs fd ⟨us, []⟩ = pure ((as.map (·.arg)).zip us) := by
 refine Hk.hold ?_
 simp (disch := with_unfolding_all (
 exact Hk.disch (by
  have e1 : (List.filter (fun n => (((as.map (·.arg)).zip us).lookup n).isNone) (List.take (as.map (·.arg)).length (as.map (·.arg)))) = [] := by
    rw [List.take_length, List.filter_eq_nil_iff]
    intro n hn
    have z := zip_lookup l n hn
    rw [Option.isSome_iff_ne_none] at z
    simp [Option.isNone_iff_eq_none, z]
  have e2 := zip_back l nd
  have e3 : notAStandIn Value.none = pure () := rfl
  unfold bindArgs
  rw [hp, hd]
  simp only [List.map_nil, List.nil_append, List.append_nil, l, Nat.lt_irrefl, gt_iff_lt, Bool.false_and, decide_false, seqItems?, e3, pure_bind, Option.getD_none, List.drop_nil, List.length_nil, Nat.sub_zero, List.zip_nil_right, List.forIn_nil, e1, List.isEmpty_nil, Bool.not_true, e2, Bool.false_eq_true, if_false]))) only [↓Hk.hold_s]
theorem _root_.L2.Fun.bindsP {K : PySem.W.Frag} {x qual : Str} {st : Stmt} {f : Addr} {fd : FuncData} {as : List Arg} {ps : List Str} (F : Fun K x qual st f fd) (h : defArgs st = ⟨[], as, none, [], [], none, []⟩) (hp : as.map (·.arg) = ps) (nd : ps.Nodup) : Binds K fd ps [] :=
  F.binds fun kV doc pm an cdv ct us hl => by
    subst hp
    exact bindArgs_plain (fd := PySem.W.fnOf x qual (defArgs st) (defBody st) (defScope st) .none kV doc pm an cdv ct) h rfl nd hl
end Hk
set_option Elab.async false
set_option linter.all false
set_option maxRecDepth 100000
set_option maxHeartbeats 4000000
namespace Hk
open PySem PySem.Spec PyProof.Rows L2
theorem str_cps {a b : Str} (h : a.cps.toList = b.cps.toList) : a = b := by
  cases a with | _ x => cases b with | _ y => cases x; cases y; cases h; rfl
theorem cps_tri (a b : Str) : a.cps.toList < b.cps.toList ∨ a = b ∨ b.cps.toList < a.cps.toList := by
  by_cases h1 : a.cps.toList < b.cps.toList
  · exact .inl h1
  · by_cases h2 : b.cps.toList < a.cps.toList
    · exact .inr (.inr h2)
    · exact .inr (.inl (str_cps (List.le_antisymm (List.not_lt.mp h2) (List.not_lt.mp h1))))
def ltWIp (a b : Str × Int) : Prop := a.1.cps.toList < b.1.cps.toList ∨ (a.1 = b.1 ∧ a.2 < b.2)
theorem ltWI_iff {a b : Str × Int} : ltWI a b = true ↔ ltWIp a b := by
  unfold ltWI ltWIp
  by_cases e : a.1 = b.1
  · rw [if_pos e, decide_eq_true_eq, e]
    have n := List.lt_irrefl b.1.cps.toList
    exact ⟨fun h => .inr ⟨rfl, h⟩, fun h => h.elim (fun z => absurd z n) (·.2)⟩
  · rw [if_neg e, decide_eq_true_eq]
    exact ⟨.inl, fun h => h.elim id fun z => absurd z.1 e⟩
theorem ltWI_no {a b : Str × Int} : ltWI a b = false ↔ ¬ ltWIp a b := by
  rw [← ltWI_iff]; cases ltWI a b <;> simp
theorem ltWIp_irrefl (a : Str × Int) : ¬ ltWIp a a := fun h => h.elim (List.lt_irrefl _) fun z => Int.lt_irrefl _ z.2
theorem ltWIp_trans {a b c : Str × Int} (h1 : ltWIp a b) (h2 : ltWIp b c) : ltWIp a c := by
  rcases h1 with h1 | ⟨e1, h1⟩
  · rcases h2 with h2 | ⟨e2, h2⟩
    · exact .inl (List.lt_trans h1 h2)
    · exact .inl (by rw [← e2]; exact h1)
  · rcases h2 with h2 | ⟨e2, h2⟩
    · exact .inl (by rw [e1]; exact h2)
    · exact .inr ⟨e1.trans e2, by omega⟩
theorem ltWIp_tri (a b : Str × Int) : ltWIp a b ∨ a = b ∨ ltWIp b a := by
  rcases cps_tri a.1 b.1 with h | h | h
  · exact .inl (.inl h)
  · rcases Int.lt_trichotomy a.2 b.2 with i | i | i
    · exact .inl (.inr ⟨h, i⟩)
    · exact .inr (.inl (Prod.ext h i))
    · exact .inr (.inr (.inr ⟨h.symm, i⟩))
  · exact .inr (.inr (.inl h))
theorem ltWIp_ge {a b c : Str × Int} (h1 : ¬ ltWIp b a) (h2 : ¬ ltWIp c b) : ¬ ltWIp c a := by
  intro h
  rcases ltWIp_tri a b with z | z | z
  · rcases ltWIp_tri b c with y | y | y
    · exact ltWIp_irrefl _ (ltWIp_trans h (ltWIp_trans z y))
    · subst y; exact ltWIp_irrefl _ (ltWIp_trans h z)
    · exact h2 y
  · subst z; exact h2 h
  · exact h1 z
theorem swo_WI {α : Type} (k : α → Str × Int) : SrtO.Swo fun v u => ltWI (k v) (k u) :=
  ⟨fun x y h => ltWI_no.mpr fun z => ltWIp_irrefl _ (ltWIp_trans (ltWI_iff.mp h) z), fun x y z h1 h2 => ltWI_no.mpr (ltWIp_ge (ltWI_no.mp h1) (ltWI_no.mp h2))⟩
def IsWI (h : Heap) (v : Value) (p : Str × Int) : Prop := ∃ a o t u n, v = .ref a ∧ h.get? a = some o ∧ o.cls = .type "tuple" ∧ o.data = .seq #[.str p.1 t, .int p.2 u] n
theorem IsWI.keeps {h h' : Heap} {v : Value} {q : Str × Int} (p : IsWI h v q) (k : ∀ b o, h.get? b = some o → o.cls = .type "tuple" → h'.get? b = some o) : IsWI h' v q := by
  obtain ⟨a, o, t, u, n, e, ho, hc, hd⟩ := p
  exact ⟨a, o, t, u, n, e, k _ _ ho hc, hc, hd⟩
section
variable {prog : Program} {w : World} {A : Around} {E : Value → Shared → Prop} {s : Shared}
theorem wi_cmp {vs : List Value} {k : Value → Str × Int} (hp : ∀ v ∈ vs, IsWI s.heap v (k v)) : SrtO.Cmp prog w A s (tuples' true) (fun p => p.1 ∈ vs) (SrtO.lt2 fun v u => ltWI (k v) (k u)) := by
 refine Hk.hold ?_
 simp (disch := with_unfolding_all (
 exact Hk.disch (by
  intro p q hm hm'
  have h1 := hp _ hm
  have h2 := hp _ hm'
  show wpAny (model prog w) A (keyLt' (tuples' true) p.1 q.1) (fun r s' => s' = s ∧ r = ltWI (k p.1) (k q.1)) (fun _ _ => False) s
  unfold ltWI
  generalize (k p.1) = kx at h1 ⊢
  generalize (k q.1) = ky at h2 ⊢
  obtain ⟨x, y⟩ := kx
  obtain ⟨x', y'⟩ := ky
  obtain ⟨a, o, t, u, n, e, ho, hc, hd⟩ := h1
  obtain ⟨a', o', t', u', n', e', ho', hc', hd'⟩ := h2
  rw [e, e']
  refine PySem.W.kat_lt ho hd ho' hd' ?_
  show PySem.W.KatLex prog w A true (decide (2 < 2)) _ [(.str x t, .str x' t'), (.int y u, .int y' u')] 0 s
  refine PySem.W.kat_cons (SeqAt.EqAt.str_str x t x' t' prog w _ _ ?_)
  refine PySem.W.kat_go (fun e1 => ?_) (fun e1 => ?_)
  · have ex : x = x' := by simpa using e1
    refine PySem.W.kat_yes (PySem.W.kat_cons (SeqAt.EqAt.int_int y u y' u' prog w _ _ ?_))
    refine PySem.W.kat_go (fun e2 => ?_) (fun e2 => ?_)
    · have ey : y = y' := by simpa using e2
      have e3 : (if x = x' then decide (y < y') else decide (x.cps.toList < x'.cps.toList)) = false := by
        rw [if_pos ex, ey]
        exact decide_eq_false (Int.lt_irrefl _)
      exact PySem.W.kat_yes (PySem.W.kat_nil ⟨rfl, e3.symm⟩)
    · have e3 : (if x = x' then decide (y < y') else decide (x.cps.toList < x'.cps.toList)) = decide (y < y') := if_pos ex
      refine PySem.W.kat_no (PySem.W.kat_one _ _ (PyProof.Rows.lt_int ?_))
      exact (show s = s ∧ decide (y < y') = (if x = x' then decide (y < y') else decide (x.cps.toList < x'.cps.toList)) from ⟨rfl, e3.symm⟩)
  · have ex : ¬ x = x' := by simpa using e1
    have e3 : (if x = x' then decide (y < y') else decide (x.cps.toList < x'.cps.toList)) = decide (x.cps.toList < x'.cps.toList) := if_neg ex
    exact PySem.W.kat_no (oneLt_str ⟨rfl, e3.symm⟩)))) only [↓Hk.hold_s]
theorem wi_firsts {h : Heap} {k : Value → Str × Int} : ∀ {vs : List Value}, (∀ v ∈ vs, IsWI h v (k v)) → ∃ fs : List Value, PySem.W.KatTups h vs fs ∧ fs.length = vs.length ∧ ∀ f ∈ fs, ∃ x t, f = Value.str x t
  | [], _ => ⟨[], PySem.W.KatTups.nil, rfl, fun _ hm => by simp at hm⟩
  | v :: vs, hp => by
    obtain ⟨fs, h1, h2, h3⟩ := wi_firsts (vs := vs) fun v' hm => hp v' (List.mem_cons_of_mem _ hm)
    obtain ⟨a, o, t, u, n, e, ho, hc, hd⟩ := hp v (List.mem_cons_self ..)
    subst e
    refine ⟨.str _ t :: fs, PySem.W.KatTups.cons ho hc hd rfl h1, by rw [List.length_cons, List.length_cons, h2], fun f hm => ?_⟩
    rcases List.mem_cons.mp hm with rfl | hm
    · exact ⟨_, t, rfl⟩
    · exact h3 f hm
theorem wi_sortable {a : Addr} {vs : List Value} {k : Value → Str × Int} (h0 : 0 < vs.length) (hp : ∀ v ∈ vs, IsWI s.heap v (k v)) (ha : ∀ o, s.heap.get? a = some o → o.cls ≠ .type "tuple") : SrtO.SortableO prog w A s a vs fun v u => ltWI (k v) (k u) := by
  intro h' keep
  have hp' : ∀ v ∈ vs, IsWI h' v (k v) := fun v hm => (hp v hm).keeps fun b o e c => keep b o (fun z => by subst z; exact ha o e c) e
  obtain ⟨fs, h1, h2, h3⟩ := wi_firsts hp'
  refine ⟨tuples' true, fun Q E hq => ?_, wi_cmp hp'⟩
  refine PySem.W.kat_kind (T := .type "str") h1 (by omega) (fun f hm => ?_) (by rfl) ?_
  · obtain ⟨x, t, rfl⟩ := h3 f hm
    exact PySem.W.Looks.now
  · have e : (Value.type "str" != Value.type "tuple") = true := by first | decide +kernel | rfl | decide
    rw [e]
    exact hq
/-- sorted(l), l a list or a tuple of pairs (text, int) -/
theorem sorted_wi {l : Addr} {T : String} {o : Obj} {n : Nat} {vs : List Value} {k : Value → Str × Int} {Q : Value → Shared → Prop} (hT : T = "list" ∨ T = "tuple") (ho : s.heap.get? l = some o) (hc : o.cls = .type T) (hd : o.data = .seq vs.toArray n) (hz : vs.length ≤ sizeLine) (hp : ∀ v ∈ vs, IsWI s.heap v (k v))
    (h : ∀ (h' : Heap) (d : Addr) (out : List Value), SrtO.Srtd (fun v u => ltWI (k v) (k u)) out → out.Perm vs → (∀ b o, s.heap.get? b = some o → h'.get? b = some o) → s.heap.get? d = none → (∀ H : Hp, HOk prog w H s.heap → H d = none) → (∃ n, h'.get? d = some (seqObj "list" out.toArray n)) → Q (.ref d) { s with heap := h' }) :
    wpAny (model prog w) A (call (.builtin "sorted") [.ref l]) Q E s := by
 refine Hk.hold ?_
 simp (disch := with_unfolding_all (
 exact Hk.disch (by
  refine Calls.call_function_entry kind_sorted plain_sorted entry_sorted (args_sorted1 _) ?_
  unfold Builtin.«sorted»
  refine wpAny_bind (m := checkCount "sorted" 1 1 _) (wpAny_pure ?_)
  refine wpAny_bind (wpAny_collect_seq (items := vs.toArray) l hT ho hc hd (fun h1 k1 => ?_) (by rw [List.size_toArray]; exact hz))
  refine wpAny_bind (wpAny_newList ?_ hz)
  have hoL : (h1.push (seqObj "list" vs.toArray 0)).get? h1.objs.size = some (seqObj "list" vs.toArray 0) := Heap.get?_push_size _ rfl
  have hsn : s.heap.get? h1.objs.size = none := by
    cases e : s.heap.get? h1.objs.size with
    | none => rfl
    | some u => exact absurd (Heap.lt_size (k1 _ _ e)) (Nat.lt_irrefl _)
  have old : ∀ b u, s.heap.get? b = some u → b ≠ h1.objs.size ∧ (h1.push (seqObj "list" vs.toArray 0)).get? b = some u := fun b u e =>
    ⟨fun z => (by rw [z, hsn] at e; cases e), Heap.get?_push_of_some _ (k1 _ _ e)⟩
  show wpAny _ _ _ _ _ { s with heap := h1.push (seqObj "list" vs.toArray 0) }
  refine wpAny_bind (wpAny_holding (wpAny_call_entry slot_list_sort ⟨_, hoL, rfl⟩ entry_list_sort (SrtO.list_sort_ord (swo_WI k) hoL hz (fun h2 => ?_) fun out hs hb => ⟨_, rfl, ?_⟩) (args_list_sort _)))
  · refine wi_sortable (s := { s with heap := h1.push (seqObj "list" vs.toArray 0) }) (by omega) (fun v hv => (hp v hv).keeps fun b u e _ => (old b u e).2) fun u e c => ?_
    obtain rfl : u = seqObj "list" vs.toArray 0 := Option.some.inj (e.symm.trans hoL)
    exact absurd (Value.type.inj c) (by decide)
  · refine wpAny_pure ⟨_, rfl, h _ _ out hs hb.perm (fun b u e => ?_) hsn (fun H ok => (ok.kept k1).fresh (Nat.le_refl _)) (sortedHeap_at hoL)⟩
    obtain ⟨e1, e2⟩ := old b u e
    exact (sortedHeap_old e1 (Heap.lt_size e2)).trans e2))) only [↓Hk.hold_s]
end
abbrev Rt := Str × Int
def leR (a b : Rt) : Bool := !ltWI b a
def srt (l : List Rt) : List Rt := l.mergeSort leR
theorem leR_iff {a b : Rt} : leR a b = true ↔ ¬ ltWIp b a := by
  unfold leR
  rw [Bool.not_eq_true', ltWI_no]
theorem srt_perm (l : List Rt) : (srt l).Perm l := List.mergeSort_perm l leR
theorem srt_pw (l : List Rt) : (srt l).Pairwise fun a b => ¬ ltWIp b a :=
  (List.pairwise_mergeSort (le := leR) (fun a b c h1 h2 => leR_iff.mpr (ltWIp_ge (leR_iff.mp h1) (leR_iff.mp h2))) (fun a b => by
    rcases ltWIp_tri a b with h | h | h
    · have : leR a b = true := leR_iff.mpr fun z => ltWIp_irrefl _ (ltWIp_trans h z)
      rw [this]; rfl
    · subst h
      have : leR a a = true := leR_iff.mpr (ltWIp_irrefl a)
      rw [this]; rfl
    · have : leR b a = true := leR_iff.mpr fun z => ltWIp_irrefl _ (ltWIp_trans h z)
      rw [this, Bool.or_true]) l).imp fun h => leR_iff.mp h
theorem pw_uniq : ∀ {l m : List Rt}, l.Perm m → (l.Pairwise fun a b => ¬ ltWIp b a) → (m.Pairwise fun a b => ¬ ltWIp b a) → l = m
  | [], m, p, _, _ => (List.Perm.eq_nil p.symm).symm
  | x :: l, [], p, _, _ => absurd p.length_eq (by simp)
  | x :: l, y :: m, p, hl, hm => by
    obtain ⟨l1, l2⟩ := List.pairwise_cons.mp hl
    obtain ⟨m1, m2⟩ := List.pairwise_cons.mp hm
    have h1 : ¬ ltWIp x y := by
      rcases List.mem_cons.mp (p.mem_iff.mp (List.mem_cons_self (a := x))) with e | hx
      · rw [e]; exact ltWIp_irrefl y
      · exact m1 x hx
    have h2 : ¬ ltWIp y x := by
      rcases List.mem_cons.mp (p.mem_iff.mpr (List.mem_cons_self (a := y))) with e | hy
      · rw [e]; exact ltWIp_irrefl x
      · exact l1 y hy
    have e : x = y := by
      rcases ltWIp_tri x y with z | z | z
      · exact absurd z h1
      · exact z
      · exact absurd z h2
    subst e
    rw [pw_uniq p.cons_inv l2 m2]
theorem srt_eq {l m : List Rt} (p : l.Perm m) (h : l.Pairwise fun a b => ¬ ltWIp b a) : l = srt m := pw_uniq (p.trans (srt_perm m).symm) h (srt_pw m)
def PairR (K : PySem.W.Frag) (H : Hp) (x : V) (r : Rt) : Prop := ∃ t, x = V.ref t ∧ SqT K H t [.str r.1, .int r.2]
/-- sorted(xs), xs a list or a tuple of pairs (text, int): a new list -/
def rSortedR (K : PySem.W.Frag) : List V → Hp → VK → Prop := fun vs H Q => ∃ (a : Addr) (xs : List V) (l : List Rt), vs = [V.ref a] ∧ (SqL K H a xs ∨ SqT K H a xs) ∧ Paired (PairR K H) xs l ∧
  ∀ ys p, Paired (PairR K H) ys (srt l) → H p = none → Q (.ref p) (upd H p (.lst ys))
theorem paired_mem {α β : Type} {P : α → β → Prop} {xs : List α} {l : List β} (h : Paired P xs l) : ∀ x ∈ xs, ∃ r, P x r := by
  induction h with
  | nil => intro x hx; cases hx
  | cons a t ih =>
    intro x hx
    rcases List.mem_cons.mp hx with e | hx
    · rw [e]; exact ⟨_, a⟩
    · exact ih x hx
theorem paired_map {α β : Type} {P : α → β → Prop} {k : α → β} (u : ∀ x r, P x r → k x = r) {xs : List α} {l : List β} (h : Paired P xs l) : xs.map k = l := by
  induction h with
  | nil => rfl
  | cons a t ih => rw [List.map_cons, u _ _ a, ih]
theorem paired_of {α β : Type} {P : α → β → Prop} {k : α → β} : ∀ {xs : List α}, (∀ x ∈ xs, P x (k x)) → Paired P xs (xs.map k)
  | [], _ => .nil
  | x :: r, h => .cons (h x List.mem_cons_self) (paired_of fun y hy => h y (List.mem_cons_of_mem _ hy))
section
variable {X : Cx}
theorem cr_sortedR : CallR X (.builtin "sorted") (rSortedR X.K) := by
 refine Hk.hold ?_
 simp (disch := with_unfolding_all (
 exact Hk.disch (by
  rintro pins s σ H vs us Q I r ⟨a, xs, l, rfl, hs, hx, q⟩
  obtain ⟨u, rfl, ru⟩ := vals1 r
  obtain rfl : u = Value.ref a := ru
  have inj : ∀ x (r r' : Rt), PairR X.K H x r → PairR X.K H x r' → r = r' := fun x r r' ⟨t, e, h1⟩ ⟨t', e', h2⟩ => by
    subst e
    cases e'
    have e := I.tuple_inj h1 h2
    exact Prod.ext (V.str.inj (List.cons.inj e).1) (V.int.inj (List.cons.inj (List.cons.inj e).2).1)
  obtain ⟨k, hk⟩ : ∃ k : V → Rt, ∀ x r, PairR X.K H x r → k x = r := by
    refine ⟨fun x => (Classical.epsilon fun r => PairR X.K H x r), fun x r h => ?_⟩
    exact inj x _ _ (Classical.epsilon_spec (p := fun r => PairR X.K H x r) ⟨r, h⟩) h
  have hxk : ∀ x ∈ xs, PairR X.K H x (k x) := fun x m => by
    obtain ⟨r, hr⟩ := paired_mem hx x m
    rw [hk x r hr]; exact hr
  obtain ⟨its, T, o, n, rv, hz, hT, ho, hc, hd⟩ : ∃ (its : List Value) (T : String) (o : Obj) (n : Nat), Vals xs its ∧ xs.length ≤ sizeLine ∧ (T = "list" ∨ T = "tuple") ∧ s.heap.get? a = some o ∧ o.cls = .type T ∧ o.data = .seq its.toArray n := by
    rcases hs with hs | hs
    · obtain ⟨its, rv, ⟨o, n, h1, h2, _, h3⟩, hz⟩ := I.list hs
      exact ⟨its, "list", o, n, rv, hz, .inl rfl, h1, h2, h3⟩
    · obtain ⟨its, rv, ⟨o, h1, h2, n, h3⟩, hz⟩ := I.tuple hs
      exact ⟨its, "tuple", o, n, rv, hz, .inr rfl, h1, h2, h3⟩
  obtain ⟨e1, e2⟩ := refs_back rv fun x m => by
    obtain ⟨t, e, _⟩ := hxk x m
    exact ⟨t, e⟩
  refine sorted_wi (k := fun u => k (backV u)) hT ho hc hd (by rw [← rv.length]; exact hz) (fun v hv => ?_) fun h' d out h1 h2 kp hd1 hd2 hn => ?_
  · obtain ⟨t, rfl⟩ := e2 v hv
    have hm : V.ref t ∈ xs := by rw [e1]; exact List.mem_map.mpr ⟨_, hv, rfl⟩
    obtain ⟨t', e, ht⟩ := hxk _ hm
    cases e
    obtain ⟨its2, r2, ⟨o2, p1, p2, n2, p3⟩, _⟩ := I.tuple ht
    obtain ⟨t1, t2, rfl⟩ := vals_si r2
    exact ⟨t, o2, t1, t2, n2, rfl, p1, p2, p3⟩
  · have h3 : ∀ u ∈ out, ∃ a, u = Value.ref a := fun u hu => e2 u (h2.mem_iff.mp hu)
    obtain ⟨m, hm⟩ := hn
    have hb : (out.map backV).Perm xs := by rw [e1]; exact h2.map backV
    have hp : Paired (PairR X.K H) (out.map backV) (srt l) := by
      have e3 : (out.map backV).map k = srt l := by
        refine srt_eq ?_ (List.pairwise_map.mpr (List.pairwise_map.mpr (h1.imp fun z => ltWI_no.mp z)))
        rw [← paired_map hk hx]
        exact hb.map k
      rw [← e3]
      exact paired_of fun x m => hxk x (hb.mem_iff.mp m)
    exact ⟨.ref d, upd H d (.lst (out.map backV)), I.laidN (t' := s.toks) kp hd1 (hd2 H I.hok) ⟨by rw [hb.length_eq]; exact hz, out, m, vals_back h3, hm⟩, rfl, q _ d hp (hd2 H I.hok)⟩))) only [↓Hk.hold_s]
end
end Hk
set_option Elab.async false
set_option linter.all false
set_option maxRecDepth 100000
set_option maxHeartbeats 4000000
namespace Hk
open PySem PySem.Spec PyProof.Rows L2
end Hk
set_option Elab.async false
set_option linter.all false
set_option maxRecDepth 100000
set_option maxHeartbeats 4000000
namespace Hk
open PySem PySem.Spec PyProof.Rows L2
end Hk
local macro_rules | `(tactic| walk_at "s1") => `(tactic| first | with_reducible refine q_sl ?_ | with_reducible refine q_np ?_ | with_reducible refine q_pt ?_)
namespace T
section
variable {P : Program} {w : World} {K : PySem.W.Frag} {mg : Str → Option Value} {base : Heap} {C CR CK : Addr}
inductive KF where | statuses | answers | owned | taken | values_now | queues | lock_rows | cached | place | runs | spent | busy | phase | turn | extra
  deriving DecidableEq
def KF.nm : KF → Str
  | .statuses => "statuses" | .answers => "answers" | .owned => "owned" | .taken => "taken" | .values_now => "values_now" | .queues => "queues" | .lock_rows => "lock_rows" | .cached => "cached" | .place => "place" | .runs => "runs" | .spent => "spent" | .busy => "busy" | .phase => "phase" | .turn => "turn" | .extra => "extra"
def KF.all : List KF := [.extra, .turn, .phase, .busy, .spent, .runs, .place, .cached, .lock_rows, .queues, .values_now, .taken, .owned, .answers, .statuses]
def KN : List Str := ["rules", "statuses", "answers", "owned", "taken", "values_now", "queues", "lock_rows", "cached", "place", "runs", "spent", "busy", "phase", "turn", "extra"]
def KF.ix : Str → Option KF := fun z => (KF.all.find? fun f => decide (f.nm = z))
theorem KF.ix_nm (f : KF) : KF.ix f.nm = some f := by cases f <;> decide +kernel
theorem KF.inj : ∀ f g : KF, f.nm = g.nm → f = g := fun f g h => by
  have z := KF.ix_nm f
  rw [h, KF.ix_nm g] at z
  exact (Option.some.inj z).symm
theorem KF.in_all (f : KF) : f ∈ KF.all := by cases f <;> decide
theorem KF.in_KN (f : KF) : f.nm ∈ KN := by cases f <;> decide +kernel
theorem KF.not_rules (f : KF) : f.nm ≠ "rules" := by cases f <;> decide +kernel
abbrev KD := KF → PyData
def shapeOf (D : KD) : PyData := .tuple [D .statuses, D .answers, D .owned, D .taken, D .values_now, D .queues, D .lock_rows, D .cached, D .place, .tuple [D .runs, D .spent, D .busy, D .phase]]
structure KCls (K : PySem.W.Frag) (CK : Addr) : Prop where
  cls : Cls K CK
  no : ∀ f, f ∈ KN → NoAttr K CK f
/-- a kernel with these rules and data -/
def KAt (K : PySem.W.Frag) (CK : Addr) (H : Hp) (k r : Addr) (D : KD) : Prop := ∃ dx fs, H k = some (.ins CK dx fs) ∧ fs.map (·.1) = KN ∧ fs.lookup ("rules" : Str) = some (.ref r) ∧ Told K KF.nm H fs D KF.all
theorem KAt.mono {H H' : Hp} {k r : Addr} {D : KD} (h : KAt K CK H k r D) (s : Same H H') : KAt K CK H' k r D := by
  obtain ⟨dx, fs, e, m, l, t⟩ := h
  exact ⟨dx, fs, s _ _ e, m, l, t.mono s⟩
theorem KAt.but {H H' : Hp} {k r p C' dx' : Addr} {fs' : List (Str × V)} {D : KD} (h : KAt K CK H k r D) (e : H p = some (.ins C' dx' fs')) (s : But p H H') (ne : k ≠ p) : KAt K CK H' k r D := by
  obtain ⟨dx, fs, e1, m, l, t⟩ := h
  exact ⟨dx, fs, s _ _ e1 ne, m, l, t.keep (But.keep e s)⟩
theorem KAt.ext {H : Hp} {k r : Addr} {D D' : KD} (h : KAt K CK H k r D) (e : ∀ f, D f = D' f) : KAt K CK H k r D' := by
  rw [show D' = D from funext fun f => (e f).symm]; exact h
theorem len_KN {fs : List (Str × V)} (m : fs.map (·.1) = KN) : fs.length < 1000 := by
  have := congrArg List.length m
  rw [List.length_map, show KN.length = 16 from rfl] at this
  omega
/-- a field read -/
theorem KAt.get {H : Hp} {k r : Addr} {D : KD} (T : KCls K CK) (h : KAt K CK H k r D) (f : KF) {Q : V → Prop} (q : ∀ v, Dp K H v (D f) → Q v) :
    ∃ a C dx fs v, V.ref k = .ref a ∧ H a = some (.ins C dx fs) ∧ Cls K C ∧ NoAttr K C f.nm ∧ fs.lookup f.nm = some v ∧ Q v := by
  obtain ⟨dx, fs, e, m, l, t⟩ := h
  obtain ⟨v, e1, d1⟩ := t f f.in_all
  exact ⟨k, CK, dx, fs, v, rfl, e, T.cls, T.no _ f.in_KN, e1, q v d1⟩
/-- a field written -/
theorem KAt.set {H : Hp} {k r : Addr} {D : KD} (T : KCls K CK) (h : KAt K CK H k r D) (f : KF) {v : V} {d : PyData} (hd : Dp K H v d) {Q : Hp → Prop} (q : ∀ H', But k H H' → KAt K CK H' k r (fset D f d) → Q H') :
    ∃ a C dx fs, V.ref k = .ref a ∧ H a = some (.ins C dx fs) ∧ Cls K C ∧ NoAttr K C f.nm ∧ fs.length < 1000 ∧ Q (upd H a (.ins C dx (putF f.nm v fs))) := by
  obtain ⟨dx, fs, e, m, l, t⟩ := h
  refine ⟨k, CK, dx, fs, rfl, e, T.cls, T.no _ f.in_KN, len_KN m, q _ But.put ⟨dx, _, upd_same, ?_, ?_, (t.set KF.inj hd).keep (But.keep e But.put)⟩⟩
  · rw [map_putF (by rw [m]; exact f.in_KN)]; exact m
  · rw [put_ne _ _ (Ne.symm f.not_rules)]; exact l
/-- the rules' fields -/
theorem RulesAt.rd (R : RCls K CR) {H : Hp} {r : Addr} {b : BD} (h : RulesAt K CR H r b) (f : RF) {Q : V → Prop} (q : ∀ v, Dp K H v (rulesD b f) → Q v) (hf : f ∈ RF.all := by decide) (hn : f.nm ∈ RN := by decide +kernel) :
    ∃ a C dx fs v, V.ref r = .ref a ∧ H a = some (.ins C dx fs) ∧ Cls K C ∧ NoAttr K C f.nm ∧ fs.lookup f.nm = some v ∧ Q v := by
  obtain ⟨dx, fs, e, o, t, c⟩ := h
  obtain ⟨v, e1, d1⟩ := t f hf
  exact ⟨r, CR, dx, fs, v, rfl, e, R.cls, R.no _ hn, e1, q v d1⟩
/-- where the making of a kernel stands -/
structure KS (K : PySem.W.Frag) (CK k r dx : Addr) (H0 H : Hp) (fs : List (Str × V)) (D : KD) (nms : List Str) (ns : List KF) : Prop where
  ins : H k = some (.ins CK dx fs)
  keys : fs.map (·.1) = nms
  rl : fs.lookup ("rules" : Str) = some (.ref r)
  told : Told K KF.nm H fs D ns
  but : But k H0 H
theorem KS.put {k r dx : Addr} {H0 H : Hp} {fs : List (Str × V)} {D : KD} {nms : List Str} {ns : List KF} {v : V} (S : KS K CK k r dx H0 H fs D nms ns) (f : KF) (hf : f ∉ ns) (hk : f.nm ∉ nms) (hd : Dp K H v (D f)) :
    KS K CK k r dx H0 (upd H k (.ins CK dx (putF f.nm v fs))) (putF f.nm v fs) D (nms ++ [f.nm]) (f :: ns) :=
  ⟨upd_same, by rw [map_putF_new (by rw [S.keys]; exact hk), S.keys], by rw [put_ne _ _ (Ne.symm f.not_rules)]; exact S.rl, (S.told.add KF.inj hf hd).keep (But.keep S.ins But.put), S.but.trans But.put⟩
theorem KS.few {k r dx : Addr} {H0 H : Hp} {fs : List (Str × V)} {D : KD} {nms : List Str} {ns : List KF} (S : KS K CK k r dx H0 H fs D nms ns) (h : nms.length < 1000) : fs.length < 1000 := by
  rw [← List.length_map (f := (·.1)), S.keys]; exact h
end
end T
namespace T
section
variable {P : Program} {w : World} {K : PySem.W.Frag} {mg : Str → Option Value} {base : Heap} {C CK tR : Addr}
theorem hu64 {k : Nat} {A : Around} (hr : Room k A) : A.units + 64 < cLine := by have := hr.un; omega
theorem hu65 {k : Nat} {A : Around} (hr : Room k A) : A.units + 65 < cLine := by have := hr.un; omega
def readyD : PyData := .tuple [.str "ready"]
structure GK (K : PySem.W.Frag) (mg : Str → Option Value) (tR : Addr) : Prop where
  g_READY : mg "READY" = some (.ref tR)
  ready : ∀ H, Dp K H (.ref tR) readyD
theorem shape_forms {H : Hp} {v : V} {D : KD} (h : Dp K H v (shapeOf D)) : ∃ (a a2 : Addr) (x0 x1 x2 x3 x4 x5 x6 x7 x8 y0 y1 y2 y3 : V), v = .ref a ∧ SqT K H a [x0, x1, x2, x3, x4, x5, x6, x7, x8, .ref a2] ∧ SqT K H a2 [y0, y1, y2, y3] ∧ Dp K H (.ref a2) (.tuple [D .runs, D .spent, D .busy, D .phase]) ∧ Dp K H x0 (D .statuses) ∧ Dp K H x1 (D .answers) ∧ Dp K H x2 (D .owned) ∧ Dp K H x3 (D .taken) ∧ Dp K H x4 (D .values_now) ∧ Dp K H x5 (D .queues) ∧ Dp K H x6 (D .lock_rows) ∧ Dp K H x7 (D .cached) ∧ Dp K H x8 (D .place) ∧ Dp K H y0 (D .runs) ∧ Dp K H y1 (D .spent) ∧ Dp K H y2 (D .busy) ∧ Dp K H y3 (D .phase) := by
 refine Hk.hold ?_
 simp (disch := with_unfolding_all (
 exact Hk.disch (by
  unfold shapeOf at h
  cases h with
  | @tup a xs _ hs ha =>
  cases ha with
  | @cons x0 r0 _ _ h0 ha =>
  cases ha with
  | @cons x1 r1 _ _ h1 ha =>
  cases ha with
  | @cons x2 r2 _ _ h2 ha =>
  cases ha with
  | @cons x3 r3 _ _ h3 ha =>
  cases ha with
  | @cons x4 r4 _ _ h4 ha =>
  cases ha with
  | @cons x5 r5 _ _ h5 ha =>
  cases ha with
  | @cons x6 r6 _ _ h6 ha =>
  cases ha with
  | @cons x7 r7 _ _ h7 ha =>
  cases ha with
  | @cons x8 r8 _ _ h8 ha =>
  cases ha with
  | @cons x9 r9 _ _ h9 ha =>
  cases ha
  have h10 := h9
  cases h9 with
  | @tup a2 ys _ hs2 hb =>
  cases hb with
  | @cons y0 q0 _ _ g0 hb =>
  cases hb with
  | @cons y1 q1 _ _ g1 hb =>
  cases hb with
  | @cons y2 q2 _ _ g2 hb =>
  cases hb with
  | @cons y3 q3 _ _ g3 hb =>
  cases hb
  exact ⟨a, a2, x0, x1, x2, x3, x4, x5, x6, x7, x8, y0, y1, y2, y3, rfl, hs, hs2, h10, h0, h1, h2, h3, h4, h5, h6, h7, h8, g0, g1, g2, g3⟩))) only [↓Hk.hold_s]
end
end T
namespace T
section
variable {P : Program} {w : World} {K : PySem.W.Frag} {mg : Str → Option Value} {base : Heap} {C : Addr}
section
variable {J : It} {n : Nat} {G : Hp → Prop} {Y : Nat → Hp → V → Hp → Prop} {g : TG} {te : TE} {vs : List Nat} {σ : L2.St} {H1 : Hp} {D : Addr} {Qd : Hp → Prop}
/-- as lc_rel; the body knows the list under way -/
theorem lc_relD (w : L2.Walk J n G Y) (R : Nat → V → Hp → Prop) (hD : H1 D = none) (few : n < sizeLine) (hG : ∀ H', Same H1 H' → G H') (hY : ∀ i H x H', Y i H x H' → Same H H')
    (hR : ∀ i y H H' acc, H D = some (.lst acc) → But D H H' → R i y H → R i y H')
    (body : ∀ i x H' H2 acc, i < n → Same H1 H' → Y i H' x H2 → H2 D = some (.lst acc) → ∀ Q' : VK, (∀ y H3, Same H2 H3 → R i y H3 → Q' y H3) → g x (wipe σ vs) H2 fun σ2 H3 => wipe σ2 vs = wipe σ vs ∧ te σ2 H3 Q')
    (done : ∀ ys H', Same H1 H' → H' D = some (.lst ys) → ys.length = n → (∀ i y, ys[i]? = some y → R i y H') → Qd H') :
    ∃ W : Nat → Nat → Hp → Prop, (∃ m, W 0 m (upd H1 D (.lst []))) ∧ ∀ i m H, W i m H →
      (J.stop i H ∧ Qd H) ∨ (J.go i H ∧ ∃ Nx : Hp → Prop, (∀ H', Nx H' → ∃ m', m' < m ∧ W (i + 1) m' H') ∧ ∀ x H', J.yld i H x H' → g x (wipe σ vs) H' fun σ2 H2 => wipe σ2 vs = wipe σ vs ∧ tYes σ2 H2 fun b H3 =>
        if b = true then te σ2 H3 fun y H4 => ∃ acc, H4 D = some (.lst acc) ∧ acc.length < sizeLine ∧ Nx (upd H4 D (.lst (acc ++ [y]))) else Nx H3) := by
 refine Hk.hold ?_
 simp (disch := with_unfolding_all (
 exact Hk.disch (by
  refine lc_it w (fun i H => Same H1 H ∧ ∃ ys, H D = some (.lst ys) ∧ ys.length = i ∧ ∀ j y, ys[j]? = some y → R j y H) ⟨same_new hD, [], upd_same, rfl, fun j y e => by simp at e⟩ (fun i H _ h => hG H h.1) ?_ ?_
  · rintro i x H H2 lt ⟨s1, ys, e, l, r⟩ y
    have s2 := hY i H x H2 y
    have z := body i x H H2 ys lt s1 y (s2 _ _ e) (fun y H4 => ∃ acc, H4 D = some (.lst acc) ∧ acc.length < sizeLine ∧ (Same H1 (upd H4 D (.lst (acc ++ [y]))) ∧ ∃ ys, upd H4 D (.lst (acc ++ [y])) D = some (.lst ys) ∧ ys.length = i + 1 ∧ ∀ j y', ys[j]? = some y' → R j y' (upd H4 D (.lst (acc ++ [y]))))) ?_
    · exact z
    · intro y H4 s4 ry
      have e4 : H4 D = some (.lst ys) := s4 _ _ (s2 _ _ e)
      have bt : ∀ o, But D H4 (upd H4 D o) := fun o b u h hb => by rw [upd_ne hb]; exact h
      refine ⟨ys, e4, by omega, fun b o h => ?_, ys ++ [y], upd_same, by simp [l], fun j y' hj => ?_⟩
      · have hb : b ≠ D := ne_of_none h hD
        rw [upd_ne hb]
        exact s4 _ _ (s2 _ _ (s1 _ _ h))
      · refine hR j y' H4 _ ys e4 (bt _) ?_
        rw [List.getElem?_append] at hj
        split at hj
        · refine hR j y' H H4 ys e (fun b o h hb => s4 _ _ (s2 _ _ h)) (r j y' hj)
        · rename_i hge
          have : j = i := by
            rcases Nat.lt_trichotomy j i with z | z | z
            · omega
            · exact z
            · rw [List.getElem?_eq_none (by simp; omega)] at hj; cases hj
          subst this
          simp [l] at hj
          subst hj
          exact ry
  · rintro H ⟨s1, ys, e, l, r⟩
    exact done ys H s1 e l r))) only [↓Hk.hold_s]
end
abbrev rListOf (K : PySem.W.Frag) : List V → Hp → VK → Prop := fun xs H Q => ∃ p ys, xs = [V.ref p] ∧ (SqL K H p ys ∨ SqT K H p ys) ∧ ∀ l, H l = none → Q (.ref l) (upd H l (.lst ys))
theorem ok_Build_rights (B : Bl mg) (T : BCls K C) (d : MethAt K C "rights" "Build.rights" s_Build_rights ["self"]) : MCal P w K mg base 1 C "rights" ["self"] (spGet K C fun b H v H' => Dp K H' v b.rights) := by
 refine Hk.hold ?_
 simp (disch := with_unfolding_all (
 exact Hk.disch (d.cal fun f fd F => by
  refine F.ok sc_Build_rights (fun vs H Q E h => ?_) (fun cdv A outer s H vs Q E hr h => ?_)
  · obtain ⟨p, b, rfl, _⟩ := h; rfl
  · obtain ⟨p, b, rfl, ⟨ok, dx, fs, q0, kvs, e1, e2, e3, e4, e5⟩, q⟩ := h
    have hu := hu_of hr
    refine ⟨_, (pss_one (ps_ret (pe_lc (own := [("row", 1)]) (tt := tYes) rfl sc_Build_rights.nd (pi_tup (pe_dget hu (pe_fld (pv 0) rfl) pe_str (fun _ _ => rfl))) (blkOk_by (N := ["self", "row"]) (sc := defScope s_Build_rights) (by decide +kernel)) (fun _ _ _ _ _ => (pg_name (i := 1) sc_Build_rights.nd rfl (Or.inl rfl))) (fun _ _ _ _ _ => pts_nil) (fun _ _ _ _ _ => (pe_callTy (show CallR _ _ (rListOf K) from call_list_of) rfl B.list_ hb_list (pa_cons (pv 1) pa_nil)))))), ?_⟩
    walk_at "st0"
    obtain ⟨v, g1, g2⟩ := pairedKV_get (z := "rights") e4 rfl
    obtain ⟨rds, er, rl, rall⟩ := okRightsL ok.rights
    have ln : rds.length ≤ 1000 := by
      have z : cnt (cOf b) "task" ≤ 100 := by
        obtain ⟨tds, et, _, t4, _⟩ := okTasksL ok.tasks
        unfold cOf
        split
        · rename_i t p q l d h1 h2 h3 h4 h5
          rw [et] at h1; cases h1
          show (tds.length : Int) ≤ 100
          omega
        · show (0 : Int) ≤ 100
          omega
      omega
    rw [er] at g2
    cases g2 with
    | @tup a xs _ hs ha =>
    have lx := ha.length
    rw [List.length_map] at lx
    refine ⟨.ref p, rfl, ⟨p, C, dx, fs, _, rfl, e1, T.cls, T.n_parts, e2, ?_⟩⟩
    walk_at "st"
    refine ⟨q0, _, rfl, by rw [← g1]; exact DGet.k (k := Sum.inr "rights") e3, a, rfl, ⟨xs, hs⟩, fun D nD => lc_relD walk_tup (fun i y Hh => ∃ (l : Addr) (ys : List V) (es : List PyData), y = .ref l ∧ l ≠ D ∧ Hh l = some (.lst ys) ∧ rds[i]? = some (.list es) ∧ DpAll K H ys es) nD (sz1000 (by omega)) (fun H2 s => Same.sqT s hs) yat_same ?_ ?_ ?_⟩
    · rintro i y Ha Hb acc e bt ⟨l, ys, es, rfl, nl, h1, h2, h3⟩
      exact ⟨l, ys, es, rfl, nl, bt _ _ h1 nl, h2, h3⟩
    · rintro i x H' H2 acc lt s y eD Q' k
      obtain ⟨rfl, e⟩ := y
      obtain ⟨d2, ed, hd2⟩ := ha.get' e
      rw [List.getElem?_map] at ed
      cases er2 : rds[i]? with
      | none => rw [er2] at ed; cases ed
      | some d3 =>
        rw [er2] at ed
        cases ed
        obtain ⟨es, rfl⟩ := rall d3 (List.mem_of_getElem? er2)
        cases hd2 with
        | @tup ta ys _ ht hta =>
        refine q_gname ⟨rfl, ?_⟩
        walk_at "st"
        refine ⟨ta, ys, rfl, .inr (Same.sqT s ht), fun l nl => ?_⟩
        refine k _ _ (same_new nl) ⟨l, ys, es, rfl, fun z => ?_, upd_same, er2, hta⟩
        rw [z, eD] at nl; cases nl
    · intro ys H3 s3 eD lD hR
      refine q _ _ s3 ?_
      show Dp K H3 (.ref D) b.rights
      rw [er]
      refine .lst (SqL.of eD) (dpAll_of (by omega) fun i x d ex ed => ?_)
      obtain ⟨l, zs, es, rfl, _, h1, h2, h3⟩ := hR i x ex
      rw [h2] at ed; cases ed
      exact .lst (SqL.of h1) (L2.DpAll.mono s3 h3)))) only [↓Hk.hold_s]
end
end T
namespace T
section
variable {J : It} {n : Nat} {G : Hp → Prop} {Y : Nat → Hp → V → Hp → Prop} {g : TG} {te : TE} {vs : List Nat} {σ : L2.St} {H1 : Hp} {D : Addr} {Qd : Hp → Prop}
/-- [list(x) for x in ..]: new lists, each another -/
theorem lc_fresh (w : L2.Walk J n G Y) (zs : Nat → List V) (hD : H1 D = none) (few : n < sizeLine) (hG : ∀ H', Same H1 H' → G H') (hY : ∀ i H x H', Y i H x H' → Same H H')
    (body : ∀ i x H' H2, i < n → Same H1 H' → Y i H' x H2 → ∀ Q' : VK, (∀ l H3, Same H2 H3 → H3 l = none → Q' (.ref l) (upd H3 l (.lst (zs i)))) → g x (wipe σ vs) H2 fun σ2 H3 => wipe σ2 vs = wipe σ vs ∧ te σ2 H3 Q')
    (done : ∀ (ls : List Addr) H', Same H1 H' → H' D = some (.lst (ls.map V.ref)) → ls.length = n → ls.Nodup → (∀ l ∈ ls, H1 l = none ∧ l ≠ D) → (∀ i l, ls[i]? = some l → H' l = some (.lst (zs i))) → Qd H') :
    ∃ W : Nat → Nat → Hp → Prop, (∃ m, W 0 m (upd H1 D (.lst []))) ∧ ∀ i m H, W i m H →
      (J.stop i H ∧ Qd H) ∨ (J.go i H ∧ ∃ Nx : Hp → Prop, (∀ H', Nx H' → ∃ m', m' < m ∧ W (i + 1) m' H') ∧ ∀ x H', J.yld i H x H' → g x (wipe σ vs) H' fun σ2 H2 => wipe σ2 vs = wipe σ vs ∧ tYes σ2 H2 fun b H3 =>
        if b = true then te σ2 H3 fun y H4 => ∃ acc, H4 D = some (.lst acc) ∧ acc.length < sizeLine ∧ Nx (upd H4 D (.lst (acc ++ [y]))) else Nx H3) := by
 refine Hk.hold ?_
 simp (disch := with_unfolding_all (
 exact Hk.disch (by
  refine lc_it w (fun i H => Same H1 H ∧ ∃ ls : List Addr, H D = some (.lst (ls.map V.ref)) ∧ ls.length = i ∧ ls.Nodup ∧ (∀ l ∈ ls, H1 l = none ∧ l ≠ D) ∧ ∀ j l, ls[j]? = some l → H l = some (.lst (zs j))) ⟨same_new hD, [], upd_same, rfl, List.nodup_nil, fun l h => by simp at h, fun j y e => by simp at e⟩ (fun i H _ h => hG H h.1) ?_ ?_
  · rintro i x H H2 lt ⟨s1, ls, e, ll, nd, fr, r⟩ y
    have s2 := hY i H x H2 y
    have z := body i x H H2 lt s1 y (fun y H4 => ∃ acc, H4 D = some (.lst acc) ∧ acc.length < sizeLine ∧ (Same H1 (upd H4 D (.lst (acc ++ [y]))) ∧ ∃ ls : List Addr, upd H4 D (.lst (acc ++ [y])) D = some (.lst (ls.map V.ref)) ∧ ls.length = i + 1 ∧ ls.Nodup ∧ (∀ l ∈ ls, H1 l = none ∧ l ≠ D) ∧ ∀ j l, ls[j]? = some l → upd H4 D (.lst (acc ++ [y])) l = some (.lst (zs j)))) ?_
    · exact z
    · intro l H3 s3 nl
      have e3 : H3 D = some (.lst (ls.map V.ref)) := s3 _ _ (s2 _ _ e)
      have nlD : l ≠ D := Ne.symm (ne_of_none e3 nl)
      have s13 : Same H1 H3 := fun b o h => s3 _ _ (s2 _ _ (s1 _ _ h))
      have hin : ∀ j k, ls[j]? = some k → H3 k = some (.lst (zs j)) := fun j k h => s3 _ _ (s2 _ _ (r j k h))
      have nin : l ∉ ls := fun h => by
        obtain ⟨j, hj⟩ := List.mem_iff_getElem?.mp h
        have z := hin j l hj
        rw [nl] at z
        cases z
      refine ⟨ls.map V.ref, by rw [upd_ne (Ne.symm nlD)]; exact e3, by rw [List.length_map]; omega, fun b o h => ?_, ls ++ [l], by rw [upd_same, List.map_append]; rfl, by simp [ll], ?_, ?_, ?_⟩
      · rw [upd_ne (ne_of_none h hD), upd_ne (ne_of_none (s13 _ _ h) nl)]
        exact s13 _ _ h
      · rw [List.nodup_append]
        exact ⟨nd, by simp, fun a ha b hb h => by rw [List.mem_singleton] at hb; exact nin (by rw [← hb, ← h]; exact ha)⟩
      · intro k hk
        rcases List.mem_append.mp hk with hk | hk
        · exact fr k hk
        · rw [List.mem_singleton] at hk
          subst hk
          exact ⟨s13.free nl, nlD⟩
      · intro j k hj
        rw [List.getElem?_append] at hj
        split at hj
        · have hk := fr k (List.mem_of_getElem? hj)
          rw [upd_ne hk.2, upd_ne (fun h => nin (by rw [← h]; exact List.mem_of_getElem? hj))]
          exact hin j k hj
        · rename_i hge
          have : j = i := by
            rcases Nat.lt_trichotomy j i with z | z | z
            · omega
            · exact z
            · rw [List.getElem?_eq_none (by simp; omega)] at hj; cases hj
          subst this
          simp [ll] at hj
          subst hj
          rw [upd_ne nlD]
          exact upd_same
  · rintro H ⟨s1, ls, e, ll, nd, fr, r⟩
    exact done ls H s1 e ll nd fr r))) only [↓Hk.hold_s]
end
section
variable {P : Program} {w : World} {K : PySem.W.Frag} {mg : Str → Option Value} {base : Heap} {C CR CK CM tR : Addr}
theorem pe_globI {X : Cx} {x : Str} {i : Int} {pos : Pos} (hm : ∃ t, X.mg x = some (.int i t)) (hg : Gl X x := by rfl) (hd : (x == ("__debug__" : Str)) = false := by decide) : PE X (.Name x pos) (tC (.int i)) := by
  obtain ⟨t, hm⟩ := hm
  exact pe_glob hg hm ⟨t, rfl⟩ hd
/-- the places of the parts in a shape -/
structure GM (mg : Str → Option Value) : Prop where
  statuses : ∃ t, mg "STATUSES" = some (.int 0 t)
  answers : ∃ t, mg "ANSWERS" = some (.int 1 t)
  rights : ∃ t, mg "RIGHTS" = some (.int 2 t)
  frames : ∃ t, mg "FRAMES" = some (.int 3 t)
  pages : ∃ t, mg "PAGES" = some (.int 4 t)
  ports : ∃ t, mg "PORTS" = some (.int 5 t)
  locks : ∃ t, mg "LOCKS" = some (.int 6 t)
  lines : ∃ t, mg "LINES" = some (.int 7 t)
  head : ∃ t, mg "HEAD" = some (.int 8 t)
  running : ∃ t, mg "RUNNING" = some (.int 9 t)
def MN : List Str := ["_build", "_shape"]
structure MCls (K : PySem.W.Frag) (CM : Addr) : Prop where
  cls : Cls K CM
  n_build : NoAttr K CM "_build"
  n_shape : NoAttr K CM "_shape"
/-- a moment of a build -/
def MAt (K : PySem.W.Frag) (C CR CM : Addr) (H : Hp) (m p : Addr) (b : BD) (D : KD) : Prop := ∃ dx fs v, H m = some (.ins CM dx fs) ∧ Only fs MN ∧ fs.lookup ("_build" : Str) = some (.ref p) ∧ fs.lookup ("_shape" : Str) = some v ∧ Dp K H v (shapeOf D) ∧ BuildAt K C CR H p b
theorem MAt.mono {H H' : Hp} {m p : Addr} {b : BD} {D : KD} (h : MAt K C CR CM H m p b D) (s : Same H H') : MAt K C CR CM H' m p b D := by
  obtain ⟨dx, fs, v, e, o, e1, e2, d, B⟩ := h
  exact ⟨dx, fs, v, s _ _ e, o, e1, e2, L2.Dp.mono s d, B.mono s⟩
theorem MAt.meth {H : Hp} {m p : Addr} {b : BD} {D : KD} (h : MAt K C CR CM H m p b D) {z : Str} (hz : z ∉ MN) {Q : Prop} (q : Q) : ∃ a dx fs, V.ref m = .ref a ∧ H a = some (.ins CM dx fs) ∧ fs.lookup z = none ∧ Q := by
  obtain ⟨dx, fs, v, e, o, _⟩ := h
  exact ⟨m, dx, fs, rfl, e, o _ hz, q⟩
theorem MAt.gb (T : MCls K CM) {H : Hp} {m p : Addr} {b : BD} {D : KD} (h : MAt K C CR CM H m p b D) {Q : V → Prop} (q : Q (.ref p)) :
    ∃ a C dx fs v, V.ref m = .ref a ∧ H a = some (.ins C dx fs) ∧ Cls K C ∧ NoAttr K C ("_build" : Str) ∧ fs.lookup ("_build" : Str) = some v ∧ Q v := by
  obtain ⟨dx, fs, v, e, o, e1, e2, d, B⟩ := h
  exact ⟨m, CM, dx, fs, _, rfl, e, T.cls, T.n_build, e1, q⟩
theorem MAt.gs (T : MCls K CM) {H : Hp} {m p : Addr} {b : BD} {D : KD} (h : MAt K C CR CM H m p b D) {Q : V → Prop} (q : ∀ v, Dp K H v (shapeOf D) → Q v) :
    ∃ a C dx fs v, V.ref m = .ref a ∧ H a = some (.ins C dx fs) ∧ Cls K C ∧ NoAttr K C ("_shape" : Str) ∧ fs.lookup ("_shape" : Str) = some v ∧ Q v := by
  obtain ⟨dx, fs, v, e, o, e1, e2, d, B⟩ := h
  exact ⟨m, CM, dx, fs, v, rfl, e, T.cls, T.n_shape, e2, q v d⟩
theorem BuildAt.rl (TB : BCls K C) {H : Hp} {p : Addr} {b : BD} (h : BuildAt K C CR H p b) {Q : V → Prop} (q : ∀ r, RulesAt K CR H r b → Q (.ref r)) :
    ∃ a C dx fs v, V.ref p = .ref a ∧ H a = some (.ins C dx fs) ∧ Cls K C ∧ NoAttr K C ("rules" : Str) ∧ fs.lookup ("rules" : Str) = some v ∧ Q v := by
  obtain ⟨_, dx, fs, r, e1, e2, h2⟩ := h
  exact ⟨p, C, dx, fs, _, rfl, e1, TB.cls, TB.n_rules, e2, q r h2⟩
def spMoment (K : PySem.W.Frag) (C CR CM : Addr) : Sp := fun vs H Q _ => ∃ (m p dx : Addr) (v : V) (b : BD) (D : KD), vs = [.ref m, .ref p, v] ∧ H m = some (.ins CM dx []) ∧ p ≠ m ∧ CM ≠ CR ∧ BuildAt K C CR H p b ∧ Dp K H v (shapeOf D) ∧ ∀ H', But m H H' → MAt K C CR CM H' m p b D → Q .non H'
theorem ok_Moment (B : Bl mg) (T : MCls K CM) : ∀ f fd, Fun K "__init__" "Moment.__init__" s_Moment___init__ f fd → FnOk P w K mg base CX0 1 f fd ["self", "build", "shape"] (spMoment K C CR CM) := by
 refine Hk.hold ?_
 simp (disch := with_unfolding_all (
 exact Hk.disch (fun f fd F => by
  refine F.ok sc_Moment___init__ (fun vs H Q E h => ?_) (fun cdv A outer s H vs Q E hr h => ?_)
  · obtain ⟨m, p, dx, v, b, D, rfl, _⟩ := h; rfl
  · obtain ⟨m, p, dx, v, b, D, rfl, hm, npm, nCC, hB, hv, q⟩ := h
    refine ⟨_, (pss_cons (ps_fld (pv 0) (pv 1) rfl)
      (pss_one (ps_fld (pv 0) (pv 2) rfl))), ?_⟩
    walk_at "st0"
    refine ⟨m, CM, dx, [], rfl, hm, T.cls, T.n_build, by simp, ?_⟩
    walk_at "st"
    refine ⟨m, CM, dx, _, rfl, upd_same, T.cls, T.n_shape, by have := length_putF "_build" (V.ref p) []; simp at this; omega, ?_⟩
    have b1 : But m H (upd (upd H m (.ins CM dx (putF "_build" (V.ref p) []))) m (.ins CM dx (putF "_shape" v (putF "_build" (V.ref p) [])))) := But.put.trans But.put
    have LK : (putF "_shape" v (putF "_build" (V.ref p) [])).lookup ("_build" : Str) = some (V.ref p) := by rw [put_ne _ _ (by decide +kernel)]; exact put_same _ _ _
    exact q _ b1 ⟨dx, _, v, upd_same, Only.put (Only.put (fun _ _ => rfl) (by decide +kernel)) (by decide +kernel), LK, put_same _ _ _, dpKeep (But.keep hm b1) hv, hB.but hm b1 npm nCC⟩))) only [↓Hk.hold_s]
def spGetM (K : PySem.W.Frag) (C CR CM : Addr) (R : BD → KD → Addr → Hp → V → Hp → Prop) : Sp := fun vs H Q _ => ∃ (m p : Addr) (b : BD) (D : KD), vs = [.ref m] ∧ MAt K C CR CM H m p b D ∧ ∀ v H', Same H H' → R b D p H v H' → Q v H'
theorem ok_M_build (B : Bl mg) (T : MCls K CM) (d : MethAt K CM "build" "Moment.build" s_Moment_build ["self"]) : MCal P w K mg base 1 CM "build" ["self"] (spGetM K C CR CM fun b D p H v H' => v = .ref p) := d.cal fun f fd F => by
  refine F.ok sc_Moment_build (fun vs H Q E h => ?_) (fun cdv A outer s H vs Q E hr h => ?_)
  · obtain ⟨m, p, b, D, rfl, _⟩ := h; rfl
  · obtain ⟨m, p, b, D, rfl, hm, q⟩ := h
    refine ⟨_, (pss_one (ps_ret (pe_fld (pv 0) rfl))), ?_⟩
    walk_at "st0"
    exact hm.gb T (q _ _ (Same.refl _) rfl)
theorem ok_M_shape (B : Bl mg) (T : MCls K CM) (d : MethAt K CM "shape" "Moment.shape" s_Moment_shape ["self"]) : MCal P w K mg base 1 CM "shape" ["self"] (spGetM K C CR CM fun b D p H v H' => Dp K H' v (shapeOf D)) := d.cal fun f fd F => by
  refine F.ok sc_Moment_shape (fun vs H Q E h => ?_) (fun cdv A outer s H vs Q E hr h => ?_)
  · obtain ⟨m, p, b, D, rfl, _⟩ := h; rfl
  · obtain ⟨m, p, b, D, rfl, hm, q⟩ := h
    refine ⟨_, (pss_one (ps_ret (pe_fld (pv 0) rfl))), ?_⟩
    walk_at "st0"
    exact hm.gs T fun v dv => q _ _ (Same.refl _) dv
def runD (D : KD) : PyData := .tuple [D .runs, D .spent, D .busy, D .phase]
theorem ok_M_running (B : Bl mg) (T : MCls K CM) (G : GM mg) (d : MethAt K CM "running" "Moment.running" s_Moment_running ["self"]) : MCal P w K mg base 1 CM "running" ["self"] (spGetM K C CR CM fun b D p H v H' => Dp K H' v (runD D)) := by
 refine Hk.hold ?_
 simp (disch := with_unfolding_all (
 exact Hk.disch (d.cal fun f fd F => by
  refine F.ok sc_Moment_running (fun vs H Q E h => ?_) (fun cdv A outer s H vs Q E hr h => ?_)
  · obtain ⟨m, p, b, D, rfl, _⟩ := h; rfl
  · obtain ⟨m, p, b, D, rfl, hm, q⟩ := h
    refine ⟨_, (pss_one (ps_ret (pe_ix ix_tup (pe_fld (pv 0) rfl) (pe_globI G.running) (fun _ _ => rfl)))), ?_⟩
    walk_at "st0"
    refine hm.gs T fun v dv => ?_
    walk_at "st"
    obtain ⟨a, a2, x0, x1, x2, x3, x4, x5, x6, x7, x8, y0, y1, y2, y3, rfl, hs, hs2, h9, h0, h1, h2, h3, h4, h5, h6, h7, h8, g0, g1, g2, g3⟩ := shape_forms dv
    refine q_ixT hs (atI_nat (j := 9) rfl) ?_
    exact q _ _ (Same.refl _) h9))) only [↓Hk.hold_s]
theorem ok_M_head (B : Bl mg) (T : MCls K CM) (G : GM mg) (d : MethAt K CM "head" "Moment.head" s_Moment_head ["self"]) : MCal P w K mg base 1 CM "head" ["self"] (spGetM K C CR CM fun b D p H v H' => Dp K H' v (D .place)) := by
 refine Hk.hold ?_
 simp (disch := with_unfolding_all (
 exact Hk.disch (d.cal fun f fd F => by
  refine F.ok sc_Moment_head (fun vs H Q E h => ?_) (fun cdv A outer s H vs Q E hr h => ?_)
  · obtain ⟨m, p, b, D, rfl, _⟩ := h; rfl
  · obtain ⟨m, p, b, D, rfl, hm, q⟩ := h
    refine ⟨_, (pss_one (ps_ret (pe_ix ix_tup (pe_fld (pv 0) rfl) (pe_globI G.head) (fun _ _ => rfl)))), ?_⟩
    walk_at "st0"
    refine hm.gs T fun v dv => ?_
    walk_at "st"
    obtain ⟨a, a2, x0, x1, x2, x3, x4, x5, x6, x7, x8, y0, y1, y2, y3, rfl, hs, hs2, h9, h0, h1, h2, h3, h4, h5, h6, h7, h8, g0, g1, g2, g3⟩ := shape_forms dv
    refine q_ixT hs (atI_nat (j := 8) rfl) ?_
    exact q _ _ (Same.refl _) h8))) only [↓Hk.hold_s]
def spCheck (K : PySem.W.Frag) (C CR : Addr) : Sp := fun vs H Q _ => ∃ (p : Addr) (b : BD) (t : Nat), vs = [.ref p, .int t] ∧ BuildAt K C CR H p b ∧ t < (dl b.tasks).length ∧ Q .non H
theorem ok_check_task (B : Bl mg) (TB : BCls K C) (R : RCls K CR) (c_is_index : Cal P w K mg base 3 "is_index" ["thing", "many"] (spIndex K)) (d : DefAt K mg "check_task" s_check_task ["build", "task"]) : Cal P w K mg base 4 "check_task" ["build", "task"] (spCheck K C CR) := by
 refine Hk.hold ?_
 simp (disch := with_unfolding_all (
 exact Hk.disch (d.cal fun f fd F => by
  refine F.ok sc_check_task (fun vs H Q E h => ?_) (fun cdv A outer s H vs Q E hr h => ?_)
  · obtain ⟨p, b, t, rfl, _⟩ := h; rfl
  · obtain ⟨p, b, t, rfl, hB, lt, q⟩ := h
    refine ⟨_, (pss_one (ps_if (pt_not (pt_val (pe_cal c_is_index (hr.mono (by omega)) rfl (pa_cons (pv 1) (pa_cons (pe_fld (pe_fld (pv 0) rfl) rfl) pa_nil))))) (pss_one ps_never) pss_nil)), ?_⟩
    walk_at "st0"
    refine hB.rl TB fun r hR => ?_
    walk_at "st"
    refine hR.rd R .task_count fun v1 d1 => ?_
    have d2 : Dp K H v1 (.int ((dl b.tasks).length : Int)) := d1
    cases d2
    walk_at "st"
    refine ⟨_, .int t, _, rfl, .int _, ?_⟩
    have e : dBetween (.int (t : Int)) 0 (((dl b.tasks).length : Int) - 1) = true := by simp [dBetween]; omega
    rw [e]
    walk_at "st"
    refine iteF ?_
    exact q))) only [↓Hk.hold_s]
/-- what stands there for a task -/
def spOfStatus (K : PySem.W.Frag) (C CR CM : Addr) : Sp := fun vs H Q _ => ∃ (m p : Addr) (b : BD) (D : KD) (t : Nat) (as : List PyData) (a : PyData), vs = [.ref m, .int t] ∧ MAt K C CR CM H m p b D ∧ t < (dl b.tasks).length ∧ D .statuses = .tuple as ∧ as[t]? = some a ∧ ∀ v, Dp K H v a → Q v H
theorem ok_M_status (B : Bl mg) (T : MCls K CM) (G : GM mg) (c_check_task : Cal P w K mg base 4 "check_task" ["build", "task"] (spCheck K C CR)) (d : MethAt K CM "status" "Moment.status" s_Moment_status ["self", "task"]) : MCal P w K mg base 5 CM "status" ["self", "task"] (spOfStatus K C CR CM) := by
 refine Hk.hold ?_
 simp (disch := with_unfolding_all (
 exact Hk.disch (d.cal fun f fd F => by
  refine F.ok sc_Moment_status (fun vs H Q E h => ?_) (fun cdv A outer s H vs Q E hr h => ?_)
  · obtain ⟨m, p, b, D, t, as, a, rfl, _⟩ := h; rfl
  · obtain ⟨m, p, b, D, t, as, an, rfl, hm, lt, ea, et, q⟩ := h
    refine ⟨_, (pss_cons (ps_expr (pe_cal c_check_task (hr.mono (by omega)) rfl (pa_cons (pe_fld (pv 0) rfl) (pa_cons (pv 1) pa_nil))))
      (pss_one (ps_ret (pe_ix ix_tup (pe_ix ix_tup (pe_fld (pv 0) rfl) (pe_globI G.statuses) (fun _ _ => rfl)) (pv 1) (fun _ _ => rfl))))), ?_⟩
    walk_at "st0"
    refine hm.gb T ?_
    walk_at "st"
    obtain ⟨_, _, _, _, _, _, _, _, hB⟩ := id hm
    refine ⟨p, b, t, rfl, hB, lt, ?_⟩
    walk_at "st"
    refine hm.gs T fun v dv => ?_
    walk_at "st"
    obtain ⟨a, a2, x0, x1, x2, x3, x4, x5, x6, x7, x8, y0, y1, y2, y3, rfl, hs, hs2, h9, h0, h1, h2, h3, h4, h5, h6, h7, h8, g0, g1, g2, g3⟩ := shape_forms dv
    refine q_ixT hs (atI_nat (j := 0) rfl) ?_
    walk_at "st"
    rw [ea] at h0
    cases h0 with
    | @tup a4 ys _ hs4 hys =>
    have ly : t < ys.length := by rw [hys.length]; exact (List.getElem?_eq_some_iff.mp et).1
    refine q_ixT hs4 (atI_nat (List.getElem?_eq_getElem ly)) ?_
    obtain ⟨dd, e1, e2⟩ := hys.get' (List.getElem?_eq_getElem ly)
    rw [et] at e1
    cases e1
    exact q _ e2))) only [↓Hk.hold_s]
/-- what stands there for a task -/
def spOfAnswer (K : PySem.W.Frag) (C CR CM : Addr) : Sp := fun vs H Q _ => ∃ (m p : Addr) (b : BD) (D : KD) (t : Nat) (as : List PyData) (a : PyData), vs = [.ref m, .int t] ∧ MAt K C CR CM H m p b D ∧ t < (dl b.tasks).length ∧ D .answers = .tuple as ∧ as[t]? = some a ∧ ∀ v, Dp K H v a → Q v H
theorem ok_M_answer (B : Bl mg) (T : MCls K CM) (G : GM mg) (c_check_task : Cal P w K mg base 4 "check_task" ["build", "task"] (spCheck K C CR)) (d : MethAt K CM "answer" "Moment.answer" s_Moment_answer ["self", "task"]) : MCal P w K mg base 5 CM "answer" ["self", "task"] (spOfAnswer K C CR CM) := by
 refine Hk.hold ?_
 simp (disch := with_unfolding_all (
 exact Hk.disch (d.cal fun f fd F => by
  refine F.ok sc_Moment_answer (fun vs H Q E h => ?_) (fun cdv A outer s H vs Q E hr h => ?_)
  · obtain ⟨m, p, b, D, t, as, a, rfl, _⟩ := h; rfl
  · obtain ⟨m, p, b, D, t, as, an, rfl, hm, lt, ea, et, q⟩ := h
    refine ⟨_, (pss_cons (ps_expr (pe_cal c_check_task (hr.mono (by omega)) rfl (pa_cons (pe_fld (pv 0) rfl) (pa_cons (pv 1) pa_nil))))
      (pss_one (ps_ret (pe_ix ix_tup (pe_ix ix_tup (pe_fld (pv 0) rfl) (pe_globI G.answers) (fun _ _ => rfl)) (pv 1) (fun _ _ => rfl))))), ?_⟩
    walk_at "st0"
    refine hm.gb T ?_
    walk_at "st"
    obtain ⟨_, _, _, _, _, _, _, _, hB⟩ := id hm
    refine ⟨p, b, t, rfl, hB, lt, ?_⟩
    walk_at "st"
    refine hm.gs T fun v dv => ?_
    walk_at "st"
    obtain ⟨a, a2, x0, x1, x2, x3, x4, x5, x6, x7, x8, y0, y1, y2, y3, rfl, hs, hs2, h9, h0, h1, h2, h3, h4, h5, h6, h7, h8, g0, g1, g2, g3⟩ := shape_forms dv
    refine q_ixT hs (atI_nat (j := 1) rfl) ?_
    walk_at "st"
    rw [ea] at h1
    cases h1 with
    | @tup a4 ys _ hs4 hys =>
    have ly : t < ys.length := by rw [hys.length]; exact (List.getElem?_eq_some_iff.mp et).1
    refine q_ixT hs4 (atI_nat (List.getElem?_eq_getElem ly)) ?_
    obtain ⟨dd, e1, e2⟩ := hys.get' (List.getElem?_eq_getElem ly)
    rw [et] at e1
    cases e1
    exact q _ e2))) only [↓Hk.hold_s]
/-- what stands there for a task -/
def spOfHeld (K : PySem.W.Frag) (C CR CM : Addr) : Sp := fun vs H Q _ => ∃ (m p : Addr) (b : BD) (D : KD) (t : Nat) (as : List PyData) (a : PyData), vs = [.ref m, .int t] ∧ MAt K C CR CM H m p b D ∧ t < (dl b.tasks).length ∧ D .taken = .tuple as ∧ as[t]? = some a ∧ ∀ v, Dp K H v a → Q v H
theorem ok_M_held (B : Bl mg) (T : MCls K CM) (G : GM mg) (c_check_task : Cal P w K mg base 4 "check_task" ["build", "task"] (spCheck K C CR)) (d : MethAt K CM "held" "Moment.held" s_Moment_held ["self", "task"]) : MCal P w K mg base 5 CM "held" ["self", "task"] (spOfHeld K C CR CM) := by
 refine Hk.hold ?_
 simp (disch := with_unfolding_all (
 exact Hk.disch (d.cal fun f fd F => by
  refine F.ok sc_Moment_held (fun vs H Q E h => ?_) (fun cdv A outer s H vs Q E hr h => ?_)
  · obtain ⟨m, p, b, D, t, as, a, rfl, _⟩ := h; rfl
  · obtain ⟨m, p, b, D, t, as, an, rfl, hm, lt, ea, et, q⟩ := h
    refine ⟨_, (pss_cons (ps_expr (pe_cal c_check_task (hr.mono (by omega)) rfl (pa_cons (pe_fld (pv 0) rfl) (pa_cons (pv 1) pa_nil))))
      (pss_one (ps_ret (pe_ix ix_tup (pe_ix ix_tup (pe_fld (pv 0) rfl) (pe_globI G.frames) (fun _ _ => rfl)) (pv 1) (fun _ _ => rfl))))), ?_⟩
    walk_at "st0"
    refine hm.gb T ?_
    walk_at "st"
    obtain ⟨_, _, _, _, _, _, _, _, hB⟩ := id hm
    refine ⟨p, b, t, rfl, hB, lt, ?_⟩
    walk_at "st"
    refine hm.gs T fun v dv => ?_
    walk_at "st"
    obtain ⟨a, a2, x0, x1, x2, x3, x4, x5, x6, x7, x8, y0, y1, y2, y3, rfl, hs, hs2, h9, h0, h1, h2, h3, h4, h5, h6, h7, h8, g0, g1, g2, g3⟩ := shape_forms dv
    refine q_ixT hs (atI_nat (j := 3) rfl) ?_
    walk_at "st"
    rw [ea] at h3
    cases h3 with
    | @tup a4 ys _ hs4 hys =>
    have ly : t < ys.length := by rw [hys.length]; exact (List.getElem?_eq_some_iff.mp et).1
    refine q_ixT hs4 (atI_nat (List.getElem?_eq_getElem ly)) ?_
    obtain ⟨dd, e1, e2⟩ := hys.get' (List.getElem?_eq_getElem ly)
    rw [et] at e1
    cases e1
    exact q _ e2))) only [↓Hk.hold_s]
/-- the rights of a task, in a new list -/
def spMRights (K : PySem.W.Frag) (C CR CM : Addr) : Sp := fun vs H Q _ => ∃ (m p : Addr) (b : BD) (D : KD) (t : Nat) (rs row : List PyData), vs = [.ref m, .int t] ∧ MAt K C CR CM H m p b D ∧ t < (dl b.tasks).length ∧ D .owned = .tuple rs ∧ rs[t]? = some (.tuple row) ∧ ∀ l ys, H l = none → DpAll K H ys row → Q (.ref l) (upd H l (.lst ys))
theorem ok_M_rights (B : Bl mg) (T : MCls K CM) (G : GM mg) (c_check_task : Cal P w K mg base 4 "check_task" ["build", "task"] (spCheck K C CR)) (d : MethAt K CM "rights" "Moment.rights" s_Moment_rights ["self", "task"]) : MCal P w K mg base 5 CM "rights" ["self", "task"] (spMRights K C CR CM) := by
 refine Hk.hold ?_
 simp (disch := with_unfolding_all (
 exact Hk.disch (d.cal fun f fd F => by
  refine F.ok sc_Moment_rights (fun vs H Q E h => ?_) (fun cdv A outer s H vs Q E hr h => ?_)
  · obtain ⟨m, p, b, D, t, rs, row, rfl, _⟩ := h; rfl
  · obtain ⟨m, p, b, D, t, rs, row, rfl, hm, lt, ea, et, q⟩ := h
    refine ⟨_, (pss_cons (ps_expr (pe_cal c_check_task (hr.mono (by omega)) rfl (pa_cons (pe_fld (pv 0) rfl) (pa_cons (pv 1) pa_nil))))
      (pss_one (ps_ret (pe_callTy call_list_of rfl B.list_ hb_list (pa_cons (pe_ix ix_tup (pe_ix ix_tup (pe_fld (pv 0) rfl) (pe_globI G.rights) (fun _ _ => rfl)) (pv 1) (fun _ _ => rfl)) pa_nil))))), ?_⟩
    walk_at "st0"
    refine hm.gb T ?_
    walk_at "st"
    obtain ⟨_, _, _, _, _, _, _, _, hB⟩ := id hm
    refine ⟨p, b, t, rfl, hB, lt, ?_⟩
    walk_at "st"
    refine hm.gs T fun v dv => ?_
    walk_at "st"
    obtain ⟨a, a2, x0, x1, x2, x3, x4, x5, x6, x7, x8, y0, y1, y2, y3, rfl, hs, hs2, h9, h0, h1, h2, h3, h4, h5, h6, h7, h8, g0, g1, g2, g3⟩ := shape_forms dv
    refine q_ixT hs (atI_nat (j := 2) rfl) ?_
    walk_at "st"
    rw [ea] at h2
    cases h2 with
    | @tup a4 ys _ hs4 hys =>
    have ly : t < ys.length := by rw [hys.length]; exact (List.getElem?_eq_some_iff.mp et).1
    refine q_ixT hs4 (atI_nat (List.getElem?_eq_getElem ly)) ?_
    obtain ⟨dd, e1, e2⟩ := hys.get' (List.getElem?_eq_getElem ly)
    rw [et] at e1
    cases e1
    generalize ys[t] = y at e2 ⊢
    cases e2 with
    | @tup a6 zs _ hs6 hz6 =>
    walk_at "st"
    exact ⟨a6, zs, rfl, .inr hs6, fun l nl => q l zs nl hz6⟩))) only [↓Hk.hold_s]
def spNewPages (K : PySem.W.Frag) (C CR CM : Addr) : Sp := fun vs H Q _ => ∃ (m p : Addr) (b : BD) (D : KD) (ds : List PyData), vs = [.ref m] ∧ MAt K C CR CM H m p b D ∧ D .values_now = .tuple ds ∧ ∀ l ys, H l = none → DpAll K H ys ds → Q (.ref l) (upd H l (.lst ys))
theorem ok_M_pages (B : Bl mg) (T : MCls K CM) (G : GM mg) (d : MethAt K CM "pages" "Moment.pages" s_Moment_pages ["self"]) : MCal P w K mg base 1 CM "pages" ["self"] (spNewPages K C CR CM) := by
 refine Hk.hold ?_
 simp (disch := with_unfolding_all (
 exact Hk.disch (d.cal fun f fd F => by
  refine F.ok sc_Moment_pages (fun vs H Q E h => ?_) (fun cdv A outer s H vs Q E hr h => ?_)
  · obtain ⟨m, p, b, D, ds, rfl, _⟩ := h; rfl
  · obtain ⟨m, p, b, D, ds, rfl, hm, ev, q⟩ := h
    refine ⟨_, (pss_one (ps_ret (pe_callTy call_list_of rfl B.list_ hb_list (pa_cons (pe_ix ix_tup (pe_fld (pv 0) rfl) (pe_globI G.pages) (fun _ _ => rfl)) pa_nil)))), ?_⟩
    walk_at "st0"
    refine hm.gs T fun v dv => ?_
    walk_at "st"
    obtain ⟨a, a2, x0, x1, x2, x3, x4, x5, x6, x7, x8, y0, y1, y2, y3, rfl, hs, hs2, h9, h0, h1, h2, h3, h4, h5, h6, h7, h8, g0, g1, g2, g3⟩ := shape_forms dv
    refine q_ixT hs (atI_nat (j := 4) rfl) ?_
    walk_at "st"
    rw [ev] at h4
    cases h4 with
    | @tup a4 ys _ hs4 hys =>
    exact ⟨a4, ys, rfl, .inr hs4, fun l nl => q l ys nl hys⟩))) only [↓Hk.hold_s]
def spNewLocks (K : PySem.W.Frag) (C CR CM : Addr) : Sp := fun vs H Q _ => ∃ (m p : Addr) (b : BD) (D : KD) (ds : List PyData), vs = [.ref m] ∧ MAt K C CR CM H m p b D ∧ D .lock_rows = .tuple ds ∧ ∀ l ys, H l = none → DpAll K H ys ds → Q (.ref l) (upd H l (.lst ys))
theorem ok_M_locks (B : Bl mg) (T : MCls K CM) (G : GM mg) (d : MethAt K CM "locks" "Moment.locks" s_Moment_locks ["self"]) : MCal P w K mg base 1 CM "locks" ["self"] (spNewLocks K C CR CM) := by
 refine Hk.hold ?_
 simp (disch := with_unfolding_all (
 exact Hk.disch (d.cal fun f fd F => by
  refine F.ok sc_Moment_locks (fun vs H Q E h => ?_) (fun cdv A outer s H vs Q E hr h => ?_)
  · obtain ⟨m, p, b, D, ds, rfl, _⟩ := h; rfl
  · obtain ⟨m, p, b, D, ds, rfl, hm, ev, q⟩ := h
    refine ⟨_, (pss_one (ps_ret (pe_callTy call_list_of rfl B.list_ hb_list (pa_cons (pe_ix ix_tup (pe_fld (pv 0) rfl) (pe_globI G.locks) (fun _ _ => rfl)) pa_nil)))), ?_⟩
    walk_at "st0"
    refine hm.gs T fun v dv => ?_
    walk_at "st"
    obtain ⟨a, a2, x0, x1, x2, x3, x4, x5, x6, x7, x8, y0, y1, y2, y3, rfl, hs, hs2, h9, h0, h1, h2, h3, h4, h5, h6, h7, h8, g0, g1, g2, g3⟩ := shape_forms dv
    refine q_ixT hs (atI_nat (j := 6) rfl) ?_
    walk_at "st"
    rw [ev] at h6
    cases h6 with
    | @tup a4 ys _ hs4 hys =>
    exact ⟨a4, ys, rfl, .inr hs4, fun l nl => q l ys nl hys⟩))) only [↓Hk.hold_s]
def spNewLines (K : PySem.W.Frag) (C CR CM : Addr) : Sp := fun vs H Q _ => ∃ (m p : Addr) (b : BD) (D : KD) (ds : List PyData), vs = [.ref m] ∧ MAt K C CR CM H m p b D ∧ D .cached = .tuple ds ∧ ∀ l ys, H l = none → DpAll K H ys ds → Q (.ref l) (upd H l (.lst ys))
theorem ok_M_lines (B : Bl mg) (T : MCls K CM) (G : GM mg) (d : MethAt K CM "lines" "Moment.lines" s_Moment_lines ["self"]) : MCal P w K mg base 1 CM "lines" ["self"] (spNewLines K C CR CM) := by
 refine Hk.hold ?_
 simp (disch := with_unfolding_all (
 exact Hk.disch (d.cal fun f fd F => by
  refine F.ok sc_Moment_lines (fun vs H Q E h => ?_) (fun cdv A outer s H vs Q E hr h => ?_)
  · obtain ⟨m, p, b, D, ds, rfl, _⟩ := h; rfl
  · obtain ⟨m, p, b, D, ds, rfl, hm, ev, q⟩ := h
    refine ⟨_, (pss_one (ps_ret (pe_callTy call_list_of rfl B.list_ hb_list (pa_cons (pe_ix ix_tup (pe_fld (pv 0) rfl) (pe_globI G.lines) (fun _ _ => rfl)) pa_nil)))), ?_⟩
    walk_at "st0"
    refine hm.gs T fun v dv => ?_
    walk_at "st"
    obtain ⟨a, a2, x0, x1, x2, x3, x4, x5, x6, x7, x8, y0, y1, y2, y3, rfl, hs, hs2, h9, h0, h1, h2, h3, h4, h5, h6, h7, h8, g0, g1, g2, g3⟩ := shape_forms dv
    refine q_ixT hs (atI_nat (j := 7) rfl) ?_
    walk_at "st"
    rw [ev] at h7
    cases h7 with
    | @tup a4 ys _ hs4 hys =>
    exact ⟨a4, ys, rfl, .inr hs4, fun l nl => q l ys nl hys⟩))) only [↓Hk.hold_s]
/-- the letters, each queue a list of its own -/
def spPorts (K : PySem.W.Frag) (C CR CM : Addr) : Sp := fun vs H Q _ => ∃ (m p : Addr) (b : BD) (D : KD) (qs : List (List PyData)), vs = [.ref m] ∧ MAt K C CR CM H m p b D ∧ D .queues = .tuple (qs.map PyData.tuple) ∧ qs.length ≤ 100 ∧
  ∀ (L : Addr) (ls : List Addr) (zs : Nat → List V) H', Same H H' → H L = none → H' L = some (.lst (ls.map V.ref)) → ls.length = qs.length → ls.Nodup → (∀ l ∈ ls, H l = none ∧ l ≠ L) → (∀ i l, ls[i]? = some l → H' l = some (.lst (zs i))) → (∀ i q, qs[i]? = some q → DpAll K H (zs i) q) → Q (.ref L) H'
theorem ok_M_ports (B : Bl mg) (T : MCls K CM) (G : GM mg) (d : MethAt K CM "ports" "Moment.ports" s_Moment_ports ["self"]) : MCal P w K mg base 1 CM "ports" ["self"] (spPorts K C CR CM) := by
 refine Hk.hold ?_
 simp (disch := with_unfolding_all (
 exact Hk.disch (d.cal fun f fd F => by
  refine F.ok sc_Moment_ports (fun vs H Q E h => ?_) (fun cdv A outer s H vs Q E hr h => ?_)
  · obtain ⟨m, p, b, D, qs, rfl, _⟩ := h; rfl
  · obtain ⟨m, p, b, D, qs, rfl, hm, eq, few, q⟩ := h
    refine ⟨_, (pss_one (ps_ret (pe_lc (own := [("letters", 1)]) (tt := tYes) rfl sc_Moment_ports.nd (pi_tup (pe_ix ix_tup (pe_fld (pv 0) rfl) (pe_globI G.ports) (fun _ _ => rfl))) (blkOk_by (N := ["self", "letters"]) (sc := defScope s_Moment_ports) (by decide +kernel)) (fun _ _ _ _ _ => (pg_name (i := 1) sc_Moment_ports.nd rfl (Or.inl rfl))) (fun _ _ _ _ _ => pts_nil) (fun _ _ _ _ _ => (pe_callTy (show CallR _ _ (rListOf K) from call_list_of) rfl B.list_ hb_list (pa_cons (pv 1) pa_nil)))))), ?_⟩
    walk_at "st0"
    show tOp (rIxT K) (tFld K (tVar 0) "_shape") (tC (V.int 5)) [some (V.ref m), none] H _
    walk_at "st"
    refine hm.gs T fun v dv => ?_
    walk_at "st"
    obtain ⟨a, a2, x0, x1, x2, x3, x4, x5, x6, x7, x8, y0, y1, y2, y3, rfl, hs, hs2, h9, h0, h1, h2, h3, h4, h5, h6, h7, h8, g0, g1, g2, g3⟩ := shape_forms dv
    refine q_ixT hs (atI_nat (j := 5) rfl) ?_
    rw [eq] at h5
    cases h5 with
    | @tup a5 xs _ ht hxs =>
    have lx := hxs.length
    rw [List.length_map] at lx
    have hz : ∀ i : Nat, ∃ zs : List V, ∀ x q, xs[i]? = some x → qs[i]? = some q → ∃ b, x = .ref b ∧ SqT K H b zs ∧ DpAll K H zs q := fun i => by
      by_cases c : i < xs.length
      · obtain ⟨dd, e1, e2⟩ := hxs.get' (List.getElem?_eq_getElem c)
        rw [List.getElem?_map] at e1
        obtain ⟨q0, eq0, rfl⟩ := Option.map_eq_some_iff.mp e1
        generalize ex : xs[i] = y at e2
        cases e2 with
        | @tup b zs _ hb hzs =>
        refine ⟨zs, fun x q hx hq => ?_⟩
        rw [List.getElem?_eq_getElem c, ex] at hx
        rw [eq0] at hq
        cases hx
        cases hq
        exact ⟨b, rfl, hb, hzs⟩
      · exact ⟨[], fun x q hx _ => by rw [List.getElem?_eq_none (by omega)] at hx; cases hx⟩
    let zs : Nat → List V := fun i => (hz i).choose
    have hzs : ∀ i x q, xs[i]? = some x → qs[i]? = some q → ∃ b, x = .ref b ∧ SqT K H b (zs i) ∧ DpAll K H (zs i) q := fun i => (hz i).choose_spec
    refine ⟨a5, rfl, ⟨xs, ht⟩, fun X nX => lc_fresh walk_tup zs nX (sz1000 (by omega)) (fun H2 s => Same.sqT s ht) yat_same ?_ ?_⟩
    · rintro i x H' H2 lt s ⟨rfl, e⟩ Q' k
      obtain ⟨q0, eq0⟩ : ∃ q0, qs[i]? = some q0 := ⟨_, List.getElem?_eq_getElem (by omega)⟩
      obtain ⟨b5, rfl, hb, hd⟩ := hzs i x q0 e eq0
      refine q_gname ?_
      refine ⟨rfl, ?_⟩
      walk_at "st"
      exact ⟨b5, _, rfl, .inr (Same.sqT s hb), fun l nl => k l _ (Same.refl _) nl⟩
    · intro ls H' sH eX lls nd fr hls
      walk_at "st"
      refine q X ls zs H' sH nX eX (by omega) nd fr hls fun i q0 hq => ?_
      obtain ⟨x, hx⟩ : ∃ x, xs[i]? = some x := ⟨_, List.getElem?_eq_getElem (by have := (List.getElem?_eq_some_iff.mp hq).1; omega)⟩
      obtain ⟨_, _, _, hd⟩ := hzs i x q0 hx hq
      exact hd))) only [↓Hk.hold_s]
end
end T
namespace T
section
variable {P : Program} {w : World} {K : PySem.W.Frag} {mg : Str → Option Value} {base : Heap} {C CR CK CM tR dE : Addr} {S : Addr → Option Sp}
theorem q_lcI {te te2 : TE} {g : TG} {tt : TT} {vs : List Nat} {σ : L2.St} {H : Hp} {Q : VK} (h : te σ H fun x H1 => ∃ a, x = .ref a ∧ (∃ xs, SqL K H1 a xs) ∧ tLc (fun _ H2 R => R (Itl K a) H2) g tt te2 vs σ H1 Q) : tLc (iList K te) g tt te2 vs σ H Q := h
theorem q_lcR {ta : TA} {te2 : TE} {g : TG} {tt : TT} {vs : List Nat} {σ : L2.St} {H : Hp} {Q : VK} (h : ta σ H fun ws H1 => ∃ n : Int, ws = [.int n] ∧ -(2 ^ 62) ≤ n ∧ n < 2 ^ 62 ∧ tLc (fun _ H2 R => R (Itr 0 n.toNat) H2) g tt te2 vs σ H1 Q) : tLc (iRng1 ta) g tt te2 vs σ H Q := h
def firstD (b : BD) : KD
  | .statuses => .tuple (List.replicate (dl b.tasks).length readyD)
  | .answers => .tuple (List.replicate (dl b.tasks).length .none)
  | .owned => rowsT b.rights
  | .taken => .tuple (List.replicate (dl b.tasks).length (.int 0))
  | .values_now => tupOf b.pages
  | .queues => .tuple ((dl b.ports).map fun _ => .tuple [])
  | .lock_rows => .tuple (List.replicate (dInt0 b.locks).toNat (.tuple [.none, .tuple []]))
  | .cached => .tuple [.none, .none]
  | .place => .int 0
  | .runs => .none
  | .spent => .int 0
  | .busy => .int 0
  | .phase => .int 0
  | .turn => .none
  | .extra => .int 0
theorem rep_dp {H : Hp} {x : V} {d : PyData} (h : Dp K H x d) : ∀ n, DpAll K H (List.replicate n [x]).flatten (List.replicate n d)
  | 0 => .nil
  | n + 1 => by
    rw [List.replicate_succ, List.replicate_succ, List.flatten_cons]
    exact .cons h (rep_dp h n)
def spFirst (K : PySem.W.Frag) (C CR CM : Addr) : Sp := fun vs H Q _ => ∃ (p : Addr) (b : BD), vs = [.ref p] ∧ BuildAt K C CR H p b ∧ CM ≠ CR ∧ ∀ m H', Same H H' → MAt K C CR CM H' m p b (firstD b) → Q (.ref m) H'
theorem ok_first (B : Bl mg) (TB : BCls K C) (R : RCls K CR) (G : GK K mg tR)
    (m_rights : MCal P w K mg base 1 C "rights" ["self"] (spGet K C fun b H v H' => Dp K H' v b.rights))
    (m_ports : MCal P w K mg base 1 C "ports" ["self"] (spGet K C fun b H v H' => NewL K H H' v b.ports))
    (m_locks : MCal P w K mg base 1 C "locks" ["self"] (spGet K C fun b H v H' => Dp K H' v b.locks))
    (m_pages : MCal P w K mg base 1 C "pages" ["self"] (spGet K C fun b H v H' => NewL K H H' v b.pages))
    (c_Moment : MkCal P w K mg base 1 CM "Moment" ["self", "build", "shape"] (spMoment K C CR CM)) (d : DefAt K mg "first" s_first ["build"]) : Cal P w K mg base 3 "first" ["build"] (spFirst K C CR CM) := by
 refine Hk.hold ?_
 simp (disch := with_unfolding_all (
 exact Hk.disch (d.cal fun f fd F => by
  refine F.ok sc_first (fun vs H Q E h => ?_) (fun cdv A outer s H vs Q E hr h => ?_)
  · obtain ⟨p, b, rfl, _⟩ := h; rfl
  · obtain ⟨p, b, rfl, hB, nMR, q⟩ := h
    refine ⟨_, (pss_cons (ps_set (i := 1) sc_first.nd rfl (Or.inl rfl) (pe_fld (pe_fld (pv 0) rfl) rfl))
      (pss_cons (ps_set (i := 2) sc_first.nd rfl (Or.inl rfl) (pe_callTy call_tuple_of rfl B.tuple_ hb_tuple (pa_cons (pe_lc (own := [("row", 6)]) (tt := tYes) rfl sc_first.nd (pi_list (pe_mcal0 m_rights (hr.mono (by omega)) (pv 0))) (blkOk_by (N := ["build", "many", "rights", "ports", "locks", "running", "row", "size", "lock"]) (sc := defScope s_first) (by decide +kernel)) (fun _ _ _ _ _ => (pg_name (i := 6) sc_first.nd rfl (Or.inl rfl))) (fun _ _ _ _ _ => pts_nil) (fun _ _ _ _ _ => (pe_callTy (show CallR _ _ (rTupOf K) from call_tuple_of) rfl B.tuple_ hb_tuple (pa_cons (pv 6) pa_nil)))) pa_nil)))
      (pss_cons (ps_set (i := 3) sc_first.nd rfl (Or.inl rfl) (pe_callTy call_tuple_of rfl B.tuple_ hb_tuple (pa_cons (pe_lc (own := [("size", 7)]) (tt := tYes) rfl sc_first.nd (pi_list (pe_mcal0 m_ports (hr.mono (by omega)) (pv 0))) (blkOk_by (N := ["build", "many", "rights", "ports", "locks", "running", "row", "size", "lock"]) (sc := defScope s_first) (by decide +kernel)) (fun _ _ _ _ _ => (pg_name (i := 7) sc_first.nd rfl (Or.inl rfl))) (fun _ _ _ _ _ => pts_nil) (fun _ _ _ _ _ => (pe_tup pa_nil))) pa_nil)))
      (pss_cons (ps_set (i := 4) sc_first.nd rfl (Or.inl rfl) (pe_callTy call_tuple_of rfl B.tuple_ hb_tuple (pa_cons (pe_lc (own := [("lock", 8)]) (tt := tYes) rfl sc_first.nd (pi_range1 rfl B.range (pa_cons (pe_mcal0 m_locks (hr.mono (by omega)) (pv 0)) pa_nil)) (blkOk_by (N := ["build", "many", "rights", "ports", "locks", "running", "row", "size", "lock"]) (sc := defScope s_first) (by decide +kernel)) (fun _ _ _ _ _ => (pg_name (i := 8) sc_first.nd rfl (Or.inl rfl))) (fun _ _ _ _ _ => pts_nil) (fun _ _ _ _ _ => (pe_tup (pa_cons pe_non (pa_cons (pe_tup pa_nil) pa_nil))))) pa_nil)))
      (pss_cons (ps_set (i := 5) sc_first.nd rfl (Or.inl rfl) (pe_tup (pa_cons pe_non (pa_cons pe_int (pa_cons pe_int (pa_cons pe_int pa_nil))))))
      (pss_one (ps_ret (pe_mk c_Moment (hr.mono (by omega)) rfl (pa_cons (pv 0) (pa_cons (pe_tup (pa_cons (pe_op op_repT (pe_tup (pa_cons (pe_glob (v := .ref tR) rfl G.g_READY rfl) pa_nil)) (pv 1)) (pa_cons (pe_op op_repT (pe_tup (pa_cons pe_non pa_nil)) (pv 1)) (pa_cons (pv 2) (pa_cons (pe_op op_repT (pe_tup (pa_cons pe_int pa_nil)) (pv 1)) (pa_cons (pe_callTy call_tuple_of rfl B.tuple_ hb_tuple (pa_cons (pe_mcal0 m_pages (hr.mono (by omega)) (pv 0)) pa_nil)) (pa_cons (pv 3) (pa_cons (pv 4) (pa_cons (pe_tup (pa_cons pe_non (pa_cons pe_non pa_nil))) (pa_cons pe_int (pa_cons (pv 5) pa_nil))))))))))) pa_nil)))))))))), ?_⟩
    have ok := hB.1.ok
    obtain ⟨tds, et, t2, t4, tall⟩ := okTasksL ok.tasks
    have en : (dl b.tasks).length = tds.length := by rw [et]; rfl
    walk_at "st0"
    refine hB.rl TB fun r hR => ?_
    walk_at "st"
    refine hR.rd R .task_count fun v1 d1 => ?_
    have d2 : Dp K H v1 (.int ((dl b.tasks).length : Int)) := d1
    cases d2
    walk_at "st"
    refine q_lcI ?_
    have nof : ∀ (H' : Hp), Same H H' → ∀ m : Str, m ≠ ("_parts" : Str) → m ≠ ("rules" : Str) → ∀ {Q : Prop}, Q → ∃ a dx2 fs2, V.ref p = .ref a ∧ H' a = some (.ins C dx2 fs2) ∧ fs2.lookup m = none ∧ Q := by
      obtain ⟨okk, dx2, fs2, q0, kvs, e1, e2, e3, e4, e5⟩ := hB.1
      exact fun H' s m h1 h2 Q q => ⟨p, dx2, fs2, rfl, s _ _ e1, e5 m h1 h2, q⟩
    walk_at "st"
    refine nof H (Same.refl _) "rights" (by decide +kernel) (by decide +kernel) ?_
    walk_at "st"
    refine ⟨p, b, rfl, hB.1, fun v1 H1 s1 d1 => ?_⟩
    obtain ⟨rds, er, rl, rall⟩ := okRightsL ok.rights
    replace d1 : Dp K H1 v1 b.rights := d1
    rw [er] at d1
    have tdc : cnt (cOf b) "task" = (tds.length : Int) := by
      obtain ⟨pds, ep, _, _⟩ := okList ok.pages
      obtain ⟨qds, eq, _, _⟩ := okList ok.ports
      obtain ⟨l, el, _⟩ := okBetween ok.locks
      have okd := ok.disk
      unfold okDisk at okd
      rw [Bool.and_eq_true] at okd
      obtain ⟨dd, ed, _⟩ := okBetween okd.1
      have e : cOf b = cntOf tds.length pds.length qds.length l dd := by unfold cOf; rw [et, ep, eq, el, ed]
      rw [e]
      rfl
    have rl8 : rds.length = tds.length := by omega
    cases d1 with
    | @lst a7 xs7 _ hs7 ha7 =>
    have l7 := ha7.length
    refine ⟨a7, rfl, ⟨xs7, hs7⟩, fun X nX => lc_rel walk_list (fun i y Hh => ∃ (t : Addr) (xs : List V) (l : List PyData), y = .ref t ∧ Hh t = some (.tup xs) ∧ rds[i]? = some (.list l) ∧ DpAll K H1 xs l) nX (sz1000 (by omega)) (fun H2 s => s.seq hs7) yat_same ?_ ?_ ?_⟩
    · rintro i y Ha Hb acc e bt ⟨t, xs, l, rfl, h1, h2, h3⟩
      exact ⟨t, xs, l, rfl, bt _ _ h1 (fun z => by subst z; rw [h1] at e; cases e), h2, h3⟩
    · rintro i x H' H2 lt s y Q' k
      obtain ⟨rfl, e⟩ := y
      obtain ⟨d, e2, hd2⟩ := ha7.get' e
      obtain ⟨l, rfl⟩ := rall d (List.mem_of_getElem? e2)
      cases hd2 with
      | @lst a xs _ hs ha =>
      refine q_gname ?_
      refine ⟨rfl, ?_⟩
      walk_at "st"
      exact ⟨a, xs, rfl, .inl ⟨s.seq hs, fun l2 nl => k _ _ (same_new nl) ⟨l2, xs, l, rfl, upd_same, e2, ha⟩⟩⟩
    intro ys7 H8 s8 e8 l8 r8
    walk_at "st"
    refine ⟨X, ys7, rfl, .inl ⟨SqL.of e8, fun l77 n7 => ?_⟩⟩
    have m7 := s8.trans (same_new (o := .tup ys7) n7)
    have T7 : Dp K (upd H8 l77 (.tup ys7)) (.ref l77) (.tuple (rds.map tupOf)) := by
      refine .tup (SqT.of upd_same) (dpAll_of (by rw [List.length_map]; omega) fun i x d ex ed2 => ?_)
      obtain ⟨t, xs, l, rfl, h1, h2, h3⟩ := r8 i x ex
      rw [List.getElem?_map, h2] at ed2
      cases ed2
      exact .tup (SqT.of (same_new n7 _ _ h1)) (L2.DpAll.mono m7 h3)
    have sA := s1.trans m7
    generalize upd H8 l77 (.tup ys7) = HA at *
    walk_at "st"
    refine q_lcI ?_
    walk_at "st"
    refine nof HA sA "ports" (by decide +kernel) (by decide +kernel) ?_
    walk_at "st"
    refine ⟨p, b, rfl, hB.1.mono sA, fun v2 H2 s2 d2 => ?_⟩
    obtain ⟨pl, pxs, pds, rfl, npl, epl, edp, hpa⟩ := d2
    obtain ⟨qds, eqd, q2, _⟩ := okList ok.ports
    rw [edp] at eqd
    cases eqd
    have lpx := hpa.length
    refine ⟨pl, rfl, ⟨pxs, SqL.of epl⟩, fun X2 nX2 => lc_rel walk_list (fun i y Hh => ∃ (t : Addr), y = .ref t ∧ Hh t = some (.tup [])) nX2 (sz1000 (by omega)) (fun H2 s => s.seq (SqL.of epl)) yat_same ?_ ?_ ?_⟩
    · rintro i y Ha Hb acc e bt ⟨t, rfl, h1⟩
      exact ⟨t, rfl, bt _ _ h1 (fun z => by subst z; rw [h1] at e; cases e)⟩
    · rintro i x H' H3 lt s y Q' k
      obtain ⟨rfl, e⟩ := y
      refine q_gname ?_
      refine ⟨rfl, ?_⟩
      walk_at "st"
      exact ⟨by show 0 ≤ sizeLine; decide, fun pe ne => k _ _ (same_new ne) ⟨pe, rfl, upd_same⟩⟩
    intro ys9 H9 s9 e9 l9 r9
    walk_at "st"
    refine ⟨X2, ys9, rfl, .inl ⟨SqL.of e9, fun l99 n9 => ?_⟩⟩
    have m9 := s2.trans (s9.trans (same_new (o := .tup ys9) n9))
    have T9 : Dp K (upd H9 l99 (.tup ys9)) (.ref l99) (.tuple (pds.map fun _ => .tuple [])) := by
      refine .tup (SqT.of upd_same) (dpAll_of (by rw [List.length_map]; omega) fun i x d ex ed2 => ?_)
      obtain ⟨t, rfl, h1⟩ := r9 i x ex
      rw [List.getElem?_map] at ed2
      obtain ⟨d0, _, rfl⟩ := Option.map_eq_some_iff.mp ed2
      exact .tup (SqT.of (same_new n9 _ _ h1)) .nil
    replace T7 := L2.Dp.mono m9 T7
    have sB := sA.trans m9
    generalize upd H9 l99 (.tup ys9) = HB at *
    walk_at "st"
    refine q_lcR ?_
    walk_at "st"
    refine nof HB sB "locks" (by decide +kernel) (by decide +kernel) ?_
    walk_at "st"
    refine ⟨p, b, rfl, hB.1.mono sB, fun v3 H3 s3 d3 => ?_⟩
    obtain ⟨kn, ekn, k0, k2⟩ := okBetween ok.locks
    replace d3 : Dp K H3 v3 b.locks := d3
    rw [ekn] at d3
    cases d3
    refine ⟨kn, rfl, by omega, by omega, fun X3 nX3 => lc_rel walk_range (fun i y Hh => ∃ (t t2 : Addr), y = .ref t ∧ Hh t = some (.tup [.non, .ref t2]) ∧ Hh t2 = some (.tup [])) nX3 (sz1000 (by omega)) (fun H2 s => trivial) yfn_same ?_ ?_ ?_⟩
    · rintro i y Ha Hb acc e bt ⟨t, t2, rfl, h1, h2⟩
      exact ⟨t, t2, rfl, bt _ _ h1 (fun z => by subst z; rw [h1] at e; cases e), bt _ _ h2 (fun z => by subst z; rw [h2] at e; cases e)⟩
    · rintro i x H' H4 lt s y Q' k
      obtain ⟨rfl, e⟩ := y
      refine q_gname ?_
      refine ⟨rfl, ?_⟩
      walk_at "st"
      refine ⟨by show 0 ≤ sizeLine; decide, fun pe ne => ?_⟩
      walk_at "st"
      refine ⟨by show 2 ≤ sizeLine; decide, fun pf nf => ?_⟩
      exact k _ _ ((same_new ne).trans (same_new nf)) ⟨pf, pe, rfl, upd_same, same_new nf _ _ upd_same⟩
    intro ys10 H10 s10 e10 l10 r10
    walk_at "st"
    refine ⟨X3, ys10, rfl, .inl ⟨SqL.of e10, fun l101 n10 => ?_⟩⟩
    have m10 := s3.trans (s10.trans (same_new (o := .tup ys10) n10))
    have T10 : Dp K (upd H10 l101 (.tup ys10)) (.ref l101) (.tuple (List.replicate kn.toNat (.tuple [.none, .tuple []]))) := by
      refine .tup (SqT.of upd_same) (dpAll_of (by rw [List.length_replicate]; omega) fun i x d ex ed2 => ?_)
      obtain ⟨t, t2, rfl, h1, h2⟩ := r10 i x ex
      have z := List.mem_of_getElem? ed2
      rw [List.mem_replicate] at z
      obtain ⟨_, rfl⟩ := z
      exact .tup (SqT.of (same_new n10 _ _ h1)) (.cons .non (.cons (.tup (SqT.of (same_new n10 _ _ h2)) .nil) .nil))
    replace T7 := L2.Dp.mono m10 T7
    replace T9 := L2.Dp.mono m10 T9
    have sC := sB.trans m10
    generalize upd H10 l101 (.tup ys10) = HC at *
    walk_at "st"
    refine ⟨by show 4 ≤ sizeLine; decide, fun pr nr => ?_⟩
    have mr := same_new (o := .tup [V.non, V.int 0, V.int 0, V.int 0]) nr
    have TR : Dp K (upd HC pr (.tup [V.non, V.int 0, V.int 0, V.int 0])) (.ref pr) (.tuple [.none, .int 0, .int 0, .int 0]) := .tup (SqT.of upd_same) (.cons .non (.cons (.int _) (.cons (.int _) (.cons (.int _) .nil))))
    replace T7 := L2.Dp.mono mr T7
    replace T9 := L2.Dp.mono mr T9
    replace T10 := L2.Dp.mono mr T10
    have sHD1 := sC.trans mr
    generalize upd HC pr (.tup [V.non, V.int 0, V.int 0, V.int 0]) = HD1 at *
    walk_at "st"
    refine ⟨by show 1 ≤ sizeLine; decide, fun pa1 na1 => ?_⟩
    have ma1 := same_new (o := .tup [V.ref tR]) na1
    have ea1 : (upd HD1 pa1 (.tup [V.ref tR])) pa1 = some (.tup [V.ref tR]) := upd_same
    replace T7 := L2.Dp.mono ma1 T7
    replace T9 := L2.Dp.mono ma1 T9
    replace T10 := L2.Dp.mono ma1 T10
    replace TR := L2.Dp.mono ma1 TR
    have sHE1 := sHD1.trans ma1
    generalize upd HD1 pa1 (.tup [V.ref tR]) = HE1 at *
    walk_at "st"
    refine ⟨pa1, _, [V.ref tR], rfl, rfl, SqT.of ea1, by simp, by omega, by omega, by simp, fun pb1 nb1 => ?_⟩
    have mb1 := same_new (o := .tup (List.replicate ((dl b.tasks).length : Int).toNat [V.ref tR]).flatten) nb1
    have TA : Dp K (upd HE1 pb1 (.tup (List.replicate ((dl b.tasks).length : Int).toNat [V.ref tR]).flatten)) (.ref pb1) (.tuple (List.replicate (dl b.tasks).length (readyD))) := by
      refine .tup (SqT.of upd_same) ?_
      rw [Int.toNat_natCast]
      exact rep_dp (G.ready _) _
    replace T7 := L2.Dp.mono mb1 T7
    replace T9 := L2.Dp.mono mb1 T9
    replace T10 := L2.Dp.mono mb1 T10
    replace TR := L2.Dp.mono mb1 TR
    have sHF1 := sHE1.trans mb1
    generalize upd HE1 pb1 (.tup (List.replicate ((dl b.tasks).length : Int).toNat [V.ref tR]).flatten) = HF1 at *
    walk_at "st"
    refine ⟨by show 1 ≤ sizeLine; decide, fun pa2 na2 => ?_⟩
    have ma2 := same_new (o := .tup [V.non]) na2
    have ea2 : (upd HF1 pa2 (.tup [V.non])) pa2 = some (.tup [V.non]) := upd_same
    replace T7 := L2.Dp.mono ma2 T7
    replace T9 := L2.Dp.mono ma2 T9
    replace T10 := L2.Dp.mono ma2 T10
    replace TR := L2.Dp.mono ma2 TR
    replace TA := L2.Dp.mono ma2 TA
    have sHE2 := sHF1.trans ma2
    generalize upd HF1 pa2 (.tup [V.non]) = HE2 at *
    walk_at "st"
    refine ⟨pa2, _, [V.non], rfl, rfl, SqT.of ea2, by simp, by omega, by omega, by simp, fun pb2 nb2 => ?_⟩
    have mb2 := same_new (o := .tup (List.replicate ((dl b.tasks).length : Int).toNat [V.non]).flatten) nb2
    have TB2 : Dp K (upd HE2 pb2 (.tup (List.replicate ((dl b.tasks).length : Int).toNat [V.non]).flatten)) (.ref pb2) (.tuple (List.replicate (dl b.tasks).length (.none))) := by
      refine .tup (SqT.of upd_same) ?_
      rw [Int.toNat_natCast]
      exact rep_dp (.non) _
    replace T7 := L2.Dp.mono mb2 T7
    replace T9 := L2.Dp.mono mb2 T9
    replace T10 := L2.Dp.mono mb2 T10
    replace TR := L2.Dp.mono mb2 TR
    replace TA := L2.Dp.mono mb2 TA
    have sHF2 := sHE2.trans mb2
    generalize upd HE2 pb2 (.tup (List.replicate ((dl b.tasks).length : Int).toNat [V.non]).flatten) = HF2 at *
    walk_at "st"
    refine ⟨by show 1 ≤ sizeLine; decide, fun pa3 na3 => ?_⟩
    have ma3 := same_new (o := .tup [V.int 0]) na3
    have ea3 : (upd HF2 pa3 (.tup [V.int 0])) pa3 = some (.tup [V.int 0]) := upd_same
    replace T7 := L2.Dp.mono ma3 T7
    replace T9 := L2.Dp.mono ma3 T9
    replace T10 := L2.Dp.mono ma3 T10
    replace TR := L2.Dp.mono ma3 TR
    replace TA := L2.Dp.mono ma3 TA
    replace TB2 := L2.Dp.mono ma3 TB2
    have sHE3 := sHF2.trans ma3
    generalize upd HF2 pa3 (.tup [V.int 0]) = HE3 at *
    walk_at "st"
    refine ⟨pa3, _, [V.int 0], rfl, rfl, SqT.of ea3, by simp, by omega, by omega, by simp, fun pb3 nb3 => ?_⟩
    have mb3 := same_new (o := .tup (List.replicate ((dl b.tasks).length : Int).toNat [V.int 0]).flatten) nb3
    have TC : Dp K (upd HE3 pb3 (.tup (List.replicate ((dl b.tasks).length : Int).toNat [V.int 0]).flatten)) (.ref pb3) (.tuple (List.replicate (dl b.tasks).length (.int 0))) := by
      refine .tup (SqT.of upd_same) ?_
      rw [Int.toNat_natCast]
      exact rep_dp (.int _) _
    replace T7 := L2.Dp.mono mb3 T7
    replace T9 := L2.Dp.mono mb3 T9
    replace T10 := L2.Dp.mono mb3 T10
    replace TR := L2.Dp.mono mb3 TR
    replace TA := L2.Dp.mono mb3 TA
    replace TB2 := L2.Dp.mono mb3 TB2
    have sHF3 := sHE3.trans mb3
    generalize upd HE3 pb3 (.tup (List.replicate ((dl b.tasks).length : Int).toNat [V.int 0]).flatten) = HF3 at *
    walk_at "st"
    refine nof HF3 sHF3 "pages" (by decide +kernel) (by decide +kernel) ?_
    walk_at "st"
    refine ⟨p, b, rfl, hB.1.mono sHF3, fun v5 H5 s5 d5 => ?_⟩
    obtain ⟨gl, gxs, gds, rfl, ngl, egl, edg, hga⟩ := d5
    refine ⟨gl, gxs, rfl, .inl ⟨SqL.of egl, fun pp np => ?_⟩⟩
    have mp := s5.trans (same_new (o := .tup gxs) np)
    have TP : Dp K (upd H5 pp (.tup gxs)) (.ref pp) (tupOf b.pages) := by
      rw [edg]
      exact .tup (SqT.of upd_same) (L2.DpAll.mono (same_new np) hga)
    replace T7 := L2.Dp.mono mp T7
    replace T9 := L2.Dp.mono mp T9
    replace T10 := L2.Dp.mono mp T10
    replace TR := L2.Dp.mono mp TR
    replace TA := L2.Dp.mono mp TA
    replace TB2 := L2.Dp.mono mp TB2
    replace TC := L2.Dp.mono mp TC
    have sHG := sHF3.trans mp
    generalize upd H5 pp (.tup gxs) = HG at *
    walk_at "st"
    refine ⟨by show 2 ≤ sizeLine; decide, fun pc nc => ?_⟩
    have mc := same_new (o := .tup [V.non, V.non]) nc
    have TCC : Dp K (upd HG pc (.tup [V.non, V.non])) (.ref pc) (.tuple [.none, .none]) := .tup (SqT.of upd_same) (.cons .non (.cons .non .nil))
    replace T7 := L2.Dp.mono mc T7
    replace T9 := L2.Dp.mono mc T9
    replace T10 := L2.Dp.mono mc T10
    replace TR := L2.Dp.mono mc TR
    replace TA := L2.Dp.mono mc TA
    replace TB2 := L2.Dp.mono mc TB2
    replace TC := L2.Dp.mono mc TC
    replace TP := L2.Dp.mono mc TP
    have sHI := sHG.trans mc
    generalize upd HG pc (.tup [V.non, V.non]) = HI at *
    walk_at "st"
    refine ⟨by show 10 ≤ sizeLine; decide, fun ps ns => ?_⟩
    have ms := same_new (o := .tup [V.ref pb1, V.ref pb2, V.ref l77, V.ref pb3, V.ref pp, V.ref l99, V.ref l101, V.ref pc, V.int 0, V.ref pr]) ns
    replace T7 := L2.Dp.mono ms T7
    replace T9 := L2.Dp.mono ms T9
    replace T10 := L2.Dp.mono ms T10
    replace TR := L2.Dp.mono ms TR
    replace TA := L2.Dp.mono ms TA
    replace TB2 := L2.Dp.mono ms TB2
    replace TC := L2.Dp.mono ms TC
    replace TP := L2.Dp.mono ms TP
    replace TCC := L2.Dp.mono ms TCC
    have sHJ := sHI.trans ms
    have e7 : rowsT b.rights = .tuple (rds.map tupOf) := by rw [er]; rfl
    have e9 : (dl b.ports) = pds := by rw [edp]; rfl
    have e10 : (dInt0 b.locks).toNat = kn.toNat := by rw [ekn]; rfl
    have TS : Dp K (upd HI ps (.tup [V.ref pb1, V.ref pb2, V.ref l77, V.ref pb3, V.ref pp, V.ref l99, V.ref l101, V.ref pc, V.int 0, V.ref pr])) (.ref ps) (shapeOf (firstD b)) := by
      refine .tup (SqT.of upd_same) (.cons TA (.cons TB2 (.cons ?_ (.cons TC (.cons TP (.cons ?_ (.cons ?_ (.cons TCC (.cons (.int _) (.cons TR .nil))))))))))
      · show Dp K _ _ (rowsT b.rights)
        rw [e7]; exact T7
      · show Dp K _ _ (.tuple ((dl b.ports).map fun _ => .tuple []))
        rw [e9]; exact T9
      · show Dp K _ _ (.tuple (List.replicate (dInt0 b.locks).toNat (.tuple [.none, .tuple []])))
        rw [e10]; exact T10
    generalize upd HI ps (.tup [V.ref pb1, V.ref pb2, V.ref l77, V.ref pb3, V.ref pp, V.ref l99, V.ref l101, V.ref pc, V.int 0, V.ref pr]) = HJ at *
    intro m2 dx nm ndx nemd
    have mm : Same HJ (upd (upd HJ dx (.own m2)) m2 (.ins CM dx [])) := (same_new ndx).trans (same_new (by rw [upd_ne (Ne.symm nemd)]; exact nm))
    have hB4 := hB.mono sHJ
    have npm : p ≠ m2 := fun z => by
      subst z
      obtain ⟨_, dx5, fs5, r5, e5, _⟩ := hB4
      rw [nm] at e5; cases e5
    refine ⟨m2, p, dx, .ref ps, b, firstD b, rfl, upd_same, npm, nMR, hB4.mono mm, L2.Dp.mono mm TS, fun H6 b6 hm6 => ⟨rfl, ?_⟩⟩
    have s46 : Same HJ H6 := fun a o e => b6 _ _ (mm _ _ e) (ne_of_none e nm)
    exact q m2 _ (sHJ.trans s46) hm6))) only [↓Hk.hold_s]
end
end T
local macro_rules | `(tactic| walk_at "s1") => `(tactic| first | with_reducible refine q_sl ?_ | with_reducible refine q_np ?_ | with_reducible refine q_pt ?_)
namespace T
local macro_rules | `(tactic| walk_at "sm") => `(tactic| (repeat (first | (walk_at "s1"; try dsimp only [List.set_cons_zero, List.set_cons_succ, List.append_nil, List.cons_append, List.nil_append, cxOf]) | ((with_reducible refine iteT' ?hh ?_); (case hh => rfl)) | ((with_reducible refine iteF' ?hh ?_); (case hh => rfl)) | with_reducible refine q_eq rfl ?_)))
section
variable {P : Program} {w : World} {K : PySem.W.Frag} {mg : Str → Option Value} {base : Heap}
theorem hb_abs : bootBuiltins "abs" = some (.builtin "abs") := by with_unfolding_all rfl
theorem hb_sum : bootBuiltins "sum" = some (.builtin "sum") := by with_unfolding_all rfl
def rIxA (K : PySem.W.Frag) : R2 := fun x y H Q => rIxL K x y H Q ∨ rIxT K x y H Q
theorem ix_any {X : Cx} : IxR X (rIxA X.K) := fun value slice pins s σ H x y v u Q I rx ry h e => h.elim (fun h => ix_list value slice pins s σ H x y v u Q I rx ry h e) (fun h => ix_tup value slice pins s σ H x y v u Q I rx ry h e)
/-- a list or a tuple -/
def SqA (K : PySem.W.Frag) (H : Hp) (v : V) (xs : List V) : Prop := ∃ a, v = .ref a ∧ (SqL K H a xs ∨ SqT K H a xs)
theorem q_lenR {K : PySem.W.Frag} {H : Hp} {F : List V → Prop} {r : Addr} {xs : List V} (h : SqL K H r xs ∨ SqT K H r xs) (q : F xs) : ∃ p ys, [V.ref r] = [V.ref p] ∧ (SqL K H p ys ∨ SqT K H p ys) ∧ F ys := ⟨r, xs, rfl, h, q⟩
theorem q_ixA {K : PySem.W.Frag} {H : Hp} {Q : VK} {v z : V} {xs : List V} {i : Int} (h : SqA K H v xs) (e : atI xs i = some z) (q : Q z H) : rIxA K v (.int i) H Q := by
  obtain ⟨a, rfl, h | h⟩ := h
  · exact .inl ⟨a, xs, i, z, rfl, rfl, h, e, q⟩
  · exact .inr ⟨a, xs, i, z, rfl, rfl, h, e, q⟩
def leaf : PyData → Prop | .none => True | .bool _ => True | .int _ => True | .str _ => True | _ => False
def depN : Nat → PyData → Prop
  | 0, _ => False
  | k + 1, d => leaf d ∨ ∃ ds, (d = .list ds ∨ d = .tuple ds) ∧ ds.length ≤ 1000 ∧ ∀ e ∈ ds, depN k e
theorem seq_dropT {a b : TS} {D : Ends} {σ : L2.St} {H : Hp} (h : a { D with nx := b D } σ H) : tSeq a b D σ H := h
/-- the numbers of the script -/
def spCell (K : PySem.W.Frag) : Sp := fun vs H Q _ => ∃ (a : Addr) (ns : List Int) (k : Nat), vs = [.ref a, .int k] ∧ SqL K H a (ns.map V.int) ∧ ns.length ≤ 63 ∧ k ≤ 1000 ∧ ∀ (c : Int) H', 0 ≤ c → Same H H' → Q (.int c) H'
theorem ok_law_cell (B : Bl mg) (g_abs : mg "abs" = none) (g_sum : mg "sum" = none) (d : DefAt K mg "_law_cell" s__law_cell ["_law_script", "_law_k"]) : Cal P w K mg base 1 "_law_cell" ["_law_script", "_law_k"] (spCell K) := by
 refine Hk.hold ?_
 simp (disch := with_unfolding_all (
 exact Hk.disch (d.cal fun f fd F => by
  refine F.ok sc__law_cell (fun vs H Q E h => ?_) (fun cdv A outer s H vs Q E hr h => ?_)
  · obtain ⟨a, ns, k, rfl, _⟩ := h; rfl
  · obtain ⟨a, ns, k, rfl, hs, l63, lk, q⟩ := h
    refine ⟨_, (pss_cons (ps_if (pt_cmpR op_lt (pv 1) (pe_callB call_len_seq rfl B.len hb_len (pa_cons (pv 0) pa_nil)) (nomark _)) (pss_one (ps_ret (pe_callB call_abs rfl g_abs hb_abs (pa_cons (pe_ix ix_list (pv 0) (pv 1) (fun _ _ => rfl)) pa_nil)))) pss_nil)
      (pss_one (ps_ret (pe_op op_add (pe_op op_mulW (pe_op op_mod (pe_callTy call_int1 rfl B.int_ hb_int (pa_cons (pe_callB (cr_sum rfl) rfl g_sum hb_sum (pa_cons (pe_slice sl_list (pv 0) po_none (po_some pe_int)) pa_nil)) pa_nil)) pe_int) pe_int) (pe_op op_mulW pe_int (pe_op op_add (pv 1) pe_int)))))), ?_⟩
    walk_at "st0"
    refine ⟨a, _, rfl, .inl hs, ?_⟩
    walk_at "st"
    refine q_if (fun hc => ?_) (fun hc => ?_)
    · walk_at "st"
      have lt : k < ns.length := by simp at hc; omega
      refine q_ixL hs (atI_nat (v := .int ns[k]) (by rw [List.getElem?_map, List.getElem?_eq_getElem lt]; rfl)) ?_
      walk_at "st"
      refine ⟨_, rfl, ?_⟩
      exact q _ _ (by split <;> omega) (Same.refl _)
    · walk_at "st"
      refine ⟨1, rfl, ?_⟩
      refine ⟨a, _, rfl, hs, fun pl nl => ?_⟩
      have sl := same_new (o := .lst (cutV (ns.map V.int) none (some 1))) nl
      have ec : cutV (ns.map V.int) none (some 1) = (ns.take 1).map V.int := by
        unfold cutV
        rw [HT.sIx_none, show HT.sIx (ns.map V.int).length (ns.map V.int).length (some 1) = min 1 (ns.map V.int).length from HT.sIx_nat _ _ 1, List.drop_zero, List.map_take, List.take_eq_take_iff]
        simp
      rw [ec] at sl ⊢
      refine ⟨pl, _, rfl, SqL.of upd_same, ?_⟩
      walk_at "st"
      refine .inl ⟨_, rfl, ?_⟩
      walk_at "st"
      refine ⟨_, _, rfl, rfl, by omega, ?_⟩
      walk_at "st"
      have m0 := Int.emod_nonneg ((ns.take 1).sum) (show (1000003 : Int) ≠ 0 by decide)
      have m1 := Int.emod_lt_of_pos ((ns.take 1).sum) (show (0 : Int) < 1000003 by decide)
      generalize (ns.take 1).sum % 1000003 = y at m0 m1
      refine ⟨_, _, rfl, rfl, wide_mul (a := 20) (b := 13) (by omega) (by omega) (by omega) (by omega) (by omega), ?_⟩
      walk_at "st"
      refine ⟨_, _, rfl, rfl, wide_mul (a := 17) (b := 10) (by omega) (by omega) (by omega) (by omega) (by omega), ?_⟩
      walk_at "st"
      exact q _ _ (by omega) sl))) only [↓Hk.hold_s]
def spDigits (K : PySem.W.Frag) : Sp := fun vs H Q _ => ∃ (c : Int) (a : Addr) (zs : List Int), vs = [.int c, .ref a] ∧ 0 ≤ c ∧ SqL K H a (zs.map V.int) ∧ zs.length ≤ 30 ∧ (∀ z ∈ zs, 1 ≤ z ∧ z < 1000) ∧ ∀ (l : Addr) (ds : List Int) H', Same H H' → H l = none → H' l = some (.lst (ds.map V.int)) → ds.length = zs.length → (∀ (i : Nat) (d z : Int), ds[i]? = some d → zs[i]? = some z → 0 ≤ d ∧ d < z) → Q (.ref l) H'
theorem ok_law_digits (B : Bl mg) (d : DefAt K mg "_law_digits" s__law_digits ["_law_cell_here", "_law_sizes"]) : Cal P w K mg base 1 "_law_digits" ["_law_cell_here", "_law_sizes"] (spDigits K) := by
 refine Hk.hold ?_
 simp (disch := with_unfolding_all (
 exact Hk.disch (d.cal fun f fd F => by
  refine F.ok sc__law_digits (fun vs H Q E h => ?_) (fun cdv A outer s H vs Q E hr h => ?_)
  · obtain ⟨c, a, zs, rfl, _⟩ := h; rfl
  · obtain ⟨c, a, zs, rfl, c0, hs, lz, hz, q⟩ := h
    refine ⟨_, (pss_cons (ps_set (i := 2) sc__law_digits.nd rfl (Or.inl rfl) (pe_lst pa_nil))
      (pss_cons (ps_set (i := 3) sc__law_digits.nd rfl (Or.inl rfl) (pv 0))
      (pss_cons (ps_for PassesOwn.never rfl (pi_range1 rfl B.range (pa_cons (pe_callB call_len_seq rfl B.len hb_len (pa_cons (pv 1) pa_nil)) pa_nil)) (pg_name (i := 4) sc__law_digits.nd rfl (Or.inl rfl)) (pss_one (ps_if (pt_cmpR op_lt (pv 0) (pe_op op_pow pe_int pe_int) (nomark _)) (pss_cons (ps_set (i := 3) sc__law_digits.nd rfl (Or.inl rfl) (pe_op op_mod (pe_callTy call_int1 rfl B.int_ hb_int (pa_cons (pe_op op_add (pe_op op_mulW (pv 3) pe_int) (pe_op op_mulW pe_int (pe_op op_add (pv 4) pe_int))) pa_nil)) pe_int))
      (pss_cons (ps_set (i := 5) sc__law_digits.nd rfl (Or.inl rfl) (pe_op op_mod (pe_callTy call_int1 rfl B.int_ hb_int (pa_cons (pe_op op_mulW (pv 3) (pe_op op_add (pe_op op_fdivW (pv 3) pe_int) pe_int)) pa_nil)) pe_int))
      (pss_one (ps_expr (pe_bm PySem.F.plainAttrs_list PySem.F.slot_list_append PySem.F.type_list_append mt_append (pv 2) (pa_cons (pe_op op_mod (pe_callTy call_int1 rfl B.int_ hb_int (pa_cons (pe_op op_fdivW (pv 5) pe_int) pa_nil)) (pe_ix ix_list (pv 1) (pv 4) (fun _ _ => rfl))) pa_nil)))))) (pss_cons (ps_expr (pe_bm PySem.F.plainAttrs_list PySem.F.slot_list_append PySem.F.type_list_append mt_append (pv 2) (pa_cons (pe_op op_mod (pe_callTy call_int1 rfl B.int_ hb_int (pa_cons (pv 3) pa_nil)) (pe_ix ix_list (pv 1) (pv 4) (fun _ _ => rfl))) pa_nil)))
      (pss_one (ps_set (i := 3) sc__law_digits.nd rfl (Or.inl rfl) (pe_op op_fdivW (pv 3) (pe_ix ix_list (pv 1) (pv 4) (fun _ _ => rfl)))))))))
      (pss_one (ps_ret (pv 2)))))), ?_⟩
    walk_at "st0"
    refine ⟨by show 0 ≤ sizeLine; decide, fun D nD => ?_⟩
    have sD := same_new (o := .lst []) nD
    walk_at "st"
    refine q_forRA ?_
    walk_at "st"
    refine ⟨a, _, rfl, .inl (sD.seq hs), ?_⟩
    rw [List.length_map]
    let J : Nat → L2.St → Hp → Prop := fun j σ H3 => ∃ (num : Int) (o1 o2 : Option V), σ = [some (.int c), some (.ref a), some (.ref D), some (.int num), o1, o2] ∧ 0 ≤ num ∧ (c < 10 ^ 18 → num < 2 ^ 60) ∧ Same H H3 ∧ ∃ ds : List Int, H3 D = some (.lst (ds.map V.int)) ∧ ds.length = j ∧ ∀ (i : Nat) (d z : Int), ds[i]? = some d → zs[i]? = some z → 0 ≤ d ∧ d < z
    refine ⟨_, rfl, by omega, by omega, forR J ⟨c, _, _, rfl, c0, fun h => by omega, sD, [], upd_same, rfl, fun i d z e => by simp at e⟩ (fun j σ H3 lj hJ => ?_) (fun σ H3 hJ => ?_)⟩
    · obtain ⟨num, o1, o2, rfl, n0, nb, s3, ds, eD, ld, hd⟩ := hJ
      have ltz : j < zs.length := by omega
      obtain ⟨z1, z2⟩ := hz _ (List.getElem_mem ltz)
      have ez : (zs.map V.int)[j]? = some (.int zs[j]) := by rw [List.getElem?_map, List.getElem?_eq_getElem ltz]; rfl
      have az : atI (zs.map V.int) ((0 : Int) + (j : Int)) = some (.int zs[j]) := by rw [Int.zero_add]; exact atI_nat ez
      have ezz : zs[j]? = some zs[j] := List.getElem?_eq_getElem ltz
      generalize zs[j] = z at z1 z2 ez az ezz
      have nDa : ∀ H', Same H H' → SqL K H' a (zs.map V.int) := fun H' s => s.seq hs
      have fin : ∀ (y num2 : Int) (o3 o4 : Option V), 0 ≤ y → y < z → 0 ≤ num2 → (c < 10 ^ 18 → num2 < 2 ^ 60) → J (j + 1) [some (.int c), some (.ref a), some (.ref D), some (.int num2), o3, o4] (upd H3 D (.lst (ds.map V.int ++ [.int y]))) := fun y num2 o3 o4 y0 y1 h0 h1 => by
        refine ⟨num2, o3, o4, rfl, h0, h1, fun b o hb => ?_, ds ++ [y], by rw [upd_same, List.map_append]; rfl, by simp [ld], fun i d z' ei ez' => ?_⟩
        · rw [upd_ne (ne_of_none hb nD)]; exact s3 _ _ hb
        · rw [List.getElem?_append] at ei
          split at ei
          · exact hd i d z' ei ez'
          · rename_i hge
            have : i = j := by
              rcases Nat.lt_trichotomy i j with h | h | h
              · omega
              · exact h
              · rw [List.getElem?_eq_none (by simp; omega)] at ei; cases ei
            subst this
            rw [ezz] at ez'
            cases ez'
            simp [ld] at ei
            subst ei
            exact ⟨y0, y1⟩
      have few : (ds.map V.int).length < sizeLine := by rw [List.length_map]; exact sz1000 (by omega)
      refine q_gname ?_
      walk_at "st"
      refine ⟨10, 18, rfl, rfl, ⟨by decide, by decide, by decide⟩, ?_⟩
      walk_at "st"
      refine q_if (fun hc => ?_) (fun hc => ?_)
      · have hc' : c < 10 ^ 18 := by simpa using hc
        have nb' := nb hc'
        walk_at "st"
        refine ⟨_, _, rfl, rfl, wide_mul (a := 60) (b := 16) (by omega) (by omega) (by omega) (by omega) (by omega), ?_⟩
        walk_at "st"
        refine ⟨_, _, rfl, rfl, wide_mul (a := 15) (b := 7) (by omega) (by omega) (by omega) (by omega) (by omega), ?_⟩
        walk_at "st"
        refine .inl ⟨_, rfl, ?_⟩
        walk_at "st"
        refine ⟨_, _, rfl, rfl, by omega, ?_⟩
        have m0 := Int.emod_nonneg (num * 48271 + 30103 * ((0 : Int) + (j : Int) + 1)) (show (2147483629 : Int) ≠ 0 by decide)
        have m1 := Int.emod_lt_of_pos (num * 48271 + 30103 * ((0 : Int) + (j : Int) + 1)) (show (0 : Int) < 2147483629 by decide)
        walk_at "st"
        generalize (num * 48271 + 30103 * ((0 : Int) + (j : Int) + 1)) % 2147483629 = num2 at m0 m1 ⊢
        refine ⟨_, _, rfl, rfl, wide_div (b := 11) (by omega) (by decide) (by omega) (by omega), ?_⟩
        walk_at "st"
        refine ⟨_, _, rfl, rfl, wide_mul (a := 31) (b := 22) (by omega) (by omega) (by omega) (by omega) (by omega), ?_⟩
        walk_at "st"
        refine .inl ⟨_, rfl, ?_⟩
        walk_at "st"
        refine ⟨_, _, rfl, rfl, by omega, ?_⟩
        walk_at "st"
        refine ⟨.inl ⟨rfl, ds.map V.int, SqL.of eD⟩, ?_⟩
        walk_at "st"
        refine ⟨_, _, rfl, rfl, wide_div (b := 5) (by omega) (by decide) (by omega) (by omega), ?_⟩
        walk_at "st"
        refine .inl ⟨_, rfl, ?_⟩
        walk_at "st"
        refine q_ixL (nDa _ s3) az ?_
        refine ⟨_, _, rfl, rfl, by omega, ?_⟩
        refine ⟨D, _, _, rfl, rfl, eD, few, ?_⟩
        exact fin _ _ _ _ (Int.emod_nonneg _ (by omega)) (Int.emod_lt_of_pos _ (by omega)) m0 (fun _ => by omega)
      · have hc' : ¬ c < 10 ^ 18 := by simpa using hc
        refine seq_dropT ?_
        refine q_app rfl eD ?_
        walk_at "st"
        refine .inl ⟨_, rfl, ?_⟩
        walk_at "st"
        refine q_ixL (nDa _ s3) az ?_
        refine ⟨_, _, rfl, rfl, by omega, ?_⟩
        refine ⟨D, _, _, rfl, rfl, eD, few, ?_⟩
        walk_at "st"
        refine q_ixL (nDa _ fun b o hb => by rw [upd_ne (ne_of_none hb nD)]; exact s3 _ _ hb) az ?_
        refine ⟨_, _, rfl, rfl, wide_div (b := 10) (by omega) (by omega) (by omega) (by omega), ?_⟩
        exact fin _ _ _ _ (Int.emod_nonneg _ (by omega)) (Int.emod_lt_of_pos _ (by omega)) (Int.ediv_nonneg n0 (by omega)) (fun h => absurd h hc')
    · obtain ⟨num, o1, o2, rfl, n0, nb, s3, ds, eD, ld, hd⟩ := hJ
      walk_at "st"
      exact q D ds H3 s3 nD eD (by simpa using ld) hd))) only [↓Hk.hold_s]
end
end T
namespace T
local macro_rules | `(tactic| walk_at "sm") => `(tactic| (repeat (first | (walk_at "s1"; try dsimp only [List.set_cons_zero, List.set_cons_succ, List.append_nil, List.cons_append, List.nil_append, cxOf]) | ((with_reducible refine iteT' ?hh ?_); (case hh => rfl)) | ((with_reducible refine iteF' ?hh ?_); (case hh => rfl)) | with_reducible refine q_eq rfl ?_ | with_reducible refine q_ne rfl ?_)))
section
variable {P : Program} {w : World} {K : PySem.W.Frag} {mg : Str → Option Value} {base : Heap}
def spSameT (K : PySem.W.Frag) (k : Nat) : Sp := fun vs H Q _ => ∃ (v1 v2 : V) (d : PyData), vs = [v1, v2] ∧ Dp K H v1 d ∧ Dp K H v2 d ∧ depN k d ∧ Q (.bl true) H
theorem ok_law_same (B : Bl mg) (d : DefAt K mg "_law_same" s__law_same ["_law_told", "_law_due"]) : ∀ k, Cal P w K mg base k "_law_same" ["_law_told", "_law_due"] (spSameT K k)
  | 0 => by
    obtain ⟨f, fd, F, g, b⟩ := d.ex
    exact ⟨f, fd, g, F.kp, b, ⟨fun vs H Q E h => by obtain ⟨v, _, d, _, _, _, h, _⟩ := h; exact h.elim, fun A outer s H args us vs Q E _ _ _ _ h => by obtain ⟨v, _, d, _, _, _, h, _⟩ := h; exact h.elim⟩⟩
  | k + 1 => by
    have c__law_same := ok_law_same B d k
    refine d.cal fun f fd F => ?_
    refine F.ok sc__law_same (fun vs H Q E h => ?_) (fun cdv A outer s H vs Q E hr h => ?_)
    · obtain ⟨v1, v2, d, rfl, _⟩ := h; rfl
    obtain ⟨v1, v2, d, rfl, h1, h2, hk, q⟩ := h
    refine ⟨_, (pss_cons (ps_if (PW.pt (pw_or (pt_val (pe_callB call_isi rfl B.isinstance hb_isinstance (pa_cons (pv 1) (pa_cons (pe_bltn (v := .ty "tuple") rfl B.tuple_ hb_tuple rfl) pa_nil)))) (pw_or1 (pt_val (pe_callB call_isi rfl B.isinstance hb_isinstance (pa_cons (pv 1) (pa_cons (pe_bltn (v := .ty "list") rfl B.list_ hb_list rfl) pa_nil))))))) (pss_cons (ps_if (PW.pt (pw_or (pt_cmpR op_ne (pe_callB call_isi rfl B.isinstance hb_isinstance (pa_cons (pv 0) (pa_cons (pe_bltn (v := .ty "tuple") rfl B.tuple_ hb_tuple rfl) pa_nil))) (pe_callB call_isi rfl B.isinstance hb_isinstance (pa_cons (pv 1) (pa_cons (pe_bltn (v := .ty "tuple") rfl B.tuple_ hb_tuple rfl) pa_nil))) (nomark _)) (pw_or1 (pt_cmpR op_ne (pe_callB call_isi rfl B.isinstance hb_isinstance (pa_cons (pv 0) (pa_cons (pe_bltn (v := .ty "list") rfl B.list_ hb_list rfl) pa_nil))) (pe_callB call_isi rfl B.isinstance hb_isinstance (pa_cons (pv 1) (pa_cons (pe_bltn (v := .ty "list") rfl B.list_ hb_list rfl) pa_nil))) (nomark _))))) (pss_one (ps_ret pe_bl)) pss_nil)
      (pss_cons (ps_if (pt_cmpR op_ne (pe_callB call_len_seq rfl B.len hb_len (pa_cons (pv 0) pa_nil)) (pe_callB call_len_seq rfl B.len hb_len (pa_cons (pv 1) pa_nil)) (nomark _)) (pss_one (ps_ret pe_bl)) pss_nil)
      (pss_cons (ps_for PassesOwn.never rfl (pi_range1 rfl B.range (pa_cons (pe_callB call_len_seq rfl B.len hb_len (pa_cons (pv 1) pa_nil)) pa_nil)) (pg_name (i := 2) sc__law_same.nd rfl (Or.inl rfl)) (pss_one (ps_if (pt_not (pt_val (pe_cal c__law_same (hr.mono (by omega)) rfl (pa_cons (pe_ix ix_any (pv 0) (pv 2) (fun _ _ => rfl)) (pa_cons (pe_ix ix_any (pv 1) (pv 2) (fun _ _ => rfl)) pa_nil))))) (pss_one (ps_ret pe_bl)) pss_nil)))
      (pss_one (ps_ret pe_bl))))) pss_nil)
      (pss_cons (ps_if (pt_cmp (pc_isN (pv 1))) (pss_one (ps_ret (pe_cmp (pc_isN (pv 0))))) pss_nil)
      (pss_cons (ps_if (pt_val (pe_callB call_isi rfl B.isinstance hb_isinstance (pa_cons (pv 1) (pa_cons (pe_bltn (v := .ty "str") rfl B.str_ hb_str rfl) pa_nil)))) (pss_one (ps_ret (pe_and (pe_callB call_isi rfl B.isinstance hb_isinstance (pa_cons (pv 0) (pa_cons (pe_bltn (v := .ty "str") rfl B.str_ hb_str rfl) pa_nil))) (pe_one (pe_cmpR op_eq (pv 0) (pv 1) (nomark _)))))) pss_nil)
      (pss_cons (ps_if (PW.pt (pw_or (pt_val (pe_callB call_isi rfl B.isinstance hb_isinstance (pa_cons (pv 1) (pa_cons (pe_bltn (v := .ty "bool") rfl B.bool_ hb_bool rfl) pa_nil)))) (pw_or1 (pt_val (pe_callB call_isi rfl B.isinstance hb_isinstance (pa_cons (pv 0) (pa_cons (pe_bltn (v := .ty "bool") rfl B.bool_ hb_bool rfl) pa_nil))))))) (pss_one (ps_ret (pe_and (pe_callB call_isi rfl B.isinstance hb_isinstance (pa_cons (pv 1) (pa_cons (pe_bltn (v := .ty "bool") rfl B.bool_ hb_bool rfl) pa_nil))) (pe_and (pe_callB call_isi rfl B.isinstance hb_isinstance (pa_cons (pv 0) (pa_cons (pe_bltn (v := .ty "bool") rfl B.bool_ hb_bool rfl) pa_nil))) (pe_one (pe_cmpR op_eq (pv 0) (pv 1) (nomark _))))))) pss_nil)
      (pss_one (ps_ret (pe_and (pe_callB call_isi rfl B.isinstance hb_isinstance (pa_cons (pv 0) (pa_cons (pe_bltn (v := .ty "int") rfl B.int_ hb_int rfl) pa_nil))) (pe_one (pe_cmpR op_eq (pv 0) (pv 1) (nomark _)))))))))), ?_⟩
    walk_at "st0"
    have a1 := h1
    have a2 := h2
    cases h2 with
    | non => cases h1; walk_at "sm"; exact q
    | bl b => cases h1; walk_at "sm"; rw [decide_eq_true rfl]; exact q
    | int b => cases h1; walk_at "sm"; rw [decide_eq_true rfl]; exact q
    | str b => cases h1; walk_at "sm"; rw [decide_eq_true rfl]; exact q
    | @lst p ys es hs2 ha2 =>
      cases h1 with
      | @lst r xs ds hs1 ha1 =>
        walk_at "sm"
        have la := ha1.length
        have lb := ha2.length
        have few : es.length ≤ 1000 ∧ ∀ e ∈ es, depN k e := by
          rcases hk with h | ⟨ds', e, l, hall⟩
          · exact h.elim
          · rcases e with e | e
            all_goals first | (cases e; done) | (cases e; exact ⟨l, hall⟩)
        obtain ⟨l1000, hall⟩ := few
        refine q_lenR (.inl hs1) ?_
        walk_at "st"
        refine q_lenR (.inl hs2) ?_
        walk_at "st"
        refine q_ne rfl ?_
        walk_at "st"
        have e0 : (V.int (xs.length : Int)) = V.int (ys.length : Int) := by rw [la, lb]
        rw [decide_eq_true e0]
        refine iteF ?_
        walk_at "st"
        refine q_forRA ?_
        walk_at "st"
        refine q_lenR (.inl hs2) ?_
        walk_at "st"
        refine ⟨_, rfl, by omega, by omega, forR (fun i σ H2 => ∃ o, σ = [some (.ref r), some (.ref p), o] ∧ H2 = H) ⟨_, rfl, rfl⟩ (fun i σ H2 lt hI => ?_) (fun σ H2 hI => ?_)⟩
        · obtain ⟨o, rfl, rfl⟩ := hI
          replace lt : i < ys.length := by simpa using lt
          have ex : xs[i]? = some (xs[i]'(by omega)) := List.getElem?_eq_getElem (by omega)
          have ey : ys[i]? = some (ys[i]'(by omega)) := List.getElem?_eq_getElem (by omega)
          generalize xs[i]'(by omega) = x at ex
          generalize ys[i]'(by omega) = y at ey
          obtain ⟨dx, edx, hx⟩ := ha1.get' ex
          obtain ⟨dy, edy, hy⟩ := ha2.get' ey
          rw [edx] at edy
          cases edy
          have ax : atI xs ((0 : Int) + (i : Int)) = some x := by rw [Int.zero_add]; exact atI_nat ex
          have ay : atI ys ((0 : Int) + (i : Int)) = some y := by rw [Int.zero_add]; exact atI_nat ey
          refine q_gname ?_
          walk_at "st"
          refine q_ixA (xs := xs) ⟨r, rfl, .inl hs1⟩ ax ?_
          walk_at "st"
          refine q_ixA (xs := ys) ⟨p, rfl, .inl hs2⟩ ay ?_
          walk_at "st"
          refine ⟨x, y, dx, rfl, hx, hy, hall dx (List.mem_of_getElem? edx), ?_⟩
          walk_at "st"
          refine iteF ?_
          walk_at "st"
          exact ⟨_, rfl, rfl⟩
        · obtain ⟨o, rfl, rfl⟩ := hI
          walk_at "st"
          exact q
    | @tup p ys es hs2 ha2 =>
      cases h1 with
      | @tup r xs ds hs1 ha1 =>
        walk_at "sm"
        have la := ha1.length
        have lb := ha2.length
        have few : es.length ≤ 1000 ∧ ∀ e ∈ es, depN k e := by
          rcases hk with h | ⟨ds', e, l, hall⟩
          · exact h.elim
          · rcases e with e | e
            all_goals first | (cases e; done) | (cases e; exact ⟨l, hall⟩)
        obtain ⟨l1000, hall⟩ := few
        refine q_lenR (.inr hs1) ?_
        walk_at "st"
        refine q_lenR (.inr hs2) ?_
        walk_at "st"
        refine q_ne rfl ?_
        walk_at "st"
        have e0 : (V.int (xs.length : Int)) = V.int (ys.length : Int) := by rw [la, lb]
        rw [decide_eq_true e0]
        refine iteF ?_
        walk_at "st"
        refine q_forRA ?_
        walk_at "st"
        refine q_lenR (.inr hs2) ?_
        walk_at "st"
        refine ⟨_, rfl, by omega, by omega, forR (fun i σ H2 => ∃ o, σ = [some (.ref r), some (.ref p), o] ∧ H2 = H) ⟨_, rfl, rfl⟩ (fun i σ H2 lt hI => ?_) (fun σ H2 hI => ?_)⟩
        · obtain ⟨o, rfl, rfl⟩ := hI
          replace lt : i < ys.length := by simpa using lt
          have ex : xs[i]? = some (xs[i]'(by omega)) := List.getElem?_eq_getElem (by omega)
          have ey : ys[i]? = some (ys[i]'(by omega)) := List.getElem?_eq_getElem (by omega)
          generalize xs[i]'(by omega) = x at ex
          generalize ys[i]'(by omega) = y at ey
          obtain ⟨dx, edx, hx⟩ := ha1.get' ex
          obtain ⟨dy, edy, hy⟩ := ha2.get' ey
          rw [edx] at edy
          cases edy
          have ax : atI xs ((0 : Int) + (i : Int)) = some x := by rw [Int.zero_add]; exact atI_nat ex
          have ay : atI ys ((0 : Int) + (i : Int)) = some y := by rw [Int.zero_add]; exact atI_nat ey
          refine q_gname ?_
          walk_at "st"
          refine q_ixA (xs := xs) ⟨r, rfl, .inr hs1⟩ ax ?_
          walk_at "st"
          refine q_ixA (xs := ys) ⟨p, rfl, .inr hs2⟩ ay ?_
          walk_at "st"
          refine ⟨x, y, dx, rfl, hx, hy, hall dx (List.mem_of_getElem? edx), ?_⟩
          walk_at "st"
          refine iteF ?_
          walk_at "st"
          exact ⟨_, rfl, rfl⟩
        · obtain ⟨o, rfl, rfl⟩ := hI
          walk_at "st"
          exact q
end
end T
namespace T
mutual
def noL : PyData → Bool
  | .none => true
  | .bool _ => true
  | .int _ => true
  | .str _ => true
  | .list _ => false
  | .tuple xs => noLs xs
  | .dict _ => false
def noLs : List PyData → Bool
  | [] => true
  | d :: ds => noL d && noLs ds
end
theorem noLs_all : ∀ ds, noLs ds = true ↔ ∀ d ∈ ds, noL d = true
  | [] => by simp [noLs]
  | d :: ds => by simp [noLs, noLs_all ds]
/-- all but lists is as it was -/
def KeepL (H H' : Hp) : Prop := ∀ b o, H b = some o → (∀ xs, o ≠ .lst xs) → H' b = some o
theorem KeepL.put {H : Hp} {a : Addr} {xs ys : List V} (e : H a = some (.lst xs)) : KeepL H (upd H a (.lst ys)) := fun b o h n => by
  have hb : b ≠ a := fun z => by subst z; rw [e] at h; cases h; exact n xs rfl
  rw [upd_ne hb]; exact h
section
variable {K : PySem.W.Frag} {C CR CM : Addr}
theorem KeepL.sqT {H H' : Hp} {a : Addr} {xs : List V} (s : KeepL H H') (h : SqT K H a xs) : SqT K H' a xs := by
  rcases h with (h | ⟨o, h⟩) | h
  · exact .inl (.inl (s _ _ h (by simp)))
  · exact .inl (.inr ⟨o, s _ _ h (by simp)⟩)
  · exact .inr h
theorem noL_list {ds : List PyData} (h : noL (.list ds) = true) : False := by
  rw [noL] at h; cases h
theorem noL_tup {ds : List PyData} (h : noL (.tuple ds) = true) : noLs ds = true := by
  rw [noL] at h; exact h
theorem noLs_cons {d : PyData} {ds : List PyData} (h : noLs (d :: ds) = true) : noL d = true ∧ noLs ds = true := by
  rw [noLs] at h; exact Bool.and_eq_true_iff.mp h
set_option maxHeartbeats 400000 in
mutual
theorem dpKeepL {H H' : Hp} (s : KeepL H H') : ∀ {v : V} {d : PyData}, Dp K H v d → noL d = true → Dp K H' v d
  | _, _, .non, _ => .non
  | _, _, .bl b, _ => .bl b
  | _, _, .int i, _ => .int i
  | _, _, .str x, _ => .str x
  | _, _, .lst _ _, h => (noL_list h).elim
  | _, _, .tup t a, h => .tup (KeepL.sqT s t) (dpAllKeepL s a (noL_tup h))
theorem dpAllKeepL {H H' : Hp} (s : KeepL H H') : ∀ {vs : List V} {ds : List PyData}, DpAll K H vs ds → noLs ds = true → DpAll K H' vs ds
  | _, _, .nil, _ => .nil
  | _, _, .cons a t, h => .cons (dpKeepL s a (noLs_cons h).1) (dpAllKeepL s t (noLs_cons h).2)
end
end
end T
local macro_rules | `(tactic| walk_at "s1") => `(tactic| first | with_reducible refine q_sl ?_ | with_reducible refine q_np ?_ | with_reducible refine q_pt ?_)
namespace T
def rtd (p : Rt) : PyData := .tuple [.str p.1, .int p.2]
theorem srt_mem {l : List Rt} {p : Rt} : p ∈ srt l ↔ p ∈ l := (srt_perm l).mem_iff
theorem srt_len (l : List Rt) : (srt l).length = l.length := (srt_perm l).length_eq
theorem eqv_rtd (a b : Rt) : PyData.eqv (rtd a) (rtd b) = decide (a = b) := by
  obtain ⟨z, i⟩ := a
  obtain ⟨y, j⟩ := b
  show PyData.eqv (.tuple [.str z, .int i]) (.tuple [.str y, .int j]) = _
  simp only [PyData.eqv, PyData.eqvAll, Bool.and_true]
  rw [Bool.eq_iff_iff, Bool.and_eq_true, beq_iff_eq, beq_iff_eq, decide_eq_true_iff, Prod.mk.injEq]
theorem any_rtd (l : List Rt) (p : Rt) : ((l.map rtd).any fun z => PyData.eqv z (rtd p)) = decide (p ∈ l) := by
  rw [List.any_map]
  have e : ((fun z => PyData.eqv z (rtd p)) ∘ rtd) = fun z => decide (z = p) := funext fun z => eqv_rtd z p
  rw [e, Bool.eq_iff_iff, List.any_eq_true, decide_eq_true_iff]
  constructor
  · rintro ⟨x, hx, h⟩
    rw [← of_decide_eq_true h]; exact hx
  · intro h
    exact ⟨p, h, decide_eq_true rfl⟩
theorem shaped_rtd {p : Rt} (h : PyData.strOk p.1 = true) : SeqAt.shaped (rtd p) = true := by
  show (PyData.strOk p.1 && (true && true) && decide (_ ≤ 64)) = true
  rw [h]
  rfl
theorem lay_rtds : ∀ {l : List Rt}, (∀ p ∈ l, PyData.strOk p.1 = true) → PyData.canLayAll0 (l.map rtd) = true ∧ PyData.depthAll (l.map rtd) ≤ 1
  | [], _ => ⟨rfl, by decide⟩
  | p :: r, h => by
    obtain ⟨h1, h2⟩ := lay_rtds (l := r) fun q hq => h q (List.mem_cons_of_mem _ hq)
    have h0 := h p List.mem_cons_self
    refine ⟨?_, ?_⟩
    · show ((PyData.strOk p.1 && (true && true)) && PyData.canLayAll0 (r.map rtd)) = true
      rw [h0, h1]; rfl
    · show max (max 0 (max 0 0) + 1) (PyData.depthAll (r.map rtd)) ≤ 1
      omega
theorem shaped_rtds {l : List Rt} (h : ∀ p ∈ l, PyData.strOk p.1 = true) : SeqAt.shaped (.tuple (l.map rtd)) = true ∧ SeqAt.shaped (.list (l.map rtd)) = true := by
  obtain ⟨h1, h2⟩ := lay_rtds h
  have e : (PyData.canLayAll0 (l.map rtd) && decide (PyData.depthAll (l.map rtd) + 1 ≤ 64)) = true := by
    rw [h1, decide_eq_true (by omega)]; rfl
  exact ⟨e, e⟩
section
variable {K : PySem.W.Frag}
theorem pair_of_dp {H : Hp} : ∀ {xs : List V} {l : List Rt}, DpAll K H xs (l.map rtd) → Paired (PairR K H) xs l
  | _, [], h => by cases h; exact .nil
  | _, (z, i) :: r, h => by
    cases h with
    | cons a t =>
      refine .cons ?_ (pair_of_dp t)
      have a' : Dp K H _ (.tuple [.str z, .int i]) := a
      cases a' with
      | @tup b ys _ hb hys =>
      cases hys with
      | @cons y0 q0 _ _ a0 hys =>
      cases hys with
      | @cons y1 q1 _ _ a1 hys =>
      cases hys
      cases a0; cases a1
      exact ⟨b, rfl, hb⟩
theorem dp_of_pair {H : Hp} {xs : List V} {l : List Rt} (h : Paired (PairR K H) xs l) : DpAll K H xs (l.map rtd) := by
  induction h with
  | nil => exact .nil
  | cons a t ih =>
    obtain ⟨b, rfl, hb⟩ := a
    exact .cons (.tup hb (.cons (.str _) (.cons (.int _) .nil))) ih
theorem pair_mono {H H' : Hp} (s : Same H H') {xs : List V} {l : List Rt} (h : Paired (PairR K H) xs l) : Paired (PairR K H') xs l :=
  Paired.mapP h fun _ _ ⟨t, e, q⟩ => ⟨t, e, Same.sqT s q⟩
end
end T
namespace T
section
variable {P : Program} {w : World} {K : PySem.W.Frag} {mg : Str → Option Value} {base : Heap}
def RowAt (K : PySem.W.Frag) (H : Hp) (ra : Addr) (row : List Rt) : Prop := ∃ ys, H ra = some (.lst ys) ∧ DpAll K H ys (row.map rtd)
theorem noLs_rtd (l : List Rt) : noLs (l.map rtd) = true := by
  rw [noLs_all]
  intro d hd
  obtain ⟨p, _, rfl⟩ := List.mem_map.mp hd
  rfl
theorem RowAt.mono {H H' : Hp} {a : Addr} {row : List Rt} (s : Same H H') (r : RowAt K H a row) : RowAt K H' a row := by
  obtain ⟨ys, e, d⟩ := r
  exact ⟨ys, s _ _ e, L2.DpAll.mono s d⟩
theorem pairR_get {α β : Type} {Pr : α → β → Prop} {xs : List α} {l : List β} (h : Paired Pr xs l) : ∀ {i : Nat} {y : β}, l[i]? = some y → ∃ x, xs[i]? = some x ∧ Pr x y := by
  induction h with
  | nil => intro i y e; simp at e
  | cons a t ih =>
    intro i y e
    cases i with
    | zero =>
      simp only [List.getElem?_cons_zero, Option.some.injEq] at e
      subst e
      exact ⟨_, rfl, a⟩
    | succ i =>
      simp only [List.getElem?_cons_succ] at e ⊢
      exact ih e
theorem pairR_len {α β : Type} {Pr : α → β → Prop} {xs : List α} {l : List β} (h : Paired Pr xs l) : xs.length = l.length := by
  induction h with
  | nil => rfl
  | cons _ _ ih => simp [ih]
end
end T
namespace T
section
variable {P : Program} {w : World} {K : PySem.W.Frag} {mg : Str → Option Value} {base : Heap}
def wordL (z : Str) (n : Nat) : List Rt := (List.range n).map fun k => (z, ((k : Nat) : Int))
theorem wordL_len (z : Str) (n : Nat) : (wordL z n).length = n := by unfold wordL; rw [List.length_map, List.length_range]
def seekL (dk : Int) : List Rt := if dk > 0 then [("seek", 0)] else []
theorem seekL_le (dk : Int) : (seekL dk).length ≤ 1 := by unfold seekL; split <;> simp
def menuL (m np nq nl : Nat) (dk : Int) : List Rt := wordL "hand" m ++ wordL "lock" nl ++ wordL "read" np ++ seekL dk ++ wordL "send" nq ++ wordL "strip" m ++ wordL "take" nq ++ wordL "write" np
theorem word_dps {H : Hp} {z : Str} {n : Nat} {ys : List V} (l : ys.length = n) (h : ∀ (i : Nat) (y : V), ys[i]? = some y → ∃ t, y = .ref t ∧ H t = some (.tup [.str z, .int (i : Nat)])) : DpAll K H ys ((wordL z n).map rtd) := by
  refine dpAll_of (by rw [List.length_map, wordL_len, l]) fun i x d e1 e2 => ?_
  obtain ⟨t, rfl, et⟩ := h i x e1
  have hi := (List.getElem?_eq_some_iff.mp e1).1
  unfold wordL at e2
  rw [List.map_map, List.getElem?_map, List.getElem?_range (by omega)] at e2
  cases e2
  exact .tup (SqT.of et) (.cons (.str _) (.cons (.int _) .nil))
local macro_rules | `(tactic| walk_at "lw") => `(tactic| (first
  | (intro i y Ha Hb acc e bt h; obtain ⟨t, e0, h1⟩ := h; subst e0; exact ⟨t, Eq.refl _, bt _ _ h1 (fun z => by subst z; rw [h1] at e; cases e)⟩)
  | (intro i x H6 H7 lt s h Q' k; obtain ⟨e1, e2⟩ := h; subst e1; subst e2; refine q_gname ?_; refine ⟨Eq.refl _, ?_⟩; walk_at "st"; exact ⟨by show 2 ≤ sizeLine; decide, fun pt nt => k _ _ (same_new nt) ⟨pt, Eq.refl _, by rw [upd_same, Int.zero_add]⟩⟩)))
def spMenu (K : PySem.W.Frag) : Sp := fun vs H Q _ => ∃ (m np nq nl : Nat) (dk : Int), vs = [.int m, .int np, .int nq, .int nl, .int dk] ∧ m ≤ 4 ∧ np ≤ 4 ∧ nq ≤ 4 ∧ nl ≤ 4 ∧ ∀ l ys H', Same H H' → H l = none → H' l = some (.lst ys) → DpAll K H' ys ((menuL m np nq nl dk).map rtd) → Q (.ref l) H'
theorem ok_law_menu (B : Bl mg) (cc : DefAt K mg "_law_menu" s__law_menu ["_law_many", "_law_pages", "_law_ports", "_law_locks", "_law_disk"]) : Cal P w K mg base 1 "_law_menu" ["_law_many", "_law_pages", "_law_ports", "_law_locks", "_law_disk"] (spMenu K) := by
 refine Hk.hold ?_
 simp (disch := with_unfolding_all (
 exact Hk.disch (cc.cal fun f fd F => by
  refine F.ok sc__law_menu (fun vs H Q E h => ?_) (fun cdv A outer s H vs Q E hr h => ?_)
  · obtain ⟨m, np, nq, nl, dk, rfl, _⟩ := h; rfl
  · obtain ⟨m, np, nq, nl, dk, rfl, m4, p4, q4, l4, q⟩ := h
    refine ⟨_, (pss_cons (ps_set (i := 5) sc__law_menu.nd rfl (Or.inl rfl) (pe_op op_cat (pe_lc (own := [("_law_k", 6)]) (tt := tYes) rfl sc__law_menu.nd (pi_range1 rfl B.range (pa_cons (pv 0) pa_nil)) (blkOk_by (N := ["_law_many", "_law_pages", "_law_ports", "_law_locks", "_law_disk", "_law_menu_here", "_law_k"]) (sc := defScope s__law_menu) (by decide +kernel)) (fun _ _ _ _ _ => (pg_name (i := 6) sc__law_menu.nd rfl (Or.inl rfl))) (fun _ _ _ _ _ => pts_nil) (fun _ _ _ _ _ => (pe_tup (pa_cons pe_str (pa_cons (pv 6) pa_nil))))) (pe_lc (own := [("_law_k", 6)]) (tt := tYes) rfl sc__law_menu.nd (pi_range1 rfl B.range (pa_cons (pv 3) pa_nil)) (blkOk_by (N := ["_law_many", "_law_pages", "_law_ports", "_law_locks", "_law_disk", "_law_menu_here", "_law_k"]) (sc := defScope s__law_menu) (by decide +kernel)) (fun _ _ _ _ _ => (pg_name (i := 6) sc__law_menu.nd rfl (Or.inl rfl))) (fun _ _ _ _ _ => pts_nil) (fun _ _ _ _ _ => (pe_tup (pa_cons pe_str (pa_cons (pv 6) pa_nil)))))))
      (pss_cons (ps_set (i := 5) sc__law_menu.nd rfl (Or.inl rfl) (pe_op op_cat (pv 5) (pe_lc (own := [("_law_k", 6)]) (tt := tYes) rfl sc__law_menu.nd (pi_range1 rfl B.range (pa_cons (pv 1) pa_nil)) (blkOk_by (N := ["_law_many", "_law_pages", "_law_ports", "_law_locks", "_law_disk", "_law_menu_here", "_law_k"]) (sc := defScope s__law_menu) (by decide +kernel)) (fun _ _ _ _ _ => (pg_name (i := 6) sc__law_menu.nd rfl (Or.inl rfl))) (fun _ _ _ _ _ => pts_nil) (fun _ _ _ _ _ => (pe_tup (pa_cons pe_str (pa_cons (pv 6) pa_nil)))))))
      (pss_cons (ps_if (pt_cmpR op_gt (pv 4) pe_int (nomark _)) (pss_one (ps_expr (pe_bm PySem.F.plainAttrs_list PySem.F.slot_list_append PySem.F.type_list_append mt_append (pv 5) (pa_cons (pe_tup (pa_cons pe_str (pa_cons pe_int pa_nil))) pa_nil)))) pss_nil)
      (pss_cons (ps_set (i := 5) sc__law_menu.nd rfl (Or.inl rfl) (pe_op op_cat (pe_op op_cat (pv 5) (pe_lc (own := [("_law_k", 6)]) (tt := tYes) rfl sc__law_menu.nd (pi_range1 rfl B.range (pa_cons (pv 2) pa_nil)) (blkOk_by (N := ["_law_many", "_law_pages", "_law_ports", "_law_locks", "_law_disk", "_law_menu_here", "_law_k"]) (sc := defScope s__law_menu) (by decide +kernel)) (fun _ _ _ _ _ => (pg_name (i := 6) sc__law_menu.nd rfl (Or.inl rfl))) (fun _ _ _ _ _ => pts_nil) (fun _ _ _ _ _ => (pe_tup (pa_cons pe_str (pa_cons (pv 6) pa_nil)))))) (pe_lc (own := [("_law_k", 6)]) (tt := tYes) rfl sc__law_menu.nd (pi_range1 rfl B.range (pa_cons (pv 0) pa_nil)) (blkOk_by (N := ["_law_many", "_law_pages", "_law_ports", "_law_locks", "_law_disk", "_law_menu_here", "_law_k"]) (sc := defScope s__law_menu) (by decide +kernel)) (fun _ _ _ _ _ => (pg_name (i := 6) sc__law_menu.nd rfl (Or.inl rfl))) (fun _ _ _ _ _ => pts_nil) (fun _ _ _ _ _ => (pe_tup (pa_cons pe_str (pa_cons (pv 6) pa_nil)))))))
      (pss_one (ps_ret (pe_op op_cat (pe_op op_cat (pv 5) (pe_lc (own := [("_law_k", 6)]) (tt := tYes) rfl sc__law_menu.nd (pi_range1 rfl B.range (pa_cons (pv 2) pa_nil)) (blkOk_by (N := ["_law_many", "_law_pages", "_law_ports", "_law_locks", "_law_disk", "_law_menu_here", "_law_k"]) (sc := defScope s__law_menu) (by decide +kernel)) (fun _ _ _ _ _ => (pg_name (i := 6) sc__law_menu.nd rfl (Or.inl rfl))) (fun _ _ _ _ _ => pts_nil) (fun _ _ _ _ _ => (pe_tup (pa_cons pe_str (pa_cons (pv 6) pa_nil)))))) (pe_lc (own := [("_law_k", 6)]) (tt := tYes) rfl sc__law_menu.nd (pi_range1 rfl B.range (pa_cons (pv 1) pa_nil)) (blkOk_by (N := ["_law_many", "_law_pages", "_law_ports", "_law_locks", "_law_disk", "_law_menu_here", "_law_k"]) (sc := defScope s__law_menu) (by decide +kernel)) (fun _ _ _ _ _ => (pg_name (i := 6) sc__law_menu.nd rfl (Or.inl rfl))) (fun _ _ _ _ _ => pts_nil) (fun _ _ _ _ _ => (pe_tup (pa_cons pe_str (pa_cons (pv 6) pa_nil)))))))))))), ?_⟩
    walk_at "st0"
    try dsimp only
    refine q_lcR ?_
    walk_at "st"
    refine ⟨m, rfl, by omega, by omega, ?_⟩
    rw [Int.toNat_natCast]
    refine fun X1 nX1 => lc_rel walk_range (fun i y Hh => ∃ t, y = .ref t ∧ Hh t = some (.tup [.str "hand", .int (i : Nat)])) nX1 (sz1000 (by omega)) (fun H2 s => trivial) yfn_same ?_ ?_ ?_
    · walk_at "lw"
    · walk_at "lw"
    intro y1 H1 s1 e1 l1 r1
    have d1 := word_dps (K := K) l1 r1
    clear r1
    try dsimp only
    walk_at "st"
    try dsimp only
    refine q_lcR ?_
    walk_at "st"
    refine ⟨nl, rfl, by omega, by omega, ?_⟩
    rw [Int.toNat_natCast]
    refine fun X2 nX2 => lc_rel walk_range (fun i y Hh => ∃ t, y = .ref t ∧ Hh t = some (.tup [.str "lock", .int (i : Nat)])) nX2 (sz1000 (by omega)) (fun H2 s => trivial) yfn_same ?_ ?_ ?_
    · walk_at "lw"
    · walk_at "lw"
    intro y2 H2 s2 e2 l2 r2
    have d2 := word_dps (K := K) l2 r2
    clear r2
    try dsimp only
    refine ⟨X1, X2, y1, y2, rfl, rfl, s2 _ _ e1, e2, Nat.le_of_lt (sz1000 (by omega)), fun X3 nX3 => ?_⟩
    have t3 := same_new (o := .lst (y1 ++ y2)) nX3
    have e3 : upd H2 X3 (.lst (y1 ++ y2)) X3 = some (.lst (y1 ++ y2)) := upd_same
    have d3 : DpAll K (upd H2 X3 (.lst (y1 ++ y2))) (y1 ++ y2) ((wordL "hand" m ++ wordL "lock" nl).map rtd) := by
      rw [List.map_append]
      exact dpAll_app (L2.DpAll.mono (s2.trans t3) d1) (L2.DpAll.mono t3 d2)
    have l3 : (y1 ++ y2).length = m + nl := by rw [List.length_append]; omega
    have S3 : Same H (upd H2 X3 (.lst (y1 ++ y2))) := s1.trans (s2.trans t3)
    have N3 : H X3 = none := (s1.trans s2).free nX3
    generalize upd H2 X3 (.lst (y1 ++ y2)) = H3 at *
    generalize y1 ++ y2 = y3 at *
    try dsimp only
    walk_at "st"
    try dsimp only
    refine q_lcR ?_
    walk_at "st"
    refine ⟨np, rfl, by omega, by omega, ?_⟩
    rw [Int.toNat_natCast]
    refine fun X4 nX4 => lc_rel walk_range (fun i y Hh => ∃ t, y = .ref t ∧ Hh t = some (.tup [.str "read", .int (i : Nat)])) nX4 (sz1000 (by omega)) (fun H2 s => trivial) yfn_same ?_ ?_ ?_
    · walk_at "lw"
    · walk_at "lw"
    intro y4 H4 s4 e4 l4 r4
    have d4 := word_dps (K := K) l4 r4
    clear r4
    try dsimp only
    refine ⟨X3, X4, y3, y4, rfl, rfl, s4 _ _ e3, e4, Nat.le_of_lt (sz1000 (by omega)), fun X5 nX5 => ?_⟩
    have t5 := same_new (o := .lst (y3 ++ y4)) nX5
    have e5 : upd H4 X5 (.lst (y3 ++ y4)) X5 = some (.lst (y3 ++ y4)) := upd_same
    have d5 : DpAll K (upd H4 X5 (.lst (y3 ++ y4))) (y3 ++ y4) ((wordL "hand" m ++ wordL "lock" nl ++ wordL "read" np).map rtd) := by
      rw [List.map_append]
      exact dpAll_app (L2.DpAll.mono (s4.trans t5) d3) (L2.DpAll.mono t5 d4)
    have l5 : (y3 ++ y4).length = m + nl + np := by rw [List.length_append]; omega
    have S5 : Same H (upd H4 X5 (.lst (y3 ++ y4))) := S3.trans (s4.trans t5)
    have N5 : H X5 = none := (S3.trans s4).free nX5
    generalize upd H4 X5 (.lst (y3 ++ y4)) = H5 at *
    generalize y3 ++ y4 = y5 at *
    try dsimp only
    refine seq_if (fun σ Hh => ∃ zs, σ = [some (.int m), some (.int np), some (.int nq), some (.int nl), some (.int dk), some (.ref X5), none] ∧ Same H Hh ∧ Hh X5 = some (.lst zs) ∧ DpAll K Hh zs ((wordL "hand" m ++ wordL "lock" nl ++ wordL "read" np ++ seekL dk).map rtd)) (fun σ Hh hp => ?_) (fun N hN => ?_)
    rotate_left
    · walk_at "st"
      by_cases c : 0 < dk
      · rw [decide_eq_true c]
        refine iteT ?_
        walk_at "st"
        refine ⟨.inl ⟨rfl, _, SqL.of e5⟩, ?_⟩
        walk_at "st"
        refine ⟨by show 2 ≤ sizeLine; decide, fun pt npt => ?_⟩
        have sp := same_new (o := .tup [V.str "seek", V.int 0]) npt
        walk_at "st"
        refine ⟨X5, _, _, rfl, rfl, sp _ _ e5, sz1000 (by omega), ?_⟩
        have kl : KeepL (upd H5 pt (.tup [V.str "seek", V.int 0])) (upd (upd H5 pt (.tup [V.str "seek", V.int 0])) X5 (.lst (y5 ++ [V.ref pt]))) := KeepL.put (sp _ _ e5)
        refine hN _ _ ⟨_, rfl, fun b o e => ?_, upd_same, ?_⟩
        · rw [upd_ne (ne_of_none e N5)]
          exact sp _ _ (S5 _ _ e)
        · refine dpAllKeepL kl ?_ (noLs_rtd _)
          rw [List.map_append]
          refine dpAll_app (L2.DpAll.mono sp d5) ?_
          have es : seekL dk = [((("seek" : Str), (0 : Int)) : Rt)] := by unfold seekL; rw [if_pos c]
          rw [es]
          exact .cons (.tup (SqT.of upd_same) (.cons (.str _) (.cons (.int _) .nil))) .nil
      · rw [decide_eq_false c]
        refine iteF ?_
        refine hN _ _ ⟨_, rfl, S5, e5, ?_⟩
        have es : seekL dk = [] := by unfold seekL; rw [if_neg c]
        rw [es, List.append_nil]
        exact d5
    obtain ⟨zs, rfl, Sz, ez, dz⟩ := hp
    have lz : zs.length = m + nl + np + (seekL dk).length := by
      have := dz.length
      rw [List.length_map, List.length_append, List.length_append, List.length_append, wordL_len, wordL_len, wordL_len] at this
      omega
    have lk := seekL_le dk
    generalize (seekL dk).length = sk at *
    walk_at "st"
    try dsimp only
    refine q_lcR ?_
    walk_at "st"
    refine ⟨nq, rfl, by omega, by omega, ?_⟩
    rw [Int.toNat_natCast]
    refine fun X6 nX6 => lc_rel walk_range (fun i y Hh => ∃ t, y = .ref t ∧ Hh t = some (.tup [.str "send", .int (i : Nat)])) nX6 (sz1000 (by omega)) (fun H2 s => trivial) yfn_same ?_ ?_ ?_
    · walk_at "lw"
    · walk_at "lw"
    intro y6 H6 s6 e6 l6 r6
    have d6 := word_dps (K := K) l6 r6
    clear r6
    try dsimp only
    refine ⟨X5, X6, zs, y6, rfl, rfl, s6 _ _ ez, e6, Nat.le_of_lt (sz1000 (by omega)), fun X7 nX7 => ?_⟩
    have t7 := same_new (o := .lst (zs ++ y6)) nX7
    have e7 : upd H6 X7 (.lst (zs ++ y6)) X7 = some (.lst (zs ++ y6)) := upd_same
    have d7 : DpAll K (upd H6 X7 (.lst (zs ++ y6))) (zs ++ y6) ((wordL "hand" m ++ wordL "lock" nl ++ wordL "read" np ++ seekL dk ++ wordL "send" nq).map rtd) := by
      rw [List.map_append]
      exact dpAll_app (L2.DpAll.mono (s6.trans t7) dz) (L2.DpAll.mono t7 d6)
    have l7 : (zs ++ y6).length = m + nl + np + sk + nq := by rw [List.length_append]; omega
    have S7 : Same H (upd H6 X7 (.lst (zs ++ y6))) := Sz.trans (s6.trans t7)
    have N7 : H X7 = none := (Sz.trans s6).free nX7
    generalize upd H6 X7 (.lst (zs ++ y6)) = H7 at *
    generalize zs ++ y6 = y7 at *
    try dsimp only
    walk_at "st"
    try dsimp only
    refine q_lcR ?_
    walk_at "st"
    refine ⟨m, rfl, by omega, by omega, ?_⟩
    rw [Int.toNat_natCast]
    refine fun X8 nX8 => lc_rel walk_range (fun i y Hh => ∃ t, y = .ref t ∧ Hh t = some (.tup [.str "strip", .int (i : Nat)])) nX8 (sz1000 (by omega)) (fun H2 s => trivial) yfn_same ?_ ?_ ?_
    · walk_at "lw"
    · walk_at "lw"
    intro y8 H8 s8 e8 l8 r8
    have d8 := word_dps (K := K) l8 r8
    clear r8
    try dsimp only
    refine ⟨X7, X8, y7, y8, rfl, rfl, s8 _ _ e7, e8, Nat.le_of_lt (sz1000 (by omega)), fun X9 nX9 => ?_⟩
    have t9 := same_new (o := .lst (y7 ++ y8)) nX9
    have e9 : upd H8 X9 (.lst (y7 ++ y8)) X9 = some (.lst (y7 ++ y8)) := upd_same
    have d9 : DpAll K (upd H8 X9 (.lst (y7 ++ y8))) (y7 ++ y8) ((wordL "hand" m ++ wordL "lock" nl ++ wordL "read" np ++ seekL dk ++ wordL "send" nq ++ wordL "strip" m).map rtd) := by
      rw [List.map_append]
      exact dpAll_app (L2.DpAll.mono (s8.trans t9) d7) (L2.DpAll.mono t9 d8)
    have l9 : (y7 ++ y8).length = m + nl + np + sk + nq + m := by rw [List.length_append]; omega
    have S9 : Same H (upd H8 X9 (.lst (y7 ++ y8))) := S7.trans (s8.trans t9)
    have N9 : H X9 = none := (S7.trans s8).free nX9
    generalize upd H8 X9 (.lst (y7 ++ y8)) = H9 at *
    generalize y7 ++ y8 = y9 at *
    try dsimp only
    walk_at "st"
    try dsimp only
    refine q_lcR ?_
    walk_at "st"
    refine ⟨nq, rfl, by omega, by omega, ?_⟩
    rw [Int.toNat_natCast]
    refine fun X10 nX10 => lc_rel walk_range (fun i y Hh => ∃ t, y = .ref t ∧ Hh t = some (.tup [.str "take", .int (i : Nat)])) nX10 (sz1000 (by omega)) (fun H2 s => trivial) yfn_same ?_ ?_ ?_
    · walk_at "lw"
    · walk_at "lw"
    intro y10 H10 s10 e10 l10 r10
    have d10 := word_dps (K := K) l10 r10
    clear r10
    try dsimp only
    refine ⟨X9, X10, y9, y10, rfl, rfl, s10 _ _ e9, e10, Nat.le_of_lt (sz1000 (by omega)), fun X11 nX11 => ?_⟩
    have t11 := same_new (o := .lst (y9 ++ y10)) nX11
    have e11 : upd H10 X11 (.lst (y9 ++ y10)) X11 = some (.lst (y9 ++ y10)) := upd_same
    have d11 : DpAll K (upd H10 X11 (.lst (y9 ++ y10))) (y9 ++ y10) ((wordL "hand" m ++ wordL "lock" nl ++ wordL "read" np ++ seekL dk ++ wordL "send" nq ++ wordL "strip" m ++ wordL "take" nq).map rtd) := by
      rw [List.map_append]
      exact dpAll_app (L2.DpAll.mono (s10.trans t11) d9) (L2.DpAll.mono t11 d10)
    have l11 : (y9 ++ y10).length = m + nl + np + sk + nq + m + nq := by rw [List.length_append]; omega
    have S11 : Same H (upd H10 X11 (.lst (y9 ++ y10))) := S9.trans (s10.trans t11)
    have N11 : H X11 = none := (S9.trans s10).free nX11
    generalize upd H10 X11 (.lst (y9 ++ y10)) = H11 at *
    generalize y9 ++ y10 = y11 at *
    try dsimp only
    walk_at "st"
    try dsimp only
    refine q_lcR ?_
    walk_at "st"
    refine ⟨np, rfl, by omega, by omega, ?_⟩
    rw [Int.toNat_natCast]
    refine fun X12 nX12 => lc_rel walk_range (fun i y Hh => ∃ t, y = .ref t ∧ Hh t = some (.tup [.str "write", .int (i : Nat)])) nX12 (sz1000 (by omega)) (fun H2 s => trivial) yfn_same ?_ ?_ ?_
    · walk_at "lw"
    · walk_at "lw"
    intro y12 H12 s12 e12 l12 r12
    have d12 := word_dps (K := K) l12 r12
    clear r12
    try dsimp only
    refine ⟨X11, X12, y11, y12, rfl, rfl, s12 _ _ e11, e12, Nat.le_of_lt (sz1000 (by omega)), fun X13 nX13 => ?_⟩
    have t13 := same_new (o := .lst (y11 ++ y12)) nX13
    have e13 : upd H12 X13 (.lst (y11 ++ y12)) X13 = some (.lst (y11 ++ y12)) := upd_same
    have d13 : DpAll K (upd H12 X13 (.lst (y11 ++ y12))) (y11 ++ y12) ((wordL "hand" m ++ wordL "lock" nl ++ wordL "read" np ++ seekL dk ++ wordL "send" nq ++ wordL "strip" m ++ wordL "take" nq ++ wordL "write" np).map rtd) := by
      rw [List.map_append]
      exact dpAll_app (L2.DpAll.mono (s12.trans t13) d11) (L2.DpAll.mono t13 d12)
    have l13 : (y11 ++ y12).length = m + nl + np + sk + nq + m + nq + np := by rw [List.length_append]; omega
    have S13 : Same H (upd H12 X13 (.lst (y11 ++ y12))) := S11.trans (s12.trans t13)
    have N13 : H X13 = none := (S11.trans s12).free nX13
    generalize upd H12 X13 (.lst (y11 ++ y12)) = H13 at *
    generalize y11 ++ y12 = y13 at *
    try dsimp only
    exact q _ _ _ S13 N13 e13 d13))) only [↓Hk.hold_s]
end
end T
namespace T
section
variable {P : Program} {w : World} {K : PySem.W.Frag} {mg : Str → Option Value} {base : Heap}
structure RowB (menu row : List Rt) : Prop where
  srt : (row.Pairwise fun a b => ¬ ltWIp b a)
  nd : row.Nodup
  inm : ∀ p ∈ row, p ∈ menu
  few : row.length ≤ 8
def spLRights (K : PySem.W.Frag) : Sp := fun vs H Q _ => ∃ (c : Int) (lm : Addr) (ms : List V) (menu : List Rt), vs = [.int c, .ref lm] ∧ 0 ≤ c ∧ SqL K H lm ms ∧ DpAll K H ms (menu.map rtd) ∧ 1 ≤ menu.length ∧ menu.length < 1000 ∧ (∀ p ∈ menu, PyData.strOk p.1 = true) ∧
  ∀ l ys H' row, Same H H' → H l = none → H' l = some (.lst ys) → DpAll K H' ys (row.map rtd) → RowB menu row → Q (.ref l) H'
theorem ok_law_rights (B : Bl mg) (c__law_digits : Cal P w K mg base 1 "_law_digits" ["_law_cell_here", "_law_sizes"] (spDigits K)) (cc : DefAt K mg "_law_rights" s__law_rights ["_law_cell_here", "_law_menu_here"]) : Cal P w K mg base 2 "_law_rights" ["_law_cell_here", "_law_menu_here"] (spLRights K) := by
 refine Hk.hold ?_
 simp (disch := with_unfolding_all (
 exact Hk.disch (cc.cal fun f fd F => by
  refine F.ok sc__law_rights (fun vs H Q E h => ?_) (fun cdv A outer s H vs Q E hr h => ?_)
  · obtain ⟨c, lm, ms, menu, rfl, _⟩ := h; rfl
  · obtain ⟨c, lm, ms, menu, rfl, c0, em, dm, n1, n2, wd, q⟩ := h
    have lm' := dm.length
    rw [List.length_map] at lm'
    have hu := hu_of hr
    refine ⟨_, (pss_cons (ps_set (i := 2) sc__law_rights.nd rfl (Or.inl rfl) (pe_cal c__law_digits (hr.mono (by omega)) rfl (pa_cons (pv 0) (pa_cons (pe_op op_cat (pe_lst (pa_cons pe_int pa_nil)) (pe_op op_rep (pe_lst (pa_cons (pe_callB call_len_seq rfl B.len hb_len (pa_cons (pv 1) pa_nil)) pa_nil)) pe_int)) pa_nil))))
      (pss_cons (ps_set (i := 3) sc__law_rights.nd rfl (Or.inl rfl) (pe_lst pa_nil))
      (pss_cons (ps_for PassesOwn.never rfl (pi_range1 rfl B.range (pa_cons (pe_ix ix_list (pv 2) pe_int (fun _ _ => rfl)) pa_nil)) (pg_name (i := 4) sc__law_rights.nd rfl (Or.inl rfl)) (pss_one (ps_if (pt_cmpR ((op_notInD (hu65 hr))) (pe_ix ix_list (pv 1) (pe_ix ix_list (pv 2) (pe_op op_add pe_int (pv 4)) (fun _ _ => rfl)) (fun _ _ => rfl)) (pv 3) (by with_unfolding_all rfl)) (pss_one (ps_expr (pe_bm PySem.F.plainAttrs_list PySem.F.slot_list_append PySem.F.type_list_append mt_append (pv 3) (pa_cons (pe_ix ix_list (pv 1) (pe_ix ix_list (pv 2) (pe_op op_add pe_int (pv 4)) (fun _ _ => rfl)) (fun _ _ => rfl)) pa_nil)))) pss_nil)))
      (pss_one (ps_ret (pe_callB cr_sortedR rfl B.sorted hb_sorted (pa_cons (pv 3) pa_nil))))))), ?_⟩
    walk_at "st0"
    refine ⟨by show 1 ≤ sizeLine; decide, fun a1 na1 => ?_⟩
    have s1 := same_new (o := .lst [V.int 9]) na1
    have e1 : upd H a1 (.lst [V.int 9]) a1 = some (.lst [V.int 9]) := upd_same
    generalize upd H a1 (.lst [V.int 9]) = H1 at *
    walk_at "st"
    refine ⟨lm, ms, rfl, .inl (s1.seq em), ?_⟩
    walk_at "st"
    refine ⟨by show 1 ≤ sizeLine; decide, fun a2 na2 => ?_⟩
    have s2 := same_new (o := .lst [V.int (ms.length : Int)]) na2
    have e2 : upd H1 a2 (.lst [V.int (ms.length : Int)]) a2 = some (.lst [V.int (ms.length : Int)]) := upd_same
    generalize upd H1 a2 (.lst [V.int (ms.length : Int)]) = H2 at *
    walk_at "st"
    refine ⟨a2, 8, _, rfl, rfl, e2, by omega, by omega, by rw [show (8 : Int).toNat = 8 from rfl]; exact Nat.le_of_lt (sz1000 (by rw [List.length_singleton]; decide)), fun a3 na3 => ?_⟩
    have ef : (List.replicate (8 : Int).toNat [V.int (ms.length : Int)]).flatten = List.replicate 8 (V.int (ms.length : Int)) := rfl
    rw [ef]
    have s3 := same_new (o := .lst (List.replicate 8 (V.int (ms.length : Int)))) na3
    have e3 : upd H2 a3 (.lst (List.replicate 8 (V.int (ms.length : Int)))) a3 = some (.lst (List.replicate 8 (V.int (ms.length : Int)))) := upd_same
    generalize upd H2 a3 (.lst (List.replicate 8 (V.int (ms.length : Int)))) = H3 at *
    refine ⟨a1, a3, _, _, rfl, rfl, s3 _ _ (s2 _ _ e1), e3, Nat.le_of_lt (sz1000 (by rw [List.length_replicate]; decide)), fun a4 na4 => ?_⟩
    let zs : List Int := 9 :: List.replicate 8 (menu.length : Int)
    have ez : ([V.int 9] ++ List.replicate 8 (V.int (ms.length : Int))) = zs.map V.int := by
      show V.int 9 :: _ = V.int 9 :: (List.replicate 8 (menu.length : Int)).map V.int
      rw [List.map_replicate, lm']
      rfl
    rw [ez]
    have s4 := same_new (o := .lst (zs.map V.int)) na4
    have e4 : upd H3 a4 (.lst (zs.map V.int)) a4 = some (.lst (zs.map V.int)) := upd_same
    have s04 := s1.trans (s2.trans (s3.trans s4))
    generalize upd H3 a4 (.lst (zs.map V.int)) = H4 at *
    walk_at "st"
    refine ⟨c, a4, zs, rfl, c0, SqL.of e4, by show (List.replicate 8 (menu.length : Int)).length + 1 ≤ 30; rw [List.length_replicate]; decide, fun z hz => ?_, fun LD ds H5 s5 nLD eD lD hD => ?_⟩
    · rcases List.mem_cons.mp hz with rfl | hz
      · exact ⟨by decide, by decide⟩
      · rw [(List.mem_replicate.mp hz).2]
        exact ⟨by omega, by omega⟩
    have lz : zs.length = 9 := by show (List.replicate 8 (menu.length : Int)).length + 1 = 9; rw [List.length_replicate]
    have s05 := s04.trans s5
    obtain ⟨d0, g0⟩ : ∃ d0, ds[0]? = some d0 := ⟨_, List.getElem?_eq_getElem (by omega)⟩
    obtain ⟨b0, b1⟩ := hD 0 d0 9 g0 rfl
    have hdj : ∀ j, j < 8 → ∃ dj : Nat, ds[1 + j]? = some (dj : Int) ∧ dj < menu.length := fun j hj => by
      obtain ⟨d, gd⟩ : ∃ d, ds[1 + j]? = some d := ⟨_, List.getElem?_eq_getElem (by omega)⟩
      have ezj : zs[1 + j]? = some (menu.length : Int) := by
        show (9 :: List.replicate 8 (menu.length : Int))[1 + j]? = _
        rw [show 1 + j = j + 1 by omega, List.getElem?_cons_succ, List.getElem?_replicate, if_pos hj]
      obtain ⟨h0, h1⟩ := hD _ _ _ gd ezj
      exact ⟨d.toNat, by rw [gd]; congr 1; omega, by omega⟩
    walk_at "st"
    refine ⟨by show 0 ≤ sizeLine; decide, fun X nX => ?_⟩
    have s6 := same_new (o := .lst []) nX
    have e6 : upd H5 X (.lst []) X = some (.lst []) := upd_same
    have s06 := s05.trans s6
    have nXH := s05.free nX
    have nDX : LD ≠ X := ne_of_none eD nX
    have eD6 := s6 _ _ eD
    generalize upd H5 X (.lst []) = H6 at *
    walk_at "st"
    refine q_forRA ?_
    walk_at "st"
    refine q_ixL (SqL.of eD6) (atI0 (by rw [List.getElem?_map, g0]; rfl)) ?_
    walk_at "st"
    let J : Nat → L2.St → Hp → Prop := fun j σ Hh => ∃ (o4 : Option V) (row : List Rt) (ys : List V), σ = [some (.int c), some (.ref lm), some (.ref LD), some (.ref X), o4] ∧ But X H6 Hh ∧ Hh X = some (.lst ys) ∧ DpAll K Hh ys (row.map rtd) ∧ row.Nodup ∧ (∀ p ∈ row, p ∈ menu) ∧ row.length ≤ j
    refine ⟨d0, rfl, by omega, by omega, forR J ⟨_, [], [], rfl, But.refl, e6, .nil, List.nodup_nil, fun p hp => (by cases hp), Nat.le_refl _⟩ (fun j σ Hh lj hJ => ?_) (fun σ Hh hJ => ?_)⟩
    · obtain ⟨o4, row, ys, rfl, bt, eX, dX, nd, im, fw⟩ := hJ
      obtain ⟨dj, gj, ldj⟩ := hdj j (by omega)
      have sH : Same H Hh := fun b o e => bt _ _ (s06 _ _ e) (ne_of_none e nXH)
      have eDh := bt _ _ eD6 nDX
      have dmh := L2.DpAll.mono sH dm
      obtain ⟨pj, epj⟩ : ∃ pj, menu[dj]? = some pj := ⟨_, List.getElem?_eq_getElem ldj⟩
      obtain ⟨y, ey⟩ : ∃ y, ms[dj]? = some y := ⟨_, List.getElem?_eq_getElem (by omega)⟩
      obtain ⟨dd, g1, Dy⟩ := dmh.get' ey
      rw [List.getElem?_map, epj] at g1
      cases g1
      have pm := List.mem_of_getElem? epj
      have gj' : (ds.map V.int)[1 + j]? = some (V.int dj) := by rw [List.getElem?_map, gj]; rfl
      refine q_gname ?_
      walk_at "st"
      refine q_ixL (SqL.of eDh) (by rw [show ((1 : Int) + (0 + (j : Int))) = ((1 + j : Nat) : Int) by omega]; exact atI_nat gj') ?_
      walk_at "st"
      refine q_ixL (sH.seq em) (atI_nat ey) ?_
      walk_at "st"
      refine ⟨rtd pj, row.map rtd, Dy, .lst (SqL.of eX) dX, shaped_rtd (wd _ pm), (shaped_rtds fun p hp => wd p (im p hp)).2, ?_⟩
      rw [any_rtd]
      refine ⟨_, rfl, ?_⟩
      by_cases cc : pj ∈ row
      · rw [decide_eq_true cc]
        refine iteF ?_
        exact ⟨_, row, ys, rfl, bt, eX, dX, nd, im, by omega⟩
      · rw [decide_eq_false cc]
        refine iteT ?_
        walk_at "st"
        refine ⟨.inl ⟨rfl, _, SqL.of eX⟩, ?_⟩
        walk_at "st"
        refine q_ixL (SqL.of eDh) (by rw [show ((1 : Int) + (0 + (j : Int))) = ((1 + j : Nat) : Int) by omega]; exact atI_nat gj') ?_
        walk_at "st"
        refine q_ixL (sH.seq em) (atI_nat ey) ?_
        walk_at "st"
        refine ⟨X, ys, _, rfl, rfl, eX, sz1000 (by have := dX.length; rw [List.length_map] at this; omega), ?_⟩
        have kl : KeepL Hh (upd Hh X (.lst (ys ++ [y]))) := KeepL.put eX
        refine ⟨_, row ++ [pj], ys ++ [y], rfl, bt.trans But.put, upd_same, ?_, ?_, ?_, ?_⟩
        · refine dpAllKeepL kl ?_ (noLs_rtd _)
          rw [List.map_append]
          exact dpAll_app dX (.cons Dy .nil)
        · rw [List.nodup_append]
          exact ⟨nd, by simp, fun a ha b hb e => by rw [List.mem_singleton] at hb; exact cc (by rw [← hb, ← e]; exact ha)⟩
        · intro p hp
          rcases List.mem_append.mp hp with hp | hp
          · exact im p hp
          · rw [List.mem_singleton] at hp; subst hp; exact pm
        · rw [List.length_append, List.length_singleton]; omega
    · obtain ⟨o4, row, ys, rfl, bt, eX, dX, nd, im, fw⟩ := hJ
      have sH : Same H Hh := fun b o e => bt _ _ (s06 _ _ e) (ne_of_none e nXH)
      walk_at "st"
      refine ⟨X, ys, row, rfl, .inl (SqL.of eX), pair_of_dp dX, fun zs2 pp hp npp => ?_⟩
      have s9 := same_new (o := .lst zs2) npp
      refine q pp zs2 _ (srt row) (sH.trans s9) (sH.free npp) upd_same (dp_of_pair (pair_mono s9 hp)) ⟨srt_pw row, (srt_perm row).nodup_iff.mpr nd, fun p hp => im p (srt_mem.mp hp), by rw [srt_len]; omega⟩))) only [↓Hk.hold_s]
end
end T
namespace T
section
variable {J : It} {n : Nat} {G : Hp → Prop} {Y : Nat → Hp → V → Hp → Prop} {g : TG} {te : TE} {vs : List Nat} {σ : L2.St} {H1 : Hp} {D : Addr} {Qd : Hp → Prop}
/-- [e for x in ..], each e a new list, each another: what is told of each -/
theorem lc_freshR (w : L2.Walk J n G Y) (R : Nat → Addr → Hp → Prop) (hD : H1 D = none) (few : n < sizeLine) (hG : ∀ H', Same H1 H' → G H') (hY : ∀ i H x H', Y i H x H' → Same H H')
    (hRs : ∀ i l H H', Same H H' → R i l H → R i l H') (hRb : ∀ i l H H' acc, l ≠ D → H D = some (.lst acc) → But D H H' → R i l H → R i l H') (hRn : ∀ i l H, R i l H → H l ≠ none)
    (body : ∀ i x H' H2, i < n → Same H1 H' → Y i H' x H2 → ∀ Q' : VK, (∀ l H3, Same H2 H3 → H2 l = none → R i l H3 → Q' (.ref l) H3) → g x (wipe σ vs) H2 fun σ2 H3 => wipe σ2 vs = wipe σ vs ∧ te σ2 H3 Q')
    (done : ∀ (ls : List Addr) H', Same H1 H' → H' D = some (.lst (ls.map V.ref)) → ls.length = n → ls.Nodup → (∀ l ∈ ls, H1 l = none ∧ l ≠ D) → (∀ i l, ls[i]? = some l → R i l H') → Qd H') :
    ∃ W : Nat → Nat → Hp → Prop, (∃ m, W 0 m (upd H1 D (.lst []))) ∧ ∀ i m H, W i m H →
      (J.stop i H ∧ Qd H) ∨ (J.go i H ∧ ∃ Nx : Hp → Prop, (∀ H', Nx H' → ∃ m', m' < m ∧ W (i + 1) m' H') ∧ ∀ x H', J.yld i H x H' → g x (wipe σ vs) H' fun σ2 H2 => wipe σ2 vs = wipe σ vs ∧ tYes σ2 H2 fun b H3 =>
        if b = true then te σ2 H3 fun y H4 => ∃ acc, H4 D = some (.lst acc) ∧ acc.length < sizeLine ∧ Nx (upd H4 D (.lst (acc ++ [y]))) else Nx H3) := by
 refine Hk.hold ?_
 simp (disch := with_unfolding_all (
 exact Hk.disch (by
  refine lc_it w (fun i H => Same H1 H ∧ ∃ ls : List Addr, H D = some (.lst (ls.map V.ref)) ∧ ls.length = i ∧ ls.Nodup ∧ (∀ l ∈ ls, H1 l = none ∧ l ≠ D) ∧ ∀ j l, ls[j]? = some l → R j l H) ⟨same_new hD, [], upd_same, rfl, List.nodup_nil, fun l h => by simp at h, fun j y e => by simp at e⟩ (fun i H _ h => hG H h.1) ?_ ?_
  · rintro i x H H2 lt ⟨s1, ls, e, ll, nd, fr, r⟩ y
    have s2 := hY i H x H2 y
    refine body i x H H2 lt s1 y (fun y H4 => ∃ acc, H4 D = some (.lst acc) ∧ acc.length < sizeLine ∧ (Same H1 (upd H4 D (.lst (acc ++ [y]))) ∧ ∃ ls : List Addr, upd H4 D (.lst (acc ++ [y])) D = some (.lst (ls.map V.ref)) ∧ ls.length = i + 1 ∧ ls.Nodup ∧ (∀ l ∈ ls, H1 l = none ∧ l ≠ D) ∧ ∀ j l, ls[j]? = some l → R j l (upd H4 D (.lst (acc ++ [y]))))) ?_
    intro l H3 s3 nl rl
    have e3 : H3 D = some (.lst (ls.map V.ref)) := s3 _ _ (s2 _ _ e)
    have nlD : l ≠ D := Ne.symm (ne_of_none (s2 _ _ e) nl)
    have s13 : Same H1 H3 := fun b o h => s3 _ _ (s2 _ _ (s1 _ _ h))
    have old : ∀ j k, ls[j]? = some k → H2 k ≠ none := fun j k hj z => by
      cases q : H k with
      | none => exact hRn j k H (r j k hj) q
      | some o => rw [s2 _ _ q] at z; cases z
    have nin : l ∉ ls := fun h => by
      obtain ⟨j, hj⟩ := List.mem_iff_getElem?.mp h
      exact old j l hj nl
    have bt : But D H3 (upd H3 D (.lst (ls.map V.ref ++ [V.ref l]))) := fun b o hb n => by rw [upd_ne n]; exact hb
    refine ⟨ls.map V.ref, e3, by rw [List.length_map]; omega, fun b o h => ?_, ls ++ [l], by rw [upd_same, List.map_append]; rfl, by simp [ll], ?_, ?_, ?_⟩
    · rw [upd_ne (ne_of_none h hD)]
      exact s13 _ _ h
    · rw [List.nodup_append]
      exact ⟨nd, by simp, fun a ha b hb h => by rw [List.mem_singleton] at hb; exact nin (by rw [← hb, ← h]; exact ha)⟩
    · intro k hk
      rcases List.mem_append.mp hk with hk | hk
      · exact fr k hk
      · rw [List.mem_singleton] at hk
        subst hk
        exact ⟨(s1.trans s2).free nl, nlD⟩
    · intro j k hj
      rw [List.getElem?_append] at hj
      split at hj
      · exact hRb j k H3 _ _ (fr k (List.mem_of_getElem? hj)).2 e3 bt (hRs j k H H3 (s2.trans s3) (r j k hj))
      · rename_i hge
        have : j = i := by
          rcases Nat.lt_trichotomy j i with z | z | z
          · omega
          · exact z
          · rw [List.getElem?_eq_none (by simp; omega)] at hj; cases hj
        subst this
        simp [ll] at hj
        subst hj
        exact hRb j l H3 _ _ nlD e3 bt rl
  · rintro H ⟨s1, ls, e, ll, nd, fr, r⟩
    exact done ls H s1 e ll nd fr r))) only [↓Hk.hold_s]
end
theorem keepL_of_but {D : Addr} {H H' : Hp} {acc : List V} (e : H D = some (.lst acc)) (bt : But D H H') : KeepL H H' := fun b o hb n => bt b o hb fun z => by subst z; rw [e] at hb; cases hb; exact n _ rfl
section
variable {K : PySem.W.Frag}
theorem RowAt.but {D a : Addr} {H H' : Hp} {acc : List V} {row : List Rt} (n : a ≠ D) (e : H D = some (.lst acc)) (bt : But D H H') (r : RowAt K H a row) : RowAt K H' a row := by
  obtain ⟨ys, ea, d⟩ := r
  exact ⟨ys, bt _ _ ea n, dpAllKeepL (keepL_of_but e bt) d (noLs_rtd _)⟩
theorem RowAt.some {a : Addr} {H : Hp} {row : List Rt} (r : RowAt K H a row) : H a ≠ none := fun z => by
  obtain ⟨ys, ea, _⟩ := r
  rw [ea] at z; cases z
theorem paired_ex {α β : Type} {P Q : α → β → Prop} {G : β → Prop} : ∀ {xs : List α}, (∀ (i : Nat) (x : α), xs[i]? = some x → ∃ y, P x y ∧ G y) → ∃ l : List β, Paired P xs l ∧ ∀ y ∈ l, G y
  | [], _ => ⟨[], .nil, fun y hy => by cases hy⟩
  | x :: xs, h => by
    obtain ⟨y, h1, h2⟩ := h 0 x rfl
    obtain ⟨l, p, g⟩ := paired_ex (P := P) (Q := Q) (G := G) (xs := xs) fun i z e => h (i + 1) z (by simpa using e)
    exact ⟨y :: l, .cons h1 p, fun z hz => (List.mem_cons.mp hz).elim (fun e => by rw [e]; exact h2) (g z)⟩
theorem rep_dps {H : Hp} {x : V} {d : PyData} (h : Dp K H x d) : ∀ n, DpAll K H (List.replicate n x) (List.replicate n d)
  | 0 => .nil
  | n + 1 => .cons h (rep_dps h n)
theorem flat1 {α : Type} (x : α) : ∀ n, (List.replicate n [x]).flatten = List.replicate n x
  | 0 => rfl
  | n + 1 => by rw [List.replicate_succ, List.flatten_cons, flat1 x n, List.replicate_succ]; rfl
end
end T
namespace T
section
variable {P : Program} {w : World} {K : PySem.W.Frag} {mg : Str → Option Value} {base : Heap} {C : Addr}
theorem depthAll_le {m : Nat} : ∀ {ds : List PyData}, (∀ d ∈ ds, d.depth ≤ m) → PyData.depthAll ds ≤ m
  | [], _ => by simp [PyData.depthAll]
  | d :: ds, h => by
    have h1 := h d List.mem_cons_self
    have h2 := depthAll_le (ds := ds) fun x hx => h x (List.mem_cons_of_mem _ hx)
    simp only [PyData.depthAll]
    omega
theorem depth_leaf {d : PyData} (h : leafD d) : d.depth = 0 := by cases d <;> first | (simp [PyData.depth]; done) | exact h.elim
theorem depth_tup {m : Nat} {ds : List PyData} (h : ∀ d ∈ ds, d.depth ≤ m) : (PyData.tuple ds).depth ≤ m + 1 := by
  simp only [PyData.depth]
  have := depthAll_le h
  omega
theorem depth_flat {ds : List PyData} (h : ∀ d ∈ ds, leafD d) : (PyData.tuple ds).depth ≤ 1 := depth_tup fun d hd => by rw [depth_leaf (h d hd)]; omega
theorem rows_flat {c : Cnt} {d : PyData} {rds : List PyData} (ok : okRights c d = true) (e : d = .list rds) : ∀ es, PyData.list es ∈ rds → es.length ≤ 1000 ∧ ∀ x ∈ es, noList x ∧ ∀ zs, x = .tuple zs → zs.length ≤ 1000 := by
  subst e
  intro es he
  unfold okRights at ok
  rw [Bool.and_eq_true] at ok
  have z := List.all_eq_true.mp ok.2 _ he
  unfold okRow at z
  rw [Bool.and_eq_true] at z
  obtain ⟨ds, e2, h0, h1⟩ := dListOf_list z.1
  cases e2
  obtain ⟨z1, z2⟩ := z
  have z3 := z2
  rw [Bool.and_eq_true] at z3
  refine ⟨by omega, fun x hx => ?_⟩
  obtain ⟨w, i, rfl⟩ := dRight_shape (List.all_eq_true.mp z3.1 x hx)
  exact ⟨fun y hy => by simp at hy; rcases hy with rfl | rfl <;> trivial, fun zs hz => by cases hz; simp⟩
theorem parts_depth {b : BD} (ok : BOk b) : ∀ p ∈ b.parts, p.2.depth ≤ 60 := by
 refine Hk.hold ?_
 simp (disch := with_unfolding_all (
 exact Hk.disch (by
  obtain ⟨tds, et, _, _, tall⟩ := okTasksL ok.tasks
  obtain ⟨pds, ep, _, pall⟩ := okList ok.pages
  obtain ⟨qds, eq, _, qall⟩ := okList ok.ports
  obtain ⟨kn, ek, _⟩ := okBetween ok.locks
  obtain ⟨fn, ef, _⟩ := okBetween ok.frames
  have okd := ok.disk
  unfold okDisk at okd
  rw [Bool.and_eq_true] at okd
  obtain ⟨dn, ed, _⟩ := okBetween okd.1
  obtain ⟨lds, el, _, lall⟩ := okLinesL ok.lines
  obtain ⟨c1, c2, c3, ec, _⟩ := okCostsL ok.costs
  obtain ⟨z, e, epl, hz⟩ := okPlanL ok.plan
  obtain ⟨rds, er, rl, rall⟩ := okRightsL ok.rights
  have hrow := rows_flat ok.rights er
  have bl : ∀ {d : PyData}, isBool d = true → d.depth = 0 := fun {d} h => by cases d <;> first | (simp [PyData.depth]; done) | cases h
  intro p hp
  unfold BD.parts at hp
  rw [et, ep, eq, ek, ef, ed, er, el, ec, epl] at hp
  simp only [List.mem_cons, List.not_mem_nil, or_false] at hp
  rcases hp with rfl | rfl | rfl | rfl | rfl | rfl | rfl | rfl | rfl | rfl | rfl | rfl | rfl | rfl | rfl
  · refine Nat.le_trans (depth_tup (m := 1) fun d hd => ?_) (by omega)
    obtain ⟨s, l, rfl, _⟩ := okTask_shape (tall d hd)
    exact depth_flat fun x hx => by simp at hx; rcases hx with rfl | rfl <;> trivial
  · refine Nat.le_trans (depth_flat fun d hd => ?_) (by omega)
    obtain ⟨i, rfl, _⟩ := pall d hd
    trivial
  · refine Nat.le_trans (depth_flat fun d hd => ?_) (by omega)
    obtain ⟨i, rfl, _⟩ := qall d hd
    trivial
  · simp [PyData.depth]
  · simp [PyData.depth]
  · simp [PyData.depth]
  · show (PyData.tuple (rds.map tupOf)).depth ≤ 60
    refine Nat.le_trans (depth_tup (m := 2) fun d hd => ?_) (by omega)
    obtain ⟨r, hr, rfl⟩ := List.mem_map.mp hd
    obtain ⟨es, rfl⟩ := rall r hr
    show (PyData.tuple es).depth ≤ 2
    refine depth_tup (m := 1) fun x hx => ?_
    have n := ((hrow es hr).2 x hx).1
    cases x with
    | tuple xs => exact depth_flat n
    | list xs => exact n.elim
    | dict xs => exact n.elim
    | _ => simp [PyData.depth]
  · refine Nat.le_trans (depth_flat fun d hd => ?_) (by omega)
    have z := lall d hd
    cases d <;> first | trivial | (simp [okLine, dBetween] at z; done)
  · refine Nat.le_trans (depth_flat fun d hd => ?_) (by omega)
    simp at hd
    rcases hd with rfl | rfl | rfl <;> trivial
  · rcases hz with ⟨rfl, i, rfl, _⟩ | ⟨rfl, hz⟩
    · show (PyData.tuple [.str "levels", _]).depth ≤ 60
      rw [if_neg slots_ne]
      exact Nat.le_trans (depth_flat fun x hx => by simp at hx; rcases hx with rfl | rfl <;> trivial) (by omega)
    · obtain ⟨rs, rfl, hrs⟩ := okSlotsL hz
      show (PyData.tuple [.str "slots", _]).depth ≤ 60
      rw [if_pos rfl]
      refine Nat.le_trans (depth_tup (m := 2) fun x hx => ?_) (by omega)
      simp at hx
      rcases hx with rfl | rfl
      · simp [PyData.depth]
      · refine depth_tup (m := 1) fun d hd => ?_
        obtain ⟨t, k, rfl, _⟩ := hrs.2.2 d hd
        exact depth_flat fun x hx => by simp at hx; rcases hx with rfl | rfl <;> trivial
  · rcases okOutsideL ok.outside with h | ⟨p, e, h, _⟩
    · rw [h]; simp [PyData.depth]
    · rw [h]
      exact Nat.le_trans (depth_flat fun x hx => by simp at hx; rcases hx with rfl | rfl <;> trivial) (by omega)
  · rw [bl ok.wipe]; omega
  · rw [bl ok.pad]; omega
  · rw [bl ok.lend]; omega
  · rw [bl ok.share]; omega))) only [↓Hk.hold_s]
theorem parts_look {b c : BD} : ∀ p ∈ b.parts, ∃ e, c.parts.lookup p.1 = some e := by
  intro p hp
  unfold BD.parts at hp
  simp only [List.mem_cons, List.not_mem_nil, or_false] at hp
  rcases hp with rfl | rfl | rfl | rfl | rfl | rfl | rfl | rfl | rfl | rfl | rfl | rfl | rfl | rfl | rfl <;> exact ⟨_, rfl⟩
def spEqB (K : PySem.W.Frag) (C : Addr) : Sp := fun vs H Q _ => ∃ (p q : Addr) (b c : BD), vs = [.ref p, .ref q] ∧ PartsAt K C H p b ∧ PartsAt K C H q c ∧ Q (.bl (allEqv b.parts c.parts)) H
theorem ok_Build_eq (B : Bl mg) (T : BCls K C) (gB : mg "Build" = some (.ref C)) (IC : C8.InsC K C) (d : MethAt K C "__eq__" "Build.__eq__" s_Build___eq__ ["self", "other"]) : MCal P w K mg base 1 C "__eq__" ["self", "other"] (spEqB K C) := by
 refine Hk.hold ?_
 simp (disch := with_unfolding_all (
 exact Hk.disch (d.cal fun f fd F => by
  refine F.ok sc_Build___eq__ (fun vs H Q E h => ?_) (fun cdv A outer s H vs Q E hr h => ?_)
  · obtain ⟨p, q, b, c, rfl, _⟩ := h; rfl
  · obtain ⟨p, q, b, c, rfl, pb, pc, k⟩ := h
    refine ⟨_, (pss_one (ps_ret (pe_and (pe_callB (C8.call_isC IC) rfl B.isinstance hb_isinstance (pa_cons (pv 1) (pa_cons (pe_glob (v := .ref C) rfl gB rfl) pa_nil))) (pe_one (pe_cmpR (show OpR _ _ (rEqKV K) from op_eqKV (hu64 hr)) (pe_fld (pv 0) rfl) (pe_fld (pv 1) rfl) (nomark _)))))), ?_⟩
    walk_at "st0"
    obtain ⟨okb, dx, fs, q0, kvs, e1, e2, e3, e4, e5⟩ := pb
    obtain ⟨okc, dy, gs, q1, lvs, f1, f2, f3, f4, f5⟩ := pc
    refine ⟨q, dy, gs, rfl, f1, true, rfl, iteT ?_⟩
    walk_at "st"
    refine ⟨p, C, dx, fs, _, rfl, e1, T.cls, T.n_parts, e2, ?_⟩
    walk_at "st"
    refine ⟨q, C, dy, gs, _, rfl, f1, T.cls, T.n_parts, f2, ?_⟩
    exact ⟨q0, q1, kvs, lvs, b.parts, c.parts, rfl, rfl, e3, f3, e4, f4, rfl, fun z hz => by
      obtain ⟨e, he⟩ := parts_look (c := c) z hz
      exact ⟨e, he, parts_depth okb z hz⟩, k⟩))) only [↓Hk.hold_s]
end
end T
namespace T
def _root_.Hk.BD.list (b : BD) : List PyData := [b.tasks, b.pages, b.ports, b.locks, b.frames, b.disk, b.rights, b.lines, b.costs, b.plan, b.outside, b.wipe, b.pad, b.lend, b.share]
mutual
def nbD : PyData → Bool
  | .none | .int _ | .str _ => true
  | .list xs | .tuple xs => nbAll xs
  | .bool _ => false
  | .dict _ => false
def nbAll : List PyData → Bool
  | [] => true
  | x :: xs => nbD x && nbAll xs
end
mutual
theorem eqv_nb : ∀ (d e : PyData), nbD d = true → nbD e = true → (PyData.eqv d e = true ↔ d = e)
  | .none, e, _, he => by cases e <;> simp_all [PyData.eqv, nbD]
  | .int i, e, _, he => by cases e <;> simp_all [PyData.eqv, nbD]
  | .str i, e, _, he => by cases e <;> simp_all [PyData.eqv, nbD]
  | .list xs, e, hd, he => by
    cases e with
    | list ys =>
      simp only [PyData.eqv, PyData.list.injEq]
      exact eqv_nbAll xs ys (by simpa [nbD] using hd) (by simpa [nbD] using he)
    | _ => simp_all [PyData.eqv, nbD]
  | .tuple xs, e, hd, he => by
    cases e with
    | tuple ys =>
      simp only [PyData.eqv, PyData.tuple.injEq]
      exact eqv_nbAll xs ys (by simpa [nbD] using hd) (by simpa [nbD] using he)
    | _ => simp_all [PyData.eqv, nbD]
  | .bool _, _, h, _ => by simp [nbD] at h
  | .dict _, _, h, _ => by simp [nbD] at h
theorem eqv_nbAll : ∀ (xs ys : List PyData), nbAll xs = true → nbAll ys = true → (PyData.eqvAll xs ys = true ↔ xs = ys)
  | [], [], _, _ => by simp [PyData.eqvAll]
  | [], y :: ys, _, _ => by simp [PyData.eqvAll]
  | x :: xs, [], _, _ => by simp [PyData.eqvAll]
  | x :: xs, y :: ys, h1, h2 => by
    simp only [nbAll, Bool.and_eq_true] at h1 h2
    simp only [PyData.eqvAll, Bool.and_eq_true, List.cons.injEq]
    rw [eqv_nb x y h1.1 h2.1, eqv_nbAll xs ys h1.2 h2.2]
end
theorem nbAll_of : ∀ {xs : List PyData}, (∀ x ∈ xs, nbD x = true) → nbAll xs = true
  | [], _ => rfl
  | x :: xs, h => by simp only [nbAll, Bool.and_eq_true]; exact ⟨h x List.mem_cons_self, nbAll_of fun y hy => h y (List.mem_cons_of_mem _ hy)⟩
/-- the kept form of a part -/
structure PartNb (f : BD → PyData) (g : PyData → PyData) : Prop where
  nb : ∀ b, BOk b → nbD (g (f b)) = true
  inj : ∀ b c, BOk b → BOk c → g (f b) = g (f c) → f b = f c
theorem PartNb.eqv {f : BD → PyData} {g : PyData → PyData} (h : PartNb f g) {b c : BD} (okb : BOk b) (okc : BOk c) : PyData.eqv (g (f b)) (g (f c)) = true ↔ f b = f c :=
  (eqv_nb _ _ (h.nb b okb) (h.nb c okc)).trans ⟨h.inj b c okb okc, fun e => by rw [e]⟩
theorem pn_int {f : BD → PyData} (h : ∀ b, BOk b → ∃ i, f b = .int i) : PartNb f id := ⟨fun b ok => by obtain ⟨i, e⟩ := h b ok; show nbD (f b) = true; rw [e]; rfl, fun b c _ _ e => e⟩
theorem pn_list {f : BD → PyData} (h : ∀ b, BOk b → ∃ ds, f b = .list ds ∧ ∀ d ∈ ds, nbD d = true) : PartNb f tupOf := ⟨fun b ok => by
  obtain ⟨ds, e, hd⟩ := h b ok
  rw [e]
  show nbAll ds = true
  exact nbAll_of hd, fun b c okb okc e => by
  obtain ⟨ds, e1, _⟩ := h b okb
  obtain ⟨es, e2, _⟩ := h c okc
  rw [e1, e2] at e ⊢
  cases e
  rfl⟩
theorem pn_tasks : PartNb (·.tasks) tupOf := pn_list fun b ok => by
  obtain ⟨ds, e, _, _, hall⟩ := okTasksL ok.tasks
  refine ⟨ds, e, fun d hd => ?_⟩
  obtain ⟨s, l, rfl, _⟩ := okTask_shape (hall d hd)
  rfl
theorem pn_pages : PartNb (·.pages) tupOf := pn_list fun b ok => by
  obtain ⟨ds, e, _, hall⟩ := okList ok.pages
  refine ⟨ds, e, fun d hd => ?_⟩
  obtain ⟨i, rfl, _⟩ := hall d hd
  rfl
theorem pn_ports : PartNb (·.ports) tupOf := pn_list fun b ok => by
  obtain ⟨ds, e, _, hall⟩ := okList ok.ports
  refine ⟨ds, e, fun d hd => ?_⟩
  obtain ⟨i, rfl, _⟩ := hall d hd
  rfl
theorem pn_lines : PartNb (·.lines) tupOf := pn_list fun b ok => by
  obtain ⟨ds, e, _, hall⟩ := okLinesL ok.lines
  refine ⟨ds, e, fun d hd => ?_⟩
  have z := hall d hd
  cases d <;> first | rfl | (simp [okLine, dBetween] at z; done)
theorem pn_disk : PartNb (·.disk) id := pn_int fun b ok => by
  have okd := ok.disk
  unfold okDisk at okd
  rw [Bool.and_eq_true] at okd
  obtain ⟨i, e, _⟩ := okBetween okd.1
  exact ⟨i, e⟩
theorem pn_costs : PartNb (·.costs) id := ⟨fun b ok => by
  obtain ⟨x, y, z, e, _⟩ := okCostsL ok.costs
  show nbD b.costs = true
  rw [e]; rfl, fun b c _ _ e => e⟩
theorem pn_outside : PartNb (·.outside) id := ⟨fun b ok => by
  show nbD b.outside = true
  rcases okOutsideL ok.outside with e | ⟨p, q, e, _⟩ <;> rw [e] <;> rfl, fun b c _ _ e => e⟩
theorem pn_rights : PartNb (·.rights) rowsT := by
 refine Hk.hold ?_
 simp (disch := with_unfolding_all (
 exact Hk.disch (⟨fun b ok => by
  obtain ⟨rds, er, _, rall⟩ := okRightsL ok.rights
  have hrow := ok.rights
  unfold okRights at hrow
  rw [Bool.and_eq_true] at hrow
  rw [er] at hrow
  show nbD (rowsT b.rights) = true
  rw [er]
  show nbAll (rds.map tupOf) = true
  refine nbAll_of fun d hd => ?_
  obtain ⟨r, hr, rfl⟩ := List.mem_map.mp hd
  have z := List.all_eq_true.mp hrow.2 r hr
  obtain ⟨es, rfl⟩ := rall r hr
  unfold okRow at z
  rw [Bool.and_eq_true] at z
  have z2 := z.2
  rw [Bool.and_eq_true] at z2
  show nbAll es = true
  refine nbAll_of fun x hx => ?_
  obtain ⟨w, i, rfl⟩ := dRight_shape (List.all_eq_true.mp z2.1 x hx)
  rfl, fun b c okb okc e => by
  obtain ⟨rds, er, lr, rall⟩ := okRightsL okb.rights
  obtain ⟨sds, es, ls, sall⟩ := okRightsL okc.rights
  have e' : rowsT b.rights = rowsT c.rights := e
  show b.rights = c.rights
  rw [er, es] at e' ⊢
  have e2 : rds.map tupOf = sds.map tupOf := PyData.tuple.inj e'
  congr 1
  clear e e' er es okb okc lr ls
  induction rds generalizing sds with
  | nil => cases sds with
    | nil => rfl
    | cons => simp at e2
  | cons r rs ih => cases sds with
    | nil => simp at e2
    | cons s ss =>
      simp only [List.map_cons, List.cons.injEq] at e2
      obtain ⟨x, rfl⟩ := rall r List.mem_cons_self
      obtain ⟨y, rfl⟩ := sall s List.mem_cons_self
      have : x = y := PyData.tuple.inj e2.1
      rw [this, ih (fun r hr => rall r (List.mem_cons_of_mem _ hr)) _ (fun r hr => sall r (List.mem_cons_of_mem _ hr)) e2.2]⟩))) only [↓Hk.hold_s]
theorem pn_plan : PartNb (·.plan) planT := by
 refine Hk.hold ?_
 simp (disch := with_unfolding_all (
 exact Hk.disch (⟨fun b ok => by
  obtain ⟨z, e, epl, hz⟩ := okPlanL ok.plan
  show nbD (planT b.plan) = true
  rw [epl]
  rcases hz with ⟨rfl, i, rfl, _⟩ | ⟨rfl, hz⟩
  · show nbD (PyData.tuple [.str "levels", _]) = true
    rw [if_neg slots_ne]; rfl
  · obtain ⟨rs, rfl, hrs⟩ := okSlotsL hz
    show nbD (PyData.tuple [.str "slots", _]) = true
    rw [if_pos rfl]
    have : nbAll rs = true := nbAll_of fun d hd => by
      obtain ⟨t, k, rfl, _⟩ := hrs.2.2 d hd
      rfl
    simp [nbD, nbAll, tupOf, this], fun b c okb okc e => by
  obtain ⟨z, d, epl, hz⟩ := okPlanL okb.plan
  obtain ⟨y, d2, epl2, hy⟩ := okPlanL okc.plan
  have e' : planT b.plan = planT c.plan := e
  show b.plan = c.plan
  rw [epl, epl2] at e' ⊢
  have e2 : PyData.tuple [.str z, if z = "slots" then tupOf d else d] = PyData.tuple [.str y, if y = "slots" then tupOf d2 else d2] := e'
  simp only [PyData.tuple.injEq, List.cons.injEq, PyData.str.injEq, and_true] at e2
  obtain ⟨rfl, e3⟩ := e2
  rcases hz with ⟨rfl, i, rfl, _⟩ | ⟨rfl, hz⟩
  · rw [if_neg slots_ne, if_neg slots_ne] at e3
    rw [e3]
  · rw [if_pos rfl, if_pos rfl] at e3
    obtain ⟨rs, rfl, _⟩ := okSlotsL hz
    rcases hy with ⟨h, _⟩ | ⟨_, hy⟩
    · exact absurd h.symm slots_ne
    · obtain ⟨ss, rfl, _⟩ := okSlotsL hy
      cases e3
      rfl⟩))) only [↓Hk.hold_s]
theorem bool_eqv {d e : PyData} (h1 : isBool d = true) (h2 : isBool e = true) : PyData.eqv d e = true ↔ d = e := by
  cases d <;> first | (cases h1; done) | skip
  cases e <;> first | (cases h2; done) | skip
  simp [PyData.eqv]
theorem allEqv_iff {b c : BD} (okb : BOk b) (okc : BOk c) : allEqv b.parts c.parts = true ↔ b.list = c.list := by
 refine Hk.hold ?_
 simp (disch := with_unfolding_all (
 exact Hk.disch (by
  have e : allEqv b.parts c.parts = (PyData.eqv (tupOf b.tasks) (tupOf c.tasks) && (PyData.eqv (tupOf b.pages) (tupOf c.pages) && (PyData.eqv (tupOf b.ports) (tupOf c.ports) && (PyData.eqv (id b.locks) (id c.locks) && (PyData.eqv (id b.frames) (id c.frames) && (PyData.eqv (id b.disk) (id c.disk) && (PyData.eqv (rowsT b.rights) (rowsT c.rights) && (PyData.eqv (tupOf b.lines) (tupOf c.lines) && (PyData.eqv (id b.costs) (id c.costs) && (PyData.eqv (planT b.plan) (planT c.plan) && (PyData.eqv (id b.outside) (id c.outside) && (PyData.eqv b.wipe c.wipe && (PyData.eqv b.pad c.pad && (PyData.eqv b.lend c.lend && (PyData.eqv b.share c.share && true))))))))))))))) := rfl
  rw [e]
  simp only [Bool.and_eq_true, Bool.and_true]
  rw [pn_tasks.eqv okb okc, pn_pages.eqv okb okc, pn_ports.eqv okb okc, (pn_int (f := (·.locks)) fun b ok => by obtain ⟨i, e, _⟩ := okBetween ok.locks; exact ⟨i, e⟩).eqv okb okc, (pn_int (f := (·.frames)) fun b ok => by obtain ⟨i, e, _⟩ := okBetween ok.frames; exact ⟨i, e⟩).eqv okb okc, pn_disk.eqv okb okc, pn_rights.eqv okb okc, pn_lines.eqv okb okc, pn_costs.eqv okb okc, pn_plan.eqv okb okc, pn_outside.eqv okb okc, bool_eqv okb.wipe okc.wipe, bool_eqv okb.pad okc.pad, bool_eqv okb.lend okc.lend, bool_eqv okb.share okc.share]
  unfold BD.list
  simp only [List.cons.injEq, and_true]))) only [↓Hk.hold_s]
section
variable {K : PySem.W.Frag} {C : Addr}
/-- == of two builds -/
theorem q_eqB {x y : Addr} {b c : BD} {H : Hp} {Q : VK} (hx : PartsAt K C H x b) (hy : PartsAt K C H y c) (q : Q (.bl (allEqv b.parts c.parts)) H) : rEqI C (spEqB K C) (.ref x) (.ref y) H Q := by
  have hx' := hx
  have hy' := hy
  obtain ⟨okb, dx, fs, q0, kvs, e1, e2, e3, e4, e5⟩ := hx
  obtain ⟨okc, dy, gs, q1, lvs, f1, f2, f3, f4, f5⟩ := hy
  exact ⟨x, y, dx, dy, fs, gs, rfl, rfl, e1, f1, x, y, b, c, rfl, hx', hy', _, rfl, q⟩
theorem hu1 {k : Nat} {A : Around} (hr : Room k A) : A.units < cLine := by have := hu64 hr; omega
end
end T
namespace T
section
variable {P : Program} {w : World} {K : PySem.W.Frag} {mg : Str → Option Value} {base : Heap} {C CR CK CM KE NT : Addr}
abbrev veB : List Value := [.type "ValueError", .type "Exception", .type "BaseException", .type "object"]
/-- the class NoTask -/
structure XNs (K : PySem.W.Frag) (mg : Str → Option Value) (KE NL : Addr) : Prop where
  E : ECls K mg KE "NoTask" NL
  x : PySem.W.excIn K NL veB "ValueError.__new__" = true
/-- no integer, no data -/
def OddV (K : PySem.W.Frag) (H : Hp) (x : V) : Prop := ∃ t, TyX K H x t ∧ PySem.W.kitOne K t (.type "int") = some false
/-- whether it is an integer between these -/
def BetV (K : PySem.W.Frag) (H : Hp) (x : V) (lo hi : Int) (r : Bool) : Prop := (∃ d, Dp K H x d ∧ r = dBetween d lo hi) ∨ (OddV K H x ∧ r = false)
def spIntegerO (K : PySem.W.Frag) : Sp := fun vs H Q _ => ∃ (x : V) (r : Bool), vs = [x] ∧ ((∃ d, Dp K H x d ∧ r = (isInt d && !isBool d)) ∨ (OddV K H x ∧ r = false)) ∧ Q (.bl r) H
theorem ok_is_integerO (B : Bl mg) (d : DefAt K mg "is_integer" s_is_integer ["thing"]) : Cal P w K mg base 1 "is_integer" ["thing"] (spIntegerO K) := by
 refine Hk.hold ?_
 simp (disch := with_unfolding_all (
 exact Hk.disch (d.cal fun f fd F => by
  refine F.ok sc_is_integer (fun vs H Q E h => ?_) (fun cdv A outer s H vs Q E hr h => ?_)
  · obtain ⟨x, r, rfl, _⟩ := h; rfl
  · obtain ⟨x, r, rfl, ⟨d, hd, er⟩ | ⟨⟨t, ty, kb⟩, er⟩, q⟩ := h
    · subst er
      refine ⟨_, (pss_one (ps_ret (pe_and (pe_callB call_isi rfl B.isinstance hb_isinstance (pa_cons (pv 0) (pa_cons (pe_bltn (v := .ty "int") rfl B.int_ hb_int rfl) pa_nil))) (pe_one (pe_not (pe_callB call_isi rfl B.isinstance hb_isinstance (pa_cons (pv 0) (pa_cons (pe_bltn (v := .ty "bool") rfl B.bool_ hb_bool rfl) pa_nil)))))))), ?_⟩
      walk_at "st0"
      refine q_if (fun hc => ?_) (fun hc => ?_)
      · walk_at "st"
        rw [hc] at q; exact q
      · rw [hc] at q; exact q
    · subst er
      refine ⟨_, (pss_one (ps_ret (pe_and (pe_callB call_isi rfl B.isinstance hb_isinstance (pa_cons (pv 0) (pa_cons (pe_bltn (v := .ty "int") rfl B.int_ hb_int rfl) pa_nil))) (pe_one (pe_not (pe_callB call_isi rfl B.isinstance hb_isinstance (pa_cons (pv 0) (pa_cons (pe_bltn (v := .ty "bool") rfl B.bool_ hb_bool rfl) pa_nil)))))))), ?_⟩
      walk_at "st0"
      exact ⟨x, _, t, _, false, rfl, .ty "int", ty, kb, false, rfl, iteF q⟩))) only [↓Hk.hold_s]
def spBetweenO (K : PySem.W.Frag) : Sp := fun vs H Q _ => ∃ (x : V) (lo hi : Int) (r : Bool), vs = [x, .int lo, .int hi] ∧ BetV K H x lo hi r ∧ Q (.bl r) H
theorem ok_is_betweenO (B : Bl mg) (d : DefAt K mg "is_between" s_is_between ["thing", "low", "high"]) (c_is_integer : Cal P w K mg base 1 "is_integer" ["thing"] (spIntegerO K)) : Cal P w K mg base 2 "is_between" ["thing", "low", "high"] (spBetweenO K) := by
 refine Hk.hold ?_
 simp (disch := with_unfolding_all (
 exact Hk.disch (d.cal fun f fd F => by
  refine F.ok sc_is_between (fun vs H Q E h => ?_) (fun cdv A outer s H vs Q E hr h => ?_)
  · obtain ⟨x, lo, hi, r, rfl, _⟩ := h; rfl
  · obtain ⟨x, lo, hi, r, rfl, ⟨d, hd, er⟩ | ⟨od, er⟩, q⟩ := h
    · subst er
      refine ⟨_, (pss_one (ps_ret (pe_and (pe_cal c_is_integer (hr.mono (by omega)) rfl (pa_cons (pv 0) pa_nil)) (pe_one (pe_chain op_le op_le (pv 1) (pv 0) (pv 2)))))), ?_⟩
      walk_at "st0"
      refine ⟨x, _, rfl, .inl ⟨d, hd, rfl⟩, ?_⟩
      walk_at "st"
      cases d with
      | int i =>
        refine iteT ?_
        cases hd
        walk_at "st"
        refine q_if (fun hc => ?_) (fun hc => ?_)
        · walk_at "st"
          simpa [dBetween, hc] using q
        · simpa [dBetween, hc] using q
      | _ => exact iteF q
    · subst er
      refine ⟨_, (pss_one (ps_ret (pe_and (pe_cal c_is_integer (hr.mono (by omega)) rfl (pa_cons (pv 0) pa_nil)) (pe_one (pe_chain op_le op_le (pv 1) (pv 0) (pv 2)))))), ?_⟩
      walk_at "st0"
      refine ⟨x, _, rfl, .inr ⟨od, rfl⟩, ?_⟩
      walk_at "st"
      exact iteF q))) only [↓Hk.hold_s]
def spIndexO (K : PySem.W.Frag) : Sp := fun vs H Q _ => ∃ (x : V) (n : Int) (r : Bool), vs = [x, .int n] ∧ BetV K H x 0 (n - 1) r ∧ Q (.bl r) H
theorem ok_is_indexO (B : Bl mg) (d : DefAt K mg "is_index" s_is_index ["thing", "many"]) (c_is_between : Cal P w K mg base 2 "is_between" ["thing", "low", "high"] (spBetweenO K)) : Cal P w K mg base 3 "is_index" ["thing", "many"] (spIndexO K) := d.cal fun f fd F => by
  refine F.ok sc_is_index (fun vs H Q E h => ?_) (fun cdv A outer s H vs Q E hr h => ?_)
  · obtain ⟨x, n, r, rfl, _⟩ := h; rfl
  · obtain ⟨x, n, r, rfl, hd, q⟩ := h
    refine ⟨_, (pss_one (ps_ret (pe_cal c_is_between (hr.mono (by omega)) rfl (pa_cons (pv 0) (pa_cons pe_int (pa_cons (pe_op op_sub (pv 1) pe_int) pa_nil)))))), ?_⟩
    walk_at "st0"
    exact ⟨_, _, _, _, rfl, hd, q⟩
/-- not the index of a task -/
def spCheckX (K : PySem.W.Frag) (C CR NT : Addr) : Sp := fun vs H _ E => ∃ (p : Addr) (b : BD) (x : V), vs = [.ref p, x] ∧ BuildAt K C CR H p b ∧ BetV K H x 0 (((dl b.tasks).length : Int) - 1) false ∧ ∀ H', Same H H' → E (.ref NT) none H'
theorem ok_check_taskX (B : Bl mg) (XN : XNs K mg KE NT) (TB : BCls K C) (R : RCls K CR) (c_is_index : Cal P w K mg base 3 "is_index" ["thing", "many"] (spIndexO K)) (d : DefAt K mg "check_task" s_check_task ["build", "task"]) : CalX P w K mg base 4 "check_task" ["build", "task"] (spCheckX K C CR NT) := by
 refine Hk.hold ?_
 simp (disch := with_unfolding_all (
 exact Hk.disch (d.calX fun f fd F => by
  refine F.okX sc_check_task (fun vs H Q E h => ?_) (fun cdv A outer s H vs Q E hr h => ?_)
  · obtain ⟨p, b, x, rfl, _⟩ := h; rfl
  · obtain ⟨p, b, x, rfl, hB, hx, q⟩ := h
    refine ⟨_, (pss_one (ps_if (pt_not (pt_val (pe_cal c_is_index (hr.mono (by omega)) rfl (pa_cons (pv 1) (pa_cons (pe_fld (pe_fld (pv 0) rfl) rfl) pa_nil))))) (pss_one (ps_raise rfl (takes_of rfl rfl rfl rfl) (pmk_own PySem.F.excBase_ValueError XN.x XN.E.g XN.E.kp (raises_own XN.E.exC XN.E.ty) rfl))) pss_nil)), ?_⟩
    walk_at "st0"
    refine hB.rl TB fun r hR => ?_
    walk_at "st"
    refine hR.rd R .task_count fun v1 d1 => ?_
    have d2 : Dp K H v1 (.int ((dl b.tasks).length : Int)) := d1
    cases d2
    walk_at "st"
    refine ⟨x, _, false, rfl, hx, ?_⟩
    walk_at "st"
    refine iteT ?_
    exact q _ (Same.refl _)))) only [↓Hk.hold_s]
/-- a method that may raise -/
structure MCalX (P : Program) (w : World) (K : PySem.W.Frag) (mg : Str → Option Value) (base : Heap) (k : Nat) (C : Addr) (m : Str) (ps : List Str) (sp : Sp) : Prop where
  cls : Cls K C
  ex : ∃ f fd, Meth K C m f ∧ Binds K fd ps [] ∧ FnOk P w K mg base (L2.CX P w) k f fd ps sp
theorem _root_.Hk.MethAt.calX {C : Addr} {k : Nat} {m qual : Str} {st : Stmt} {ps : List Str} {sp : Sp} (d : MethAt K C m qual st ps) (h : ∀ f fd, Fun K m qual st f fd → FnOk P w K mg base (L2.CX P w) k f fd ps sp) : MCalX P w K mg base k C m ps sp := by
  obtain ⟨cl, f, fd, F, M, b⟩ := d
  exact ⟨cl, f, fd, M, b, h f fd F⟩
def spAskX (K : PySem.W.Frag) (C CR CM NT : Addr) : Sp := fun vs H _ E => ∃ (m p : Addr) (b : BD) (D : KD) (x : V), vs = [.ref m, x] ∧ MAt K C CR CM H m p b D ∧ BetV K H x 0 (((dl b.tasks).length : Int) - 1) false ∧ ∀ H', Same H H' → E (.ref NT) none H'
theorem ok_M_statusX (B : Bl mg) (T : MCls K CM) (c_check_taskX : CalX P w K mg base 4 "check_task" ["build", "task"] (spCheckX K C CR NT)) (d : MethAt K CM "status" "Moment.status" s_Moment_status ["self", "task"]) : MCalX P w K mg base 5 CM "status" ["self", "task"] (spAskX K C CR CM NT) := d.calX fun f fd F => by
  refine F.okX sc_Moment_status (fun vs H Q E h => ?_) (fun cdv A outer s H vs Q E hr h => ?_)
  · obtain ⟨m, p, b, D, x, rfl, _⟩ := h; rfl
  · obtain ⟨m, p, b, D, x, rfl, hm, hx, q⟩ := h
    refine ⟨_, (pss_cons (ps_expr (by exact (pe_calX c_check_taskX hr rfl (takes_of rfl rfl rfl rfl) (by exact (pa_cons (pe_fld (pv 0) rfl) (pa_cons (pv 1) pa_nil))))))
      (pss_one (ps_never))), ?_⟩
    walk_at "st0"
    refine q_callS ?_
    walk_at "st"
    refine hm.gb T ?_
    walk_at "st"
    obtain ⟨_, _, _, _, _, _, _, _, hB⟩ := id hm
    exact ⟨p, b, x, rfl, hB, hx, q⟩
theorem ok_M_answerX (B : Bl mg) (T : MCls K CM) (c_check_taskX : CalX P w K mg base 4 "check_task" ["build", "task"] (spCheckX K C CR NT)) (d : MethAt K CM "answer" "Moment.answer" s_Moment_answer ["self", "task"]) : MCalX P w K mg base 5 CM "answer" ["self", "task"] (spAskX K C CR CM NT) := d.calX fun f fd F => by
  refine F.okX sc_Moment_answer (fun vs H Q E h => ?_) (fun cdv A outer s H vs Q E hr h => ?_)
  · obtain ⟨m, p, b, D, x, rfl, _⟩ := h; rfl
  · obtain ⟨m, p, b, D, x, rfl, hm, hx, q⟩ := h
    refine ⟨_, (pss_cons (ps_expr (by exact (pe_calX c_check_taskX hr rfl (takes_of rfl rfl rfl rfl) (by exact (pa_cons (pe_fld (pv 0) rfl) (pa_cons (pv 1) pa_nil))))))
      (pss_one (ps_never))), ?_⟩
    walk_at "st0"
    refine q_callS ?_
    walk_at "st"
    refine hm.gb T ?_
    walk_at "st"
    obtain ⟨_, _, _, _, _, _, _, _, hB⟩ := id hm
    exact ⟨p, b, x, rfl, hB, hx, q⟩
theorem ok_M_rightsX (B : Bl mg) (T : MCls K CM) (c_check_taskX : CalX P w K mg base 4 "check_task" ["build", "task"] (spCheckX K C CR NT)) (d : MethAt K CM "rights" "Moment.rights" s_Moment_rights ["self", "task"]) : MCalX P w K mg base 5 CM "rights" ["self", "task"] (spAskX K C CR CM NT) := d.calX fun f fd F => by
  refine F.okX sc_Moment_rights (fun vs H Q E h => ?_) (fun cdv A outer s H vs Q E hr h => ?_)
  · obtain ⟨m, p, b, D, x, rfl, _⟩ := h; rfl
  · obtain ⟨m, p, b, D, x, rfl, hm, hx, q⟩ := h
    refine ⟨_, (pss_cons (ps_expr (by exact (pe_calX c_check_taskX hr rfl (takes_of rfl rfl rfl rfl) (by exact (pa_cons (pe_fld (pv 0) rfl) (pa_cons (pv 1) pa_nil))))))
      (pss_one (ps_never))), ?_⟩
    walk_at "st0"
    refine q_callS ?_
    walk_at "st"
    refine hm.gb T ?_
    walk_at "st"
    obtain ⟨_, _, _, _, _, _, _, _, hB⟩ := id hm
    exact ⟨p, b, x, rfl, hB, hx, q⟩
theorem ok_M_heldX (B : Bl mg) (T : MCls K CM) (c_check_taskX : CalX P w K mg base 4 "check_task" ["build", "task"] (spCheckX K C CR NT)) (d : MethAt K CM "held" "Moment.held" s_Moment_held ["self", "task"]) : MCalX P w K mg base 5 CM "held" ["self", "task"] (spAskX K C CR CM NT) := d.calX fun f fd F => by
  refine F.okX sc_Moment_held (fun vs H Q E h => ?_) (fun cdv A outer s H vs Q E hr h => ?_)
  · obtain ⟨m, p, b, D, x, rfl, _⟩ := h; rfl
  · obtain ⟨m, p, b, D, x, rfl, hm, hx, q⟩ := h
    refine ⟨_, (pss_cons (ps_expr (by exact (pe_calX c_check_taskX hr rfl (takes_of rfl rfl rfl rfl) (by exact (pa_cons (pe_fld (pv 0) rfl) (pa_cons (pv 1) pa_nil))))))
      (pss_one (ps_never))), ?_⟩
    walk_at "st0"
    refine q_callS ?_
    walk_at "st"
    refine hm.gb T ?_
    walk_at "st"
    obtain ⟨_, _, _, _, _, _, _, _, hB⟩ := id hm
    exact ⟨p, b, x, rfl, hB, hx, q⟩
end
end T
namespace T
theorem strOk_right {c : Cnt} {z : Str} {i : Int} (h : dRight c (.tuple [.str z, .int i]) = true) : PyData.strOk z = true := by
 refine Hk.hold ?_
 simp (disch := with_unfolding_all (
 exact Hk.disch (by
  have h2 : (rTab.lookup z).isSome = true := by
    unfold dRight dFormed at h
    cases e : rTab.lookup z with
    | none =>
      have e' : rTab.lookup (dWord (.tuple [.str z, .int i])) = none := e
      rw [e'] at h
      simp at h
    | some _ => rfl
  obtain ⟨ks, e⟩ := Option.isSome_iff_exists.mp h2
  have hz : z ∈ rTab.map (·.1) := by
    have : ∀ (l : List (Str × List Str)), l.lookup z = some ks → z ∈ l.map (·.1) := fun l => by
      induction l with
      | nil => intro h; simp at h
      | cons p r ih =>
        intro h
        obtain ⟨y, q⟩ := p
        rw [List.lookup_cons] at h
        by_cases c : z = y
        · subst c; simp
        · rw [show (z == y) = false from by simpa using c] at h
          simp only [List.map_cons, List.mem_cons]
          exact .inr (ih h)
    exact this _ e
  have all : ∀ y ∈ rTab.map (·.1), PyData.strOk y = true := by decide +kernel
  exact all z hz))) only [↓Hk.hold_s]
/-- data of integers, None, words and tuples, flat enough -/
def lays (k : Nat) (d : PyData) : Prop := d.canLay0 = true ∧ d.depth ≤ k ∧ nbD d = true
theorem lays_none {k : Nat} : lays k .none := ⟨rfl, Nat.zero_le _, rfl⟩
theorem lays_int {k : Nat} (i : Int) : lays k (.int i) := ⟨rfl, Nat.zero_le _, rfl⟩
theorem lays_str {k : Nat} {z : Str} (h : PyData.strOk z = true) : lays k (.str z) := ⟨h, Nat.zero_le _, rfl⟩
theorem lays_tup {k : Nat} {ds : List PyData} (h : ∀ d ∈ ds, lays k d) : lays (k + 1) (.tuple ds) := by
 refine Hk.hold ?_
 simp (disch := with_unfolding_all (
 exact Hk.disch (by
  have key : PyData.canLayAll0 ds = true ∧ PyData.depthAll ds ≤ k ∧ nbAll ds = true := by
    induction ds with
    | nil => exact ⟨rfl, Nat.zero_le _, rfl⟩
    | cons a r ih =>
      obtain ⟨i1, i2, i3⟩ := ih fun d hd => h d (List.mem_cons_of_mem _ hd)
      obtain ⟨h1, h2, h3⟩ := h a List.mem_cons_self
      refine ⟨?_, ?_, ?_⟩
      · show (a.canLay0 && PyData.canLayAll0 r) = true
        rw [h1, i1]; rfl
      · show max a.depth (PyData.depthAll r) ≤ k
        omega
      · show (nbD a && nbAll r) = true
        rw [h3, i3]; rfl
  refine ⟨key.1, ?_, key.2.2⟩
  show PyData.depthAll ds + 1 ≤ k + 1
  omega))) only [↓Hk.hold_s]
theorem lays_rep {k n : Nat} {d : PyData} (h : lays k d) : lays (k + 1) (.tuple (List.replicate n d)) := lays_tup fun x hx => by rw [(List.mem_replicate.mp hx).2]; exact h
theorem first_lays {b : BD} (ok : BOk b) : lays 9 (shapeOf (firstD b)) := by
 refine Hk.hold ?_
 simp (disch := with_unfolding_all (
 exact Hk.disch (by
  refine lays_tup (k := 8) fun d hd => ?_
  simp only [List.mem_cons, List.not_mem_nil, or_false] at hd
  rcases hd with rfl | rfl | rfl | rfl | rfl | rfl | rfl | rfl | rfl | rfl
  · exact lays_rep (k := 7) (lays_tup (k := 6) fun x hx => by simp only [List.mem_cons, List.not_mem_nil, or_false] at hx; subst hx; exact lays_str (by decide +kernel))
  · exact lays_rep (k := 7) lays_none
  · obtain ⟨rds, er, _, rall⟩ := okRightsL ok.rights
    have hrow := ok.rights
    unfold okRights at hrow
    rw [Bool.and_eq_true, er] at hrow
    show lays 8 (rowsT b.rights)
    rw [er]
    refine lays_tup (k := 7) fun x hx => ?_
    obtain ⟨r, hr, rfl⟩ := List.mem_map.mp hx
    have z := List.all_eq_true.mp hrow.2 r hr
    obtain ⟨es, rfl⟩ := rall r hr
    unfold okRow at z
    rw [Bool.and_eq_true] at z
    have z2 := z.2
    rw [Bool.and_eq_true] at z2
    refine lays_tup (k := 6) fun y hy => ?_
    have z3 := List.all_eq_true.mp z2.1 y hy
    obtain ⟨w, i, rfl⟩ := dRight_shape z3
    exact lays_tup (k := 5) fun u hu => by
      simp only [List.mem_cons, List.not_mem_nil, or_false] at hu
      rcases hu with rfl | rfl
      · exact lays_str (strOk_right z3)
      · exact lays_int _
  · exact lays_rep (k := 7) (lays_int _)
  · obtain ⟨ds, e, _, hall⟩ := okList ok.pages
    show lays 8 (tupOf b.pages)
    rw [e]
    refine lays_tup (k := 7) fun x hx => ?_
    obtain ⟨i, rfl, _⟩ := hall x hx
    exact lays_int _
  · refine lays_tup (k := 7) fun x hx => ?_
    obtain ⟨_, _, rfl⟩ := List.mem_map.mp hx
    exact lays_tup (k := 6) fun y hy => by cases hy
  · exact lays_rep (k := 7) (lays_tup (k := 6) fun y hy => by
      simp only [List.mem_cons, List.not_mem_nil, or_false] at hy
      rcases hy with rfl | rfl
      · exact lays_none
      · exact lays_tup (k := 5) fun y hy => by cases hy)
  · exact lays_tup (k := 7) fun y hy => by
      simp only [List.mem_cons, List.not_mem_nil, or_false] at hy
      rcases hy with rfl | rfl <;> exact lays_none
  · exact lays_int _
  · exact lays_tup (k := 7) fun y hy => by
      simp only [List.mem_cons, List.not_mem_nil, or_false] at hy
      rcases hy with rfl | rfl | rfl | rfl
      · exact lays_none
      · exact lays_int _
      · exact lays_int _
      · exact lays_int _))) only [↓Hk.hold_s]
theorem first_shaped {b : BD} (ok : BOk b) : SeqAt.shaped (shapeOf (firstD b)) = true := by
  obtain ⟨h1, h2, _⟩ := first_lays ok
  have e : ((shapeOf (firstD b)).canLay0 && decide ((shapeOf (firstD b)).depth ≤ 64)) = true := by rw [h1, decide_eq_true (by omega)]; rfl
  exact e
theorem first_eqv {b : BD} (ok : BOk b) : PyData.eqv (shapeOf (firstD b)) (shapeOf (firstD b)) = true := (eqv_nb _ _ (first_lays ok).2.2 (first_lays ok).2.2).mpr rfl
section
variable {P : Program} {w : World} {K : PySem.W.Frag} {mg : Str → Option Value} {base : Heap} {C CR CM : Addr}
/-- == of moments: the builds, and the shapes -/
def spEqM (K : PySem.W.Frag) (C CR CM : Addr) : Sp := fun vs H Q _ => ∃ (m1 m2 p1 p2 : Addr) (b1 b2 : BD) (D1 D2 : KD), vs = [.ref m1, .ref m2] ∧ MAt K C CR CM H m1 p1 b1 D1 ∧ MAt K C CR CM H m2 p2 b2 D2 ∧ SeqAt.shaped (shapeOf D1) = true ∧ SeqAt.shaped (shapeOf D2) = true ∧
  Q (.bl (allEqv b1.parts b2.parts && PyData.eqv (shapeOf D1) (shapeOf D2))) H
theorem ok_Moment_eq (B : Bl mg) (T : MCls K CM) (gM : mg "Moment" = some (.ref CM)) (IM : C8.InsC K CM) (m_eqB : MCal P w K mg base 1 C "__eq__" ["self", "other"] (spEqB K C)) (d : MethAt K CM "__eq__" "Moment.__eq__" s_Moment___eq__ ["self", "other"]) : MCal P w K mg base 2 CM "__eq__" ["self", "other"] (spEqM K C CR CM) := by
 refine Hk.hold ?_
 simp (disch := with_unfolding_all (
 exact Hk.disch (d.cal fun f fd F => by
  refine F.ok sc_Moment___eq__ (fun vs H Q E h => ?_) (fun cdv A outer s H vs Q E hr h => ?_)
  · obtain ⟨m1, m2, p1, p2, b1, b2, D1, D2, rfl, _⟩ := h; rfl
  · obtain ⟨m1, m2, p1, p2, b1, b2, D1, D2, rfl, M1, M2, sh1, sh2, k⟩ := h
    refine ⟨_, (pss_one (ps_ret (pe_and (pe_callB (C8.call_isC IM) rfl B.isinstance hb_isinstance (pa_cons (pv 1) (pa_cons (pe_glob (v := .ref CM) rfl gM rfl) pa_nil))) (pe_and (pe_cmpR (op_eqI m_eqB (hr.mono (by omega)) (hu1 hr)) (pe_fld (pv 0) rfl) (pe_fld (pv 1) rfl) (nomark _)) (pe_one (pe_cmpR (op_eqD (hu64 hr)) (pe_fld (pv 0) rfl) (pe_fld (pv 1) rfl) (nomark _))))))), ?_⟩
    walk_at "st0"
    obtain ⟨_, _, _, _, _, _, _, _, hB1⟩ := id M1
    obtain ⟨dy, gs, _, f1, _, _, _, _, hB2⟩ := id M2
    refine ⟨m2, dy, gs, rfl, f1, ?_⟩
    walk_at "st"
    refine iteT ?_
    walk_at "st"
    refine M1.gb T ?_
    walk_at "st"
    refine M2.gb T ?_
    refine q_eqB hB1.1 hB2.1 ?_
    cases e : allEqv b1.parts b2.parts with
    | false =>
      rw [e, Bool.false_and] at k
      exact ⟨false, rfl, iteF k⟩
    | true =>
      rw [e, Bool.true_and] at k
      refine ⟨true, rfl, iteT ?_⟩
      walk_at "st"
      refine M1.gs T fun v1 d1 => ?_
      walk_at "st"
      refine M2.gs T fun v2 d2 => ?_
      exact ⟨_, _, d1, d2, sh1, sh2, k⟩))) only [↓Hk.hold_s]
/-- == of two moments -/
theorem q_eqM {x y p1 p2 : Addr} {b1 b2 : BD} {D1 D2 : KD} {H : Hp} {Q : VK} (hx : MAt K C CR CM H x p1 b1 D1) (hy : MAt K C CR CM H y p2 b2 D2) (s1 : SeqAt.shaped (shapeOf D1) = true) (s2 : SeqAt.shaped (shapeOf D2) = true) (q : Q (.bl (allEqv b1.parts b2.parts && PyData.eqv (shapeOf D1) (shapeOf D2))) H) : rEqI CM (spEqM K C CR CM) (.ref x) (.ref y) H Q := by
  obtain ⟨dx, fs, _, e1, _⟩ := id hx
  obtain ⟨dy, gs, _, f1, _⟩ := id hy
  exact ⟨x, y, dx, dy, fs, gs, rfl, rfl, e1, f1, x, y, p1, p2, b1, b2, D1, D2, rfl, hx, hy, s1, s2, _, rfl, q⟩
end
end T
namespace T
section
variable {P : Program} {w : World} {K : PySem.W.Frag} {mg : Str → Option Value} {base : Heap}
theorem q_dputW {td ty tv : TE} {D : Ends} {σ : L2.St} {H : Hp} (h : tv σ H fun v H1 => td σ H1 fun x H2 => ty σ H2 fun y H3 => ∃ a H4, x = .ref a ∧ DPut H3 a y v H4 ∧ D.nx σ H4) : sDPut td ty tv D σ H := h
local macro_rules | `(tactic| walk_at "s1") => `(tactic| first | with_reducible refine q_dputW ?_ | with_reducible refine q_sl ?_ | with_reducible refine q_np ?_ | with_reducible refine q_pt ?_)
theorem q_putD {W : Addr} {H : Hp} {kv kv' : List (Key × V)} {z : Str} {v : V} {q : Hp → Prop} (e : H W = some (.dK kv)) (l : kv.length < sizeLine) (ek : putK kv (Sum.inr z) v = kv') (h : q (upd H W (.dK kv'))) : ∃ a H4, V.ref W = .ref a ∧ DPut H a (.str z) v H4 ∧ q H4 :=
  ⟨W, _, rfl, DPut.k (k := Sum.inr z) e l, by rw [ek]; exact h⟩
theorem q_getD {W : Addr} {H : Hp} {kv : List (Key × V)} {z : Str} {v : V} (h : H W = some (.dK kv)) (e : valV kv (Sum.inr z) = some v) {Q : V → Prop} (q : Q v) : ∃ a v, V.ref W = .ref a ∧ DGet H a (.str z) (some v) ∧ Q v :=
  ⟨W, v, rfl, by rw [← e]; exact DGet.k (k := Sum.inr z) h, q⟩
theorem q_lsd {ta : TE} {σ : L2.St} {H : Hp} {Q : VK} (h : ta σ H fun x H1 => ∃ (l : Addr) (ns : List Int), x = V.ref l ∧ SqL K H1 l (ns.map V.int) ∧ ns.length < 60 ∧ Q (.int (distinct ns)) H1) : tLenSetD K ta σ H Q := h
theorem mulW2 {i : Nat} (h1 : i < 4) : CMulW 2 (i : Int) := by
  rcases (show i = 0 ∨ i = 1 ∨ i = 2 ∨ i = 3 by omega) with rfl | rfl | rfl | rfl <;> (unfold CMulW; decide +kernel)
theorem keepD_dk {D : Addr} {H H' : Hp} {kv : List (Key × V)} (e : H D = some (.dK kv)) (bt : But D H H') : KeepD H H' := fun b o h _ n => bt _ _ h fun z => by subst z; rw [e] at h; cases h; exact n _ rfl
theorem cut_to (l : List Int) (n : Nat) : cutV (l.map V.int) none (some (n : Int)) = (l.take n).map V.int := by
  unfold cutV
  rw [HT.sIx_none, show HT.sIx (l.map V.int).length (l.map V.int).length (some (n : Int)) = min n (l.map V.int).length from HT.sIx_nat _ _ n, List.drop_zero, List.map_take, List.take_eq_take_iff]
  simp
theorem ixN_last {n : Nat} (h : 1 ≤ n) : ixN n (-1) = some (n - 1) := by
  unfold ixN
  rw [if_neg (by omega), if_pos (by omega)]
  congr 1
  omega
theorem dpIntsL {H : Hp} : ∀ ns : List Int, DpAll K H (ns.map V.int) (ns.map PyData.int)
  | [] => .nil
  | n :: r => .cons (.int n) (dpIntsL r)
/-- the things drawn -/
structure TP where
  ts : List (Int × Int)
  pis : List Int
  qis : List Int
  nl : Nat
  fr : Nat
  dk : Int
  rows : List (List Rt)
def tkD (p : Int × Int) : PyData := .tuple [.int p.1, .int p.2]
def TP.menu (p : TP) : List Rt := menuL p.ts.length p.pis.length p.qis.length p.nl p.dk
structure TP.Ok (p : TP) : Prop where
  t2 : 2 ≤ p.ts.length
  t4 : p.ts.length ≤ 4
  tb : ∀ x ∈ p.ts, 0 ≤ x.1 ∧ x.1 ≤ 3 ∧ 0 ≤ x.2 ∧ x.2 ≤ 2
  two : ∃ x ∈ p.ts, ∃ y ∈ p.ts, x.1 ≠ y.1
  p3 : p.pis.length ≤ 3
  pb : ∀ x ∈ p.pis, 0 ≤ x ∧ x ≤ 1
  q2 : p.qis.length ≤ 2
  qb : ∀ x ∈ p.qis, 1 ≤ x ∧ x ≤ 2
  nl : p.nl ≤ 2
  fr : p.fr ≤ 3
  dk : p.dk ∈ ([0, 2, 3, 4] : List Int)
  lr : p.rows.length = p.ts.length
  rb : ∀ r ∈ p.rows, RowB p.menu r
def rowD (r : List Rt) : PyData := .list (r.map rtd)
/-- the law's things in its dict -/
def thKV (LT LP LQ LR : Addr) (p : TP) : List (Key × V) := [(Sum.inr "tasks", .ref LT), (Sum.inr "pages", .ref LP), (Sum.inr "ports", .ref LQ), (Sum.inr "locks", .int p.nl), (Sum.inr "frames", .int p.fr), (Sum.inr "disk", .int p.dk), (Sum.inr "rights", .ref LR)]
structure ThAt (K : PySem.W.Frag) (H : Hp) (LT LP LQ LR : Addr) (p : TP) : Prop where
  tt : Dp K H (.ref LT) (.list (p.ts.map tkD))
  pp : Dp K H (.ref LP) (.list (p.pis.map .int))
  qq : Dp K H (.ref LQ) (.list (p.qis.map .int))
  rr : Dp K H (.ref LR) (.list (p.rows.map rowD))
theorem ThAt.mono {H H' : Hp} {LT LP LQ LR : Addr} {p : TP} (h : ThAt K H LT LP LQ LR p) (s : Same H H') : ThAt K H' LT LP LQ LR p := ⟨L2.Dp.mono s h.tt, L2.Dp.mono s h.pp, L2.Dp.mono s h.qq, L2.Dp.mono s h.rr⟩
theorem ThAt.keepD {H H' : Hp} {LT LP LQ LR : Addr} {p : TP} (h : ThAt K H LT LP LQ LR p) (s : KeepD H H') : ThAt K H' LT LP LQ LR p := ⟨dpKeepD s h.tt, dpKeepD s h.pp, dpKeepD s h.qq, dpKeepD s h.rr⟩
theorem menuG0 : ∀ m ∈ ([2, 3, 4] : List Nat), ∀ np ∈ ([0, 1, 2, 3] : List Nat), ∀ nq ∈ ([0, 1, 2] : List Nat), ∀ nl ∈ ([0, 1, 2] : List Nat), ∀ dk ∈ ([0, 2, 3, 4] : List Int),
    ((menuL m np nq nl dk).all fun p => dRight (cntOf m np nq nl dk) (rtd p) && PyData.strOk p.1) = true ∧ 1 ≤ (menuL m np nq nl dk).length ∧ (menuL m np nq nl dk).length ≤ 30 := by decide +kernel
theorem menuG {m np nq nl : Nat} {dk : Int} (h1 : 2 ≤ m ∧ m ≤ 4) (h2 : np ≤ 3) (h3 : nq ≤ 2) (h4 : nl ≤ 2) (h5 : dk ∈ ([0, 2, 3, 4] : List Int)) : (∀ r ∈ menuL m np nq nl dk, dRight (cntOf m np nq nl dk) (rtd r) = true ∧ PyData.strOk r.1 = true) ∧ 1 ≤ (menuL m np nq nl dk).length ∧ (menuL m np nq nl dk).length ≤ 30 := by
 refine Hk.hold ?_
 simp (disch := with_unfolding_all (
 exact Hk.disch (by
  have a1 : m ∈ ([2, 3, 4] : List Nat) := by rcases (show m = 2 ∨ m = 3 ∨ m = 4 by omega) with rfl | rfl | rfl <;> simp
  have a2 : np ∈ ([0, 1, 2, 3] : List Nat) := by rcases (show np = 0 ∨ np = 1 ∨ np = 2 ∨ np = 3 by omega) with rfl | rfl | rfl | rfl <;> simp
  have a3 : nq ∈ ([0, 1, 2] : List Nat) := by rcases (show nq = 0 ∨ nq = 1 ∨ nq = 2 by omega) with rfl | rfl | rfl <;> simp
  have a4 : nl ∈ ([0, 1, 2] : List Nat) := by rcases (show nl = 0 ∨ nl = 1 ∨ nl = 2 by omega) with rfl | rfl | rfl <;> simp
  obtain ⟨z1, z2, z3⟩ := menuG0 m a1 np a2 nq a3 nl a4 dk h5
  exact ⟨fun r hr => Bool.and_eq_true_iff.mp (List.all_eq_true.mp z1 r hr), z2, z3⟩))) only [↓Hk.hold_s]
def tsOf (m : Nat) (es : List Int) : List (Int × Int) := (List.range m).map fun k => (es.getD (1 + 2 * k) 0, es.getD (2 + 2 * k) 0)
/-- the tasks' list, its pairs each told -/
def TsAt (H : Hp) (LT : Addr) (ts : List (Int × Int)) : Prop := ∃ ys : List V, H LT = some (.lst ys) ∧ ys.length = ts.length ∧ ∀ (i : Nat) y s, ys[i]? = some y → ts[i]? = some s → ∃ p, y = .ref p ∧ H p = some (.tup [.int s.1, .int s.2])
theorem TsAt.mono {H H' : Hp} {LT : Addr} {ts : List (Int × Int)} (h : TsAt H LT ts) (s : Same H H') : TsAt H' LT ts := by
  obtain ⟨ys, e, l, r⟩ := h
  exact ⟨ys, s _ _ e, l, fun i y x a b => by obtain ⟨p, e1, e2⟩ := r i y x a b; exact ⟨p, e1, s _ _ e2⟩⟩
theorem TsAt.dp {H : Hp} {LT : Addr} {ts : List (Int × Int)} (h : TsAt H LT ts) : Dp K H (.ref LT) (.list (ts.map tkD)) := by
  obtain ⟨ys, e, l, r⟩ := h
  refine .lst (SqL.of e) (dpAll_of (by rw [List.length_map, l]) fun i x d ex ed => ?_)
  rw [List.getElem?_map] at ed
  obtain ⟨s, es, rfl⟩ := Option.map_eq_some_iff.mp ed
  obtain ⟨p, rfl, ep⟩ := r i x s ex es
  exact .tup (SqT.of ep) (.cons (.int _) (.cons (.int _) .nil))
theorem TsAt.keepD {H H' : Hp} {LT : Addr} {ts : List (Int × Int)} (h : TsAt H LT ts) (s : KeepD H H') : TsAt H' LT ts := by
  obtain ⟨ys, e, l, r⟩ := h
  exact ⟨ys, s _ _ e (by simp) (by simp), l, fun i y x a b => by obtain ⟨p, e1, e2⟩ := r i y x a b; exact ⟨p, e1, s _ _ e2 (by simp) (by simp)⟩⟩
section
variable (LT LP LQ : Addr) (nl fr : Nat) (dk : Int)
def th3 : List (Key × V) := [(Sum.inr "tasks", .ref LT), (Sum.inr "pages", .ref LP), (Sum.inr "ports", .ref LQ)]
def th4 : List (Key × V) := [(Sum.inr "tasks", .ref LT), (Sum.inr "pages", .ref LP), (Sum.inr "ports", .ref LQ), (Sum.inr "locks", .int nl)]
def th5 : List (Key × V) := [(Sum.inr "tasks", .ref LT), (Sum.inr "pages", .ref LP), (Sum.inr "ports", .ref LQ), (Sum.inr "locks", .int nl), (Sum.inr "frames", .int fr)]
def th6 : List (Key × V) := [(Sum.inr "tasks", .ref LT), (Sum.inr "pages", .ref LP), (Sum.inr "ports", .ref LQ), (Sum.inr "locks", .int nl), (Sum.inr "frames", .int fr), (Sum.inr "disk", .int dk)]
end
/-- what the if leaves of the tasks -/
structure TsOk (m : Nat) (ts : List (Int × Int)) : Prop where
  l : ts.length = m
  tb : ∀ x ∈ ts, 0 ≤ x.1 ∧ x.1 ≤ 3 ∧ 0 ≤ x.2 ∧ x.2 ≤ 2
  two : ∃ x ∈ ts, ∃ y ∈ ts, x.1 ≠ y.1
def spLThings (K : PySem.W.Frag) : Sp := fun vs H Q _ => ∃ (a : Addr) (ns : List Int), vs = [.ref a] ∧ SqL K H a (ns.map V.int) ∧ ns.length ≤ 63 ∧
  ∀ D LT LP LQ LR p H', Same H H' → H D = none → H' D = some (.dK (thKV LT LP LQ LR p)) → ThAt K H' LT LP LQ LR p → p.Ok → Q (.ref D) H'
theorem ok_law_things (B : Bl mg) (c__law_cell : Cal P w K mg base 1 "_law_cell" ["_law_script", "_law_k"] (spCell K)) (c__law_digits : Cal P w K mg base 1 "_law_digits" ["_law_cell_here", "_law_sizes"] (spDigits K))
    (c__law_menu : Cal P w K mg base 1 "_law_menu" ["_law_many", "_law_pages", "_law_ports", "_law_locks", "_law_disk"] (spMenu K)) (c__law_rights : Cal P w K mg base 2 "_law_rights" ["_law_cell_here", "_law_menu_here"] (spLRights K))
    (cc : DefAt K mg "_law_things" s__law_things ["_law_script"]) : Cal P w K mg base 3 "_law_things" ["_law_script"] (spLThings K) := by
 refine Hk.hold ?_
 simp (disch := with_unfolding_all (
 exact Hk.disch (cc.cal fun f fd F => by
  refine F.ok sc__law_things (fun vs H Q E h => ?_) (fun cdv A outer s H vs Q E hr h => ?_)
  · obtain ⟨a, ns, rfl, _⟩ := h; rfl
  · obtain ⟨a, ns, rfl, hs, l63, q⟩ := h
    have hu := hu_of hr
    refine ⟨_, (pss_cons (ps_set (i := 1) sc__law_things.nd rfl (Or.inr rfl) (pe_cal c__law_digits (hr.mono (by omega)) rfl (pa_cons (pe_cal c__law_cell (hr.mono (by omega)) rfl (pa_cons (pv 0) (pa_cons pe_int pa_nil))) (pa_cons (pe_lst (pa_cons pe_int (pa_cons pe_int (pa_cons pe_int (pa_cons pe_int (pa_cons pe_int (pa_cons pe_int (pa_cons pe_int (pa_cons pe_int (pa_cons pe_int (pa_cons pe_int (pa_cons pe_int (pa_cons pe_int (pa_cons pe_int (pa_cons pe_int (pa_cons pe_int (pa_cons pe_int (pa_cons pe_int (pa_cons pe_int (pa_cons pe_int pa_nil)))))))))))))))))))) pa_nil))))
      (pss_cons (ps_setLc (i := 2) (own := [("_law_k", 5)]) (tt := tYes) rfl sc__law_things.nd rfl rfl (sw_true rfl rfl rfl (by decide +kernel)) (pi_range1 rfl B.range (pa_cons (pe_op op_add pe_int (pe_ix ix_list (pv 1) pe_int (fun _ _ => rfl))) pa_nil)) (blkOk_by (N := ["_law_script", "_law_d", "_law_tasks", "_law_parts_here", "_law_menu_here", "_law_k", "_law_row"]) (sc := defScope s__law_things) (by decide +kernel)) (fun _ _ _ _ _ => (pg_name (i := 5) sc__law_things.nd rfl (Or.inl rfl))) (fun _ _ _ _ _ => pts_nil) (fun _ _ _ _ _ => (pe_tup (pa_cons (pe_ix (show IxR _ (rIxL K) from ix_list) (pv 1) (pe_op op_add pe_int (pe_op op_mulW pe_int (pv 5))) (fun _ _ => rfl)) (pa_cons (pe_ix (show IxR _ (rIxL K) from ix_list) (pv 1) (pe_op op_add pe_int (pe_op op_mulW pe_int (pv 5))) (fun _ _ => rfl)) pa_nil)))))
      (pss_cons (ps_if (pt_cmpR op_lt (pe_lenSetD rfl rfl B.len rfl B.set_ (pe_lc (own := [("_law_row", 6)]) (tt := tYes) rfl sc__law_things.nd (pi_list (pv 2)) (blkOk_by (N := ["_law_script", "_law_d", "_law_tasks", "_law_parts_here", "_law_menu_here", "_law_k", "_law_row"]) (sc := defScope s__law_things) (by decide +kernel)) (fun _ _ _ _ _ => (pg_name (i := 6) sc__law_things.nd rfl (Or.inl rfl))) (fun _ _ _ _ _ => pts_nil) (fun _ _ _ _ _ => (pe_ix (show IxR _ (rIxT K) from ix_tup) (pv 6) pe_int (fun _ _ => rfl))))) pe_int (nomark _)) (pss_one (ps_asg (pe_tup (pa_cons (pe_op op_mod (pe_op op_add (pe_ix ix_tup (pe_ix ix_list (pv 2) pe_int (fun _ _ => rfl)) pe_int (fun _ _ => rfl)) pe_int) pe_int) (pa_cons (pe_ix ix_tup (pe_ix ix_list (pv 2) (pe_un un_neg pe_int) (fun _ _ => rfl)) pe_int (fun _ _ => rfl)) pa_nil))) (pg_sub (pv 2) (pe_un un_neg pe_int) set_list))) pss_nil)
      (pss_cons (ps_set (i := 3) sc__law_things.nd rfl (Or.inl rfl) (pe_disp (pps_cons pe_str (pv 2) (pps_cons pe_str (pe_slice sl_list (pe_slice sl_list (pv 1) (po_some pe_int) (po_some pe_int)) po_none (po_some (pe_ix ix_list (pv 1) pe_int (fun _ _ => rfl)))) (pps_cons pe_str (pe_slice sl_list (pe_lst (pa_cons (pe_op op_add pe_int (pe_ix ix_list (pv 1) pe_int (fun _ _ => rfl))) (pa_cons (pe_op op_add pe_int (pe_ix ix_list (pv 1) pe_int (fun _ _ => rfl))) pa_nil))) po_none (po_some (pe_ix ix_list (pv 1) pe_int (fun _ _ => rfl)))) pps_nil))) rfl rfl (by simp) (by decide)))
      (pss_cons (ps_dput hu (pv 3) pe_str (pe_ix ix_list (pv 1) pe_int (fun _ _ => rfl)) rfl)
      (pss_cons (ps_dput hu (pv 3) pe_str (pe_ix ix_list (pv 1) pe_int (fun _ _ => rfl)) rfl)
      (pss_cons (ps_dput hu (pv 3) pe_str (pe_ix ix_list (pe_lst (pa_cons pe_int (pa_cons pe_int (pa_cons pe_int (pa_cons pe_int pa_nil))))) (pe_ix ix_list (pv 1) pe_int (fun _ _ => rfl)) (fun _ _ => rfl)) rfl)
      (pss_cons (ps_set (i := 4) sc__law_things.nd rfl (Or.inr rfl) (pe_cal c__law_menu (hr.mono (by omega)) rfl (pa_cons (pe_callB call_len_seq rfl B.len hb_len (pa_cons (pv 2) pa_nil)) (pa_cons (pe_ix ix_list (pv 1) pe_int (fun _ _ => rfl)) (pa_cons (pe_ix ix_list (pv 1) pe_int (fun _ _ => rfl)) (pa_cons (pe_ix ix_list (pv 1) pe_int (fun _ _ => rfl)) (pa_cons (pe_dget hu (pv 3) pe_str (fun _ _ => rfl)) pa_nil)))))))
      (pss_cons (ps_dput hu (pv 3) pe_str (pe_lc (own := [("_law_k", 5)]) (tt := tYes) rfl sc__law_things.nd (pi_range1 rfl B.range (pa_cons (pe_callB call_len_seq rfl B.len hb_len (pa_cons (pv 2) pa_nil)) pa_nil)) (blkOk_by (N := ["_law_script", "_law_d", "_law_tasks", "_law_parts_here", "_law_menu_here", "_law_k", "_law_row"]) (sc := defScope s__law_things) (by decide +kernel)) (fun _ _ _ _ _ => (pg_name (i := 5) sc__law_things.nd rfl (Or.inl rfl))) (fun _ _ _ _ _ => pts_nil) (fun _ _ _ _ _ => (pe_cal c__law_rights (hr.mono (by omega)) rfl (pa_cons (pe_cal c__law_cell (hr.mono (by omega)) rfl (pa_cons (pv 0) (pa_cons (pe_op op_add pe_int (pv 5)) pa_nil))) (pa_cons (pv 4) pa_nil))))) rfl)
      (pss_one (ps_ret (pv 3)))))))))))), ?_⟩
    walk_at "st0"
    refine ⟨a, ns, 0, rfl, hs, l63, by omega, fun c0 H1 hc0 s1 => ?_⟩
    walk_at "st"
    refine ⟨by show 19 ≤ sizeLine; decide, fun p1 n1 => ?_⟩
    have sp1 := s1.trans (same_new (o := .lst [V.int 3, V.int 4, V.int 3, V.int 4, V.int 3, V.int 4, V.int 3, V.int 4, V.int 3, V.int 4, V.int 2, V.int 2, V.int 2, V.int 3, V.int 2, V.int 2, V.int 3, V.int 4, V.int 4]) n1)
    walk_at "st"
    refine ⟨c0, p1, [3, 4, 3, 4, 3, 4, 3, 4, 3, 4, 2, 2, 2, 3, 2, 2, 3, 4, 4], rfl, hc0, SqL.of upd_same, by decide, by decide, fun dA es H2 s2 nd eD ld hd => ?_⟩
    have sA : Same H H2 := sp1.trans s2
    clear sp1 s2 s1
    have he : ∀ k, k < 4 → ∃ x y, es[1 + 2 * k]? = some x ∧ es[2 + 2 * k]? = some y ∧ 0 ≤ x ∧ x ≤ 3 ∧ 0 ≤ y ∧ y ≤ 2 := fun k hk => by
      have l8 : es.length = 19 := ld
      have g1 : es[1 + 2 * k]? = some es[1 + 2 * k] := List.getElem?_eq_getElem (by omega)
      have g2 : es[2 + 2 * k]? = some es[2 + 2 * k] := List.getElem?_eq_getElem (by omega)
      have z : ([3, 4, 3, 4, 3, 4, 3, 4, 3, 4, 2, 2, 2, 3, 2, 2, 3, 4, 4] : List Int)[1 + 2 * k]? = some 4 ∧ ([3, 4, 3, 4, 3, 4, 3, 4, 3, 4, 2, 2, 2, 3, 2, 2, 3, 4, 4] : List Int)[2 + 2 * k]? = some 3 := by
        rcases (show k = 0 ∨ k = 1 ∨ k = 2 ∨ k = 3 by omega) with rfl | rfl | rfl | rfl <;> exact ⟨rfl, rfl⟩
      have h1 := hd _ _ _ g1 z.1
      have h2 := hd _ _ _ g2 z.2
      exact ⟨_, _, g1, g2, by omega, by omega, by omega, by omega⟩
    obtain ⟨x0, x9, x10, x11, x12, x13, x14, x15, x16, x17, x18, g0, g9, g10, g11, g12, g13, g14, g15, g16, g17, g18, ecut, b0, b9, b10, b11, b12, b13, b14, b15, b16, b17, b18⟩ : ∃ x0 x9 x10 x11 x12 x13 x14 x15 x16 x17 x18 : Int, es[0]? = some x0 ∧ es[9]? = some x9 ∧ es[10]? = some x10 ∧ es[11]? = some x11 ∧ es[12]? = some x12 ∧ es[13]? = some x13 ∧ es[14]? = some x14 ∧ es[15]? = some x15 ∧ es[16]? = some x16 ∧ es[17]? = some x17 ∧ es[18]? = some x18 ∧
        cutV (es.map V.int) (some 10) (some 13) = [x10, x11, x12].map V.int ∧ (0 ≤ x0 ∧ x0 < 3) ∧ (0 ≤ x9 ∧ x9 < 4) ∧ (0 ≤ x10 ∧ x10 < 2) ∧ (0 ≤ x11 ∧ x11 < 2) ∧ (0 ≤ x12 ∧ x12 < 2) ∧ (0 ≤ x13 ∧ x13 < 3) ∧ (0 ≤ x14 ∧ x14 < 2) ∧ (0 ≤ x15 ∧ x15 < 2) ∧ (0 ≤ x16 ∧ x16 < 3) ∧ (0 ≤ x17 ∧ x17 < 4) ∧ (0 ≤ x18 ∧ x18 < 4) := by
      match es, ld with
      | [x0, x1, x2, x3, x4, x5, x6, x7, x8, x9, x10, x11, x12, x13, x14, x15, x16, x17, x18], _ =>
        exact ⟨x0, x9, x10, x11, x12, x13, x14, x15, x16, x17, x18, rfl, rfl, rfl, rfl, rfl, rfl, rfl, rfl, rfl, rfl, rfl, rfl, hd 0 _ _ rfl rfl, hd 9 _ _ rfl rfl, hd 10 _ _ rfl rfl, hd 11 _ _ rfl rfl, hd 12 _ _ rfl rfl, hd 13 _ _ rfl rfl, hd 14 _ _ rfl rfl, hd 15 _ _ rfl rfl, hd 16 _ _ rfl rfl, hd 17 _ _ rfl rfl, hd 18 _ _ rfl rfl⟩
    have at_ : ∀ {k : Nat} {x : Int}, es[k]? = some x → atI (es.map V.int) (k : Int) = some (.int x) := fun {k x} h => atI_nat (by rw [List.getElem?_map, h]; rfl)
    clear hd ld
    obtain ⟨m, em, m2, m4⟩ : ∃ m : Nat, 2 + x0 = (m : Int) ∧ 2 ≤ m ∧ m ≤ 4 := ⟨(2 + x0).toNat, by omega, by omega, by omega⟩
    walk_at "st"
    refine q_lcR ?_
    walk_at "st"
    refine q_ixL (SqL.of eD) (at_ g0) ?_
    walk_at "st"
    rw [em]
    refine ⟨(m : Int), rfl, by omega, by omega, ?_⟩
    rw [Int.toNat_natCast]
    refine fun LT nLT => lc_rel walk_range (fun i y Hh => ∃ t x1 x2, y = .ref t ∧ Hh t = some (.tup [.int x1, .int x2]) ∧ es[1 + 2 * i]? = some x1 ∧ es[2 + 2 * i]? = some x2) nLT (sz1000 (by omega)) (fun H2 s => trivial) yfn_same ?_ ?_ ?_
    · rintro i y Ha Hb acc e bt ⟨t, x1, x2, rfl, h1, h2⟩
      exact ⟨t, x1, x2, rfl, bt _ _ h1 (fun z => by subst z; rw [h1] at e; cases e), h2⟩
    · rintro i x H9 H10 lt s ⟨rfl, rfl⟩ Q' k
      refine q_gname ?_
      refine ⟨rfl, ?_⟩
      walk_at "st"
      rw [Int.zero_add]
      obtain ⟨x1, x2, h1, h2, _⟩ := he i (by omega)
      refine ⟨_, _, rfl, rfl, mulW2 (by omega), ?_⟩
      walk_at "st"
      refine q_ixL (SqL.of (s _ _ eD)) (by rw [show (1 + 2 * (i : Int)) = ((1 + 2 * i : Nat) : Int) by omega]; exact at_ h1) ?_
      walk_at "st"
      refine ⟨_, _, rfl, rfl, mulW2 (by omega), ?_⟩
      walk_at "st"
      refine q_ixL (SqL.of (s _ _ eD)) (by rw [show (2 + 2 * (i : Int)) = ((2 + 2 * i : Nat) : Int) by omega]; exact at_ h2) ?_
      walk_at "st"
      exact ⟨by show 2 ≤ sizeLine; decide, fun pt nt => k _ _ (same_new nt) ⟨pt, x1, x2, rfl, upd_same, h1, h2⟩⟩
    intro ysT HT sT eT lT rT
    have nLTH : H LT = none := sA.free nLT
    have eDT := sT _ _ eD
    have lts : (tsOf m es).length = m := by unfold tsOf; rw [List.length_map, List.length_range]
    have TS0 : TsAt HT LT (tsOf m es) := ⟨ysT, eT, by rw [lT, lts], fun i y s hy hs2 => by
      obtain ⟨t, x1, x2, rfl, h1, h2, h3⟩ := rT i y hy
      refine ⟨t, rfl, ?_⟩
      unfold tsOf at hs2
      rw [List.getElem?_map] at hs2
      obtain ⟨j, hj, rfl⟩ := Option.map_eq_some_iff.mp hs2
      have lj : i < m := by have := (List.getElem?_eq_some_iff.mp hj).1; rw [List.length_range] at this; exact this
      rw [List.getElem?_range lj] at hj
      cases hj
      simp only [List.getD_eq_getElem?_getD, h2, h3, Option.getD_some]
      exact h1⟩
    have tsb : ∀ x ∈ tsOf m es, 0 ≤ x.1 ∧ x.1 ≤ 3 ∧ 0 ≤ x.2 ∧ x.2 ≤ 2 := fun x hx => by
      unfold tsOf at hx
      obtain ⟨k, hk, rfl⟩ := List.mem_map.mp hx
      rw [List.mem_range] at hk
      obtain ⟨x1, x2, h1, h2, h⟩ := he k (by omega)
      simp only [List.getD_eq_getElem?_getD, h1, h2, Option.getD_some]
      exact h
    clear rT he eT lT
    generalize tsOf m es = ts at *
    have TS1 := TS0
    obtain ⟨ysT0, eT, lT, rT⟩ := TS1
    have sHT := sA.trans sT
    try dsimp only
    refine seq_if (fun σ Hx => ∃ (o3 : Option V) (ts2 : List (Int × Int)), σ = [some (.ref a), some (.ref dA), some (.ref LT), none, none, o3, none] ∧ Same H Hx ∧ Hx dA = some (.lst (es.map V.int)) ∧ TsAt Hx LT ts2 ∧ TsOk m ts2) (fun σ Hx hp => ?_) (fun N hN => ?_)
    · obtain ⟨o3, ts2, rfl, sB, eD2, TS, TO⟩ := hp
      clear TS0 tsb lts eDT sHT eD sA sT
      walk_at "st"
      intro W nW
      have sW := same_new (o := .dK []) nW
      have eW : upd Hx W (.dK []) W = some (.dK []) := upd_same
      have nWA : dA ≠ W := ne_of_none eD2 nW
      have nWH : H W = none := sB.free nW
      have eD3 := sW _ _ eD2
      have TS3 := TS.mono sW
      have sC := sB.trans sW
      clear sW eD2 TS sB
      generalize upd Hx W (.dK []) = H3 at *
      unfold tPairs
      walk_at "st"
      unfold tPairs
      walk_at "st"
      refine ⟨10, rfl, ?_⟩
      walk_at "st"
      refine ⟨13, rfl, ?_⟩
      refine ⟨dA, _, rfl, SqL.of eD3, fun lp nlp => ?_⟩
      rw [ecut]
      have sp := same_new (o := .lst ([x10, x11, x12].map V.int)) nlp
      have elp : upd H3 lp (.lst ([x10, x11, x12].map V.int)) lp = some (.lst ([x10, x11, x12].map V.int)) := upd_same
      generalize upd H3 lp (.lst ([x10, x11, x12].map V.int)) = H4 at *
      have eD4 := sp _ _ eD3
      walk_at "st"
      refine q_ixL (SqL.of eD4) (at_ g9) ?_
      obtain ⟨np, rfl⟩ : ∃ np : Nat, x9 = np := ⟨x9.toNat, by omega⟩
      refine ⟨np, rfl, ?_⟩
      refine ⟨lp, _, rfl, SqL.of elp, fun LP nLP => ?_⟩
      rw [cut_to]
      have lpi : ([x10, x11, x12].take np).length = np := by rw [List.length_take]; simp; omega
      have bpi : ∀ x ∈ [x10, x11, x12].take np, 0 ≤ x ∧ x ≤ 1 := fun x hx => by
        have := List.mem_of_mem_take hx
        simp only [List.mem_cons, List.not_mem_nil, or_false] at this
        rcases this with rfl | rfl | rfl <;> omega
      generalize [x10, x11, x12].take np = pis at *
      have sP := same_new (o := .lst (pis.map V.int)) nLP
      have eLP : upd H4 LP (.lst (pis.map V.int)) LP = some (.lst (pis.map V.int)) := upd_same
      generalize upd H4 LP (.lst (pis.map V.int)) = H5 at *
      have eD5 := sP _ _ eD4
      have s35 := sp.trans sP
      clear sp sP eD4 eD3 elp nlp
      unfold tPairs
      walk_at "st"
      refine q_ixL (SqL.of eD5) (at_ g14) ?_
      walk_at "st"
      refine q_ixL (SqL.of eD5) (at_ g15) ?_
      walk_at "st"
      refine ⟨by show 2 ≤ sizeLine; decide, fun lq nlq => ?_⟩
      have sq := same_new (o := .lst ([1 + x14, 1 + x15].map V.int)) nlq
      have elq : upd H5 lq (.lst ([1 + x14, 1 + x15].map V.int)) lq = some (.lst ([1 + x14, 1 + x15].map V.int)) := upd_same
      show tNoPart _ (upd H5 lq (.lst ([1 + x14, 1 + x15].map V.int))) _
      generalize upd H5 lq (.lst ([1 + x14, 1 + x15].map V.int)) = H6 at *
      have eD6 := sq _ _ eD5
      walk_at "st"
      refine q_ixL (SqL.of eD6) (at_ g13) ?_
      obtain ⟨nq, rfl⟩ : ∃ nq : Nat, x13 = nq := ⟨x13.toNat, by omega⟩
      refine ⟨nq, rfl, ?_⟩
      refine ⟨lq, _, rfl, SqL.of elq, fun LQ nLQ => ?_⟩
      rw [cut_to]
      have lqi : ([1 + x14, 1 + x15].take nq).length = nq := by rw [List.length_take]; simp; omega
      have bqi : ∀ x ∈ [1 + x14, 1 + x15].take nq, 1 ≤ x ∧ x ≤ 2 := fun x hx => by
        have := List.mem_of_mem_take hx
        simp only [List.mem_cons, List.not_mem_nil, or_false] at this
        rcases this with rfl | rfl <;> omega
      generalize [1 + x14, 1 + x15].take nq = qis at *
      have sQ := same_new (o := .lst (qis.map V.int)) nLQ
      have eLQ : upd H6 LQ (.lst (qis.map V.int)) LQ = some (.lst (qis.map V.int)) := upd_same
      generalize upd H6 LQ (.lst (qis.map V.int)) = H7 at *
      have eD7 := sQ _ _ eD6
      have s57 := sq.trans sQ
      have eLP7 := s57 _ _ eLP
      have eW7 := s57 _ _ (s35 _ _ eW)
      have TS7 := TS3.mono (s35.trans s57)
      have sD := sC.trans (s35.trans s57)
      clear sq sQ eD6 eD5 elq nlq eLP eW TS3 sC s35 s57 nLQ nLP
      unfold tPairs
      walk_at "st"
      refine ⟨eW7, [(Sum.inr "tasks", .ref LT), (Sum.inr "pages", .ref LP), (Sum.inr "ports", .ref LQ)], rfl, by simp, ?_⟩
      rw [show mergeK [] [(Sum.inr "tasks", V.ref LT), (Sum.inr "pages", .ref LP), (Sum.inr "ports", .ref LQ)] = th3 LT LP LQ from rfl]
      have nWD : dA ≠ W := nWA
      have nPW : LP ≠ W := fun z => by rw [z, eW7] at eLP7; cases eLP7
      have nQW : LQ ≠ W := fun z => by rw [z] at eLQ; rw [eW7] at eLQ; cases eLQ
      have bt : But W H7 (upd H7 W (.dK (th3 LT LP LQ))) := But.put
      have eW8 : upd H7 W (.dK (th3 LT LP LQ)) W = some (.dK (th3 LT LP LQ)) := upd_same
      generalize upd H7 W (.dK (th3 LT LP LQ)) = H8 at *
      have TS8 := TS7.keepD (keepD_dk eW7 bt)
      have sE : Same H H8 := fun b o hb => bt _ _ (sD _ _ hb) (ne_of_none hb nWH)
      have eD8 := bt _ _ eD7 nWD
      have eLP8 := bt _ _ eLP7 nPW
      have eLQ8 := bt _ _ eLQ nQW
      clear bt TS7 sD eD7 eLP7 eLQ eW7
      obtain ⟨nl, rfl⟩ : ∃ nl : Nat, x16 = nl := ⟨x16.toNat, by omega⟩
      obtain ⟨fr, rfl⟩ : ∃ fr : Nat, x17 = fr := ⟨x17.toNat, by omega⟩
      walk_at "st"
      refine q_ixL (SqL.of eD8) (at_ g16) ?_
      walk_at "st"
      refine q_putD eW8 (sz1000 (by show 3 < 100000; decide)) (kv' := th4 LT LP LQ nl) (by rfl) ?_
      have bt : But W H8 (upd H8 W (.dK (th4 LT LP LQ nl))) := But.put
      have eW9 : upd H8 W (.dK (th4 LT LP LQ nl)) W = some (.dK (th4 LT LP LQ nl)) := upd_same
      generalize upd H8 W (.dK (th4 LT LP LQ nl)) = H9 at *
      have eD9 := bt _ _ eD8 nWD
      walk_at "st"
      refine q_ixL (SqL.of eD9) (at_ g17) ?_
      walk_at "st"
      refine q_putD eW9 (sz1000 (by show 4 < 100000; decide)) (kv' := th5 LT LP LQ nl fr) (by rfl) ?_
      have bt2 : But W H9 (upd H9 W (.dK (th5 LT LP LQ nl fr))) := But.put
      have eW10 : upd H9 W (.dK (th5 LT LP LQ nl fr)) W = some (.dK (th5 LT LP LQ nl fr)) := upd_same
      generalize upd H9 W (.dK (th5 LT LP LQ nl fr)) = H10 at *
      have b810 := bt.trans bt2
      have TS10 := TS8.keepD (keepD_dk eW8 b810)
      have sF : Same H H10 := fun b o hb => b810 _ _ (sE _ _ hb) (ne_of_none hb nWH)
      have eD10 := b810 _ _ eD8 nWD
      have eLP10 := b810 _ _ eLP8 nPW
      have eLQ10 := b810 _ _ eLQ8 nQW
      clear bt bt2 b810 TS8 sE eD8 eLP8 eLQ8 eW9 eW8 eD9
      walk_at "st"
      refine ⟨by show 4 ≤ sizeLine; decide, fun l4 nl4 => ?_⟩
      have m4' := same_new (o := .lst [V.int 0, V.int 2, V.int 3, V.int 4]) nl4
      have e4 : upd H10 l4 (.lst [V.int 0, V.int 2, V.int 3, V.int 4]) l4 = some (.lst [V.int 0, V.int 2, V.int 3, V.int 4]) := upd_same
      generalize upd H10 l4 (.lst [V.int 0, V.int 2, V.int 3, V.int 4]) = H11 at *
      have eD11 := m4' _ _ eD10
      walk_at "st"
      refine q_ixL (SqL.of eD11) (at_ g18) ?_
      obtain ⟨dk, edk, hdk⟩ : ∃ dk, atI [V.int 0, V.int 2, V.int 3, V.int 4] x18 = some (V.int dk) ∧ dk ∈ ([0, 2, 3, 4] : List Int) := by
        rcases (show x18 = 0 ∨ x18 = 1 ∨ x18 = 2 ∨ x18 = 3 by omega) with rfl | rfl | rfl | rfl
        · exact ⟨0, rfl, by simp⟩
        · exact ⟨2, rfl, by simp⟩
        · exact ⟨3, rfl, by simp⟩
        · exact ⟨4, rfl, by simp⟩
      refine q_ixL (SqL.of e4) edk ?_
      have eW11 := m4' _ _ eW10
      walk_at "st"
      refine q_putD eW11 (sz1000 (by show 5 < 100000; decide)) (kv' := th6 LT LP LQ nl fr dk) (by rfl) ?_
      have bt : But W H11 (upd H11 W (.dK (th6 LT LP LQ nl fr dk))) := But.put
      have eW12 : upd H11 W (.dK (th6 LT LP LQ nl fr dk)) W = some (.dK (th6 LT LP LQ nl fr dk)) := upd_same
      generalize upd H11 W (.dK (th6 LT LP LQ nl fr dk)) = H12 at *
      have TS12 := (TS10.mono m4').keepD (keepD_dk eW11 bt)
      have sG : Same H H12 := fun b o hb => bt _ _ (m4' _ _ (sF _ _ hb)) (ne_of_none hb nWH)
      have eD12 := bt _ _ eD11 nWD
      have eLP12 := bt _ _ (m4' _ _ eLP10) nPW
      have eLQ12 := bt _ _ (m4' _ _ eLQ10) nQW
      clear bt m4' TS10 sF eD10 eLP10 eLQ10 eW10 eW11 eD11 e4 edk nl4
      walk_at "st"
      obtain ⟨ys, ey, ly, ry⟩ := id TS12
      have lym : ys.length = m := by rw [ly]; exact TO.l
      refine q_lenR (.inl (SqL.of ey)) ?_
      rw [lym]
      walk_at "st"
      refine q_ixL (SqL.of eD12) (at_ g9) ?_
      walk_at "st"
      refine q_ixL (SqL.of eD12) (at_ g13) ?_
      walk_at "st"
      refine q_ixL (SqL.of eD12) (at_ g16) ?_
      walk_at "st"
      refine q_getD eW12 (by rfl) ?_
      refine ⟨m, np, nq, nl, dk, rfl, by omega, by omega, by omega, by omega, fun LM ms H13 s13 nLM eLM dLM => ?_⟩
      obtain ⟨mg1, mg2, mg3⟩ := menuG (m := m) (np := np) (nq := nq) (nl := nl) (dk := dk) ⟨m2, m4⟩ (by omega) (by omega) (by omega) hdk
      have eW13 := s13 _ _ eW12
      have TS13 := TS12.mono s13
      have eLP13 := s13 _ _ eLP12
      have eLQ13 := s13 _ _ eLQ12
      have sI := sG.trans s13
      have ey13 := s13 _ _ ey
      clear s13 sG TS12 eD12 eLP12 eLQ12 eW12 ey ry nLM
      walk_at "st"
      refine q_lcR ?_
      walk_at "st"
      refine q_lenR (.inl (SqL.of ey13)) ?_
      rw [lym]
      refine ⟨m, rfl, by omega, by omega, ?_⟩
      rw [Int.toNat_natCast]
      refine fun LR nLR => lc_freshR walk_range (fun i l Hh => ∃ row, RowAt K Hh l row ∧ RowB (menuL m np nq nl dk) row) nLR (sz1000 (by omega)) (fun H2 s => trivial) yfn_same ?_ ?_ ?_ ?_ ?_
      · rintro i l Ha Hb s ⟨row, r, b⟩
        exact ⟨row, r.mono s, b⟩
      · rintro i l Ha Hb acc n e bt ⟨row, r, b⟩
        exact ⟨row, r.but n e bt, b⟩
      · rintro i l Ha ⟨row, r, b⟩
        exact r.some
      · rintro i x H6 H7 lt s ⟨rfl, rfl⟩ Q' k
        refine q_gname ?_
        refine ⟨rfl, ?_⟩
        walk_at "st"
        refine ⟨a, ns, 2 + i, by rw [Int.zero_add]; simp, (sI.trans s).seq hs, l63, by omega, fun c1 H8 hc1 s8 => ?_⟩
        walk_at "st"
        refine ⟨c1, LM, ms, menuL m np nq nl dk, rfl, hc1, SqL.of (s8 _ _ (s _ _ eLM)), L2.DpAll.mono (s.trans s8) dLM, mg2, by omega, fun p hp => (mg1 p hp).2, fun l ys H9 row s9 nl el dl rb => ?_⟩
        exact k l _ (s8.trans s9) (s8.free nl) ⟨row, ⟨ys, el, dl⟩, rb⟩
      intro ra H14 s14 eLR lra ndr frr Rr
      obtain ⟨R0, hR0, bR0⟩ := paired_ex (P := RowAt K H14) (Q := fun _ _ => True) (G := RowB (menuL m np nq nl dk)) Rr
      have lR0 := pairR_len hR0
      have eW14 := s14 _ _ eW13
      have nRW : LR ≠ W := fun z => by rw [z, eW14] at eLR; cases eLR
      have dR : Dp K H14 (.ref LR) (.list (R0.map rowD)) := by
        refine .lst (SqL.of eLR) (dpAll_of (by rw [List.length_map, List.length_map]; exact lR0) fun i x d ex ed => ?_)
        rw [List.getElem?_map] at ex ed
        obtain ⟨l, hl, rfl⟩ := Option.map_eq_some_iff.mp ex
        obtain ⟨r, hr, rfl⟩ := Option.map_eq_some_iff.mp ed
        obtain ⟨l', e1, zs, e2, d2⟩ := pairR_get hR0 hr
        rw [hl] at e1
        cases e1
        exact .lst (SqL.of e2) d2
      have TH : ThAt K H14 LT LP LQ LR ⟨ts2, pis, qis, nl, fr, dk, R0⟩ := ⟨(TS13.mono s14).dp, .lst (SqL.of (s14 _ _ eLP13)) (dpIntsL _), .lst (SqL.of (s14 _ _ eLQ13)) (dpIntsL _), dR⟩
      walk_at "st"
      refine q_putD eW14 (sz1000 (by show 6 < 100000; decide)) (kv' := thKV LT LP LQ LR ⟨ts2, pis, qis, nl, fr, dk, R0⟩) (by rfl) ?_
      have bt : But W H14 (upd H14 W (.dK (thKV LT LP LQ LR ⟨ts2, pis, qis, nl, fr, dk, R0⟩))) := But.put
      walk_at "st"
      have em2 : menuL m np nq nl dk = TP.menu ⟨ts2, pis, qis, nl, fr, dk, R0⟩ := by
        show _ = menuL ts2.length pis.length qis.length nl dk
        rw [TO.l, lpi, lqi]
      refine q W LT LP LQ LR ⟨ts2, pis, qis, nl, fr, dk, R0⟩ _ (fun b o hb => bt _ _ (s14 _ _ (sI _ _ hb)) (ne_of_none hb nWH)) nWH upd_same (TH.keepD (keepD_dk eW14 bt)) ⟨?_, ?_, TO.tb, TO.two, ?_, bpi, ?_, bqi, ?_, ?_, hdk, ?_, fun r hr => ?_⟩
      · show 2 ≤ ts2.length
        rw [TO.l]; exact m2
      · show ts2.length ≤ 4
        rw [TO.l]; exact m4
      · show pis.length ≤ 3
        omega
      · show qis.length ≤ 2
        omega
      · show nl ≤ 2
        omega
      · show fr ≤ 3
        omega
      · show R0.length = ts2.length
        rw [TO.l, ← lR0]; exact lra
      · rw [← em2]; exact bR0 r hr
    · walk_at "st"
      have gts : ∀ i, i < m → ∃ s p, ts[i]? = some s ∧ ysT0[i]? = some (.ref p) ∧ HT p = some (.tup [.int s.1, .int s.2]) := fun i hi => by
        have g1 : ts[i]? = some ts[i] := List.getElem?_eq_getElem (by omega)
        have g2 : ysT0[i]? = some ysT0[i] := List.getElem?_eq_getElem (by omega)
        obtain ⟨p, e, hp⟩ := rT _ _ _ g2 g1
        exact ⟨_, p, g1, by rw [g2, e], hp⟩
      refine q_lsd ?_
      refine q_lcI ?_
      walk_at "st"
      refine ⟨LT, rfl, ⟨_, SqL.of eT⟩, fun X nX => lc_val (n := ysT0.length) walk_list (fun i => V.int (ts.getD i (0, 0)).1) nX (sz1000 (by omega)) (fun H2 s => s.seq (SqL.of eT)) yat_same ?_ ?_⟩
      · rintro i x H9 H10 lt s ⟨rfl, e⟩ Q2 k
        obtain ⟨s0, p, g1, g2, g3⟩ := gts i (by omega)
        rw [g2] at e
        cases e
        refine q_gname ?_
        refine ⟨rfl, ?_⟩
        walk_at "st"
        refine q_ixT (SqT.of (s _ _ g3)) (atI0 rfl) ?_
        have : ts.getD i (0, 0) = s0 := by rw [List.getD_eq_getElem?_getD, g1]; rfl
        rw [this] at k
        exact k _ (Same.refl _)
      intro HV sV eV
      have ens : (List.range ysT0.length).map (fun i => V.int (ts.getD i (0, 0)).1) = (ts.map (·.1)).map V.int := by
        rw [List.map_map, lT]
        apply List.ext_getElem?
        intro i
        rw [List.getElem?_map, List.getElem?_map]
        by_cases c : i < m
        · rw [List.getElem?_range (by omega), List.getElem?_eq_getElem (show i < ts.length by omega)]
          simp [List.getD_eq_getElem?_getD, List.getElem?_eq_getElem (show i < ts.length by omega)]
        · rw [List.getElem?_eq_none (by simp; omega), List.getElem?_eq_none (by omega)]; rfl
      rw [ens] at eV
      refine ⟨X, ts.map (·.1), rfl, SqL.of eV, by rw [List.length_map]; omega, ?_⟩
      have sBV := sHT.trans sV
      have eDV := sV _ _ eDT
      replace eT := sV _ _ eT
      have rV : ∀ (i : Nat) y s, ysT0[i]? = some y → ts[i]? = some s → ∃ p, y = .ref p ∧ HV p = some (.tup [.int s.1, .int s.2]) := fun i y s hy hs2 => by
        obtain ⟨p, e, hp⟩ := rT i y s hy hs2
        exact ⟨p, e, sV _ _ hp⟩
      walk_at "st"
      by_cases hd : ((distinct (ts.map (·.1)) : Nat) : Int) < 2
      · rw [decide_eq_true hd]
        rw [if_pos rfl]
        have allEq : ∀ x ∈ ts, ∀ y ∈ ts, x.1 = y.1 := fun x hx y hy => by
          by_cases c : x.1 = y.1
          · exact c
          · have h3 : 1 < distinct (ts.map (·.1)) := distinct_gt.mpr ⟨x.1, List.mem_map_of_mem hx, y.1, List.mem_map_of_mem hy, c⟩
            omega
        obtain ⟨s0, p0, g1', g2', g3'⟩ := gts 0 (by omega)
        obtain ⟨s1, p1', g4, g5, g6⟩ := gts (m - 1) (by omega)
        have hb0 := tsb s0 (List.mem_of_getElem? g1')
        have hb1 := tsb s1 (List.mem_of_getElem? g4)
        walk_at "st"
        refine q_ixL (SqL.of eT) (atI_nat (j := 0) g2') ?_
        walk_at "st"
        refine q_ixT (SqT.of (sV _ _ g3')) (atI0 rfl) ?_
        walk_at "st"
        refine ⟨_, _, rfl, rfl, (show (0 : Int) < 4 by decide), ?_⟩
        walk_at "st"
        have el : atI ysT0 (-1) = some (.ref p1') := by
          unfold atI
          rw [ixN_last (by omega)]
          rw [show ysT0.length - 1 = m - 1 by omega]
          exact g5
        refine q_ixL (SqL.of eT) el ?_
        walk_at "st"
        refine q_ixT (SqT.of (sV _ _ g6)) (atI1 rfl) ?_
        walk_at "st"
        refine ⟨by show 2 ≤ sizeLine; decide, fun pt npt => ?_⟩
        have spt := same_new (o := .tup [V.int ((s0.1 + 1) % 4), V.int s1.2]) npt
        have ept : upd HV pt (.tup [V.int ((s0.1 + 1) % 4), V.int s1.2]) pt = some (.tup [V.int ((s0.1 + 1) % 4), V.int s1.2]) := upd_same
        have eTp := spt _ _ eT
        have eDp := spt _ _ eDV
        have rP : ∀ (i : Nat) y s, ysT0[i]? = some y → ts[i]? = some s → ∃ p, y = .ref p ∧ upd HV pt (.tup [V.int ((s0.1 + 1) % 4), V.int s1.2]) p = some (.tup [.int s.1, .int s.2]) := fun i y s hy hs2 => by
          obtain ⟨p, e, hp⟩ := rV i y s hy hs2
          exact ⟨p, e, spt _ _ hp⟩
        replace sBV := sBV.trans spt
        generalize upd HV pt (.tup [V.int ((s0.1 + 1) % 4), V.int s1.2]) = HP at *
        walk_at "st"
        have nAL : dA ≠ LT := ne_of_none eD nLT
        have bL := But.put (H := HP) (r := LT) (o := .lst (ysT0.set (m - 1) (.ref pt)))
        have sL : Same H (upd HP LT (.lst (ysT0.set (m - 1) (.ref pt)))) := fun b o hb => bL _ _ (sBV _ _ hb) (ne_of_none hb nLTH)
        have lt0 : m - 1 < ts.length := by omega
        have ly0 : m - 1 < ysT0.length := by omega
        refine ⟨LT, ysT0, -1, m - 1, rfl, rfl, eTp, by rw [ixN_last (by omega)]; congr 1; omega, hN _ _ ⟨none, ts.set (m - 1) ((s0.1 + 1) % 4, s1.2), rfl, sL, bL _ _ eDp nAL, ⟨_, upd_same, by rw [List.length_set, List.length_set]; omega, fun i y s hy hs2 => ?_⟩, by rw [List.length_set]; exact lts, fun x hx => ?_, ?_⟩⟩
        · by_cases c : i = m - 1
          · subst c
            rw [List.getElem?_set, if_pos rfl, if_pos ly0] at hy
            rw [List.getElem?_set, if_pos rfl, if_pos lt0] at hs2
            cases hy
            cases hs2
            exact ⟨pt, rfl, bL _ _ ept (fun z => by rw [z, eTp] at ept; cases ept)⟩
          · rw [List.getElem?_set_ne (Ne.symm c)] at hy hs2
            obtain ⟨p, e, hp⟩ := rP i y s hy hs2
            exact ⟨p, e, bL _ _ hp (fun z => by rw [z, eTp] at hp; cases hp)⟩
        · rcases List.mem_or_eq_of_mem_set hx with h | h
          · exact tsb x h
          · rw [h]
            exact ⟨by show 0 ≤ (s0.1 + 1) % 4; omega, by show (s0.1 + 1) % 4 ≤ 3; omega, hb1.2.2.1, hb1.2.2.2⟩
        · refine ⟨((s0.1 + 1) % 4, s1.2), List.mem_of_getElem? (i := m - 1) (by rw [List.getElem?_set, if_pos rfl, if_pos lt0]), s0, List.mem_of_getElem? (i := 0) (by rw [List.getElem?_set_ne (by omega)]; exact g1'), ?_⟩
          show (s0.1 + 1) % 4 ≠ s0.1
          omega
      · rw [decide_eq_false hd]
        rw [if_neg (by decide)]
        have hgt : 1 < distinct (ts.map (·.1)) := by omega
        obtain ⟨x, hx, y, hy, ne⟩ := distinct_gt.mp hgt
        obtain ⟨x', hx', rfl⟩ := List.mem_map.mp hx
        obtain ⟨y', hy', rfl⟩ := List.mem_map.mp hy
        exact hN _ _ ⟨none, ts, rfl, sBV, eDV, ⟨ysT0, eT, by omega, rV⟩, ⟨lts, tsb, x', hx', y', hy', ne⟩⟩))) only [↓Hk.hold_s]
end
end T
namespace T
section
variable {P : Program} {w : World} {K : PySem.W.Frag} {mg : Str → Option Value} {base : Heap}
local macro_rules | `(tactic| walk_at "s1") => `(tactic| first | with_reducible refine q_dputW ?_)
/-- the build that is drawn -/
def bdOf (p : TP) (lds : List PyData) (c1 c2 c3 : Int) (pl od : PyData) (f0 f1 f2 f3 : Bool) : BD where
  tasks := .list (p.ts.map tkD)
  pages := .list (p.pis.map .int)
  ports := .list (p.qis.map .int)
  locks := .int p.nl
  frames := .int p.fr
  disk := .int p.dk
  rights := .list (p.rows.map rowD)
  lines := .list lds
  costs := .tuple [.int (1 + c1), .int c2, .int c3]
  plan := pl
  outside := od
  wipe := .bool f0
  pad := .bool f1
  lend := .bool f2
  share := .bool f3
def okSl (many : Int) (d : PyData) : Prop := ∃ t k, d = .tuple [.int t, .int k] ∧ 0 ≤ t ∧ t ≤ many - 1 ∧ 1 ≤ k ∧ k ≤ 12
def planOk (m : Nat) (pl : PyData) : Prop := (∃ i, pl = .tuple [.str "levels", .int i] ∧ 1 ≤ i ∧ i ≤ 8) ∨ ∃ rds, pl = .tuple [.str "slots", .list rds] ∧ 1 ≤ rds.length ∧ rds.length ≤ 4 ∧ ∀ d ∈ rds, okSl m d
def outOk (nq : Nat) (od : PyData) : Prop := od = .none ∨ ∃ x e, od = .tuple [.int x, .int e] ∧ 0 ≤ x ∧ x ≤ (nq : Int) - 1 ∧ 1 ≤ e ∧ e ≤ 4
theorem okNumbers_of {is : List Int} {m lo hi : Int} (l : (is.length : Int) ≤ m) (h : ∀ i ∈ is, lo ≤ i ∧ i ≤ hi) : okNumbers (.list (is.map .int)) m lo hi = true := by
  unfold okNumbers
  rw [Bool.and_eq_true]
  refine ⟨by simp [dListOf]; omega, List.all_eq_true.mpr fun d hd => ?_⟩
  obtain ⟨i, hi2, rfl⟩ := List.mem_map.mp hd
  have := h i hi2
  simp [dBetween, this]
theorem asc_of : ∀ {row : List Rt}, (row.Pairwise fun a b => ¬ ltWIp b a) → row.Nodup → ascWI row = true
  | [], _, _ => rfl
  | [_], _, _ => rfl
  | a :: b :: r, h, n => by
    obtain ⟨h1, h2⟩ := List.pairwise_cons.mp h
    obtain ⟨n1, n2⟩ := List.nodup_cons.mp n
    show (ltWI a b && ascWI (b :: r)) = true
    rw [asc_of h2 n2, Bool.and_true, ltWI_iff]
    rcases ltWIp_tri a b with z | z | z
    · exact z
    · exact absurd (by rw [z]; exact List.mem_cons_self) n1
    · exact absurd z (h1 b List.mem_cons_self)
theorem rowB_ok {c : Cnt} {menu row : List Rt} (R : RowB menu row) (hm : ∀ r ∈ menu, dRight c (rtd r) = true) : okRow c (.list (row.map rtd)) = true := by
  unfold okRow
  have fw := R.few
  have e1 : dListOf (.list (row.map rtd)) 0 8 = true := by simp [dListOf]; omega
  rw [e1, Bool.true_and]
  show ((row.map rtd).all (dRight c) && ascWI ((row.map rtd).map _)) = true
  have e2 : ∀ f : PyData → Str × Int, (∀ r : Rt, f (rtd r) = r) → (row.map rtd).map f = row := fun f h => by
    rw [List.map_map]
    refine Eq.trans (List.map_congr_left (g := id) fun r _ => h r) (List.map_id row)
  rw [e2 _ (fun _ => rfl), asc_of R.srt R.nd, Bool.and_true, List.all_map, List.all_eq_true]
  exact fun r hr => hm r (R.inm r hr)
theorem bdOf_ok {p : TP} {lds : List PyData} {c1 c2 c3 : Int} {pl od : PyData} {f0 f1 f2 f3 : Bool} (o : p.Ok) (ll : lds.length = p.pis.length) (okl : ∀ d ∈ lds, okLine d = true) (h1 : 0 ≤ c1 ∧ c1 < 3) (h2 : 0 ≤ c2 ∧ c2 < 4) (h3 : 0 ≤ c3 ∧ c3 < 3) (hp : planOk p.ts.length pl) (ho : outOk p.qis.length od) :
    BOk (bdOf p lds c1 c2 c3 pl od f0 f1 f2 f3) := by
 refine Hk.hold ?_
 simp (disch := with_unfolding_all (
 exact Hk.disch (by
  have ec : cOf (bdOf p lds c1 c2 c3 pl od f0 f1 f2 f3) = cntOf p.ts.length p.pis.length p.qis.length p.nl p.dk := by
    show cntOf (p.ts.map tkD).length (p.pis.map PyData.int).length (p.qis.map PyData.int).length p.nl p.dk = _
    rw [List.length_map, List.length_map, List.length_map]
  have t2 := o.t2
  have t4 := o.t4
  have p3 := o.p3
  have q2 := o.q2
  have hnl := o.nl
  have hfr := o.fr
  obtain ⟨mg1, mg2, mg3⟩ := menuG (m := p.ts.length) (np := p.pis.length) (nq := p.qis.length) (nl := p.nl) (dk := p.dk) ⟨t2, t4⟩ p3 q2 hnl o.dk
  have lr := o.lr
  refine ⟨?_, okNumbers_of (by omega) o.pb, okNumbers_of (by omega) o.qb, ?_, ?_, ?_, ?_, ?_, ?_, ?_, ?_, rfl, rfl, rfl, rfl⟩
  · show okTasks (.list (p.ts.map tkD)) = true
    unfold okTasks
    rw [Bool.and_eq_true]
    refine ⟨by simp [dListOf]; omega, ?_⟩
    show ((p.ts.map tkD).all okTask && decide (1 < distinct ((p.ts.map tkD).map sideD))) = true
    rw [Bool.and_eq_true]
    refine ⟨List.all_eq_true.mpr fun d hd => ?_, decide_eq_true ?_⟩
    · obtain ⟨x, hx, rfl⟩ := List.mem_map.mp hd
      have := o.tb x hx
      simp [tkD, okTask, dTupleOf, dBetween, this]
    · obtain ⟨x, hx, y, hy, ne⟩ := o.two
      exact distinct_gt.mpr ⟨x.1, List.mem_map.mpr ⟨tkD x, List.mem_map_of_mem hx, rfl⟩, y.1, List.mem_map.mpr ⟨tkD y, List.mem_map_of_mem hy, rfl⟩, ne⟩
  · show dBetween (.int p.nl) 0 2 = true
    simp [dBetween]; omega
  · show dBetween (.int p.fr) 0 3 = true
    simp [dBetween]; omega
  · show okDisk (.int p.dk) = true
    have := o.dk
    simp only [List.mem_cons, List.not_mem_nil, or_false] at this
    rcases this with e | e | e | e <;> rw [e] <;> decide +kernel
  · show okRights (cOf _) (.list (p.rows.map rowD)) = true
    rw [ec]
    unfold okRights
    rw [Bool.and_eq_true]
    have et : cnt (cntOf p.ts.length p.pis.length p.qis.length p.nl p.dk) "task" = (p.ts.length : Int) := rfl
    refine ⟨by rw [et]; simp [dListOf]; omega, List.all_eq_true.mpr fun d hd => ?_⟩
    obtain ⟨r, hr, rfl⟩ := List.mem_map.mp hd
    exact rowB_ok (o.rb r hr) fun x hx => (mg1 x hx).1
  · show okLines (cOf _) (.list lds) = true
    rw [ec]
    unfold okLines
    rw [Bool.and_eq_true]
    have et : cnt (cntOf p.ts.length p.pis.length p.qis.length p.nl p.dk) "page" = (p.pis.length : Int) := rfl
    exact ⟨by rw [et]; simp [dListOf]; omega, List.all_eq_true.mpr okl⟩
  · show okCosts (.tuple [.int (1 + c1), .int c2, .int c3]) = true
    simp [okCosts, dTupleOf, dBetween]; omega
  · show okPlan (cOf _) pl = true
    rw [ec]
    rcases hp with ⟨i, rfl, i1, i8⟩ | ⟨rds, rfl, l1, l4, hr⟩
    · simp [okPlan, dTupleOf, dBetween]; omega
    · have et : cnt (cntOf p.ts.length p.pis.length p.qis.length p.nl p.dk) "task" = (p.ts.length : Int) := rfl
      unfold okPlan
      rw [Bool.and_eq_true]
      refine ⟨rfl, ?_⟩
      show (if ("slots" : Str) = "levels" then _ else _) = true
      rw [if_neg (fun z => slots_ne z.symm)]
      show (decide (("slots" : Str) = "slots") && okSlots _ (.list rds)) = true
      rw [decide_eq_true rfl, Bool.true_and]
      unfold okSlots
      rw [Bool.and_eq_true]
      refine ⟨by simp [dListOf]; omega, List.all_eq_true.mpr fun d hd => ?_⟩
      obtain ⟨t, k, rfl, h0, h1, h2, h3⟩ := hr d hd
      unfold okSlot
      rw [et]
      simp [dTupleOf, dBetween]; omega
  · show okOutside (cOf _) od = true
    rw [ec]
    rcases ho with rfl | ⟨x, e, rfl, x0, x1, e1, e4⟩
    · rfl
    · have et : cnt (cntOf p.ts.length p.pis.length p.qis.length p.nl p.dk) "port" = (p.qis.length : Int) := rfl
      show okOut2 _ _ = true
      unfold okOut2
      rw [et]
      simp [dTupleOf, dBetween]; omega))) only [↓Hk.hold_s]
section
variable (x0 x1 x2 x3 x4 x5 x6 x7 x8 x9 x10 x11 : V)
def pk8 : List (Key × V) := [(Sum.inr "tasks", x0), (Sum.inr "pages", x1), (Sum.inr "ports", x2), (Sum.inr "locks", x3), (Sum.inr "frames", x4), (Sum.inr "disk", x5), (Sum.inr "rights", x6), (Sum.inr "lines", x7)]
def pk9 : List (Key × V) := [(Sum.inr "tasks", x0), (Sum.inr "pages", x1), (Sum.inr "ports", x2), (Sum.inr "locks", x3), (Sum.inr "frames", x4), (Sum.inr "disk", x5), (Sum.inr "rights", x6), (Sum.inr "lines", x7), (Sum.inr "costs", x8)]
def pk10 : List (Key × V) := [(Sum.inr "tasks", x0), (Sum.inr "pages", x1), (Sum.inr "ports", x2), (Sum.inr "locks", x3), (Sum.inr "frames", x4), (Sum.inr "disk", x5), (Sum.inr "rights", x6), (Sum.inr "lines", x7), (Sum.inr "costs", x8), (Sum.inr "plan", x9)]
def pk11 : List (Key × V) := [(Sum.inr "tasks", x0), (Sum.inr "pages", x1), (Sum.inr "ports", x2), (Sum.inr "locks", x3), (Sum.inr "frames", x4), (Sum.inr "disk", x5), (Sum.inr "rights", x6), (Sum.inr "lines", x7), (Sum.inr "costs", x8), (Sum.inr "plan", x9), (Sum.inr "outside", x10)]
def pk12 : List (Key × V) := [(Sum.inr "tasks", x0), (Sum.inr "pages", x1), (Sum.inr "ports", x2), (Sum.inr "locks", x3), (Sum.inr "frames", x4), (Sum.inr "disk", x5), (Sum.inr "rights", x6), (Sum.inr "lines", x7), (Sum.inr "costs", x8), (Sum.inr "plan", x9), (Sum.inr "outside", x10), (Sum.inr "flags", x11)]
end
/-- the parts in the law's dict -/
structure LawAt (K : PySem.W.Frag) (H : Hp) (D : Addr) (b : BD) : Prop where
  ex : ∃ x0 x1 x2 x3 x4 x5 x6 x7 x8 x9 x10 x11 : V, H D = some (.dK (pk12 x0 x1 x2 x3 x4 x5 x6 x7 x8 x9 x10 x11)) ∧ Dp K H x0 b.tasks ∧ Dp K H x1 b.pages ∧ Dp K H x2 b.ports ∧ Dp K H x3 b.locks ∧ Dp K H x4 b.frames ∧ Dp K H x5 b.disk ∧ Dp K H x6 b.rights ∧ Dp K H x7 b.lines ∧ Dp K H x8 b.costs ∧ Dp K H x9 b.plan ∧ Dp K H x10 b.outside ∧ Dp K H x11 (.list [b.wipe, b.pad, b.lend, b.share])
theorem LawAt.mono {H H' : Hp} {D : Addr} {b : BD} (h : LawAt K H D b) (s : Same H H') : LawAt K H' D b := by
  obtain ⟨x0, x1, x2, x3, x4, x5, x6, x7, x8, x9, x10, x11, e, d0, d1, d2, d3, d4, d5, d6, d7, d8, d9, d10, d11⟩ := h.ex
  exact ⟨x0, x1, x2, x3, x4, x5, x6, x7, x8, x9, x10, x11, s _ _ e, L2.Dp.mono s d0, L2.Dp.mono s d1, L2.Dp.mono s d2, L2.Dp.mono s d3, L2.Dp.mono s d4, L2.Dp.mono s d5, L2.Dp.mono s d6, L2.Dp.mono s d7, L2.Dp.mono s d8, L2.Dp.mono s d9, L2.Dp.mono s d10, L2.Dp.mono s d11⟩
def spLParts (K : PySem.W.Frag) : Sp := fun vs H Q _ => ∃ (a : Addr) (ns : List Int), vs = [.ref a] ∧ SqL K H a (ns.map V.int) ∧ ns.length ≤ 63 ∧ ∀ D b H', Same H H' → H D = none → LawAt K H' D b → BOk b → (∃ f0 f1 f2 f3, b.wipe = .bool f0 ∧ b.pad = .bool f1 ∧ b.lend = .bool f2 ∧ b.share = .bool f3) → Q (.ref D) H'
set_option maxHeartbeats 8000000 in
theorem ok_law_parts (B : Bl mg) (c__law_cell : Cal P w K mg base 1 "_law_cell" ["_law_script", "_law_k"] (spCell K)) (c__law_digits : Cal P w K mg base 1 "_law_digits" ["_law_cell_here", "_law_sizes"] (spDigits K)) (c__law_things : Cal P w K mg base 3 "_law_things" ["_law_script"] (spLThings K))
    (cc : DefAt K mg "_law_parts" s__law_parts ["_law_script"]) : Cal P w K mg base 4 "_law_parts" ["_law_script"] (spLParts K) := by
 refine Hk.hold ?_
 simp (disch := with_unfolding_all (
 exact Hk.disch (cc.cal fun f fd F => by
  refine F.ok sc__law_parts (fun vs H Q E h => ?_) (fun cdv A outer s H vs Q E hr h => ?_)
  · obtain ⟨a, ns, rfl, _⟩ := h; rfl
  · obtain ⟨a, ns, rfl, hs, l63, q⟩ := h
    have hu := hu_of hr
    refine ⟨_, (pss_cons (ps_set (i := 1) sc__law_parts.nd rfl (Or.inl rfl) (pe_cal c__law_things (hr.mono (by omega)) rfl (pa_cons (pv 0) pa_nil)))
      (pss_cons (ps_set (i := 2) sc__law_parts.nd rfl (Or.inr rfl) (pe_cal c__law_digits (hr.mono (by omega)) rfl (pa_cons (pe_cal c__law_cell (hr.mono (by omega)) rfl (pa_cons (pv 0) (pa_cons pe_int pa_nil))) (pa_cons (pe_lst (pa_cons pe_int (pa_cons pe_int (pa_cons pe_int (pa_cons pe_int (pa_cons pe_int (pa_cons pe_int (pa_cons pe_int (pa_cons pe_int (pa_cons pe_int (pa_cons pe_int (pa_cons pe_int (pa_cons pe_int (pa_cons pe_int (pa_cons pe_int (pa_cons pe_int (pa_cons pe_int (pa_cons pe_int (pa_cons pe_int (pa_cons pe_int (pa_cons pe_int (pa_cons pe_int (pa_cons pe_int (pa_cons pe_int (pa_cons pe_int pa_nil))))))))))))))))))))))))) pa_nil))))
      (pss_cons (ps_dput hu (pv 1) pe_str (pe_lc (own := [("_law_k", 5)]) (tt := tYes) rfl sc__law_parts.nd (pi_range1 rfl B.range (pa_cons (pe_callB call_len_seq rfl B.len hb_len (pa_cons (pe_dget hu (pv 1) pe_str (fun _ _ => rfl)) pa_nil)) pa_nil)) (blkOk_by (N := ["_law_script", "_law_parts_here", "_law_e", "_law_most", "_law_rows", "_law_k", "_law_ticks"]) (sc := defScope s__law_parts) (by decide +kernel)) (fun _ _ _ _ _ => (pg_name (i := 5) sc__law_parts.nd rfl (Or.inl rfl))) (fun _ _ _ _ _ => pts_nil) (fun _ _ _ _ _ => (pe_ix (show IxR _ (rIxL K) from ix_list) (pe_lst (pa_cons pe_non (pa_cons pe_int (pa_cons pe_int pa_nil)))) (pe_ix (show IxR _ (rIxL K) from ix_list) (pv 2) (pv 5) (fun _ _ => rfl)) (fun _ _ => rfl)))) rfl)
      (pss_cons (ps_dput hu (pv 1) pe_str (pe_tup (pa_cons (pe_op op_add pe_int (pe_ix ix_list (pv 2) pe_int (fun _ _ => rfl))) (pa_cons (pe_ix ix_list (pv 2) pe_int (fun _ _ => rfl)) (pa_cons (pe_ix ix_list (pv 2) pe_int (fun _ _ => rfl)) pa_nil)))) rfl)
      (pss_cons (ps_set (i := 3) sc__law_parts.nd rfl (Or.inl rfl) (pe_op op_add (pe_op op_add pe_int (pe_ix ix_list (pv 2) pe_int (fun _ _ => rfl))) (pe_callB (call_max2 rfl) rfl B.max hb_max (pa_cons (pe_ix ix_list (pv 2) pe_int (fun _ _ => rfl)) (pa_cons (pe_op op_sub (pe_dget hu (pv 1) pe_str (fun _ _ => rfl)) pe_int) pa_nil)))))
      (pss_cons (ps_dput hu (pv 1) pe_str (pe_tup (pa_cons pe_str (pa_cons (pe_op op_add pe_int (pe_ix ix_list (pv 2) pe_int (fun _ _ => rfl))) pa_nil))) rfl)
      (pss_cons (ps_if (pt_cmpR op_gt (pe_ix ix_list (pv 2) pe_int (fun _ _ => rfl)) pe_int (nomark _)) (pss_cons (ps_set (i := 4) sc__law_parts.nd rfl (Or.inl rfl) (pe_lst pa_nil))
      (pss_cons (ps_for PassesOwn.never rfl (pi_range1 rfl B.range (pa_cons (pe_op op_add pe_int (pe_ix ix_list (pv 2) pe_int (fun _ _ => rfl))) pa_nil)) (pg_name (i := 5) sc__law_parts.nd rfl (Or.inl rfl)) (pss_cons (ps_set (i := 6) sc__law_parts.nd rfl (Or.inl rfl) (pe_op op_add pe_int (pe_ix ix_list (pv 2) (pe_op op_add pe_int (pe_op op_mulW pe_int (pv 5))) (fun _ _ => rfl))))
      (pss_cons (ps_if (pt_cmpR op_eq (pe_ix ix_list (pv 2) pe_int (fun _ _ => rfl)) pe_int (nomark _)) (pss_one (ps_set (i := 6) sc__law_parts.nd rfl (Or.inl rfl) (pe_callB (call_min2 rfl) rfl B.min hb_min (pa_cons pe_int (pa_cons (pe_op op_add (pe_op op_add (pv 3) (pe_ix ix_list (pv 2) pe_int (fun _ _ => rfl))) (pe_op op_mod (pe_callTy call_int1 rfl B.int_ hb_int (pa_cons (pv 6) pa_nil)) pe_int)) pa_nil))))) pss_nil)
      (pss_one (ps_expr (pe_bm PySem.F.plainAttrs_list PySem.F.slot_list_append PySem.F.type_list_append mt_append (pv 4) (pa_cons (pe_tup (pa_cons (pe_op op_mod (pe_callTy call_int1 rfl B.int_ hb_int (pa_cons (pe_ix ix_list (pv 2) (pe_op op_add pe_int (pe_op op_mulW pe_int (pv 5))) (fun _ _ => rfl)) pa_nil)) (pe_callB call_len_seq rfl B.len hb_len (pa_cons (pe_dget hu (pv 1) pe_str (fun _ _ => rfl)) pa_nil))) (pa_cons (pv 6) pa_nil))) pa_nil)))))))
      (pss_one (ps_dput hu (pv 1) pe_str (pe_tup (pa_cons pe_str (pa_cons (pv 4) pa_nil))) rfl)))) pss_nil)
      (pss_cons (ps_dput hu (pv 1) pe_str pe_non rfl)
      (pss_cons (ps_if (PW.pt (pw_and (pt_cmpR op_gt (pe_ix ix_list (pv 2) pe_int (fun _ _ => rfl)) pe_int (nomark _)) (pw_and1 (pt_cmpR op_gt (pe_callB call_len_seq rfl B.len hb_len (pa_cons (pe_dget hu (pv 1) pe_str (fun _ _ => rfl)) pa_nil)) pe_int (nomark _))))) (pss_one (ps_dput hu (pv 1) pe_str (pe_tup (pa_cons (pe_op op_mod (pe_callTy call_int1 rfl B.int_ hb_int (pa_cons (pe_ix ix_list (pv 2) pe_int (fun _ _ => rfl)) pa_nil)) (pe_callB call_len_seq rfl B.len hb_len (pa_cons (pe_dget hu (pv 1) pe_str (fun _ _ => rfl)) pa_nil))) (pa_cons (pe_op op_add pe_int (pe_ix ix_list (pv 2) pe_int (fun _ _ => rfl))) pa_nil))) rfl)) pss_nil)
      (pss_cons (ps_dput hu (pv 1) pe_str (pe_lst (pa_cons (pe_cmpR op_eq (pe_ix ix_list (pv 2) pe_int (fun _ _ => rfl)) pe_int (nomark _)) (pa_cons (pe_cmpR op_eq (pe_ix ix_list (pv 2) pe_int (fun _ _ => rfl)) pe_int (nomark _)) (pa_cons (pe_cmpR op_eq (pe_ix ix_list (pv 2) pe_int (fun _ _ => rfl)) pe_int (nomark _)) (pa_cons (pe_cmpR op_eq (pe_ix ix_list (pv 2) pe_int (fun _ _ => rfl)) pe_int (nomark _)) pa_nil))))) rfl)
      (pss_one (ps_ret (pv 1))))))))))))), ?_⟩
    walk_at "st0"
    refine ⟨a, ns, rfl, hs, l63, fun W LT LP LQ LR p H1 s1 nWH eW1 TH1 po => ?_⟩
    walk_at "st"
    refine ⟨a, ns, 1, rfl, s1.seq hs, l63, by omega, fun c1 H2 hc1 s2 => ?_⟩
    walk_at "st"
    refine ⟨by show 24 ≤ sizeLine; decide, fun p2 n2 => ?_⟩
    have sp2 := s2.trans (same_new (o := .lst [V.int 3, V.int 3, V.int 3, V.int 3, V.int 4, V.int 3, V.int 3, V.int 8, V.int 4, V.int 4, V.int 12, V.int 4, V.int 12, V.int 4, V.int 12, V.int 4, V.int 12, V.int 3, V.int 2, V.int 4, V.int 2, V.int 2, V.int 2, V.int 2]) n2)
    walk_at "st"
    refine ⟨c1, p2, [3, 3, 3, 3, 4, 3, 3, 8, 4, 4, 12, 4, 12, 4, 12, 4, 12, 3, 2, 4, 2, 2, 2, 2], rfl, hc1, SqL.of upd_same, by decide, by decide, fun dA es H3 s3 nd eD ld hd => ?_⟩
    have s13 := sp2.trans s3
    clear sp2 s3 s2 nd n2
    have hl : ∀ k, k < 3 → ∃ x, es[k]? = some x ∧ 0 ≤ x ∧ x < 3 := fun k hk => by
      have l8 : es.length = 24 := ld
      have g1 : es[k]? = some es[k] := List.getElem?_eq_getElem (by omega)
      have z : ([3, 3, 3, 3, 4, 3, 3, 8, 4, 4, 12, 4, 12, 4, 12, 4, 12, 3, 2, 4, 2, 2, 2, 2] : List Int)[k]? = some 3 := by
        rcases (show k = 0 ∨ k = 1 ∨ k = 2 by omega) with rfl | rfl | rfl <;> rfl
      have h1 := hd _ _ _ g1 z
      exact ⟨_, g1, h1.1, h1.2⟩
    have he : ∀ k, k < 4 → ∃ x y, es[9 + 2 * k]? = some x ∧ es[10 + 2 * k]? = some y ∧ 0 ≤ x ∧ x ≤ 3 ∧ 0 ≤ y ∧ y ≤ 11 := fun k hk => by
      have l8 : es.length = 24 := ld
      have g1 : es[9 + 2 * k]? = some es[9 + 2 * k] := List.getElem?_eq_getElem (by omega)
      have g2 : es[10 + 2 * k]? = some es[10 + 2 * k] := List.getElem?_eq_getElem (by omega)
      have z : ([3, 3, 3, 3, 4, 3, 3, 8, 4, 4, 12, 4, 12, 4, 12, 4, 12, 3, 2, 4, 2, 2, 2, 2] : List Int)[9 + 2 * k]? = some 4 ∧ ([3, 3, 3, 3, 4, 3, 3, 8, 4, 4, 12, 4, 12, 4, 12, 4, 12, 3, 2, 4, 2, 2, 2, 2] : List Int)[10 + 2 * k]? = some 12 := by
        rcases (show k = 0 ∨ k = 1 ∨ k = 2 ∨ k = 3 by omega) with rfl | rfl | rfl | rfl <;> exact ⟨rfl, rfl⟩
      have h1 := hd _ _ _ g1 z.1
      have h2 := hd _ _ _ g2 z.2
      exact ⟨_, _, g1, g2, by omega, by omega, by omega, by omega⟩
    obtain ⟨x3, x4, x5, x6, x7, x8, x17, x18, x19, x20, x21, x22, x23, g3, g4, g5, g6, g7, g8, g17, g18, g19, g20, g21, g22, g23, b3, b4, b5, b6, b7, b8, b17, b18, b19⟩ : ∃ x3 x4 x5 x6 x7 x8 x17 x18 x19 x20 x21 x22 x23 : Int, es[3]? = some x3 ∧ es[4]? = some x4 ∧ es[5]? = some x5 ∧ es[6]? = some x6 ∧ es[7]? = some x7 ∧ es[8]? = some x8 ∧ es[17]? = some x17 ∧ es[18]? = some x18 ∧ es[19]? = some x19 ∧ es[20]? = some x20 ∧ es[21]? = some x21 ∧ es[22]? = some x22 ∧ es[23]? = some x23 ∧
        (0 ≤ x3 ∧ x3 < 3) ∧ (0 ≤ x4 ∧ x4 < 4) ∧ (0 ≤ x5 ∧ x5 < 3) ∧ (0 ≤ x6 ∧ x6 < 3) ∧ (0 ≤ x7 ∧ x7 < 8) ∧ (0 ≤ x8 ∧ x8 < 4) ∧ (0 ≤ x17 ∧ x17 < 3) ∧ (0 ≤ x18 ∧ x18 < 2) ∧ (0 ≤ x19 ∧ x19 < 4) := by
      match es, ld with
      | [x0, x1, x2, x3, x4, x5, x6, x7, x8, x9, x10, x11, x12, x13, x14, x15, x16, x17, x18, x19, x20, x21, x22, x23], _ =>
        exact ⟨x3, x4, x5, x6, x7, x8, x17, x18, x19, x20, x21, x22, x23, rfl, rfl, rfl, rfl, rfl, rfl, rfl, rfl, rfl, rfl, rfl, rfl, rfl, hd 3 _ _ rfl rfl, hd 4 _ _ rfl rfl, hd 5 _ _ rfl rfl, hd 6 _ _ rfl rfl, hd 7 _ _ rfl rfl, hd 8 _ _ rfl rfl, hd 17 _ _ rfl rfl, hd 18 _ _ rfl rfl, hd 19 _ _ rfl rfl⟩
    have at_ : ∀ {k : Nat} {x : Int}, es[k]? = some x → atI (es.map V.int) (k : Int) = some (.int x) := fun {k x} h => atI_nat (by rw [List.getElem?_map, h]; rfl)
    clear hd ld
    have eW3 := s13 _ _ eW1
    have TH3 := TH1.mono s13
    have sA := s1.trans s13
    clear s13 s1 eW1 TH1
    obtain ⟨pys, ePL, hpp⟩ : ∃ pys, SqL K H3 LP pys ∧ pys.length = p.pis.length := by
      have z := TH3.pp
      cases z with
      | lst h1 h2 => exact ⟨_, h1, by rw [h2.length, List.length_map]⟩
    walk_at "st"
    refine q_lcR ?_
    walk_at "st"
    refine q_getD eW3 (by rfl) ?_
    refine ⟨LP, pys, rfl, .inl ePL, ?_⟩
    rw [hpp]
    have p3 := po.p3
    refine ⟨p.pis.length, rfl, by omega, by omega, ?_⟩
    rw [Int.toNat_natCast]
    refine fun LL nLL => lc_rel walk_range (fun i y Hh => ∃ d, (∀ H', Dp K H' y d) ∧ okLine d = true) nLL (sz1000 (by omega)) (fun H2 s => trivial) yfn_same ?_ ?_ ?_
    · rintro i y Ha Hb acc e bt h
      exact h
    · rintro i x H6 H7 lt s ⟨rfl, rfl⟩ Q' k
      refine q_gname ?_
      refine ⟨rfl, ?_⟩
      walk_at "st"
      refine ⟨by show 3 ≤ sizeLine; decide, fun l3 nl3 => ?_⟩
      have s3 := same_new (o := .lst [V.non, V.int 0, V.int 1]) nl3
      walk_at "st"
      obtain ⟨xk, gk, k0, k3⟩ := hl i (by omega)
      rw [Int.zero_add]
      refine q_ixL (SqL.of (s3 _ _ (s _ _ eD))) (at_ gk) ?_
      rcases (show xk = 0 ∨ xk = 1 ∨ xk = 2 by omega) with rfl | rfl | rfl
      · exact q_ixL (SqL.of upd_same) rfl (k _ _ s3 ⟨.none, fun _ => .non, rfl⟩)
      · exact q_ixL (SqL.of upd_same) rfl (k _ _ s3 ⟨.int 0, fun _ => .int _, rfl⟩)
      · exact q_ixL (SqL.of upd_same) rfl (k _ _ s3 ⟨.int 1, fun _ => .int _, rfl⟩)
    intro lys H4 s4 eLL lll rLL
    obtain ⟨lds, hlds, llds, okl⟩ : ∃ lds : List PyData, (∀ H', DpAll K H' lys lds) ∧ lds.length = lys.length ∧ ∀ d ∈ lds, okLine d = true := by
      have gen : ∀ (l : List V), (∀ (i : Nat) y, l[i]? = some y → ∃ d, (∀ H', Dp K H' y d) ∧ okLine d = true) → ∃ lds : List PyData, (∀ H', DpAll K H' l lds) ∧ lds.length = l.length ∧ ∀ d ∈ lds, okLine d = true := fun l => by
        induction l with
        | nil => exact fun _ => ⟨[], fun _ => .nil, rfl, fun d h => by cases h⟩
        | cons y r ih =>
          intro h
          obtain ⟨ds, h1, h2, h3⟩ := ih fun i z e => h (i + 1) z (by simpa using e)
          obtain ⟨d, e1, e2⟩ := h 0 y rfl
          refine ⟨d :: ds, fun H' => .cons (e1 H') (h1 H'), by simp [h2], fun x hx => ?_⟩
          rcases List.mem_cons.mp hx with rfl | hx
          · exact e2
          · exact h3 x hx
      exact gen lys rLL
    clear rLL
    have dL4 : Dp K H4 (.ref LL) (.list lds) := .lst (SqL.of eLL) (hlds _)
    have eW4 := s4 _ _ eW3
    have TH4 := TH3.mono s4
    have eD4 := s4 _ _ eD
    have sB := sA.trans s4
    have nDW : dA ≠ W := fun z => by rw [z, eW4] at eD4; cases eD4
    clear s4 eW3 TH3 eD sA ePL nLL eLL
    walk_at "st"
    refine q_putD eW4 (sz1000 (by show 7 < 100000; decide)) (kv' := pk8 (.ref LT) (.ref LP) (.ref LQ) (.int p.nl) (.int p.fr) (.int p.dk) (.ref LR) (.ref LL)) (by rfl) ?_
    have bt : But W H4 (upd H4 W (.dK (pk8 (.ref LT) (.ref LP) (.ref LQ) (.int p.nl) (.int p.fr) (.int p.dk) (.ref LR) (.ref LL)))) := But.put
    have eW5 : upd H4 W (.dK (pk8 (.ref LT) (.ref LP) (.ref LQ) (.int p.nl) (.int p.fr) (.int p.dk) (.ref LR) (.ref LL))) W = some (.dK (pk8 (.ref LT) (.ref LP) (.ref LQ) (.int p.nl) (.int p.fr) (.int p.dk) (.ref LR) (.ref LL))) := upd_same
    generalize upd H4 W (.dK (pk8 (.ref LT) (.ref LP) (.ref LQ) (.int p.nl) (.int p.fr) (.int p.dk) (.ref LR) (.ref LL))) = H5 at *
    have TH5 := TH4.keepD (keepD_dk eW4 bt)
    have dL5 := dpKeepD (keepD_dk eW4 bt) dL4
    have sC : Same H H5 := fun b o hb => bt _ _ (sB _ _ hb) (ne_of_none hb nWH)
    have eD5 := bt _ _ eD4 nDW
    clear bt eW4 TH4 dL4 sB eD4
    walk_at "st"
    refine q_ixL (SqL.of eD5) (at_ g3) ?_
    walk_at "st"
    refine q_ixL (SqL.of eD5) (at_ g4) ?_
    walk_at "st"
    refine q_ixL (SqL.of eD5) (at_ g5) ?_
    walk_at "st"
    refine ⟨by show 3 ≤ sizeLine; decide, fun ct nct => ?_⟩
    have sct := same_new (o := .tup [V.int (1 + x3), V.int x4, V.int x5]) nct
    have dC6 : Dp K (upd H5 ct (.tup [V.int (1 + x3), V.int x4, V.int x5])) (.ref ct) (.tuple [.int (1 + x3), .int x4, .int x5]) := .tup (SqT.of upd_same) (.cons (.int _) (.cons (.int _) (.cons (.int _) .nil)))
    generalize upd H5 ct (.tup [V.int (1 + x3), V.int x4, V.int x5]) = H6 at *
    have eW6 := sct _ _ eW5
    walk_at "st"
    refine q_putD eW6 (sz1000 (by show 8 < 100000; decide)) (kv' := pk9 (.ref LT) (.ref LP) (.ref LQ) (.int p.nl) (.int p.fr) (.int p.dk) (.ref LR) (.ref LL) (.ref ct)) (by rfl) ?_
    have bt : But W H6 (upd H6 W (.dK (pk9 (.ref LT) (.ref LP) (.ref LQ) (.int p.nl) (.int p.fr) (.int p.dk) (.ref LR) (.ref LL) (.ref ct)))) := But.put
    have eW7 : upd H6 W (.dK (pk9 (.ref LT) (.ref LP) (.ref LQ) (.int p.nl) (.int p.fr) (.int p.dk) (.ref LR) (.ref LL) (.ref ct))) W = some (.dK (pk9 (.ref LT) (.ref LP) (.ref LQ) (.int p.nl) (.int p.fr) (.int p.dk) (.ref LR) (.ref LL) (.ref ct))) := upd_same
    generalize upd H6 W (.dK (pk9 (.ref LT) (.ref LP) (.ref LQ) (.int p.nl) (.int p.fr) (.int p.dk) (.ref LR) (.ref LL) (.ref ct))) = H7 at *
    have TH7 := (TH5.mono sct).keepD (keepD_dk eW6 bt)
    have dL7 := dpKeepD (keepD_dk eW6 bt) (L2.Dp.mono sct dL5)
    have dC7 := dpKeepD (keepD_dk eW6 bt) dC6
    have sD : Same H H7 := fun b o hb => bt _ _ (sct _ _ (sC _ _ hb)) (ne_of_none hb nWH)
    have eD7 := bt _ _ (sct _ _ eD5) nDW
    clear bt eW6 TH5 dL5 dC6 sC eD5 sct nct eW5
    walk_at "st"
    refine q_ixL (SqL.of eD7) (at_ g3) ?_
    walk_at "st"
    refine q_ixL (SqL.of eD7) (at_ g4) ?_
    walk_at "st"
    refine q_getD eW7 (by rfl) ?_
    walk_at "st"
    refine ⟨_, _, rfl, ?_⟩
    walk_at "st"
    have mo1 : 1 ≤ 1 + x3 + (if p.dk - 1 > x4 then p.dk - 1 else x4) := by split <;> omega
    have mo2 : 1 + x3 + (if p.dk - 1 > x4 then p.dk - 1 else x4) ≤ 20 := by
      have hdk := po.dk
      simp only [List.mem_cons, List.not_mem_nil, or_false] at hdk
      split <;> omega
    generalize 1 + x3 + (if p.dk - 1 > x4 then p.dk - 1 else x4) = most at *
    refine q_ixL (SqL.of eD7) (at_ g7) ?_
    walk_at "st"
    refine ⟨by show 2 ≤ sizeLine; decide, fun pt npt => ?_⟩
    have spt := same_new (o := .tup [V.str "levels", V.int (1 + x7)]) npt
    have dP8 : Dp K (upd H7 pt (.tup [V.str "levels", V.int (1 + x7)])) (.ref pt) (.tuple [.str "levels", .int (1 + x7)]) := .tup (SqT.of upd_same) (.cons (.str _) (.cons (.int _) .nil))
    generalize upd H7 pt (.tup [V.str "levels", V.int (1 + x7)]) = H8 at *
    have eW8 := spt _ _ eW7
    walk_at "st"
    refine q_putD eW8 (sz1000 (by show 9 < 100000; decide)) (kv' := pk10 (.ref LT) (.ref LP) (.ref LQ) (.int p.nl) (.int p.fr) (.int p.dk) (.ref LR) (.ref LL) (.ref ct) (.ref pt)) (by rfl) ?_
    have bt : But W H8 (upd H8 W (.dK (pk10 (.ref LT) (.ref LP) (.ref LQ) (.int p.nl) (.int p.fr) (.int p.dk) (.ref LR) (.ref LL) (.ref ct) (.ref pt)))) := But.put
    have eW9 : upd H8 W (.dK (pk10 (.ref LT) (.ref LP) (.ref LQ) (.int p.nl) (.int p.fr) (.int p.dk) (.ref LR) (.ref LL) (.ref ct) (.ref pt))) W = some (.dK (pk10 (.ref LT) (.ref LP) (.ref LQ) (.int p.nl) (.int p.fr) (.int p.dk) (.ref LR) (.ref LL) (.ref ct) (.ref pt))) := upd_same
    generalize upd H8 W (.dK (pk10 (.ref LT) (.ref LP) (.ref LQ) (.int p.nl) (.int p.fr) (.int p.dk) (.ref LR) (.ref LL) (.ref ct) (.ref pt))) = H9 at *
    have TH9 := (TH7.mono spt).keepD (keepD_dk eW8 bt)
    have dL9 := dpKeepD (keepD_dk eW8 bt) (L2.Dp.mono spt dL7)
    have dC9 := dpKeepD (keepD_dk eW8 bt) (L2.Dp.mono spt dC7)
    have dP9 := dpKeepD (keepD_dk eW8 bt) dP8
    have sE : Same H H9 := fun b o hb => bt _ _ (spt _ _ (sD _ _ hb)) (ne_of_none hb nWH)
    have eD9 := bt _ _ (spt _ _ eD7) nDW
    clear bt eW8 TH7 dL7 dC7 dP8 sD eD7 spt npt eW7
    try dsimp only
    refine seq_if (fun σ Hx => ∃ (o4 o5 o6 : Option V) (pv : V) (pl : PyData), σ = [some (.ref a), some (.ref W), some (.ref dA), some (.int most), o4, o5, o6] ∧ Same H Hx ∧ Hx dA = some (.lst (es.map V.int)) ∧ Hx W = some (.dK (pk10 (.ref LT) (.ref LP) (.ref LQ) (.int p.nl) (.int p.fr) (.int p.dk) (.ref LR) (.ref LL) (.ref ct) pv)) ∧ ThAt K Hx LT LP LQ LR p ∧ Dp K Hx (.ref LL) (.list lds) ∧ Dp K Hx (.ref ct) (.tuple [.int (1 + x3), .int x4, .int x5]) ∧ Dp K Hx pv pl ∧ planOk p.ts.length pl) (fun σ Hx hp => ?_) (fun N hN => ?_)
    · obtain ⟨o4, o5, o6, pv, pl, rfl, sF, eDx, eWx, THx, dLx, dCx, dPx, hpl⟩ := hp
      clear TH9 dL9 dC9 dP9 sE eD9 eW9
      walk_at "st"
      refine q_putD eWx (sz1000 (by show 10 < 100000; decide)) (kv' := pk11 (.ref LT) (.ref LP) (.ref LQ) (.int p.nl) (.int p.fr) (.int p.dk) (.ref LR) (.ref LL) (.ref ct) pv .non) (by rfl) ?_
      have bt : But W Hx (upd Hx W (.dK (pk11 (.ref LT) (.ref LP) (.ref LQ) (.int p.nl) (.int p.fr) (.int p.dk) (.ref LR) (.ref LL) (.ref ct) pv .non))) := But.put
      have eW1 : upd Hx W (.dK (pk11 (.ref LT) (.ref LP) (.ref LQ) (.int p.nl) (.int p.fr) (.int p.dk) (.ref LR) (.ref LL) (.ref ct) pv .non)) W = some (.dK (pk11 (.ref LT) (.ref LP) (.ref LQ) (.int p.nl) (.int p.fr) (.int p.dk) (.ref LR) (.ref LL) (.ref ct) pv .non)) := upd_same
      generalize upd Hx W (.dK (pk11 (.ref LT) (.ref LP) (.ref LQ) (.int p.nl) (.int p.fr) (.int p.dk) (.ref LR) (.ref LL) (.ref ct) pv .non)) = H1 at *
      have kd := keepD_dk eWx bt
      replace THx := THx.keepD kd
      replace dLx := dpKeepD kd dLx
      replace dCx := dpKeepD kd dCx
      replace dPx := dpKeepD kd dPx
      replace sF : Same H H1 := fun b o hb => bt _ _ (sF _ _ hb) (ne_of_none hb nWH)
      replace eDx := bt _ _ eDx nDW
      clear bt eWx kd
      try dsimp only
      refine seq_if (fun σ Hy => ∃ (ov : V) (od : PyData), σ = [some (.ref a), some (.ref W), some (.ref dA), some (.int most), o4, o5, o6] ∧ Same H Hy ∧ Hy dA = some (.lst (es.map V.int)) ∧ Hy W = some (.dK (pk11 (.ref LT) (.ref LP) (.ref LQ) (.int p.nl) (.int p.fr) (.int p.dk) (.ref LR) (.ref LL) (.ref ct) pv ov)) ∧ ThAt K Hy LT LP LQ LR p ∧ Dp K Hy (.ref LL) (.list lds) ∧ Dp K Hy (.ref ct) (.tuple [.int (1 + x3), .int x4, .int x5]) ∧ Dp K Hy pv pl ∧ Dp K Hy ov od ∧ outOk p.qis.length od) (fun σ Hy hy => ?_) (fun N hN => ?_)
      · obtain ⟨ov, od, rfl, sG, eDy, eWy, THy, dLy, dCy, dPy, dOy, hod⟩ := hy
        clear THx dLx dCx dPx sF eDx eW1
        walk_at "st"
        refine q_ixL (SqL.of eDy) (at_ g20) ?_
        walk_at "st"
        refine q_eqI ?_
        walk_at "st"
        refine q_ixL (SqL.of eDy) (at_ g21) ?_
        walk_at "st"
        refine q_eqI ?_
        walk_at "st"
        refine q_ixL (SqL.of eDy) (at_ g22) ?_
        walk_at "st"
        refine q_eqI ?_
        walk_at "st"
        refine q_ixL (SqL.of eDy) (at_ g23) ?_
        walk_at "st"
        refine q_eqI ?_
        walk_at "st"
        refine ⟨by show 4 ≤ sizeLine; decide, fun LF nLF => ?_⟩
        have sL := same_new (o := .lst [V.bl (decide (x20 = 1)), V.bl (decide (x21 = 1)), V.bl (decide (x22 = 1)), V.bl (decide (x23 = 1))]) nLF
        have dF : Dp K (upd Hy LF (.lst [V.bl (decide (x20 = 1)), V.bl (decide (x21 = 1)), V.bl (decide (x22 = 1)), V.bl (decide (x23 = 1))])) (.ref LF) (.list [.bool (decide (x20 = 1)), .bool (decide (x21 = 1)), .bool (decide (x22 = 1)), .bool (decide (x23 = 1))]) := .lst (SqL.of upd_same) (.cons (.bl _) (.cons (.bl _) (.cons (.bl _) (.cons (.bl _) .nil))))
        generalize upd Hy LF (.lst [V.bl (decide (x20 = 1)), V.bl (decide (x21 = 1)), V.bl (decide (x22 = 1)), V.bl (decide (x23 = 1))]) = H2 at *
        have eW2 := sL _ _ eWy
        walk_at "st"
        refine q_putD eW2 (sz1000 (by show 11 < 100000; decide)) (kv' := pk12 (.ref LT) (.ref LP) (.ref LQ) (.int p.nl) (.int p.fr) (.int p.dk) (.ref LR) (.ref LL) (.ref ct) pv ov (.ref LF)) (by rfl) ?_
        have bt : But W H2 (upd H2 W (.dK (pk12 (.ref LT) (.ref LP) (.ref LQ) (.int p.nl) (.int p.fr) (.int p.dk) (.ref LR) (.ref LL) (.ref ct) pv ov (.ref LF)))) := But.put
        have kd := keepD_dk eW2 bt
        have THz := (THy.mono sL).keepD kd
        walk_at "st"
        refine q W (bdOf p lds x3 x4 x5 pl od (decide (x20 = 1)) (decide (x21 = 1)) (decide (x22 = 1)) (decide (x23 = 1))) _ (fun b o hb => bt _ _ (sL _ _ (sG _ _ hb)) (ne_of_none hb nWH)) nWH ⟨⟨_, _, _, _, _, _, _, _, _, _, _, _, upd_same, THz.tt, THz.pp, THz.qq, .int _, .int _, .int _, THz.rr, dpKeepD kd (L2.Dp.mono sL dLy), dpKeepD kd (L2.Dp.mono sL dCy), dpKeepD kd (L2.Dp.mono sL dPy), dpKeepD kd (L2.Dp.mono sL dOy), dpKeepD kd dF⟩⟩ (bdOf_ok po (by omega) okl b3 b4 b5 hpl hod) ⟨_, _, _, _, rfl, rfl, rfl, rfl⟩
      · walk_at "st"
        refine q_ixL (SqL.of eDx) (at_ g17) ?_
        walk_at "st"
        obtain ⟨qys, eLQ, hqq⟩ : ∃ qys, SqL K H1 LQ qys ∧ qys.length = p.qis.length := by
          have z := THx.qq
          cases z with
          | lst h1 h2 => exact ⟨_, h1, by rw [h2.length, List.length_map]⟩
        have none_ : N [some (.ref a), some (.ref W), some (.ref dA), some (.int most), o4, o5, o6] H1 := hN _ _ ⟨_, _, rfl, sF, eDx, eW1, THx, dLx, dCx, dPx, .non, .inl rfl⟩
        by_cases c17 : 0 < x17
        · rw [decide_eq_true c17]
          refine iteT ?_
          walk_at "st"
          refine q_getD eW1 (by rfl) ?_
          refine ⟨LQ, qys, rfl, .inl eLQ, ?_⟩
          rw [hqq]
          walk_at "st"
          by_cases cq : (0 : Int) < (p.qis.length : Int)
          · rw [decide_eq_true cq]
            refine iteT ?_
            walk_at "st"
            refine q_ixL (SqL.of eDx) (at_ g18) ?_
            walk_at "st"
            refine .inl ⟨_, rfl, ?_⟩
            walk_at "st"
            refine q_getD eW1 (by rfl) ?_
            refine ⟨LQ, qys, rfl, .inl eLQ, ?_⟩
            rw [hqq]
            refine ⟨_, _, rfl, rfl, cq, ?_⟩
            have m0 := Int.emod_nonneg x18 (show (p.qis.length : Int) ≠ 0 by omega)
            have m1 := Int.emod_lt_of_pos x18 cq
            walk_at "st"
            refine q_ixL (SqL.of eDx) (at_ g19) ?_
            walk_at "st"
            generalize x18 % (p.qis.length : Int) = r18 at *
            refine ⟨by show 2 ≤ sizeLine; decide, fun ot not => ?_⟩
            have so := same_new (o := .tup [V.int r18, V.int (1 + x19)]) not
            have dO : Dp K (upd H1 ot (.tup [V.int r18, V.int (1 + x19)])) (.ref ot) (.tuple [.int r18, .int (1 + x19)]) := .tup (SqT.of upd_same) (.cons (.int _) (.cons (.int _) .nil))
            generalize upd H1 ot (.tup [V.int r18, V.int (1 + x19)]) = H2 at *
            have eW2 := so _ _ eW1
            walk_at "st"
            refine q_putD eW2 (sz1000 (by show 11 < 100000; decide)) (kv' := pk11 (.ref LT) (.ref LP) (.ref LQ) (.int p.nl) (.int p.fr) (.int p.dk) (.ref LR) (.ref LL) (.ref ct) pv (.ref ot)) (by rfl) ?_
            have bt : But W H2 (upd H2 W (.dK (pk11 (.ref LT) (.ref LP) (.ref LQ) (.int p.nl) (.int p.fr) (.int p.dk) (.ref LR) (.ref LL) (.ref ct) pv (.ref ot)))) := But.put
            have kd := keepD_dk eW2 bt
            exact hN _ _ ⟨_, _, rfl, fun b o hb => bt _ _ (so _ _ (sF _ _ hb)) (ne_of_none hb nWH), bt _ _ (so _ _ eDx) nDW, upd_same, (THx.mono so).keepD kd, dpKeepD kd (L2.Dp.mono so dLx), dpKeepD kd (L2.Dp.mono so dCx), dpKeepD kd (L2.Dp.mono so dPx), dpKeepD kd dO, .inr ⟨r18, 1 + x19, rfl, m0, by omega, by omega, by omega⟩⟩
          · rw [decide_eq_false cq]
            exact none_
        · rw [decide_eq_false c17]
          exact iteF none_
    · walk_at "st"
      refine q_ixL (SqL.of eD9) (at_ g6) ?_
      walk_at "st"
      by_cases c6 : 0 < x6
      · rw [decide_eq_true c6]
        refine iteT ?_
        walk_at "st"
        refine ⟨by show 0 ≤ sizeLine; decide, fun LS nLS => ?_⟩
        have sS := same_new (o := .lst []) nLS
        have eS : upd H9 LS (.lst []) LS = some (.lst []) := upd_same
        generalize upd H9 LS (.lst []) = H10 at *
        have eD10 := sS _ _ eD9
        walk_at "st"
        refine q_forRA ?_
        walk_at "st"
        refine q_ixL (SqL.of eD10) (at_ g8) ?_
        walk_at "st"
        obtain ⟨n8, e8, n80, n84⟩ : ∃ n8 : Nat, 1 + x8 = n8 ∧ 1 ≤ n8 ∧ n8 ≤ 4 := ⟨(1 + x8).toNat, by omega, by omega, by omega⟩
        rw [e8]
        have nSW : W ≠ LS := ne_of_none eW9 nLS
        have nSD : dA ≠ LS := ne_of_none eD9 nLS
        obtain ⟨tys, eTL, ltys⟩ : ∃ tys, SqL K H9 LT tys ∧ tys.length = p.ts.length := by
          have z := TH9.tt
          cases z with
          | lst h1 h2 => exact ⟨_, h1, by rw [h2.length, List.length_map]⟩
        let J : Nat → L2.St → Hp → Prop := fun j σ Hh => ∃ (o5 o6 : Option V) (ys : List V) (rds : List PyData), σ = [some (.ref a), some (.ref W), some (.ref dA), some (.int most), some (.ref LS), o5, o6] ∧ Same H9 Hh ∧ Hh LS = some (.lst ys) ∧ DpAll K Hh ys rds ∧ rds.length = j ∧ ∀ d ∈ rds, okSl p.ts.length d
        refine ⟨n8, rfl, by omega, by omega, ?_⟩
        rw [Int.toNat_natCast]
        refine forR J ⟨_, _, [], [], rfl, sS, eS, .nil, rfl, fun d hd => by cases hd⟩ (fun j σ Hh lj hJ => ?_) (fun σ Hh hJ => ?_)
        · obtain ⟨o5, o6, ys, rds, rfl, sJ, eJ, dJ, lJ, aJ⟩ := hJ
          have lyJ := dJ.length
          obtain ⟨y1, y2, h1, h2, y10, y13, y20, y211⟩ := he j (by omega)
          have eDh := sJ _ _ eD9
          have eWh := sJ _ _ eW9
          have eTh : SqL K Hh LT tys := sJ.seq eTL
          refine q_gname ?_
          walk_at "st"
          rw [Int.zero_add]
          refine ⟨_, _, rfl, rfl, mulW2 (by omega), ?_⟩
          walk_at "st"
          refine q_ixL (SqL.of eDh) (by rw [show (10 + 2 * (j : Int)) = ((10 + 2 * j : Nat) : Int) by omega]; exact at_ h2) ?_
          walk_at "s1"
          refine seq_if (fun σ Hy => ∃ tk : Int, σ = [some (.ref a), some (.ref W), some (.ref dA), some (.int most), some (.ref LS), some (.int (j : Int)), some (.int tk)] ∧ Hy = Hh ∧ 1 ≤ tk ∧ tk ≤ 12) (fun σ Hy hy => ?_) (fun N2 hN2 => ?_)
          · obtain ⟨tk, rfl, rfl, k1, k12⟩ := hy
            walk_at "st"
            refine ⟨.inl ⟨rfl, ys, SqL.of eJ⟩, ?_⟩
            walk_at "st"
            refine ⟨_, _, rfl, rfl, mulW2 (by omega), ?_⟩
            walk_at "st"
            refine q_ixL (SqL.of eDh) (by rw [show (9 + 2 * (j : Int)) = ((9 + 2 * j : Nat) : Int) by omega]; exact at_ h1) ?_
            walk_at "st"
            refine .inl ⟨_, rfl, ?_⟩
            walk_at "st"
            refine q_getD eWh (by rfl) ?_
            refine ⟨LT, tys, rfl, .inl eTh, ?_⟩
            rw [ltys]
            have t2 := po.t2
            refine ⟨_, _, rfl, rfl, (by omega), ?_⟩
            have m0 := Int.emod_nonneg y1 (show (p.ts.length : Int) ≠ 0 by omega)
            have m1 := Int.emod_lt_of_pos y1 (show (0 : Int) < (p.ts.length : Int) by omega)
            walk_at "st"
            generalize y1 % (p.ts.length : Int) = r1 at *
            refine ⟨by show 2 ≤ sizeLine; decide, fun t nt => ?_⟩
            have st := same_new (o := .tup [V.int r1, V.int tk]) nt
            have dT : Dp K (upd Hy t (.tup [V.int r1, V.int tk])) (.ref t) (.tuple [.int r1, .int tk]) := .tup (SqT.of upd_same) (.cons (.int _) (.cons (.int _) .nil))
            generalize upd Hy t (.tup [V.int r1, V.int tk]) = H2 at *
            have eJ2 := st _ _ eJ
            refine ⟨LS, ys, _, rfl, rfl, eJ2, sz1000 (by omega), ?_⟩
            have kl : KeepL H2 (upd H2 LS (.lst (ys ++ [.ref t]))) := KeepL.put eJ2
            have all2 : ∀ d ∈ rds ++ [.tuple [.int r1, .int tk]], okSl p.ts.length d := fun d hd => by
              rcases List.mem_append.mp hd with hd | hd
              · exact aJ d hd
              · simp only [List.mem_cons, List.not_mem_nil, or_false] at hd
                exact ⟨r1, tk, hd, m0, by omega, k1, k12⟩
            refine ⟨_, _, ys ++ [.ref t], rds ++ [.tuple [.int r1, .int tk]], rfl, fun b o hb => ?_, upd_same, dpAllKeepL kl (dpAll_app (L2.DpAll.mono st dJ) (.cons dT .nil)) ?_, by rw [List.length_append, lJ]; rfl, all2⟩
            · rw [upd_ne (ne_of_none hb nLS)]
              exact st _ _ (sJ _ _ hb)
            · rw [noLs_all]
              intro d hd
              obtain ⟨t', k', rfl, _⟩ := all2 d hd
              rfl
          · walk_at "st"
            refine q_ixL (SqL.of eDh) (at_ g6) ?_
            walk_at "st"
            refine q_eqI ?_
            refine ⟨_, rfl, ?_⟩
            by_cases c1 : x6 = 1
            · rw [decide_eq_true c1]
              refine iteT ?_
              walk_at "st"
              refine q_ixL (SqL.of eDh) (at_ g5) ?_
              walk_at "st"
              refine .inl ⟨_, rfl, ?_⟩
              walk_at "st"
              refine ⟨_, _, rfl, rfl, (show (0 : Int) < 4 by decide), ?_⟩
              have m0 := Int.emod_nonneg (1 + y2) (show (4 : Int) ≠ 0 by decide)
              have m1 := Int.emod_lt_of_pos (1 + y2) (show (0 : Int) < 4 by decide)
              generalize (1 + y2) % 4 = r4 at *
              walk_at "st"
              refine ⟨_, _, rfl, ?_⟩
              walk_at "st"
              exact hN2 _ _ ⟨_, rfl, rfl, by split <;> omega, by split <;> omega⟩
            · rw [decide_eq_false c1]
              refine iteF ?_
              exact hN2 _ _ ⟨_, rfl, rfl, by omega, by omega⟩
        · obtain ⟨o5, o6, ys, rds, rfl, sJ, eJ, dJ, lJ, aJ⟩ := hJ
          walk_at "st"
          refine ⟨by show 2 ≤ sizeLine; decide, fun qt nqt => ?_⟩
          have sq := same_new (o := .tup [V.str "slots", V.ref LS]) nqt
          have dQ : Dp K (upd Hh qt (.tup [V.str "slots", V.ref LS])) (.ref qt) (.tuple [.str "slots", .list rds]) := .tup (SqT.of upd_same) (.cons (.str _) (.cons (.lst (SqL.of (sq _ _ eJ)) (L2.DpAll.mono sq dJ)) .nil))
          generalize upd Hh qt (.tup [V.str "slots", V.ref LS]) = H2 at *
          have eW2 := sq _ _ (sJ _ _ eW9)
          walk_at "st"
          refine q_putD eW2 (sz1000 (by show 10 < 100000; decide)) (kv' := pk10 (.ref LT) (.ref LP) (.ref LQ) (.int p.nl) (.int p.fr) (.int p.dk) (.ref LR) (.ref LL) (.ref ct) (.ref qt)) (by rfl) ?_
          have bt : But W H2 (upd H2 W (.dK (pk10 (.ref LT) (.ref LP) (.ref LQ) (.int p.nl) (.int p.fr) (.int p.dk) (.ref LR) (.ref LL) (.ref ct) (.ref qt)))) := But.put
          have kd := keepD_dk eW2 bt
          have s92 := sJ.trans sq
          exact hN _ _ ⟨_, _, _, _, _, rfl, fun b o hb => bt _ _ (s92 _ _ (sE _ _ hb)) (ne_of_none hb nWH), bt _ _ (s92 _ _ eD9) nDW, upd_same, (TH9.mono s92).keepD kd, dpKeepD kd (L2.Dp.mono s92 dL9), dpKeepD kd (L2.Dp.mono s92 dC9), dpKeepD kd dQ, .inr ⟨rds, rfl, by omega, by omega, aJ⟩⟩
      · rw [decide_eq_false c6]
        exact hN _ _ ⟨_, _, _, _, _, rfl, sE, eD9, eW9, TH9, dL9, dC9, dP9, .inl ⟨_, rfl, by omega, by omega⟩⟩))) only [↓Hk.hold_s]
end
end T
namespace T
section
variable {P : Program} {w : World} {K : PySem.W.Frag} {mg : Str → Option Value} {base : Heap} {C CR CK CM KE NT NTs : Addr}
theorem cOf_forms {b : BD} (ok : BOk b) : ∃ (tds pds qds : List PyData) (l d : Int), b.tasks = .list tds ∧ b.pages = .list pds ∧ b.ports = .list qds ∧ b.locks = .int l ∧ b.disk = .int d ∧ cOf b = cntOf tds.length pds.length qds.length l d ∧ 2 ≤ tds.length ∧ tds.length ≤ 4 ∧ 0 ≤ l ∧ l ≤ 2 ∧ 0 ≤ d ∧ d ≤ 4 ∧ d ≠ 1 := by
  obtain ⟨tds, et, t2, t4, _⟩ := okTasksL ok.tasks
  obtain ⟨pds, ep, _, _⟩ := okList ok.pages
  obtain ⟨qds, eq, _, _⟩ := okList ok.ports
  obtain ⟨l, el, l0, l2⟩ := okBetween ok.locks
  have okd := ok.disk
  unfold okDisk at okd
  rw [Bool.and_eq_true] at okd
  obtain ⟨d, ed, d0, d4⟩ := okBetween okd.1
  refine ⟨tds, pds, qds, l, d, et, ep, eq, el, ed, by unfold cOf; rw [et, ep, eq, el, ed], t2, t4, l0, l2, d0, d4, fun z => ?_⟩
  have z2 := okd.2
  rw [ed, z] at z2
  simp at z2
theorem rights_noL {c : Cnt} {d : PyData} {rds es : List PyData} (ok : okRights c d = true) (e : d = .list rds) (he : PyData.list es ∈ rds) : noLs es = true := by
  subst e
  unfold okRights at ok
  rw [Bool.and_eq_true] at ok
  have z := List.all_eq_true.mp ok.2 _ he
  unfold okRow at z
  rw [Bool.and_eq_true] at z
  obtain ⟨z1, z2⟩ := z
  have z3 := z2
  rw [Bool.and_eq_true] at z3
  rw [noLs_all]
  intro x hx
  obtain ⟨w, i, rfl⟩ := dRight_shape (List.all_eq_true.mp z3.1 x hx)
  rfl
theorem q_makeK {n m : Nat} {sp : Sp} {gV : List V → List V → List V} {E : XK} {t tk : TA} {σ : L2.St} {H : Hp} {Q : VK} (h : t σ H fun vs H1 => tk σ H1 fun zs H2 => vs.length = n ∧ zs.length = m ∧ ∀ x dx, H2 x = none → H2 dx = none → dx ≠ x →
  sp (gV (.ref x :: vs) zs) (upd (upd H2 dx (.own x)) x (.ins C dx [])) (fun v H3 => v = .non ∧ Q (.ref x) H3) E) : tMakeK C n m sp gV E t tk σ H Q := h
def spLBuild (K : PySem.W.Frag) (C CR : Addr) : Sp := fun vs H Q _ => ∃ (D : Addr) (b : BD), vs = [.ref D] ∧ LawAt K H D b ∧ BOk b ∧ ∀ x H', Same H H' → H x = none → BuildAt K C CR H' x b → Q (.ref x) H'
theorem ok_law_build (B : Bl mg) (c_Build : MkKCal P w K mg base 10 C "Build" ["self", "tasks", "pages", "ports", "locks", "frames", "disk", "rights", "lines", "costs", "plan", "outside", "wipe", "pad", "lend", "share"] 11 ["wipe", "pad", "lend", "share"] (spBuild K C CR)) (cc : DefAt K mg "_law_build" s__law_build ["_law_parts_here"]) : Cal P w K mg base 12 "_law_build" ["_law_parts_here"] (spLBuild K C CR) := by
 refine Hk.hold ?_
 simp (disch := with_unfolding_all (
 exact Hk.disch (cc.cal fun f fd F => by
  refine F.ok sc__law_build (fun vs H Q E h => ?_) (fun cdv A outer s H vs Q E hr h => ?_)
  · obtain ⟨D, b, rfl, _⟩ := h; rfl
  · obtain ⟨D, b, rfl, hL, ok, q⟩ := h
    have hu := hu_of hr
    refine ⟨_, (pss_cons (ps_set (i := 1) sc__law_build.nd rfl (Or.inl rfl) (pe_dget hu (pv 0) pe_str (fun _ _ => rfl)))
      (pss_cons (ps_setLc (i := 2) (own := [("_law_row", 4)]) (tt := tYes) rfl sc__law_build.nd rfl rfl (sw_true rfl rfl rfl (by decide +kernel)) (pi_list (pe_dget hu (pv 0) pe_str (fun _ _ => rfl))) (blkOk_by (N := ["_law_parts_here", "_law_flags", "_law_rights_here", "_law_plan", "_law_row"]) (sc := defScope s__law_build) (by decide +kernel)) (fun _ _ _ _ _ => (pg_name (i := 4) sc__law_build.nd rfl (Or.inl rfl))) (fun _ _ _ _ _ => pts_nil) (fun _ _ _ _ _ => (pe_callTy (show CallR _ _ (rListOf K) from call_list_of) rfl B.list_ hb_list (pa_cons (pv 4) pa_nil))))
      (pss_cons (ps_set (i := 3) sc__law_build.nd rfl (Or.inl rfl) (pe_dget hu (pv 0) pe_str (fun _ _ => rfl)))
      (pss_one (ps_ret (pe_mkk c_Build (hr.mono (by omega)) rfl (pa_cons (pe_callTy call_list_of rfl B.list_ hb_list (pa_cons (pe_dget hu (pv 0) pe_str (fun _ _ => rfl)) pa_nil)) (pa_cons (pe_callTy call_list_of rfl B.list_ hb_list (pa_cons (pe_dget hu (pv 0) pe_str (fun _ _ => rfl)) pa_nil)) (pa_cons (pe_callTy call_list_of rfl B.list_ hb_list (pa_cons (pe_dget hu (pv 0) pe_str (fun _ _ => rfl)) pa_nil)) (pa_cons (pe_dget hu (pv 0) pe_str (fun _ _ => rfl)) (pa_cons (pe_dget hu (pv 0) pe_str (fun _ _ => rfl)) (pa_cons (pe_dget hu (pv 0) pe_str (fun _ _ => rfl)) (pa_cons (pv 2) (pa_cons (pe_callTy call_list_of rfl B.list_ hb_list (pa_cons (pe_dget hu (pv 0) pe_str (fun _ _ => rfl)) pa_nil)) (pa_cons (pe_dget hu (pv 0) pe_str (fun _ _ => rfl)) (pa_cons (pv 3) (pa_cons (pe_dget hu (pv 0) pe_str (fun _ _ => rfl)) pa_nil))))))))))) (pk_cons (pe_ix ix_list (pv 1) pe_int (fun _ _ => rfl)) (pk_cons (pe_ix ix_list (pv 1) pe_int (fun _ _ => rfl)) (pk_cons (pe_ix ix_list (pv 1) pe_int (fun _ _ => rfl)) (pk_cons (pe_ix ix_list (pv 1) pe_int (fun _ _ => rfl)) pk_nil)))))))))), ?_⟩
    obtain ⟨x0, x1, x2, x3, x4, x5, x6, x7, x8, x9, x10, x11, e, d0, d1, d2, d3, d4, d5, d6, d7, d8, d9, d10, d11⟩ := hL.ex
    obtain ⟨tds, et, t2, t4, tall⟩ := okTasksL ok.tasks
    obtain ⟨pds, ep, _, _⟩ := okList ok.pages
    obtain ⟨qds, eq, _, _⟩ := okList ok.ports
    obtain ⟨lds, el, _, _⟩ := okLinesL ok.lines
    obtain ⟨rds, er, rl, rall⟩ := okRightsL ok.rights
    rw [et] at d0
    rw [ep] at d1
    rw [eq] at d2
    rw [el] at d7
    have lstF : ∀ {v : V} {es : List PyData}, Dp K H v (.list es) → ∃ a xs, v = .ref a ∧ SqL K H a xs ∧ DpAll K H xs es := fun {v es} h => by
      cases h with
      | lst h1 h2 => exact ⟨_, _, rfl, h1, h2⟩
    obtain ⟨a0, z0, rfl, h0, g0⟩ := lstF d0
    obtain ⟨a1, z1, rfl, h1, g1⟩ := lstF d1
    obtain ⟨a2, z2, rfl, h2, g2⟩ := lstF d2
    obtain ⟨a7, z7, rfl, h7, g7⟩ := lstF d7
    have d6' := d6
    rw [er] at d6'
    cases d6' with
    | @lst ra rxs _ rs1 rs2 =>
    cases d11 with
    | @lst fa fxs _ fs1 fs2 =>
    cases fs2 with
    | @cons y0 r0 _ _ f0 fs2 =>
    cases fs2 with
    | @cons y1 r1 _ _ f1 fs2 =>
    cases fs2 with
    | @cons y2 r2 _ _ f2 fs2 =>
    cases fs2 with
    | @cons y3 r3 _ _ f3 fs2 =>
    cases fs2
    have lr := rs2.length
    walk_at "st0"
    refine q_getD e (by rfl) ?_
    walk_at "st"
    refine q_lcI ?_
    walk_at "st"
    refine q_getD e (by rfl) ?_
    have rl4 : rds.length ≤ 4 := by
      obtain ⟨tds', pds', qds', ln, dn, et', _, _, _, _, ecn, _, t4', _⟩ := cOf_forms ok
      have ct : cnt (cOf b) "task" = tds'.length := by rw [ecn]; rfl
      omega
    refine ⟨ra, rfl, ⟨_, rs1⟩, fun X nX => lc_freshR walk_list (fun i l Hh => ∃ zs es, Hh l = some (.lst zs) ∧ rds[i]? = some (.list es) ∧ DpAll K Hh zs es ∧ noLs es = true) nX (sz1000 (by omega)) (fun H2 s => s.seq rs1) yat_same ?_ ?_ ?_ ?_ ?_⟩
    · rintro i l Ha Hb s ⟨zs, es, h1, h2, h3, h4⟩
      exact ⟨zs, es, s _ _ h1, h2, L2.DpAll.mono s h3, h4⟩
    · rintro i l Ha Hb acc n e2 bt ⟨zs, es, h1, h2, h3, h4⟩
      exact ⟨zs, es, bt _ _ h1 n, h2, dpAllKeepL (keepL_of_but e2 bt) h3 h4, h4⟩
    · rintro i l Ha ⟨zs, es, h1, _⟩ z
      rw [h1] at z; cases z
    · rintro i x H6 H7 lt s ⟨rfl, ex⟩ Q' k
      refine q_gname ?_
      refine ⟨rfl, ?_⟩
      walk_at "st"
      obtain ⟨d, e2, hd2⟩ := rs2.get' ex
      obtain ⟨es, rfl⟩ := rall d (List.mem_of_getElem? e2)
      have nl : noLs es = true := rights_noL ok.rights er (List.mem_of_getElem? e2)
      cases hd2 with
      | @lst a2 zs _ h1 h2 =>
      exact ⟨a2, zs, rfl, .inl (s.seq h1), fun l nlf => k l _ (same_new nlf) nlf ⟨zs, es, upd_same, e2, L2.DpAll.mono (s.trans (same_new nlf)) h2, nl⟩⟩
    intro ls H1 s1 eX lls nd fr hls
    have dR : Dp K H1 (.ref X) b.rights := by
      rw [er]
      refine .lst (SqL.of eX) (dpAll_of (by rw [List.length_map, lls]; exact lr) fun i x d ex ed => ?_)
      rw [List.getElem?_map] at ex
      obtain ⟨l, hl, rfl⟩ := Option.map_eq_some_iff.mp ex
      obtain ⟨zs, es, h1, h2, h3, _⟩ := hls i l hl
      rw [ed] at h2
      cases h2
      exact .lst (SqL.of h1) h3
    have e1 := s1 _ _ e
    walk_at "st"
    refine q_getD e1 (by rfl) ?_
    walk_at "st"
    refine q_makeK ?_
    walk_at "st"
    refine q_getD e1 (by rfl) ?_
    walk_at "st"
    refine ⟨a0, z0, rfl, .inl ((s1).seq h0), fun l0 n0 => ?_⟩
    have s2 := same_new (o := .lst z0) n0
    have c0 : Dp K (upd H1 l0 (.lst z0)) (.ref l0) (.list tds) := .lst (SqL.of upd_same) (L2.DpAll.mono ((s1).trans s2) g0)
    generalize upd H1 l0 (.lst z0) = H2 at *
    have e2 := s2 _ _ e1
    walk_at "st"
    refine q_getD e2 (by rfl) ?_
    walk_at "st"
    refine ⟨a1, z1, rfl, .inl ((s1.trans s2).seq h1), fun l1 n1 => ?_⟩
    have s3 := same_new (o := .lst z1) n1
    have c1 : Dp K (upd H2 l1 (.lst z1)) (.ref l1) (.list pds) := .lst (SqL.of upd_same) (L2.DpAll.mono ((s1.trans s2).trans s3) g1)
    generalize upd H2 l1 (.lst z1) = H3 at *
    have e3 := s3 _ _ e2
    walk_at "st"
    refine q_getD e3 (by rfl) ?_
    walk_at "st"
    refine ⟨a2, z2, rfl, .inl (((s1.trans s2).trans s3).seq h2), fun l2 n2 => ?_⟩
    have s4 := same_new (o := .lst z2) n2
    have c2 : Dp K (upd H3 l2 (.lst z2)) (.ref l2) (.list qds) := .lst (SqL.of upd_same) (L2.DpAll.mono (((s1.trans s2).trans s3).trans s4) g2)
    generalize upd H3 l2 (.lst z2) = H4 at *
    have e4 := s4 _ _ e3
    walk_at "st"
    refine q_getD e4 (by rfl) ?_
    walk_at "st"
    refine q_getD e4 (by rfl) ?_
    walk_at "st"
    refine q_getD e4 (by rfl) ?_
    walk_at "st"
    refine q_getD e4 (by rfl) ?_
    walk_at "st"
    refine ⟨a7, z7, rfl, .inl ((((s1.trans s2).trans s3).trans s4).seq h7), fun l7 n7 => ?_⟩
    have s5 := same_new (o := .lst z7) n7
    have c7 : Dp K (upd H4 l7 (.lst z7)) (.ref l7) (.list lds) := .lst (SqL.of upd_same) (L2.DpAll.mono ((((s1.trans s2).trans s3).trans s4).trans s5) g7)
    generalize upd H4 l7 (.lst z7) = H5 at *
    have e5 := s5 _ _ e4
    have sA := (((s1.trans s2).trans s3).trans s4).trans s5
    walk_at "st"
    refine q_getD e5 (by rfl) ?_
    walk_at "st"
    refine q_getD e5 (by rfl) ?_
    have ff := sA.seq fs1
    walk_at "st"
    refine q_ixL ff (i := 0) rfl ?_
    walk_at "st"
    refine q_ixL ff (i := 1) rfl ?_
    walk_at "st"
    refine q_ixL ff (i := 2) rfl ?_
    walk_at "st"
    refine q_ixL ff (i := 3) rfl ?_
    walk_at "st"
    refine ⟨rfl, rfl, fun x dx nx ndx ne => ?_⟩
    have m2 : Same H5 (upd (upd H5 dx (.own x)) x (.ins C dx [])) := (same_new ndx).trans (same_new (by rw [upd_ne (Ne.symm ne)]; exact nx))
    have mA := sA.trans m2
    have s35 := (s3.trans s4).trans s5
    refine ⟨x, dx, .ref l0, .ref l1, .ref l2, x3, x4, x5, .ref X, .ref l7, x8, x9, x10, y0, y1, y2, y3, b, rfl, upd_same, ok, by rw [et]; exact L2.Dp.mono (s35.trans m2) c0, by rw [ep]; exact L2.Dp.mono ((s4.trans s5).trans m2) c1, by rw [eq]; exact L2.Dp.mono (s5.trans m2) c2, L2.Dp.mono mA d3, L2.Dp.mono mA d4, L2.Dp.mono mA d5, L2.Dp.mono ((s2.trans s35).trans m2) dR, by rw [el]; exact L2.Dp.mono m2 c7, L2.Dp.mono mA d8, L2.Dp.mono mA d9, L2.Dp.mono mA d10, L2.Dp.mono mA f0, L2.Dp.mono mA f1, L2.Dp.mono mA f2, L2.Dp.mono mA f3, fun H' bt pa => ⟨rfl, q x H' (fun y o hy => bt _ _ (mA _ _ hy) (ne_of_none (sA _ _ hy) nx)) (sA.free nx) pa⟩⟩))) only [↓Hk.hold_s]
end
end T
namespace T
section
variable {P : Program} {w : World} {K : PySem.W.Frag} {mg : Str → Option Value} {base : Heap} {C CR CK CM KE NT NTs : Addr}
/-- what a moment tells of a task, one way or another -/
def askD (a0 a1 : PyData) (row : List PyData) (a3 : PyData) : Nat → PyData
  | 0 => a0
  | 1 => a1
  | 2 => .list row
  | _ => a3
structure AskOk (D : KD) (t : Nat) (a0 a1 : PyData) (row : List PyData) (a3 : PyData) : Prop where
  s : ∃ l, D .statuses = .tuple l ∧ l[t]? = some a0
  a : ∃ l, D .answers = .tuple l ∧ l[t]? = some a1
  r : ∃ l, D .owned = .tuple l ∧ l[t]? = some (.tuple row)
  f : ∃ l, D .taken = .tuple l ∧ l[t]? = some a3
def spAsked (K : PySem.W.Frag) (C CR CM : Addr) : Sp := fun vs H Q _ => ∃ (m p : Addr) (b : BD) (D : KD) (t wh : Nat) (a0 a1 : PyData) (row : List PyData) (a3 : PyData), vs = [.ref m, .int wh, .int t] ∧ wh < 4 ∧ MAt K C CR CM H m p b D ∧ t < (dl b.tasks).length ∧ AskOk D t a0 a1 row a3 ∧ ∀ v H', Same H H' → Dp K H' v (askD a0 a1 row a3 wh) → (wh = 2 → ∃ l, v = .ref l ∧ H l = none) → Q v H'
theorem ok_law_asked (B : Bl mg) (m_status : MCal P w K mg base 5 CM "status" ["self", "task"] (spOfStatus K C CR CM)) (m_answer : MCal P w K mg base 5 CM "answer" ["self", "task"] (spOfAnswer K C CR CM)) (m_rights : MCal P w K mg base 5 CM "rights" ["self", "task"] (spMRights K C CR CM)) (m_held : MCal P w K mg base 5 CM "held" ["self", "task"] (spOfHeld K C CR CM))
    (cc : DefAt K mg "_law_asked" s__law_asked ["_law_moment", "_law_which", "_law_task"]) : Cal P w K mg base 6 "_law_asked" ["_law_moment", "_law_which", "_law_task"] (spAsked K C CR CM) := by
 refine Hk.hold ?_
 simp (disch := with_unfolding_all (
 exact Hk.disch (cc.cal fun f fd F => by
  refine F.ok sc__law_asked (fun vs H Q E h => ?_) (fun cdv A outer s H vs Q E hr h => ?_)
  · obtain ⟨m, p, b, D, t, wh, a0, a1, row, a3, rfl, _⟩ := h; rfl
  · obtain ⟨m, p, b, D, t, wh, a0, a1, row, a3, rfl, lw, hm, lt, ⟨⟨l0, e0, g0⟩, ⟨l1, e1, g1⟩, ⟨l2, e2, g2⟩, ⟨l3, e3, g3⟩⟩, q⟩ := h
    refine ⟨_, (pss_cons (ps_if (pt_cmpR op_eq (pv 1) pe_int (nomark _)) (pss_one (ps_ret (pe_mcal m_status (hr.mono (by omega)) (pv 0) (pa_cons (pv 2) pa_nil)))) pss_nil)
      (pss_cons (ps_if (pt_cmpR op_eq (pv 1) pe_int (nomark _)) (pss_one (ps_ret (pe_mcal m_answer (hr.mono (by omega)) (pv 0) (pa_cons (pv 2) pa_nil)))) pss_nil)
      (pss_cons (ps_if (pt_cmpR op_eq (pv 1) pe_int (nomark _)) (pss_one (ps_ret (pe_mcal m_rights (hr.mono (by omega)) (pv 0) (pa_cons (pv 2) pa_nil)))) pss_nil)
      (pss_one (ps_ret (pe_mcal m_held (hr.mono (by omega)) (pv 0) (pa_cons (pv 2) pa_nil))))))), ?_⟩
    walk_at "st0"
    rcases (show wh = 0 ∨ wh = 1 ∨ wh = 2 ∨ wh = 3 by omega) with rfl | rfl | rfl | rfl
    · refine q_eqI ?_
      refine ⟨_, rfl, ?_⟩
      refine iteT' rfl ?_
      walk_at "st"
      refine hm.meth (by decide +kernel) ?_
      walk_at "st"
      exact ⟨m, p, b, D, t, l0, a0, rfl, hm, lt, e0, g0, fun v dv => q v _ (Same.refl _) dv fun z => by cases z⟩
    · refine q_eqI ?_
      refine ⟨_, rfl, ?_⟩
      refine iteF' rfl ?_
      walk_at "st"
      refine q_eqI ?_
      refine ⟨_, rfl, ?_⟩
      refine iteT' rfl ?_
      walk_at "st"
      refine hm.meth (by decide +kernel) ?_
      walk_at "st"
      exact ⟨m, p, b, D, t, l1, a1, rfl, hm, lt, e1, g1, fun v dv => q v _ (Same.refl _) dv fun z => by cases z⟩
    · refine q_eqI ?_
      refine ⟨_, rfl, ?_⟩
      refine iteF' rfl ?_
      walk_at "st"
      refine q_eqI ?_
      refine ⟨_, rfl, ?_⟩
      refine iteF' rfl ?_
      walk_at "st"
      refine q_eqI ?_
      refine ⟨_, rfl, ?_⟩
      refine iteT' rfl ?_
      walk_at "st"
      refine hm.meth (by decide +kernel) ?_
      walk_at "st"
      exact ⟨m, p, b, D, t, l2, row, rfl, hm, lt, e2, g2, fun l ys nl dy => q _ _ (same_new nl) (.lst (SqL.of upd_same) (L2.DpAll.mono (same_new nl) dy)) fun _ => ⟨l, rfl, nl⟩⟩
    · refine q_eqI ?_
      refine ⟨_, rfl, ?_⟩
      refine iteF' rfl ?_
      walk_at "st"
      refine q_eqI ?_
      refine ⟨_, rfl, ?_⟩
      refine iteF' rfl ?_
      walk_at "st"
      refine q_eqI ?_
      refine ⟨_, rfl, ?_⟩
      refine iteF' rfl ?_
      walk_at "st"
      refine hm.meth (by decide +kernel) ?_
      walk_at "st"
      exact ⟨m, p, b, D, t, l3, a3, rfl, hm, lt, e3, g3, fun v dv => q v _ (Same.refl _) dv fun z => by cases z⟩))) only [↓Hk.hold_s]
def spListsOf (K : PySem.W.Frag) (C CR CM : Addr) : Sp := fun vs H Q _ => ∃ (m p : Addr) (b : BD) (D : KD) (ps : List PyData) (nq : Nat) (ks ls : List PyData), vs = [.ref m] ∧ MAt K C CR CM H m p b D ∧ D .values_now = .tuple ps ∧ D .queues = .tuple (List.replicate nq (.tuple [])) ∧ nq ≤ 100 ∧ D .lock_rows = .tuple ks ∧ D .cached = .tuple ls ∧ ps.length ≤ 100 ∧ ks.length ≤ 100 ∧ ls.length ≤ 100 ∧
  ∀ (L a0 a1 a2 a3 : Addr) H', Same H H' → H L = none → H a0 = none → H a1 = none → H a2 = none → H a3 = none → H' L = some (.lst [.ref a0, .ref a1, .ref a2, .ref a3]) → [L, a0, a1, a2, a3].Nodup → (∃ xs, H' a0 = some (.lst xs) ∧ xs.length ≤ 100) → (∃ xs, H' a1 = some (.lst xs) ∧ xs.length ≤ 100) → (∃ xs, H' a2 = some (.lst xs) ∧ xs.length ≤ 100) → (∃ xs, H' a3 = some (.lst xs) ∧ xs.length ≤ 100) → Dp K H' (.ref L) (.list [.list ps, .list (List.replicate nq (.list [])), .list ks, .list ls]) → Q (.ref L) H'
theorem ok_law_lists_of (B : Bl mg) (m_pages : MCal P w K mg base 1 CM "pages" ["self"] (spNewPages K C CR CM)) (m_ports : MCal P w K mg base 1 CM "ports" ["self"] (spPorts K C CR CM)) (m_locks : MCal P w K mg base 1 CM "locks" ["self"] (spNewLocks K C CR CM)) (m_lines : MCal P w K mg base 1 CM "lines" ["self"] (spNewLines K C CR CM))
    (cc : DefAt K mg "_law_lists_of" s__law_lists_of ["_law_moment"]) : Cal P w K mg base 2 "_law_lists_of" ["_law_moment"] (spListsOf K C CR CM) := by
 refine Hk.hold ?_
 simp (disch := with_unfolding_all (
 exact Hk.disch (cc.cal fun f fd F => by
  refine F.ok sc__law_lists_of (fun vs H Q E h => ?_) (fun cdv A outer s H vs Q E hr h => ?_)
  · obtain ⟨m, p, b, D, ps, nq, ks, ls, rfl, _⟩ := h; rfl
  · obtain ⟨m, p, b, D, ps, nq, ks, ls, rfl, hm, ep, eq, nq100, ek, el, lp100, lk100, ll100, q⟩ := h
    refine ⟨_, (pss_one (ps_ret (pe_lst (pa_cons (pe_mcal0 m_pages (hr.mono (by omega)) (pv 0)) (pa_cons (pe_mcal0 m_ports (hr.mono (by omega)) (pv 0)) (pa_cons (pe_mcal0 m_locks (hr.mono (by omega)) (pv 0)) (pa_cons (pe_mcal0 m_lines (hr.mono (by omega)) (pv 0)) pa_nil))))))), ?_⟩
    walk_at "st0"
    refine hm.meth (by decide +kernel) ?_
    walk_at "st"
    refine ⟨m, p, b, D, ps, rfl, hm, ep, fun a0 ys0 n0 dy0 => ?_⟩
    have s0 := same_new (o := .lst ys0) n0
    have e0 : upd H a0 (.lst ys0) a0 = some (.lst ys0) := upd_same
    replace dy0 := L2.DpAll.mono s0 dy0
    generalize upd H a0 (.lst ys0) = H1 at *
    have hm1 := hm.mono s0
    walk_at "st"
    refine hm1.meth (by decide +kernel) ?_
    walk_at "st"
    refine ⟨m, p, b, D, List.replicate nq [], rfl, hm1, by rw [eq, List.map_replicate], by rw [List.length_replicate]; exact nq100, fun a1 qs zs H2 s1 n1 e1 lq nd fr hq hz => ?_⟩
    rw [List.length_replicate] at lq
    have hm2 := hm1.mono s1
    have dQ : Dp K H2 (.ref a1) (.list (List.replicate nq (.list []))) := by
      refine .lst (SqL.of e1) (dpAll_of (by rw [List.length_map, List.length_replicate, lq]) fun i x d ex ed => ?_)
      rw [List.getElem?_map] at ex
      obtain ⟨l, hl, rfl⟩ := Option.map_eq_some_iff.mp ex
      have li := (List.getElem?_eq_some_iff.mp hl).1
      rw [List.getElem?_replicate, if_pos (by omega)] at ed
      cases ed
      refine .lst (SqL.of (hq i l hl)) ?_
      have z := hz i [] (by rw [List.getElem?_replicate, if_pos (by omega)])
      cases zz : zs i with
      | nil => exact .nil
      | cons y r => rw [zz] at z; cases z
    walk_at "st"
    refine hm2.meth (by decide +kernel) ?_
    walk_at "st"
    refine ⟨m, p, b, D, ks, rfl, hm2, ek, fun a2 ys2 n2 dy2 => ?_⟩
    have s2 := same_new (o := .lst ys2) n2
    have e2 : upd H2 a2 (.lst ys2) a2 = some (.lst ys2) := upd_same
    replace dy2 := L2.DpAll.mono s2 dy2
    generalize upd H2 a2 (.lst ys2) = H3 at *
    have hm3 := hm2.mono s2
    walk_at "st"
    refine hm3.meth (by decide +kernel) ?_
    walk_at "st"
    refine ⟨m, p, b, D, ls, rfl, hm3, el, fun a3 ys3 n3 dy3 => ?_⟩
    have s3 := same_new (o := .lst ys3) n3
    have e3 : upd H3 a3 (.lst ys3) a3 = some (.lst ys3) := upd_same
    replace dy3 := L2.DpAll.mono s3 dy3
    generalize upd H3 a3 (.lst ys3) = H4 at *
    walk_at "st"
    refine ⟨by show 4 ≤ sizeLine; decide, fun L nL => ?_⟩
    have s4 := same_new (o := .lst [V.ref a0, V.ref a1, V.ref a2, V.ref a3]) nL
    have s14 := s1.trans (s2.trans (s3.trans s4))
    have s24 := s2.trans (s3.trans s4)
    have s34 := s3.trans s4
    have e0z := s14 _ _ e0
    have e1z := s24 _ _ e1
    have e2z := s34 _ _ e2
    have e3z := s4 _ _ e3
    have k01 : a0 ≠ a1 := ne_of_none e0 n1
    have k02 : a0 ≠ a2 := ne_of_none (s1 _ _ e0) n2
    have k03 : a0 ≠ a3 := ne_of_none (s2 _ _ (s1 _ _ e0)) n3
    have k0L : a0 ≠ L := ne_of_none (s3 _ _ (s2 _ _ (s1 _ _ e0))) nL
    have k12 : a1 ≠ a2 := ne_of_none e1 n2
    have k13 : a1 ≠ a3 := ne_of_none (s2 _ _ e1) n3
    have k1L : a1 ≠ L := ne_of_none (s3 _ _ (s2 _ _ e1)) nL
    have k23 : a2 ≠ a3 := ne_of_none e2 n3
    have k2L : a2 ≠ L := ne_of_none (s3 _ _ e2) nL
    have k3L : a3 ≠ L := ne_of_none e3 nL
    refine q L a0 a1 a2 a3 _ (s0.trans s14) ((s0.trans (s1.trans (s2.trans s3))).free nL) n0 (s0.free n1) ((s0.trans s1).free n2) ((s0.trans (s1.trans s2)).free n3) upd_same ?_ ⟨_, e0z, by rw [dy0.length]; exact lp100⟩ ⟨_, e1z, by rw [List.length_map, lq]; exact nq100⟩ ⟨_, e2z, by rw [dy2.length]; exact lk100⟩ ⟨_, e3z, by rw [dy3.length]; exact ll100⟩ (.lst (SqL.of upd_same) (.cons (.lst (SqL.of e0z) (L2.DpAll.mono s14 dy0)) (.cons (L2.Dp.mono s24 dQ) (.cons (.lst (SqL.of e2z) (L2.DpAll.mono s34 dy2)) (.cons (.lst (SqL.of e3z) (L2.DpAll.mono s4 dy3)) .nil)))))
    simp only [List.nodup_cons, List.mem_cons, List.not_mem_nil, or_false, not_or, List.nodup_nil, and_true, not_false_eq_true]
    exact ⟨⟨Ne.symm k0L, Ne.symm k1L, Ne.symm k2L, Ne.symm k3L⟩, ⟨k01, k02, k03⟩, ⟨k12, k13⟩, k23⟩))) only [↓Hk.hold_s]
end
end T
namespace T
section
variable {P : Program} {w : World} {K : PySem.W.Frag} {mg : Str → Option Value} {base : Heap} {C CR CK CM KE NT NTs : Addr}
/-- a method called with defaults that fill up, in a try: what it raises is wished for -/
structure MDCalX (P : Program) (w : World) (K : PySem.W.Frag) (mg : Str → Option Value) (base : Heap) (k : Nat) (C : Addr) (m : Str) (ps : List Str) (dvs : List V) (sp : Sp) : Prop where
  cls : Cls K C
  ex : ∃ f fd ds, Meth K C m f ∧ Vals dvs ds ∧ Binds K fd ps ds ∧ FnOk P w K mg base (L2.CX P w) k f fd ps sp
def tMethSD (C : Addr) (m : Str) (sp : Sp) (dvs : List V) (E : L2.St → XK) (ta : TE) (t : TA) : TE := fun σ H Q => ta σ H fun x H1 => ∃ a dx fs, x = .ref a ∧ H1 a = some (.ins C dx fs) ∧ fs.lookup m = none ∧ t σ H1 fun vs H2 => sp (x :: (vs ++ dvs)) H2 Q (E σ)
theorem pe_mdcalX {X : Cx} {k : Nat} {m : Str} {ps : List Str} {dvs : List V} {sp : Sp} {W : WX} {pos apos : Pos} {o e : Expr} {es : List Expr} {ta : TE} {t : TA} {C : Addr} {pl : Sem Bool} (c : MDCalX X.prog X.w X.K X.mg X.base k C m ps dvs sp) (hr : Room k X.A) (tk : Takes X W) (ho : PE X o ta) (ha : PA X (e :: es) t)
    (hst : starEach (e :: es) X.env = (false, eval e X.env) :: starEach es X.env := by rfl) (hpl : (backTo pos (starEach es X.env)).any (·.1) = false := by rfl)
    (ht : eval (.Call (.Attribute o m apos) (e :: es) [] pos) X.env = (do
      let ov ← eval o X.env; standAt apos.atName
      let (f, first) ← holding [ov] (getMethod ov m pl); callWith pos f first (backTo pos (starEach (e :: es) X.env)) (backToKw pos (keywordEach [] X.env))) := by rfl) : PE X (.Call (.Attribute o m apos) (e :: es) [] pos) (tMethSD C m sp dvs (WE W) ta t) := by
  obtain ⟨cl, f, fd, ds, hm, r0, b, F⟩ := c
  refine ⟨fun pins s σ H Q I h => ?_⟩
  refine PySem.W.methodCall_KW (pl := pl) (thn (ho.run pins s σ H _ I h) fun u s1 ⟨x, H1, I1, rx, a, dx, fs, ex, ea, l, q⟩ => ?_) ht
  subst ex
  obtain rfl : u = Value.ref a := rx
  refine getmeth_ok I1 ea cl hm l ?_
  refine PySem.W.callWith_K (first := [.ref a]) (h₀ := X.base) I.ok.mod.kin hm.kp (thn (ha.run pos pins s1 σ H1 _ I1 q) fun us s2 ⟨vs, H2, I2, r, q2⟩ => ⟨I2.kIn, ?_⟩) hst hpl
  exact run_fnSD (us := .ref a :: us) (vs := .ref a :: vs) F hr b r0 (passAt tk σ) I2 (.cons rfl r) q2
theorem q_methSD {ta : TE} {t : TA} {C : Addr} {m : Str} {sp : Sp} {dvs : List V} {E : L2.St → XK} {σ : L2.St} {H : Hp} {Q : VK} (h : ta σ H fun x H1 => ∃ a dx fs, x = .ref a ∧ H1 a = some (.ins C dx fs) ∧ fs.lookup m = none ∧ t σ H1 fun vs H2 => sp (x :: (vs ++ dvs)) H2 Q (E σ)) : tMethSD C m sp dvs E ta t σ H Q := h
theorem q_isX {H : Hp} {Q : VK} {p : Addr × Obj} {D : Addr} {d : Option Addr} {fs : List (Str × V)} {c : V} {cv : Value} {b : Bool} (EA : ExA K p D d) (xd : XdAt H d fs) (hc : ∀ u, RelV c u → u = cv) (k : PySem.W.kitOne K (.ref D) cv = some b) (q : Q (.bl b) H) : rIsX K p [.ref p.1, c] H Q :=
  ⟨D, d, fs, c, cv, b, EA, xd, rfl, hc, k, q⟩
theorem pss_all {X : Cx} {st : List Stmt} {t : Obj → TS} {cls : Value} {d : Option Addr} {oe : Obj} (hz : Zc cls d oe) (hf : ∃ vs, oe.data = .fields vs) (h : PSs X st (t oe)) : PSs X st (fun D σ H => ∀ oe, Zc cls d oe → (∃ vs, oe.data = .fields vs) → t oe D σ H) :=
  ⟨fun pins s σ H D I q => h.run pins s σ H D I (q oe hz hf)⟩
theorem rEq_st (a b : Str) (H : Hp) {Q : VK} (q : Q (.bl (decide (a = b))) H) : rEq (.str a) (.str b) H Q := by
  refine ⟨rfl, ?_⟩
  show Q (.bl (decide (V.str a = V.str b))) H
  have e : decide (V.str a = V.str b) = decide (a = b) := decide_eq_decide.mpr ⟨fun h => V.str.inj h, fun h => by rw [h]⟩
  rw [e]
  exact q
/-- the errors of the law -/
structure XRs (K : PySem.W.Frag) (mg : Str → Option Value) (KE NT NTs : Addr) : Prop where
  E : ECls K mg KE "NoTask" NT
  E2 : ECls K mg KE "NoTasks" NTs
  ne : NT ≠ NTs
  ne2 : NTs ≠ KE
  xn : L2.ExcC K NT
  kg : mg "KernelError" = some (.ref KE)
  ks : PySem.W.subIn K (.ref KE) (.type "BaseException") = some true
  kd : PySem.W.hasDictIn K KE = true
  kt : PySem.W.typeIn K (.ref KE) = some (.type "type")
  ve : mg "ValueError" = none
theorem MCalX.md {k : Nat} {m : Str} {ps : List Str} {sp : Sp} (c : MCalX P w K mg base k C m ps sp) : MDCalX P w K mg base k C m ps [] sp := by
  obtain ⟨cls, f, fd, M, b, F⟩ := c
  exact ⟨cls, f, fd, [], M, .nil, b, F⟩
def spAskLX (K : PySem.W.Frag) (C CR CM NT : Addr) : Sp := fun vs H _ E => ∃ (m p : Addr) (b : BD) (D : KD) (wh : Nat) (x : V), vs = [.ref m, .int wh, x] ∧ wh < 4 ∧ MAt K C CR CM H m p b D ∧ BetV K H x 0 (((dl b.tasks).length : Int) - 1) false ∧ ∀ H', Same H H' → E (.ref NT) none H'
theorem ok_law_askedX (B : Bl mg) (m_statusX : MDCalX P w K mg base 5 CM "status" ["self", "task"] [] (spAskX K C CR CM NT)) (m_answerX : MDCalX P w K mg base 5 CM "answer" ["self", "task"] [] (spAskX K C CR CM NT)) (m_rightsX : MDCalX P w K mg base 5 CM "rights" ["self", "task"] [] (spAskX K C CR CM NT)) (m_heldX : MDCalX P w K mg base 5 CM "held" ["self", "task"] [] (spAskX K C CR CM NT))
    (cc : DefAt K mg "_law_asked" s__law_asked ["_law_moment", "_law_which", "_law_task"]) : CalX P w K mg base 6 "_law_asked" ["_law_moment", "_law_which", "_law_task"] (spAskLX K C CR CM NT) := by
 refine Hk.hold ?_
 simp (disch := with_unfolding_all (
 exact Hk.disch (cc.calX fun f fd F => by
  refine F.okX sc__law_asked (fun vs H Q E h => ?_) (fun cdv A outer s H vs Q E hr h => ?_)
  · obtain ⟨m, p, b, D, wh, x, rfl, _⟩ := h; rfl
  · obtain ⟨m, p, b, D, wh, x, rfl, lw, hm, hx, q⟩ := h
    refine ⟨_, (pss_cons (ps_if (pt_cmpR op_eq (pv 1) pe_int (nomark _)) (pss_one (ps_ret (by exact (pe_mdcalX m_statusX hr (takes_of rfl rfl rfl rfl) (pv 0) (by exact (pa_cons (pv 2) pa_nil)))))) pss_nil)
      (pss_cons (ps_if (pt_cmpR op_eq (pv 1) pe_int (nomark _)) (pss_one (ps_ret (by exact (pe_mdcalX m_answerX hr (takes_of rfl rfl rfl rfl) (pv 0) (by exact (pa_cons (pv 2) pa_nil)))))) pss_nil)
      (pss_cons (ps_if (pt_cmpR op_eq (pv 1) pe_int (nomark _)) (pss_one (ps_ret (by exact (pe_mdcalX m_rightsX hr (takes_of rfl rfl rfl rfl) (pv 0) (by exact (pa_cons (pv 2) pa_nil)))))) pss_nil)
      (pss_one (ps_ret (by exact (pe_mdcalX m_heldX hr (takes_of rfl rfl rfl rfl) (pv 0) (by exact (pa_cons (pv 2) pa_nil))))))))), ?_⟩
    walk_at "st0"
    rcases (show wh = 0 ∨ wh = 1 ∨ wh = 2 ∨ wh = 3 by omega) with rfl | rfl | rfl | rfl
    · refine q_eqI ?_
      refine ⟨_, rfl, ?_⟩
      refine iteT' rfl ?_
      walk_at "st"
      refine q_methSD ?_
      walk_at "st"
      refine hm.meth (by decide +kernel) ?_
      walk_at "st"
      exact ⟨m, p, b, D, x, rfl, hm, hx, q⟩
    · refine q_eqI ?_
      refine ⟨_, rfl, ?_⟩
      refine iteF' rfl ?_
      walk_at "st"
      refine q_eqI ?_
      refine ⟨_, rfl, ?_⟩
      refine iteT' rfl ?_
      walk_at "st"
      refine q_methSD ?_
      walk_at "st"
      refine hm.meth (by decide +kernel) ?_
      walk_at "st"
      exact ⟨m, p, b, D, x, rfl, hm, hx, q⟩
    · refine q_eqI ?_
      refine ⟨_, rfl, ?_⟩
      refine iteF' rfl ?_
      walk_at "st"
      refine q_eqI ?_
      refine ⟨_, rfl, ?_⟩
      refine iteF' rfl ?_
      walk_at "st"
      refine q_eqI ?_
      refine ⟨_, rfl, ?_⟩
      refine iteT' rfl ?_
      walk_at "st"
      refine q_methSD ?_
      walk_at "st"
      refine hm.meth (by decide +kernel) ?_
      walk_at "st"
      exact ⟨m, p, b, D, x, rfl, hm, hx, q⟩
    · refine q_eqI ?_
      refine ⟨_, rfl, ?_⟩
      refine iteF' rfl ?_
      walk_at "st"
      refine q_eqI ?_
      refine ⟨_, rfl, ?_⟩
      refine iteF' rfl ?_
      walk_at "st"
      refine q_eqI ?_
      refine ⟨_, rfl, ?_⟩
      refine iteF' rfl ?_
      walk_at "st"
      refine q_methSD ?_
      walk_at "st"
      refine hm.meth (by decide +kernel) ?_
      walk_at "st"
      exact ⟨m, p, b, D, x, rfl, hm, hx, q⟩))) only [↓Hk.hold_s]
def tSuiteN (K : PySem.W.Frag) (NTs : Addr) (p : Addr × Obj) : TS := tAsg (tAndV (tCB (rIsX K p) (tCons (tVar 5) (tCons (tC (.ty "ValueError")) tNil))) (tNotV (tCB (rIsX K p) (tCons (tVar 5) (tCons (tC (.ref NTs)) tNil))))) (gName 4)
theorem hb_VE : bootBuiltins "ValueError" = some (.type "ValueError") := PyProof.Rows.Boot.«ValueError»
def spLRefused (K : PySem.W.Frag) (C CR CM : Addr) : Sp := fun vs H Q _ => ∃ (m p : Addr) (b : BD) (D : KD) (wh : Nat) (x : V), vs = [.ref m, .int wh, x] ∧ wh < 4 ∧ MAt K C CR CM H m p b D ∧ BetV K H x 0 (((dl b.tasks).length : Int) - 1) false ∧ ∀ H', Same H H' → Q (.bl true) H'
theorem tyX_mono {H H' : Hp} {x : V} {t : Value} (s : Same H H') (h : TyX K H x t) : TyX K H' x t := by
 refine Hk.hold ?_
 simp (disch := with_unfolding_all (
 exact Hk.disch (by
  cases h with
  | base b =>
    refine .base ?_
    cases b with
    | non => exact .non
    | bl x => exact .bl x
    | int i => exact .int i
    | str x => exact .str x
    | flt x => exact .flt x
    | lst e => exact .lst (s _ _ e)
    | frz e => exact .frz (s _ _ e)
    | tup e => exact .tup (s _ _ e)
    | dK e => exact .dK (s _ _ e)
    | dT e => exact .dT (s _ _ e)
    | ins e cl ha hn ht hm => exact .ins (s _ _ e) cl ha hn ht hm
  | byt b => exact .byt b
  | set e => exact .set (s _ _ e)
  | kList e c => exact .kList e c
  | kTuple e c => exact .kTuple e c
  | kDict e c => exact .kDict e c
  | fTuple e => exact .fTuple (s _ _ e)
  | fDict e => exact .fDict (s _ _ e)))) only [↓Hk.hold_s]
theorem BetV.mono {H H' : Hp} {x : V} {lo hi : Int} {r : Bool} (h : BetV K H x lo hi r) (s : Same H H') : BetV K H' x lo hi r := by
  rcases h with ⟨d, hd, e⟩ | ⟨⟨t, ty, k⟩, e⟩
  · exact .inl ⟨d, L2.Dp.mono s hd, e⟩
  · exact .inr ⟨⟨t, tyX_mono s ty, k⟩, e⟩
theorem ok_law_refused (B : Bl mg) (X : XRs K mg KE NT NTs) (c_askX : CalX P w K mg base 6 "_law_asked" ["_law_moment", "_law_which", "_law_task"] (spAskLX K C CR CM NT))
    (cc : DefAt K mg "_law_refused" s__law_refused ["_law_moment", "_law_which", "_law_task"]) : Cal P w K mg base 7 "_law_refused" ["_law_moment", "_law_which", "_law_task"] (spLRefused K C CR CM) := by
 refine Hk.hold ?_
 simp (disch := with_unfolding_all (
 exact Hk.disch (cc.cal fun f fd F => by
  have exm : PySem.W.exmOne K (.ref NT) (.ref NT) = some true := by
    refine PySem.W.exm_ref X.E.exC X.E.hd X.E.ty ?_
    rw [X.E.sub]
    simp
  have exk := X.E.exm X.ks X.kd X.kt
  refine F.ok sc__law_refused (fun vs H Q E h => ?_) (fun cdv A outer s H vs Q E hr h => ?_)
  · obtain ⟨m, p, b, D, wh, x, rfl, _⟩ := h; rfl
  · obtain ⟨m, p, b, D, wh, x, rfl, lw, hm, hx, q⟩ := h
    refine ⟨_, pss_cons (ps_set (i := 3) sc__law_refused.nd rfl (Or.inl rfl) pe_str)
      (pss_cons (ps_try_many (tb := fun W => tDrop (tCallS (spAskLX K C CR CM NT) (WE W) (tCons (tVar 0) (tCons (tVar 1) (tCons (tVar 2) tNil))))) (Wout := fun _ _ _ _ => False) (l := [(.ref NT, fun _ _ _ => tAsg (tC (.str "task")) (gName 3)), (.ref KE, fun _ _ _ => tAsg (tC (.str "other")) (gName 3))]) rfl rfl takes0
          (fun W pn xe tk _ => pss_one (ps_expr (by exact (pe_calX c_askX hr rfl tk (by exact (pa_cons (pv 0) (pa_cons (pv 1) (pa_cons (pv 2) pa_nil))))))))
          (.cons ⟨rfl, by decide, Or.inl X.E.g⟩ (fun _ _ _ _ _ _ _ => pss_one (ps_set (i := 3) sc__law_refused.nd rfl (Or.inl rfl) pe_str)) (.cons ⟨rfl, by decide, Or.inl X.kg⟩ (fun _ _ _ _ _ _ _ => pss_one (ps_set (i := 3) sc__law_refused.nd rfl (Or.inl rfl) pe_str)) .nil)))
      (pss_cons (ps_set (i := 4) sc__law_refused.nd rfl (Or.inl rfl) pe_bl)
      (pss_cons (ps_try_as (i := 5) (tb := fun W => tDrop (tCallS (spAskLX K C CR CM NT) (WE W) (tCons (tVar 0) (tCons (tVar 1) (tCons (tVar 2) tNil))))) (ts := fun a cls d => fun D σ H => ∀ oe, Zc cls d oe → (∃ vs, oe.data = .fields vs) → tSuiteN K NTs (a, oe) D σ H) (Wout := fun _ _ _ _ => False) rfl rfl sc__law_refused.nd rfl rfl ⟨rfl, by decide, Or.inl X.kg⟩ takes0
          (fun W pn xe tk _ => pss_one (ps_expr (by exact (pe_calX c_askX hr rfl tk (by exact (pa_cons (pv 0) (pa_cons (pv 1) (pa_cons (pv 2) pa_nil))))))))
          (fun a oe cls d pn hz hf => pss_all (t := fun oe => tSuiteN K NTs (a, oe)) hz hf (pss_one (ps_set (i := 4) sc__law_refused.nd rfl (Or.inl rfl) (pe_and
            (pe_callB (call_isX (p := (a, oe)) (by exact List.mem_cons_self)) rfl B.isinstance hb_isinstance (pa_cons (pv 5) (pa_cons (pe_bltn (v := .ty "ValueError") rfl X.ve hb_VE rfl) pa_nil)))
            (pe_one (pe_not (pe_callB (call_isX (p := (a, oe)) (by exact List.mem_cons_self)) rfl B.isinstance hb_isinstance (pa_cons (pv 5) (pa_cons (pe_glob (v := .ref NTs) rfl X.E2.g rfl) pa_nil))))))))))
      (pss_one (ps_ret (pe_and (pe_cmpR op_eq (pv 3) pe_str (nomark _)) (pe_one (pv 4)))))))), ?_⟩
    walk_at "st0"
    refine q_callS ?_
    walk_at "st"
    refine ⟨m, p, b, D, wh, x, rfl, lw, hm, hx, fun H1 s1 => ?_⟩
    refine ⟨true, exm, fun _ a na => ?_, fun z => by cases z⟩
    refine q_asg ?_
    refine q_gname ?_
    walk_at "st"
    refine q_callS ?_
    walk_at "st"
    refine ⟨m, p, b, D, wh, x, rfl, lw, hm.mono s1, hx.mono s1, fun H2 s2 => ?_⟩
    refine ⟨true, exk, fun _ a na oe hz hf => ?_, fun z => by cases z⟩
    have EA : ExA K (a, oe) NT none := ⟨hz, hf, X.xn⟩
    show tAsg _ _ _ _ _
    refine q_set ?_
    walk_at "st"
    refine q_isX EA rfl (fun _ r => r) X.E.kitVE ?_
    walk_at "st"
    refine iteT ?_
    walk_at "st"
    have kk : PySem.W.kitOne K (.ref NT) (.ref NTs) = some false := by
      have z := X.E.kit X.E2 X.ne2
      rw [decide_eq_false X.ne] at z
      exact z
    refine q_isX EA rfl (fun _ r => r) kk ?_
    walk_at "st"
    refine rEq_st _ _ _ ?_
    refine ⟨_, rfl, iteT' (decide_eq_true rfl) ?_⟩
    walk_at "st"
    exact q _ (s1.trans s2)))) only [↓Hk.hold_s]
end
end T
namespace T
section
variable {P : Program} {w : World} {K : PySem.W.Frag} {mg : Str → Option Value} {base : Heap} {C CR CK CM KE NT NTs : Addr}
theorem dpBut1 {D : Addr} {H H' : Hp} {acc : List V} {y : V} {d : PyData} (e : H D = some (.lst acc)) (bt : But D H H') (h : Dp K H y d) (n : noL d = true ∨ ∃ row, d = .list row ∧ noLs row = true ∧ y ≠ .ref D) : Dp K H' y d := by
  rcases n with n | ⟨row, rfl, n, ne⟩
  · exact dpKeepL (keepL_of_but e bt) h n
  · cases h with
    | @lst a xs _ hs ha =>
      have na : a ≠ D := fun z => ne (by rw [z])
      refine .lst ?_ (dpAllKeepL (keepL_of_but e bt) ha n)
      rcases hs with (hs | ⟨o, hs⟩) | hs
      · exact .inl (.inl (bt _ _ hs na))
      · exact .inl (.inr ⟨o, bt _ _ hs na⟩)
      · exact .inr hs
theorem depN_leaf {k : Nat} {d : PyData} (h : leaf d) : depN (k + 1) d := .inl h
theorem depN_tup {k : Nat} {ds : List PyData} (l : ds.length ≤ 1000) (a : ∀ e ∈ ds, depN k e) : depN (k + 1) (.tuple ds) := .inr ⟨ds, .inr rfl, l, a⟩
theorem depN_lst {k : Nat} {ds : List PyData} (l : ds.length ≤ 1000) (a : ∀ e ∈ ds, depN k e) : depN (k + 1) (.list ds) := .inr ⟨ds, .inl rfl, l, a⟩
theorem depN_rep {k n : Nat} {d : PyData} (l : n ≤ 1000) (h : depN k d) : ∀ e ∈ List.replicate n d, depN k e := fun e he => by rw [(List.mem_replicate.mp he).2]; exact h
theorem depN_lk {k : Nat} : depN (k + 2) (.tuple [.none, .tuple []]) := depN_tup (by simp) fun e he => by
  simp only [List.mem_cons, List.not_mem_nil, or_false] at he
  rcases he with rfl | rfl
  · exact depN_leaf trivial
  · exact depN_tup (by simp) fun e he => by cases he
/-- the numbers of a build -/
structure BN (b : BD) (tds pds qds lds rds : List PyData) (kn : Nat) : Prop where
  t : b.tasks = .list tds
  p : b.pages = .list pds
  q : b.ports = .list qds
  k : b.locks = .int kn
  r : b.rights = .list rds
  t2 : 2 ≤ tds.length
  t4 : tds.length ≤ 4
  p3 : pds.length ≤ 3
  pl : ∀ d ∈ pds, ∃ i, d = .int i
  q2 : qds.length ≤ 2
  k2 : kn ≤ 2
  rl : rds.length = tds.length
  rr : ∀ d ∈ rds, ∃ es, d = .list es ∧ es.length ≤ 8 ∧ ∀ x ∈ es, ∃ z i, x = .tuple [.str z, .int i]
theorem bn_of {b : BD} (ok : BOk b) : ∃ tds pds qds lds rds kn, BN b tds pds qds lds rds kn := by
 refine Hk.hold ?_
 simp (disch := with_unfolding_all (
 exact Hk.disch (by
  obtain ⟨tds, et, t2, t4, tall⟩ := okTasksL ok.tasks
  obtain ⟨pds, ep, lp, hp⟩ := okList ok.pages
  obtain ⟨qds, eq, lq, _⟩ := okList ok.ports
  obtain ⟨kn, ek, k0, k2⟩ := okBetween ok.locks
  obtain ⟨rds, er, rl, rall⟩ := okRightsL ok.rights
  obtain ⟨tds', pds', qds', ln, dn, et', _, _, _, _, ecn, _, _, _⟩ := cOf_forms ok
  have ct : cnt (cOf b) "task" = tds'.length := by rw [ecn]; rfl
  rw [et] at et'
  cases et'
  have orr := ok.rights
  unfold okRights at orr
  rw [Bool.and_eq_true, er] at orr
  refine ⟨tds, pds, qds, [], rds, kn.toNat, et, ep, eq, by rw [ek]; congr 1; omega, er, t2, t4, by omega, fun d hd => ?_, by omega, by omega, by omega, fun d hd => ?_⟩
  · obtain ⟨i, e, _⟩ := hp d hd
    exact ⟨i, e⟩
  · obtain ⟨es, rfl⟩ := rall d hd
    have z := List.all_eq_true.mp orr.2 _ hd
    unfold okRow at z
    rw [Bool.and_eq_true] at z
    obtain ⟨z1, z2⟩ := z
    have z3 := z2
    rw [Bool.and_eq_true] at z3
    simp only [dListOf, Bool.and_eq_true, decide_eq_true_eq] at z1
    exact ⟨es, rfl, by omega, fun x hx => dRight_shape (List.all_eq_true.mp z3.1 x hx)⟩))) only [↓Hk.hold_s]
theorem first_dep {b : BD} {tds pds qds lds rds : List PyData} {kn : Nat} (N : BN b tds pds qds lds rds kn) : depN 5 (shapeOf (firstD b)) := by
 refine Hk.hold ?_
 simp (disch := with_unfolding_all (
 exact Hk.disch (by
  obtain ⟨et, ep, eq, ek, er, t2, t4, p3, pl, q2, k2, rl, rr⟩ := N
  have n4 : (dl b.tasks).length ≤ 4 := by rw [et]; exact t4
  refine depN_tup (k := 4) (by simp) fun d hd => ?_
  simp only [List.mem_cons, List.not_mem_nil, or_false] at hd
  rcases hd with rfl | rfl | rfl | rfl | rfl | rfl | rfl | rfl | rfl | rfl
  · exact depN_tup (k := 3) (by rw [List.length_replicate]; omega) (depN_rep (by omega) (depN_tup (k := 2) (by simp) fun e he => by simp only [List.mem_cons, List.not_mem_nil, or_false] at he; subst he; exact depN_leaf trivial))
  · exact depN_tup (k := 3) (by rw [List.length_replicate]; omega) (depN_rep (by omega) (depN_leaf trivial))
  · show depN 4 (rowsT b.rights)
    rw [er]
    refine depN_tup (k := 3) (by rw [List.length_map]; omega) fun e he => ?_
    obtain ⟨d, hd, rfl⟩ := List.mem_map.mp he
    obtain ⟨es, rfl, l8, hx⟩ := rr d hd
    refine depN_tup (k := 2) (by omega) fun x hxm => ?_
    obtain ⟨z, i, rfl⟩ := hx x hxm
    exact depN_tup (k := 1) (by simp) fun y hy => by
      simp only [List.mem_cons, List.not_mem_nil, or_false] at hy
      rcases hy with rfl | rfl <;> exact depN_leaf trivial
  · exact depN_tup (k := 3) (by rw [List.length_replicate]; omega) (depN_rep (by omega) (depN_leaf trivial))
  · show depN 4 (tupOf b.pages)
    rw [ep]
    refine depN_tup (k := 3) (by omega) fun e he => ?_
    obtain ⟨i, rfl⟩ := pl e he
    exact depN_leaf trivial
  · show depN 4 (.tuple ((dl b.ports).map fun _ => .tuple []))
    rw [eq]
    refine depN_tup (k := 3) (by rw [List.length_map]; show qds.length ≤ 1000; omega) fun e he => ?_
    obtain ⟨_, _, rfl⟩ := List.mem_map.mp he
    exact depN_tup (k := 2) (by simp) fun e he => by cases he
  · show depN 4 (.tuple (List.replicate (dInt0 b.locks).toNat (.tuple [.none, .tuple []])))
    rw [ek]
    exact depN_tup (k := 3) (by rw [List.length_replicate]; show ((kn : Int)).toNat ≤ 1000; omega) (depN_rep (by show ((kn : Int)).toNat ≤ 1000; omega) depN_lk)
  · exact depN_tup (k := 3) (by simp) fun y hy => by
      simp only [List.mem_cons, List.not_mem_nil, or_false] at hy
      rcases hy with rfl | rfl <;> exact depN_leaf trivial
  · exact depN_leaf trivial
  · exact depN_tup (k := 3) (by simp) fun y hy => by
      simp only [List.mem_cons, List.not_mem_nil, or_false] at hy
      rcases hy with rfl | rfl | rfl | rfl <;> exact depN_leaf trivial))) only [↓Hk.hold_s]
def spTells (K : PySem.W.Frag) (C CR CM : Addr) : Sp := fun vs H Q _ => ∃ (m p D : Addr) (b b0 : BD), vs = [.ref m, .ref D] ∧ MAt K C CR CM H m p b (firstD b0) ∧ (dl b.tasks).length = (dl b0.tasks).length ∧ LawAt K H D b0 ∧ BOk b0 ∧ ∀ H', Same H H' → Q (.bl true) H'
set_option maxHeartbeats 8000000 in
theorem ok_law_tells (B : Bl mg) (c__law_same : Cal P w K mg base 5 "_law_same" ["_law_told", "_law_due"] (spSameT K 5)) (c__law_lists_of : Cal P w K mg base 2 "_law_lists_of" ["_law_moment"] (spListsOf K C CR CM)) (c__law_asked : Cal P w K mg base 6 "_law_asked" ["_law_moment", "_law_which", "_law_task"] (spAsked K C CR CM))
    (m_shape : MCal P w K mg base 1 CM "shape" ["self"] (spGetM K C CR CM fun b D p H v H' => Dp K H' v (shapeOf D))) (m_head : MCal P w K mg base 1 CM "head" ["self"] (spGetM K C CR CM fun b D p H v H' => Dp K H' v (D .place))) (m_running : MCal P w K mg base 1 CM "running" ["self"] (spGetM K C CR CM fun b D p H v H' => Dp K H' v (runD D)))
    (cc : DefAt K mg "_law_tells" s__law_tells ["_law_moment", "_law_parts_here"]) : Cal P w K mg base 7 "_law_tells" ["_law_moment", "_law_parts_here"] (spTells K C CR CM) := by
 refine Hk.hold ?_
 simp (disch := with_unfolding_all (
 exact Hk.disch (cc.cal fun f fd F => by
  refine F.ok sc__law_tells (fun vs H Q E h => ?_) (fun cdv A outer s H vs Q E hr h => ?_)
  · obtain ⟨m, p, D, b, b0, rfl, _⟩ := h; rfl
  · obtain ⟨m, p, D, b, b0, rfl, hm, eln, hL, ok, q⟩ := h
    have hu := hu_of hr
    refine ⟨_, (pss_cons (ps_set (i := 2) sc__law_tells.nd rfl (Or.inl rfl) (pe_callB call_len_seq rfl B.len hb_len (pa_cons (pe_dget hu (pv 1) pe_str (fun _ _ => rfl)) pa_nil)))
      (pss_cons (ps_set (i := 3) sc__law_tells.nd rfl (Or.inl rfl) (pe_lst (pa_cons (pe_dget hu (pv 1) pe_str (fun _ _ => rfl)) (pa_cons (pe_lc (own := [("_law_size", 7)]) (tt := tYes) rfl sc__law_tells.nd (pi_list (pe_dget hu (pv 1) pe_str (fun _ _ => rfl))) (blkOk_by (N := ["_law_moment", "_law_parts_here", "_law_many", "_law_lists", "_law_task", "_law_told", "_law_shape", "_law_size", "_law_k", "_law_which", "_law_row"]) (sc := defScope s__law_tells) (by decide +kernel)) (fun _ _ _ _ _ => (pg_name (i := 7) sc__law_tells.nd rfl (Or.inl rfl))) (fun _ _ _ _ _ => pts_nil) (fun _ _ _ _ _ => (pe_lst pa_nil))) (pa_cons (pe_lc (own := [("_law_k", 8)]) (tt := tYes) rfl sc__law_tells.nd (pi_range1 rfl B.range (pa_cons (pe_dget hu (pv 1) pe_str (fun _ _ => rfl)) pa_nil)) (blkOk_by (N := ["_law_moment", "_law_parts_here", "_law_many", "_law_lists", "_law_task", "_law_told", "_law_shape", "_law_size", "_law_k", "_law_which", "_law_row"]) (sc := defScope s__law_tells) (by decide +kernel)) (fun _ _ _ _ _ => (pg_name (i := 8) sc__law_tells.nd rfl (Or.inl rfl))) (fun _ _ _ _ _ => pts_nil) (fun _ _ _ _ _ => (pe_tup (pa_cons pe_non (pa_cons (pe_tup pa_nil) pa_nil))))) pa_nil)))))
      (pss_cons (ps_if (pt_not (pt_val (pe_cal c__law_same (hr.mono (by omega)) rfl (pa_cons (pe_cal c__law_lists_of (hr.mono (by omega)) rfl (pa_cons (pv 0) pa_nil)) (pa_cons (pe_op op_cat (pv 3) (pe_lst (pa_cons (pe_lst (pa_cons pe_non (pa_cons pe_non pa_nil))) pa_nil))) pa_nil))))) (pss_one (ps_ret pe_bl)) pss_nil)
      (pss_cons (ps_for PassesOwn.never rfl (pi_range1 rfl B.range (pa_cons (pv 2) pa_nil)) (pg_name (i := 4) sc__law_tells.nd rfl (Or.inr rfl)) (pss_cons (ps_setLc (i := 5) (own := [("_law_which", 9)]) (tt := tYes) rfl sc__law_tells.nd rfl rfl (sw_true rfl rfl rfl (by decide +kernel)) (pi_range1 rfl B.range (pa_cons pe_int pa_nil)) (blkOk_by (N := ["_law_moment", "_law_parts_here", "_law_many", "_law_lists", "_law_task", "_law_told", "_law_shape", "_law_size", "_law_k", "_law_which", "_law_row"]) (sc := defScope s__law_tells) (by decide +kernel)) (fun _ _ _ _ _ => (pg_name (i := 9) sc__law_tells.nd rfl (Or.inl rfl))) (fun _ _ _ _ _ => pts_nil) (fun _ _ _ _ _ => (pe_cal c__law_asked (hr.mono (by omega)) rfl (pa_cons (pv 0) (pa_cons (pv 9) (pa_cons (pv 4) pa_nil))))))
      (pss_one (ps_if (pt_not (pt_val (pe_cal c__law_same (hr.mono (by omega)) rfl (pa_cons (pv 5) (pa_cons (pe_lst (pa_cons (pe_tup (pa_cons pe_str pa_nil)) (pa_cons pe_non (pa_cons (pe_ix ix_list (pe_dget hu (pv 1) pe_str (fun _ _ => rfl)) (pv 4) (fun _ _ => rfl)) (pa_cons pe_int pa_nil))))) pa_nil))))) (pss_one (ps_ret pe_bl)) pss_nil))))
      (pss_cons (ps_set (i := 6) sc__law_tells.nd rfl (Or.inl rfl) (pe_tup (pa_cons (pe_callTy call_tuple_of rfl B.tuple_ hb_tuple (pa_cons (pe_op op_rep (pe_lst (pa_cons (pe_tup (pa_cons pe_str pa_nil)) pa_nil)) (pv 2)) pa_nil)) (pa_cons (pe_callTy call_tuple_of rfl B.tuple_ hb_tuple (pa_cons (pe_op op_rep (pe_lst (pa_cons pe_non pa_nil)) (pv 2)) pa_nil)) (pa_cons (pe_callTy call_tuple_of rfl B.tuple_ hb_tuple (pa_cons (pe_lc (own := [("_law_row", 10)]) (tt := tYes) rfl sc__law_tells.nd (pi_list (pe_dget hu (pv 1) pe_str (fun _ _ => rfl))) (blkOk_by (N := ["_law_moment", "_law_parts_here", "_law_many", "_law_lists", "_law_task", "_law_told", "_law_shape", "_law_size", "_law_k", "_law_which", "_law_row"]) (sc := defScope s__law_tells) (by decide +kernel)) (fun _ _ _ _ _ => (pg_name (i := 10) sc__law_tells.nd rfl (Or.inl rfl))) (fun _ _ _ _ _ => pts_nil) (fun _ _ _ _ _ => (pe_callTy (show CallR _ _ (rTupOf K) from call_tuple_of) rfl B.tuple_ hb_tuple (pa_cons (pv 10) pa_nil)))) pa_nil)) pa_nil)))))
      (pss_cons (ps_set (i := 6) sc__law_tells.nd rfl (Or.inl rfl) (pe_op op_catA (pv 6) (pe_tup (pa_cons (pe_callTy call_tuple_of rfl B.tuple_ hb_tuple (pa_cons (pe_op op_rep (pe_lst (pa_cons pe_int pa_nil)) (pv 2)) pa_nil)) (pa_cons (pe_callTy call_tuple_of rfl B.tuple_ hb_tuple (pa_cons (pe_dget hu (pv 1) pe_str (fun _ _ => rfl)) pa_nil)) (pa_cons (pe_callTy call_tuple_of rfl B.tuple_ hb_tuple (pa_cons (pe_op op_rep (pe_lst (pa_cons (pe_tup pa_nil) pa_nil)) (pe_callB call_len_seq rfl B.len hb_len (pa_cons (pe_dget hu (pv 1) pe_str (fun _ _ => rfl)) pa_nil))) pa_nil)) pa_nil))))))
      (pss_cons (ps_set (i := 6) sc__law_tells.nd rfl (Or.inl rfl) (pe_op op_catA (pv 6) (pe_tup (pa_cons (pe_callTy call_tuple_of rfl B.tuple_ hb_tuple (pa_cons (pe_op op_rep (pe_lst (pa_cons (pe_tup (pa_cons pe_non (pa_cons (pe_tup pa_nil) pa_nil))) pa_nil)) (pe_dget hu (pv 1) pe_str (fun _ _ => rfl))) pa_nil)) (pa_cons (pe_tup (pa_cons pe_non (pa_cons pe_non pa_nil))) (pa_cons pe_int (pa_cons (pe_tup (pa_cons pe_non (pa_cons pe_int (pa_cons pe_int (pa_cons pe_int pa_nil))))) pa_nil)))))))
      (pss_cons (ps_if (pt_not (pt_val (pe_cal c__law_same (hr.mono (by omega)) rfl (pa_cons (pe_mcal0 m_shape (hr.mono (by omega)) (pv 0)) (pa_cons (pv 6) pa_nil))))) (pss_one (ps_ret pe_bl)) pss_nil)
      (pss_one (ps_ret (pe_and (pe_cal c__law_same (hr.mono (by omega)) rfl (pa_cons (pe_mcal0 m_head (hr.mono (by omega)) (pv 0)) (pa_cons pe_int pa_nil))) (pe_one (pe_cal c__law_same (hr.mono (by omega)) rfl (pa_cons (pe_mcal0 m_running (hr.mono (by omega)) (pv 0)) (pa_cons (pe_tup (pa_cons pe_non (pa_cons pe_int (pa_cons pe_int (pa_cons pe_int pa_nil))))) pa_nil))))))))))))))), ?_⟩
    obtain ⟨tds, pds, qds, lds, rds, kn, N⟩ := bn_of ok
    have N' := N
    obtain ⟨et, ep, eq, ek, er, t2, t4, p3, pl, q2, k2, rl, rr⟩ := N'
    obtain ⟨x0, x1, x2, x3, x4, x5, x6, x7, x8, x9, x10, x11, e, d0, d1, d2, d3, d4, d5, d6, d7, d8, d9, d10, d11⟩ := hL.ex
    clear d4 d5 d7 d8 d9 d10 d11 hL
    rw [et] at d0
    rw [ep] at d1
    rw [eq] at d2
    rw [ek] at d3
    rw [er] at d6
    cases d3
    have lstF : ∀ {v : V} {es : List PyData}, Dp K H v (.list es) → ∃ a xs, v = .ref a ∧ SqL K H a xs ∧ DpAll K H xs es := fun {v es} h => by
      cases h with
      | lst h1 h2 => exact ⟨_, _, rfl, h1, h2⟩
    obtain ⟨a0, z0, rfl, h0, g0⟩ := lstF d0
    obtain ⟨a1, z1, rfl, h1, g1⟩ := lstF d1
    obtain ⟨a2, z2, rfl, h2, g2⟩ := lstF d2
    obtain ⟨a6, z6, rfl, h6, g6⟩ := lstF d6
    have l0 := g0.length
    have l1 := g1.length
    have l2 := g2.length
    have l6 := g6.length
    have fn : (dl b0.tasks).length = tds.length := by rw [et]; rfl
    walk_at "st0"
    refine q_getD e (by rfl) ?_
    walk_at "st"
    refine ⟨a0, z0, rfl, .inl h0, ?_⟩
    rw [l0]
    walk_at "st"
    refine q_getD e (by rfl) ?_
    walk_at "st"
    refine q_lcI ?_
    walk_at "st"
    refine q_getD e (by rfl) ?_
    refine ⟨a2, rfl, ⟨_, h2⟩, fun X1 nX1 => lc_freshR walk_list (fun i l Hh => Hh l = some (.lst [])) nX1 (sz1000 (by omega)) (fun H2 s => s.seq h2) yat_same ?_ ?_ ?_ ?_ ?_⟩
    · exact fun i l Ha Hb s h => s _ _ h
    · exact fun i l Ha Hb acc n e2 bt h => bt _ _ h n
    · exact fun i l Ha h z => by rw [h] at z; cases z
    · rintro i x H6 H7 lt s ⟨rfl, ex⟩ Q' k
      refine q_gname ?_
      refine ⟨rfl, ?_⟩
      walk_at "st"
      exact ⟨by show 0 ≤ sizeLine; decide, fun l nl => k l _ (same_new nl) nl upd_same⟩
    intro ls H1 s1 eX1 lls nd fr hls
    have dQ1 : Dp K H1 (.ref X1) (.list (List.replicate qds.length (.list []))) := by
      refine .lst (SqL.of eX1) (dpAll_of (by rw [List.length_map, List.length_replicate]; omega) fun i x d ex ed => ?_)
      rw [List.getElem?_map] at ex
      obtain ⟨l, hl, rfl⟩ := Option.map_eq_some_iff.mp ex
      have li := (List.getElem?_eq_some_iff.mp hl).1
      rw [List.getElem?_replicate, if_pos (by omega)] at ed
      cases ed
      exact .lst (SqL.of (hls i l hl)) .nil
    have e1 := s1 _ _ e
    clear eX1 lls nd fr hls
    walk_at "st"
    refine q_lcR ?_
    walk_at "st"
    refine q_getD e1 (by rfl) ?_
    refine ⟨kn, rfl, by omega, by omega, ?_⟩
    rw [Int.toNat_natCast]
    refine fun X2 nX2 => lc_rel walk_range (fun i y Hh => ∃ (t t2 : Addr), y = .ref t ∧ Hh t = some (.tup [.non, .ref t2]) ∧ Hh t2 = some (.tup [])) nX2 (sz1000 (by omega)) (fun H2 s => trivial) yfn_same ?_ ?_ ?_
    · rintro i y Ha Hb acc e bt ⟨t, t2, rfl, h1, h2⟩
      exact ⟨t, t2, rfl, bt _ _ h1 (fun z => by subst z; rw [h1] at e; cases e), bt _ _ h2 (fun z => by subst z; rw [h2] at e; cases e)⟩
    · rintro i x H' H4 lt s y Q' k
      obtain ⟨rfl, e⟩ := y
      refine q_gname ?_
      refine ⟨rfl, ?_⟩
      walk_at "st"
      refine ⟨by show 0 ≤ sizeLine; decide, fun pe ne => ?_⟩
      walk_at "st"
      refine ⟨by show 2 ≤ sizeLine; decide, fun pf nf => ?_⟩
      exact k _ _ ((same_new ne).trans (same_new nf)) ⟨pf, pe, rfl, upd_same, same_new nf _ _ upd_same⟩
    intro ys2 H2 s2 eX2 ly2 r2
    have dK2 : Dp K H2 (.ref X2) (.list (List.replicate kn (.tuple [.none, .tuple []]))) := by
      refine .lst (SqL.of eX2) (dpAll_of (by rw [List.length_replicate]; omega) fun i x d ex ed => ?_)
      obtain ⟨t, t2, rfl, h1, h2⟩ := r2 i x ex
      have z := List.mem_of_getElem? ed
      rw [List.mem_replicate] at z
      obtain ⟨_, rfl⟩ := z
      exact .tup (SqT.of h1) (.cons .non (.cons (.tup (SqT.of h2) .nil) .nil))
    have e2 := s2 _ _ e1
    have s02 := s1.trans s2
    clear eX2 ly2 r2 e1
    walk_at "st"
    refine ⟨by show 3 ≤ sizeLine; decide, fun L3 nL3 => ?_⟩
    have s3 := same_new (o := .lst [V.ref a1, V.ref X1, V.ref X2]) nL3
    have eL3 : upd H2 L3 (.lst [V.ref a1, V.ref X1, V.ref X2]) L3 = some (.lst [V.ref a1, V.ref X1, V.ref X2]) := upd_same
    generalize upd H2 L3 (.lst [V.ref a1, V.ref X1, V.ref X2]) = H3 at *
    have s03 := s02.trans s3
    have dA3 : DpAll K H3 [V.ref a1, V.ref X1, V.ref X2] [.list pds, .list (List.replicate qds.length (.list [])), .list (List.replicate kn (.tuple [.none, .tuple []]))] := .cons (L2.Dp.mono s03 d1) (.cons (L2.Dp.mono (s2.trans s3) dQ1) (.cons (L2.Dp.mono s3 dK2) .nil))
    have e3 := s3 _ _ e2
    clear dQ1 dK2 e2 s1 s2 s3 s02
    walk_at "st"
    refine ⟨m, p, b, firstD b0, pds, qds.length, List.replicate kn (.tuple [.none, .tuple []]), [.none, .none], rfl, hm.mono s03, by show tupOf b0.pages = _; rw [ep]; rfl, ?_, by omega, ?_, rfl, by omega, by rw [List.length_replicate]; omega, by simp, fun L4 b4 b5 b6 b7 H4 s4 nL4 n4 n5 n6 n7 eL4 ndL h4 h5 h6' h7 dL4 => ?_⟩
    · show PyData.tuple ((dl b0.ports).map fun _ => .tuple []) = _
      rw [eq]
      show PyData.tuple (qds.map fun _ => .tuple []) = _
      rw [List.map_const']
    · show PyData.tuple (List.replicate (dInt0 b0.locks).toNat (.tuple [.none, .tuple []])) = _
      rw [ek]
      show PyData.tuple (List.replicate ((kn : Int)).toNat (.tuple [.none, .tuple []])) = _
      rw [Int.toNat_natCast]
    have e4 := s4 _ _ e3
    have eL3' := s4 _ _ eL3
    have dA4 := L2.DpAll.mono s4 dA3
    have s04 := s03.trans s4
    clear dA3 eL3 e3 nL4 n4 n5 n6 n7 eL4 ndL h4 h5 h6' h7
    walk_at "st"
    refine ⟨by show 2 ≤ sizeLine; decide, fun l5 nl5 => ?_⟩
    have s5 := same_new (o := .lst [V.non, V.non]) nl5
    have el5 : upd H4 l5 (.lst [V.non, V.non]) l5 = some (.lst [V.non, V.non]) := upd_same
    generalize upd H4 l5 (.lst [V.non, V.non]) = H5 at *
    walk_at "st"
    refine ⟨by show 1 ≤ sizeLine; decide, fun l6x nl6 => ?_⟩
    have s6 := same_new (o := .lst [V.ref l5]) nl6
    have el6 : upd H5 l6x (.lst [V.ref l5]) l6x = some (.lst [V.ref l5]) := upd_same
    generalize upd H5 l6x (.lst [V.ref l5]) = H6 at *
    have s46 := s5.trans s6
    walk_at "st"
    refine ⟨L3, l6x, _, _, rfl, rfl, s46 _ _ eL3', el6, Nat.le_of_lt (sz1000 (by simp)), fun L7 nL7 => ?_⟩
    have s7 := same_new (o := .lst ([V.ref a1, V.ref X1, V.ref X2] ++ [V.ref l5])) nL7
    have s47 := s46.trans s7
    have dL7 : Dp K (upd H6 L7 (.lst ([V.ref a1, V.ref X1, V.ref X2] ++ [V.ref l5]))) (.ref L7) (.list ([.list pds, .list (List.replicate qds.length (.list [])), .list (List.replicate kn (.tuple [.none, .tuple []]))] ++ [.list [.none, .none]])) := .lst (SqL.of upd_same) (dpAll_app (L2.DpAll.mono s47 dA4) (.cons (L2.Dp.mono (s6.trans s7) (.lst (SqL.of el5) (.cons .non (.cons .non .nil)))) .nil))
    generalize upd H6 L7 (.lst ([V.ref a1, V.ref X1, V.ref X2] ++ [V.ref l5])) = H7 at *
    have s07 := s04.trans s47
    walk_at "st"
    refine ⟨.ref L4, .ref L7, _, rfl, L2.Dp.mono s47 dL4, dL7, ?_, ?_⟩
    · refine depN_lst (k := 4) (by simp) fun d hd => ?_
      simp only [List.cons_append, List.nil_append, List.mem_cons, List.not_mem_nil, or_false] at hd
      rcases hd with rfl | rfl | rfl | rfl
      · exact depN_lst (k := 3) (by omega) fun x hx => by
          obtain ⟨i, rfl⟩ := pl x hx
          exact depN_leaf trivial
      · exact depN_lst (k := 3) (by rw [List.length_replicate]; omega) (depN_rep (by omega) (depN_lst (k := 2) (by simp) fun x hx => by cases hx))
      · exact depN_lst (k := 3) (by rw [List.length_replicate]; omega) (depN_rep (by omega) depN_lk)
      · exact depN_lst (k := 3) (by simp) fun y hy => by
          simp only [List.mem_cons, List.not_mem_nil, or_false] at hy
          rcases hy with rfl | rfl <;> exact depN_leaf trivial
    clear dL7 dA4 el6 el5 s5 s6 s46 nL7 nl6 nl5 eL3' dL4
    walk_at "st"
    refine iteF ?_
    walk_at "st"
    refine q_forRA ?_
    walk_at "st"
    let J : Nat → L2.St → Hp → Prop := fun j σ Hh => ∃ (o4 o5 : Option V), σ = [some (.ref m), some (.ref D), some (.int tds.length), some (.ref L3), o4, o5, none, none, none, none, none] ∧ Same H Hh
    refine ⟨tds.length, rfl, by omega, by omega, ?_⟩
    rw [Int.toNat_natCast]
    refine forR J ⟨_, _, rfl, s07⟩ (fun j σ Hh lj hJ => ?_) (fun σ Hh hJ => ?_)
    · obtain ⟨o4, o5, rfl, sJ⟩ := hJ
      have hmJ := hm.mono sJ
      have eJ := sJ _ _ e
      obtain ⟨dj, hj⟩ : ∃ dj, rds[j]? = some dj := ⟨_, List.getElem?_eq_getElem (by omega)⟩
      obtain ⟨es, rfl, les, hes⟩ := rr dj (List.mem_of_getElem? hj)
      have nes : noLs es = true := by
        rw [noLs_all]
        intro x hx
        obtain ⟨z, i, rfl⟩ := hes x hx
        rfl
      obtain ⟨yj, hyj⟩ : ∃ yj, z6[j]? = some yj := ⟨_, List.getElem?_eq_getElem (by omega)⟩
      have dyj : Dp K H yj (.list es) := by
        obtain ⟨dd, q1, q2⟩ := g6.get' hyj
        rw [hj] at q1
        cases q1
        exact q2
      have AO : AskOk (firstD b0) j readyD .none es (.int 0) := by
        have ln : j < (dl b0.tasks).length := by rw [fn]; exact lj
        refine ⟨⟨_, rfl, by rw [List.getElem?_replicate, if_pos ln]⟩, ⟨_, rfl, by rw [List.getElem?_replicate, if_pos ln]⟩, ⟨rds.map tupOf, ?_, by rw [List.getElem?_map, hj]; rfl⟩, ⟨_, rfl, by rw [List.getElem?_replicate, if_pos ln]⟩⟩
        show rowsT b0.rights = _
        rw [er]; rfl
      refine q_gname ?_
      walk_at "st"
      refine q_lcR ?_
      walk_at "st"
      refine ⟨4, rfl, by omega, by omega, ?_⟩
      rw [show (4 : Int).toNat = 4 from rfl]
      refine fun XA nXA => lc_relD walk_range (fun i y Hh => Dp K Hh y (askD readyD .none es (.int 0) i) ∧ (i = 2 → y ≠ .ref XA)) nXA (sz1000 (by omega)) (fun H2 s => trivial) yfn_same ?_ ?_ ?_
      · rintro i y Ha Hb acc e2 bt ⟨dy, ny⟩
        refine ⟨dpBut1 e2 bt dy ?_, ny⟩
        match i with
        | 0 => exact .inl rfl
        | 1 => exact .inl rfl
        | 2 => exact .inr ⟨es, rfl, nes, ny rfl⟩
        | i + 3 => exact .inl rfl
      · rintro i x Ha Hb acc lt s ⟨rfl, rfl⟩ eA Q' k
        refine q_gname ?_
        refine ⟨rfl, ?_⟩
        walk_at "st"
        refine ⟨m, p, b, firstD b0, j, i, readyD, .none, es, .int 0, by rw [Int.zero_add, Int.zero_add], lt, hmJ.mono s, by rw [eln, fn]; exact lj, AO, fun v H' s' dv fr => k v _ s' ⟨dv, fun z => ?_⟩⟩
        obtain ⟨l, rfl, nl⟩ := fr z
        intro zz
        cases zz
        rw [eA] at nl
        cases nl
      intro ysA HA sA eXA lA rA
      have dA : Dp K HA (.ref XA) (.list [readyD, .none, .list es, .int 0]) := by
        refine .lst (SqL.of eXA) (dpAll_of (by rw [lA]; rfl) fun i x d ex ed => ?_)
        obtain ⟨h1, _⟩ := rA i x ex
        match i, ed with
        | 0, ed => cases ed; exact h1
        | 1, ed => cases ed; exact h1
        | 2, ed => cases ed; exact h1
        | 3, ed => cases ed; exact h1
        | i + 4, ed => simp at ed
      have eA := sA _ _ eJ
      have s0A := sJ.trans sA
      clear rA eXA lA
      walk_at "st"
      refine ⟨by show 1 ≤ sizeLine; decide, fun pr npr => ?_⟩
      have sp1 := same_new (o := .tup [V.str "ready"]) npr
      have epr : upd HA pr (.tup [V.str "ready"]) pr = some (.tup [V.str "ready"]) := upd_same
      generalize upd HA pr (.tup [V.str "ready"]) = HB at *
      have eB := sp1 _ _ eA
      walk_at "st"
      refine q_getD eB (by rfl) ?_
      walk_at "st"
      refine q_ixL ((s0A.trans sp1).seq h6) (by rw [Int.zero_add]; exact atI_nat hyj) ?_
      walk_at "st"
      refine ⟨by show 4 ≤ sizeLine; decide, fun lq nlq => ?_⟩
      have sq := same_new (o := .lst [V.ref pr, V.non, yj, V.int 0]) nlq
      have dq : Dp K (upd HB lq (.lst [V.ref pr, V.non, yj, V.int 0])) (.ref lq) (.list [readyD, .none, .list es, .int 0]) := .lst (SqL.of upd_same) (.cons (.tup (SqT.of (sq _ _ epr)) (.cons (.str _) .nil)) (.cons .non (.cons (L2.Dp.mono ((s0A.trans sp1).trans sq) dyj) (.cons (.int _) .nil))))
      generalize upd HB lq (.lst [V.ref pr, V.non, yj, V.int 0]) = HC at *
      walk_at "st"
      refine ⟨.ref XA, .ref lq, _, rfl, L2.Dp.mono (sp1.trans sq) dA, dq, ?_, ?_⟩
      · refine depN_lst (k := 4) (by simp) fun d hd => ?_
        simp only [List.mem_cons, List.not_mem_nil, or_false] at hd
        rcases hd with rfl | rfl | rfl | rfl
        · exact depN_tup (k := 3) (by simp) fun x hx => by simp only [List.mem_cons, List.not_mem_nil, or_false] at hx; subst hx; exact depN_leaf trivial
        · exact depN_leaf trivial
        · refine depN_lst (k := 3) (by omega) fun x hx => ?_
          obtain ⟨z, i, rfl⟩ := hes x hx
          exact depN_tup (k := 2) (by simp) fun y hy => by
            simp only [List.mem_cons, List.not_mem_nil, or_false] at hy
            rcases hy with rfl | rfl <;> exact depN_leaf trivial
        · exact depN_leaf trivial
      walk_at "st"
      refine iteF ?_
      walk_at "st"
      exact ⟨_, _, rfl, (s0A.trans sp1).trans sq⟩
    · obtain ⟨o4, o5, rfl, sJ⟩ := hJ
      clear s07 s04 s03 s47 s4 s7
      walk_at "st"
      refine ⟨by show 1 ≤ sizeLine; decide, fun pr npr => ?_⟩
      have st := same_new (o := .tup [V.str "ready"]) npr
      have epr : upd Hh pr (.tup [V.str "ready"]) pr = some (.tup [V.str "ready"]) := upd_same
      replace sJ := sJ.trans st
      clear st
      generalize upd Hh pr (.tup [V.str "ready"]) = G1 at *
      have TR : Dp K G1 (.ref pr) readyD := .tup (SqT.of epr) (.cons (.str _) .nil)
      walk_at "st"
      clear epr
      refine ⟨by show 1 ≤ sizeLine; decide, fun laA nlaA => ?_⟩
      have st := same_new (o := .lst [V.ref pr]) nlaA
      have elaA : upd G1 laA (.lst [V.ref pr]) laA = some (.lst [V.ref pr]) := upd_same
      replace TR := L2.Dp.mono st TR
      replace sJ := sJ.trans st
      clear st
      generalize upd G1 laA (.lst [V.ref pr]) = G2 at *
      walk_at "st"
      refine ⟨laA, (tds.length : Nat), _, rfl, rfl, elaA, by omega, by omega, by rw [Int.toNat_natCast]; exact Nat.le_of_lt (sz1000 (by simp; omega)), fun lbA nlbA => ?_⟩
      rw [Int.toNat_natCast, flat1]
      have st := same_new (o := .lst (List.replicate tds.length (V.ref pr))) nlbA
      have elbA : upd G2 lbA (.lst (List.replicate tds.length (V.ref pr))) lbA = some (.lst (List.replicate tds.length (V.ref pr))) := upd_same
      replace TR := L2.Dp.mono st TR
      replace sJ := sJ.trans st
      clear st
      generalize upd G2 lbA (.lst (List.replicate tds.length (V.ref pr))) = G3 at *
      walk_at "st"
      refine ⟨lbA, _, rfl, .inl ⟨SqL.of elbA, fun lcA nlcA => ?_⟩⟩
      have st := same_new (o := .tup (List.replicate tds.length (V.ref pr))) nlcA
      have TA : Dp K (upd G3 lcA (.tup (List.replicate tds.length (V.ref pr)))) (.ref lcA) (.tuple (List.replicate tds.length readyD)) := .tup (SqT.of upd_same) (rep_dps (L2.Dp.mono st TR) _)
      replace TR := L2.Dp.mono st TR
      replace sJ := sJ.trans st
      clear st
      generalize upd G3 lcA (.tup (List.replicate tds.length (V.ref pr))) = G4 at *
      walk_at "st"
      refine ⟨by show 1 ≤ sizeLine; decide, fun laB nlaB => ?_⟩
      have st := same_new (o := .lst [V.non]) nlaB
      have elaB : upd G4 laB (.lst [V.non]) laB = some (.lst [V.non]) := upd_same
      replace TR := L2.Dp.mono st TR
      replace TA := L2.Dp.mono st TA
      replace sJ := sJ.trans st
      clear st
      generalize upd G4 laB (.lst [V.non]) = G5 at *
      walk_at "st"
      refine ⟨laB, (tds.length : Nat), _, rfl, rfl, elaB, by omega, by omega, by rw [Int.toNat_natCast]; exact Nat.le_of_lt (sz1000 (by simp; omega)), fun lbB nlbB => ?_⟩
      rw [Int.toNat_natCast, flat1]
      have st := same_new (o := .lst (List.replicate tds.length (V.non))) nlbB
      have elbB : upd G5 lbB (.lst (List.replicate tds.length (V.non))) lbB = some (.lst (List.replicate tds.length (V.non))) := upd_same
      replace TR := L2.Dp.mono st TR
      replace TA := L2.Dp.mono st TA
      replace sJ := sJ.trans st
      clear st
      generalize upd G5 lbB (.lst (List.replicate tds.length (V.non))) = G6 at *
      walk_at "st"
      refine ⟨lbB, _, rfl, .inl ⟨SqL.of elbB, fun lcB nlcB => ?_⟩⟩
      have st := same_new (o := .tup (List.replicate tds.length (V.non))) nlcB
      have TB : Dp K (upd G6 lcB (.tup (List.replicate tds.length (V.non)))) (.ref lcB) (.tuple (List.replicate tds.length PyData.none)) := .tup (SqT.of upd_same) (rep_dps (.non) _)
      replace TR := L2.Dp.mono st TR
      replace TA := L2.Dp.mono st TA
      replace sJ := sJ.trans st
      clear st
      generalize upd G6 lcB (.tup (List.replicate tds.length (V.non))) = G7 at *
      walk_at "st"
      refine q_lcI ?_
      walk_at "st"
      refine q_getD (sJ _ _ e) (by rfl) ?_
      refine ⟨a6, rfl, ⟨_, sJ.seq h6⟩, fun XR nXR => lc_rel walk_list (fun i y Hh => ∃ (t : Addr) (xs : List V) (l : List PyData), y = .ref t ∧ Hh t = some (.tup xs) ∧ rds[i]? = some (.list l) ∧ DpAll K G7 xs l) nXR (sz1000 (by omega)) (fun H2 s => s.seq (sJ.seq h6)) yat_same ?_ ?_ ?_⟩
      · rintro i y Ha Hb acc e bt ⟨t, xs, l, rfl, h1, h2, h3⟩
        exact ⟨t, xs, l, rfl, bt _ _ h1 (fun z => by subst z; rw [h1] at e; cases e), h2, h3⟩
      · rintro i x H' H2 lt s y Q' k
        obtain ⟨rfl, e⟩ := y
        obtain ⟨d, e2, hd2⟩ := (L2.DpAll.mono sJ g6).get' e
        obtain ⟨l, rfl, _⟩ := rr d (List.mem_of_getElem? e2)
        refine q_gname ?_
        refine ⟨rfl, ?_⟩
        walk_at "st"
        cases hd2 with
        | @lst a xs _ hs ha =>
        exact ⟨a, xs, rfl, .inl ⟨s.seq hs, fun l2 nl => k _ _ (same_new nl) ⟨l2, xs, l, rfl, upd_same, e2, ha⟩⟩⟩
      intro ysR HR sR eXR lR rR
      walk_at "st"
      refine ⟨XR, ysR, rfl, .inl ⟨SqL.of eXR, fun l77 n7 => ?_⟩⟩
      have m7 := sR.trans (same_new (o := .tup ysR) n7)
      have T7 : Dp K (upd HR l77 (.tup ysR)) (.ref l77) (.tuple (rds.map tupOf)) := by
        refine .tup (SqT.of upd_same) (dpAll_of (by rw [List.length_map]; omega) fun i x d ex ed2 => ?_)
        obtain ⟨t, xs, l, rfl, h1, h2, h3⟩ := rR i x ex
        rw [List.getElem?_map, h2] at ed2
        cases ed2
        exact .tup (SqT.of (same_new n7 _ _ h1)) (L2.DpAll.mono m7 h3)
      replace TR := L2.Dp.mono m7 TR
      replace TA := L2.Dp.mono m7 TA
      replace TB := L2.Dp.mono m7 TB
      replace sJ := sJ.trans m7
      clear m7 sR eXR rR
      generalize upd HR l77 (.tup ysR) = G8 at *
      walk_at "st"
      refine ⟨by show 3 ≤ sizeLine; decide, fun ps1 nps1 => ?_⟩
      have st := same_new (o := .tup [V.ref lcA, V.ref lcB, V.ref l77]) nps1
      have S1 : Dp K (upd G8 ps1 (.tup [V.ref lcA, V.ref lcB, V.ref l77])) (.ref ps1) (.tuple [.tuple (List.replicate tds.length readyD), .tuple (List.replicate tds.length .none), .tuple (rds.map tupOf)]) := .tup (SqT.of upd_same) (.cons (L2.Dp.mono st TA) (.cons (L2.Dp.mono st TB) (.cons (L2.Dp.mono st T7) .nil)))
      replace TR := L2.Dp.mono st TR
      replace TA := L2.Dp.mono st TA
      replace TB := L2.Dp.mono st TB
      replace T7 := L2.Dp.mono st T7
      replace sJ := sJ.trans st
      clear st
      generalize upd G8 ps1 (.tup [V.ref lcA, V.ref lcB, V.ref l77]) = G9 at *
      clear TA TB T7 TR
      walk_at "st"
      refine ⟨by show 1 ≤ sizeLine; decide, fun laC nlaC => ?_⟩
      have st := same_new (o := .lst [V.int 0]) nlaC
      have elaC : upd G9 laC (.lst [V.int 0]) laC = some (.lst [V.int 0]) := upd_same
      replace S1 := L2.Dp.mono st S1
      replace sJ := sJ.trans st
      clear st
      generalize upd G9 laC (.lst [V.int 0]) = G10 at *
      walk_at "st"
      refine ⟨laC, (tds.length : Nat), _, rfl, rfl, elaC, by omega, by omega, by rw [Int.toNat_natCast]; exact Nat.le_of_lt (sz1000 (by simp; omega)), fun lbC nlbC => ?_⟩
      rw [Int.toNat_natCast, flat1]
      have st := same_new (o := .lst (List.replicate tds.length (V.int 0))) nlbC
      have elbC : upd G10 lbC (.lst (List.replicate tds.length (V.int 0))) lbC = some (.lst (List.replicate tds.length (V.int 0))) := upd_same
      replace S1 := L2.Dp.mono st S1
      replace sJ := sJ.trans st
      clear st
      generalize upd G10 lbC (.lst (List.replicate tds.length (V.int 0))) = G11 at *
      walk_at "st"
      refine ⟨lbC, _, rfl, .inl ⟨SqL.of elbC, fun lcC nlcC => ?_⟩⟩
      have st := same_new (o := .tup (List.replicate tds.length (V.int 0))) nlcC
      have TC : Dp K (upd G11 lcC (.tup (List.replicate tds.length (V.int 0)))) (.ref lcC) (.tuple (List.replicate tds.length (PyData.int 0))) := .tup (SqT.of upd_same) (rep_dps (.int _) _)
      replace S1 := L2.Dp.mono st S1
      replace sJ := sJ.trans st
      clear st
      generalize upd G11 lcC (.tup (List.replicate tds.length (V.int 0))) = G12 at *
      walk_at "st"
      refine q_getD (sJ _ _ e) (by rfl) ?_
      walk_at "st"
      refine ⟨a1, z1, rfl, .inl ⟨sJ.seq h1, fun lpg nlpg => ?_⟩⟩
      have st := same_new (o := .tup z1) nlpg
      have TP : Dp K (upd G12 lpg (.tup z1)) (.ref lpg) (.tuple pds) := .tup (SqT.of upd_same) (L2.DpAll.mono (sJ.trans st) g1)
      replace S1 := L2.Dp.mono st S1
      replace TC := L2.Dp.mono st TC
      replace sJ := sJ.trans st
      clear st
      generalize upd G12 lpg (.tup z1) = G13 at *
      walk_at "st"
      refine ⟨by show 0 ≤ sizeLine; decide, fun pe npe => ?_⟩
      have st := same_new (o := .tup []) npe
      have epe : upd G13 pe (.tup []) pe = some (.tup []) := upd_same
      replace S1 := L2.Dp.mono st S1
      replace TC := L2.Dp.mono st TC
      replace TP := L2.Dp.mono st TP
      replace sJ := sJ.trans st
      clear st
      generalize upd G13 pe (.tup []) = G14 at *
      have TE0 : Dp K G14 (.ref pe) (.tuple []) := .tup (SqT.of epe) .nil
      clear epe
      walk_at "st"
      refine ⟨by show 1 ≤ sizeLine; decide, fun laQ nlaQ => ?_⟩
      have st := same_new (o := .lst [V.ref pe]) nlaQ
      have elaQ : upd G14 laQ (.lst [V.ref pe]) laQ = some (.lst [V.ref pe]) := upd_same
      replace S1 := L2.Dp.mono st S1
      replace TC := L2.Dp.mono st TC
      replace TP := L2.Dp.mono st TP
      replace TE0 := L2.Dp.mono st TE0
      replace sJ := sJ.trans st
      clear st
      generalize upd G14 laQ (.lst [V.ref pe]) = G15 at *
      walk_at "st"
      refine q_getD (sJ _ _ e) (by rfl) ?_
      refine ⟨a2, z2, rfl, .inl (sJ.seq h2), ?_⟩
      rw [l2]
      walk_at "st"
      refine ⟨laQ, (qds.length : Nat), _, rfl, rfl, elaQ, by omega, by omega, by rw [Int.toNat_natCast]; exact Nat.le_of_lt (sz1000 (by simp; omega)), fun lbQ nlbQ => ?_⟩
      rw [Int.toNat_natCast, flat1]
      have st := same_new (o := .lst (List.replicate qds.length (V.ref pe))) nlbQ
      have elbQ : upd G15 lbQ (.lst (List.replicate qds.length (V.ref pe))) lbQ = some (.lst (List.replicate qds.length (V.ref pe))) := upd_same
      replace S1 := L2.Dp.mono st S1
      replace TC := L2.Dp.mono st TC
      replace TP := L2.Dp.mono st TP
      replace TE0 := L2.Dp.mono st TE0
      replace sJ := sJ.trans st
      clear st
      generalize upd G15 lbQ (.lst (List.replicate qds.length (V.ref pe))) = G16 at *
      walk_at "st"
      refine ⟨lbQ, _, rfl, .inl ⟨SqL.of elbQ, fun lcQ nlcQ => ?_⟩⟩
      have st := same_new (o := .tup (List.replicate qds.length (V.ref pe))) nlcQ
      have TQ : Dp K (upd G16 lcQ (.tup (List.replicate qds.length (V.ref pe)))) (.ref lcQ) (.tuple (List.replicate qds.length (PyData.tuple []))) := .tup (SqT.of upd_same) (rep_dps (L2.Dp.mono st TE0) _)
      replace S1 := L2.Dp.mono st S1
      replace TC := L2.Dp.mono st TC
      replace TP := L2.Dp.mono st TP
      replace TE0 := L2.Dp.mono st TE0
      replace sJ := sJ.trans st
      clear st
      generalize upd G16 lcQ (.tup (List.replicate qds.length (V.ref pe))) = G17 at *
      walk_at "st"
      refine ⟨by show 3 ≤ sizeLine; decide, fun ps2 nps2 => ?_⟩
      have st := same_new (o := .tup [V.ref lcC, V.ref lpg, V.ref lcQ]) nps2
      have S2 : Dp K (upd G17 ps2 (.tup [V.ref lcC, V.ref lpg, V.ref lcQ])) (.ref ps2) (.tuple [.tuple (List.replicate tds.length (.int 0)), .tuple pds, .tuple (List.replicate qds.length (.tuple []))]) := .tup (SqT.of upd_same) (.cons (L2.Dp.mono st TC) (.cons (L2.Dp.mono st TP) (.cons (L2.Dp.mono st TQ) .nil)))
      replace S1 := L2.Dp.mono st S1
      replace TC := L2.Dp.mono st TC
      replace TP := L2.Dp.mono st TP
      replace TE0 := L2.Dp.mono st TE0
      replace TQ := L2.Dp.mono st TQ
      replace sJ := sJ.trans st
      clear st
      generalize upd G17 ps2 (.tup [V.ref lcC, V.ref lpg, V.ref lcQ]) = G18 at *
      clear TC TP TQ TE0
      walk_at "st"
      refine catA_dp S1 S2 (by simp) fun w1 HU1 st S3 => ?_
      replace sJ := sJ.trans st
      clear S1 S2 st
      walk_at "st"
      refine ⟨by show 0 ≤ sizeLine; decide, fun pz npz => ?_⟩
      have st := same_new (o := .tup []) npz
      have TZ : Dp K (upd HU1 pz (.tup [])) (.ref pz) (.tuple []) := .tup (SqT.of upd_same) .nil
      replace S3 := L2.Dp.mono st S3
      replace sJ := sJ.trans st
      clear st
      generalize upd HU1 pz (.tup []) = G21 at *
      walk_at "st"
      refine ⟨by show 2 ≤ sizeLine; decide, fun pk npk => ?_⟩
      have st := same_new (o := .tup [V.non, V.ref pz]) npk
      have TK : Dp K (upd G21 pk (.tup [V.non, V.ref pz])) (.ref pk) (.tuple [.none, .tuple []]) := .tup (SqT.of upd_same) (.cons .non (.cons (L2.Dp.mono st TZ) .nil))
      replace S3 := L2.Dp.mono st S3
      replace TZ := L2.Dp.mono st TZ
      replace sJ := sJ.trans st
      clear st
      generalize upd G21 pk (.tup [V.non, V.ref pz]) = G22 at *
      clear TZ
      walk_at "st"
      refine ⟨by show 1 ≤ sizeLine; decide, fun laL nlaL => ?_⟩
      have st := same_new (o := .lst [V.ref pk]) nlaL
      have elaL : upd G22 laL (.lst [V.ref pk]) laL = some (.lst [V.ref pk]) := upd_same
      replace S3 := L2.Dp.mono st S3
      replace TK := L2.Dp.mono st TK
      replace sJ := sJ.trans st
      clear st
      generalize upd G22 laL (.lst [V.ref pk]) = G23 at *
      walk_at "st"
      refine q_getD (sJ _ _ e) (by rfl) ?_
      walk_at "st"
      refine ⟨laL, (kn : Nat), _, rfl, rfl, elaL, by omega, by omega, by rw [Int.toNat_natCast]; exact Nat.le_of_lt (sz1000 (by simp; omega)), fun lbL nlbL => ?_⟩
      rw [Int.toNat_natCast, flat1]
      have st := same_new (o := .lst (List.replicate kn (V.ref pk))) nlbL
      have elbL : upd G23 lbL (.lst (List.replicate kn (V.ref pk))) lbL = some (.lst (List.replicate kn (V.ref pk))) := upd_same
      replace S3 := L2.Dp.mono st S3
      replace TK := L2.Dp.mono st TK
      replace sJ := sJ.trans st
      clear st
      generalize upd G23 lbL (.lst (List.replicate kn (V.ref pk))) = G24 at *
      walk_at "st"
      refine ⟨lbL, _, rfl, .inl ⟨SqL.of elbL, fun lcL nlcL => ?_⟩⟩
      have st := same_new (o := .tup (List.replicate kn (V.ref pk))) nlcL
      have TL : Dp K (upd G24 lcL (.tup (List.replicate kn (V.ref pk)))) (.ref lcL) (.tuple (List.replicate kn (.tuple [.none, .tuple []]))) := .tup (SqT.of upd_same) (rep_dps (L2.Dp.mono st TK) _)
      replace S3 := L2.Dp.mono st S3
      replace TK := L2.Dp.mono st TK
      replace sJ := sJ.trans st
      clear st
      generalize upd G24 lcL (.tup (List.replicate kn (V.ref pk))) = G25 at *
      clear TK
      walk_at "st"
      refine ⟨by show 2 ≤ sizeLine; decide, fun pc npc => ?_⟩
      have st := same_new (o := .tup [V.non, V.non]) npc
      have TC2 : Dp K (upd G25 pc (.tup [V.non, V.non])) (.ref pc) (.tuple [.none, .none]) := .tup (SqT.of upd_same) (.cons .non (.cons .non .nil))
      replace S3 := L2.Dp.mono st S3
      replace TL := L2.Dp.mono st TL
      replace sJ := sJ.trans st
      clear st
      generalize upd G25 pc (.tup [V.non, V.non]) = G26 at *
      walk_at "st"
      refine ⟨by show 4 ≤ sizeLine; decide, fun prn nprn => ?_⟩
      have st := same_new (o := .tup [V.non, V.int 0, V.int 0, V.int 0]) nprn
      have TRN : Dp K (upd G26 prn (.tup [V.non, V.int 0, V.int 0, V.int 0])) (.ref prn) (.tuple [.none, .int 0, .int 0, .int 0]) := .tup (SqT.of upd_same) (.cons .non (.cons (.int _) (.cons (.int _) (.cons (.int _) .nil))))
      replace S3 := L2.Dp.mono st S3
      replace TL := L2.Dp.mono st TL
      replace TC2 := L2.Dp.mono st TC2
      replace sJ := sJ.trans st
      clear st
      generalize upd G26 prn (.tup [V.non, V.int 0, V.int 0, V.int 0]) = G27 at *
      walk_at "st"
      refine ⟨by show 4 ≤ sizeLine; decide, fun ps4 nps4 => ?_⟩
      have st := same_new (o := .tup [V.ref lcL, V.ref pc, V.int 0, V.ref prn]) nps4
      have S4 : Dp K (upd G27 ps4 (.tup [V.ref lcL, V.ref pc, V.int 0, V.ref prn])) (.ref ps4) (.tuple [.tuple (List.replicate kn (.tuple [.none, .tuple []])), .tuple [.none, .none], .int 0, .tuple [.none, .int 0, .int 0, .int 0]]) := .tup (SqT.of upd_same) (.cons (L2.Dp.mono st TL) (.cons (L2.Dp.mono st TC2) (.cons (.int _) (.cons (L2.Dp.mono st TRN) .nil))))
      replace S3 := L2.Dp.mono st S3
      replace TL := L2.Dp.mono st TL
      replace TC2 := L2.Dp.mono st TC2
      replace TRN := L2.Dp.mono st TRN
      replace sJ := sJ.trans st
      clear st
      generalize upd G27 ps4 (.tup [V.ref lcL, V.ref pc, V.int 0, V.ref prn]) = G28 at *
      clear TL TC2 TRN
      walk_at "st"
      refine catA_dp S3 S4 (by simp) fun w2 HU2 st S5 => ?_
      replace sJ := sJ.trans st
      clear S3 S4 st
      have eS : PyData.tuple ([.tuple (List.replicate tds.length readyD), .tuple (List.replicate tds.length .none), .tuple (rds.map tupOf)] ++ [.tuple (List.replicate tds.length (.int 0)), .tuple pds, .tuple (List.replicate qds.length (.tuple []))] ++ [.tuple (List.replicate kn (.tuple [.none, .tuple []])), .tuple [.none, .none], .int 0, .tuple [.none, .int 0, .int 0, .int 0]]) = shapeOf (firstD b0) := by
        have q1 : (PyData.tuple ((dl b0.ports).map fun _ => .tuple [])) = .tuple (List.replicate qds.length (.tuple [])) := by
          rw [eq]
          show PyData.tuple (qds.map fun _ => .tuple []) = _
          rw [List.map_const']
        have q2 : PyData.tuple (List.replicate (dInt0 b0.locks).toNat (.tuple [.none, .tuple []])) = .tuple (List.replicate kn (.tuple [.none, .tuple []])) := by
          rw [ek]
          show PyData.tuple (List.replicate ((kn : Int)).toNat (.tuple [.none, .tuple []])) = _
          rw [Int.toNat_natCast]
        have q3 : rowsT b0.rights = .tuple (rds.map tupOf) := by rw [er]; rfl
        have q4 : tupOf b0.pages = .tuple pds := by rw [ep]; rfl
        show _ = PyData.tuple [.tuple (List.replicate (dl b0.tasks).length readyD), .tuple (List.replicate (dl b0.tasks).length .none), rowsT b0.rights, .tuple (List.replicate (dl b0.tasks).length (.int 0)), tupOf b0.pages, .tuple ((dl b0.ports).map fun _ => .tuple []), .tuple (List.replicate (dInt0 b0.locks).toNat (.tuple [.none, .tuple []])), .tuple [.none, .none], .int 0, .tuple [.none, .int 0, .int 0, .int 0]]
        rw [q1, q2, q3, q4, fn]
        rfl
      rw [eS] at S5
      walk_at "st"
      refine (hm.mono sJ).meth (by decide +kernel) ?_
      walk_at "st"
      refine ⟨m, p, b, firstD b0, rfl, hm.mono sJ, fun v1 HV s1 dv1 => ?_⟩
      replace sJ := sJ.trans s1
      walk_at "st"
      refine ⟨v1, w2, _, rfl, dv1, L2.Dp.mono s1 S5, first_dep N, ?_⟩
      walk_at "st"
      refine iteF ?_
      walk_at "st"
      refine (hm.mono sJ).meth (by decide +kernel) ?_
      walk_at "st"
      refine ⟨m, p, b, firstD b0, rfl, hm.mono sJ, fun v2 HV2 s2 dv2 => ?_⟩
      replace sJ := sJ.trans s2
      walk_at "st"
      refine ⟨v2, .int 0, .int 0, rfl, dv2, .int 0, depN_leaf trivial, ?_⟩
      walk_at "st"
      refine iteT ?_
      walk_at "st"
      refine (hm.mono sJ).meth (by decide +kernel) ?_
      walk_at "st"
      refine ⟨m, p, b, firstD b0, rfl, hm.mono sJ, fun v3 HV3 s3 dv3 => ?_⟩
      replace sJ := sJ.trans s3
      walk_at "st"
      refine ⟨by show 4 ≤ sizeLine; decide, fun pe4 npe4 => ?_⟩
      have s4 := same_new (o := .tup [V.non, V.int 0, V.int 0, V.int 0]) npe4
      have d4 : Dp K (upd HV3 pe4 (.tup [V.non, V.int 0, V.int 0, V.int 0])) (.ref pe4) (.tuple [.none, .int 0, .int 0, .int 0]) := .tup (SqT.of upd_same) (.cons .non (.cons (.int _) (.cons (.int _) (.cons (.int _) .nil))))
      walk_at "st"
      refine ⟨v3, .ref pe4, _, rfl, L2.Dp.mono s4 dv3, d4, ?_, q _ (sJ.trans s4)⟩
      exact depN_tup (k := 4) (by simp) fun y hy => by
        simp only [List.mem_cons, List.not_mem_nil, or_false] at hy
        rcases hy with rfl | rfl | rfl | rfl <;> exact depN_leaf trivial))) only [↓Hk.hold_s]
end
end T
namespace T
section
variable {P : Program} {w : World} {K : PySem.W.Frag} {mg : Str → Option Value} {base : Heap} {C CR CK CM KE NT NTs : Addr}
local macro_rules | `(tactic| walk_at "s1") => `(tactic| first | with_reducible refine q_dputW ?_)
/-- a loop over a list, the list told already -/
def ForL (K : PySem.W.Frag) (a : Addr) (g : TG) (tb : TS) (D : Ends) (σ : L2.St) (H1 : Hp) : Prop := ∃ W : Nat → Nat → L2.St → Hp → Prop, (∃ m, W 0 m σ H1) ∧ ∀ i m σ H, W i m σ H →
    ((Itl K a).stop i H ∧ D.nx σ H) ∨ ((Itl K a).go i H ∧ ∃ N : L2.St → Hp → Prop, (∀ σ' H', N σ' H' → ∃ m', m' < m ∧ W (i + 1) m' σ' H') ∧ ∀ x H', (Itl K a).yld i H x H' → g x σ H' fun σ2 H2 => tb { D with nx := N, ct := N, bk := D.nx } σ2 H2)
theorem q_forLA {te : TE} {g : TG} {tb : TS} {D : Ends} {σ : L2.St} {H : Hp} (h : te σ H fun x H1 => ∃ a, x = .ref a ∧ (∃ xs, SqL K H1 a xs) ∧ ForL K a g tb D σ H1) : tFor (iList K te) g tb D σ H := h
theorem forL {a : Addr} {g : TG} {tb : TS} {D : Ends} {σ : L2.St} {H : Hp} (xs : List V) (Pv : Nat → L2.St → Hp → Prop) (h0 : Pv 0 σ H) (hl : ∀ i σ H, i ≤ xs.length → Pv i σ H → SqL K H a xs)
    (hs : ∀ i x σ H, xs[i]? = some x → Pv i σ H → g x σ H fun σ2 H2 => tb { D with nx := Pv (i + 1), ct := Pv (i + 1), bk := D.nx } σ2 H2) (hd : ∀ σ H, Pv xs.length σ H → D.nx σ H) : ForL K a g tb D σ H := L2.for_list Pv h0 hl hs hd
def spLaw (K : PySem.W.Frag) : Sp := fun vs H Q _ => ∃ (a : Addr) (ns : List Int), vs = [.ref a] ∧ SqL K H a (ns.map V.int) ∧ ns.length ≤ 63 ∧ ∀ H', Q (.bl true) H'
theorem dpBls {H : Hp} : ∀ bs : List Bool, DpAll K H (bs.map V.bl) (bs.map PyData.bool)
  | [] => .nil
  | b :: r => .cons (.bl b) (dpBls r)
/-- a flag put the other way -/
structure Flip (b b' : BD) (f0 f1 f2 f3 g : Bool) (r : Nat) : Prop where
  gg : [f0, f1, f2, f3][r]? = some g
  ok : BOk b'
  fd : firstD b' = firstD b
  t : b'.tasks = b.tasks
  p : b'.pages = b.pages
  q : b'.ports = b.ports
  k : b'.locks = b.locks
  f : b'.frames = b.frames
  d : b'.disk = b.disk
  ri : b'.rights = b.rights
  l : b'.lines = b.lines
  c : b'.costs = b.costs
  pl : b'.plan = b.plan
  o : b'.outside = b.outside
  fl : [b'.wipe, b'.pad, b'.lend, b'.share] = ([f0, f1, f2, f3].set r (!g)).map PyData.bool
  ne1 : allEqv b.parts b'.parts = false
  ne2 : allEqv b'.parts b.parts = false
theorem flip_case {b : BD} (ok : BOk b) {f0 f1 f2 f3 : Bool} (h0 : b.wipe = .bool f0) (h1 : b.pad = .bool f1) (h2 : b.lend = .bool f2) (h3 : b.share = .bool f3) {r : Nat} (hr : r < 4) : ∃ b' g, Flip b b' f0 f1 f2 f3 g r := by
 refine Hk.hold ?_
 simp (disch := with_unfolding_all (
 exact Hk.disch (by
  have un : ∀ {c d : BD} (_ : BOk c) (_ : BOk d) (i : Nat) {u v : Bool}, c.list[i]? = some (.bool u) → d.list[i]? = some (.bool v) → u ≠ v → allEqv c.parts d.parts = false := fun {c d} okc okd i {u v} e1 e2 ne => by
    cases h : allEqv c.parts d.parts with
    | false => rfl
    | true =>
      have z := (allEqv_iff okc okd).mp h
      rw [z, e2] at e1
      cases e1
      exact absurd rfl ne
  have nn : ∀ u : Bool, u ≠ !u := fun u => by cases u <;> decide
  rcases (show r = 0 ∨ r = 1 ∨ r = 2 ∨ r = 3 by omega) with rfl | rfl | rfl | rfl
  · have ok' : BOk { b with wipe := .bool (!f0) } := ⟨ok.tasks, ok.pages, ok.ports, ok.locks, ok.frames, ok.disk, ok.rights, ok.lines, ok.costs, ok.plan, ok.outside, rfl, ok.pad, ok.lend, ok.share⟩
    exact ⟨_, f0, rfl, ok', rfl, rfl, rfl, rfl, rfl, rfl, rfl, rfl, rfl, rfl, rfl, rfl, by show [PyData.bool (!f0), b.pad, b.lend, b.share] = _; rw [h1, h2, h3]; rfl, un ok ok' 11 (by show some b.wipe = _; rw [h0]) rfl (nn _), un ok' ok 11 rfl (by show some b.wipe = _; rw [h0]) (Ne.symm (nn _))⟩
  · have ok' : BOk { b with pad := .bool (!f1) } := ⟨ok.tasks, ok.pages, ok.ports, ok.locks, ok.frames, ok.disk, ok.rights, ok.lines, ok.costs, ok.plan, ok.outside, ok.wipe, rfl, ok.lend, ok.share⟩
    exact ⟨_, f1, rfl, ok', rfl, rfl, rfl, rfl, rfl, rfl, rfl, rfl, rfl, rfl, rfl, rfl, by show [b.wipe, PyData.bool (!f1), b.lend, b.share] = _; rw [h0, h2, h3]; rfl, un ok ok' 12 (by show some b.pad = _; rw [h1]) rfl (nn _), un ok' ok 12 rfl (by show some b.pad = _; rw [h1]) (Ne.symm (nn _))⟩
  · have ok' : BOk { b with lend := .bool (!f2) } := ⟨ok.tasks, ok.pages, ok.ports, ok.locks, ok.frames, ok.disk, ok.rights, ok.lines, ok.costs, ok.plan, ok.outside, ok.wipe, ok.pad, rfl, ok.share⟩
    exact ⟨_, f2, rfl, ok', rfl, rfl, rfl, rfl, rfl, rfl, rfl, rfl, rfl, rfl, rfl, rfl, by show [b.wipe, b.pad, PyData.bool (!f2), b.share] = _; rw [h0, h1, h3]; rfl, un ok ok' 13 (by show some b.lend = _; rw [h2]) rfl (nn _), un ok' ok 13 rfl (by show some b.lend = _; rw [h2]) (Ne.symm (nn _))⟩
  · have ok' : BOk { b with share := .bool (!f3) } := ⟨ok.tasks, ok.pages, ok.ports, ok.locks, ok.frames, ok.disk, ok.rights, ok.lines, ok.costs, ok.plan, ok.outside, ok.wipe, ok.pad, ok.lend, rfl⟩
    exact ⟨_, f3, rfl, ok', rfl, rfl, rfl, rfl, rfl, rfl, rfl, rfl, rfl, rfl, rfl, rfl, by show [b.wipe, b.pad, b.lend, PyData.bool (!f3)] = _; rw [h0, h1, h2]; rfl, un ok ok' 14 (by show some b.share = _; rw [h3]) rfl (nn _), un ok' ok 14 rfl (by show some b.share = _; rw [h3]) (Ne.symm (nn _))⟩))) only [↓Hk.hold_s]
set_option maxHeartbeats 8000000 in
theorem ok_law (B : Bl mg) (IC : C8.InsC K C) (IM : C8.InsC K CM) (kC : PySem.W.kitOne K (.ref C) (.type "int") = some false) (kM : PySem.W.kitOne K (.ref CM) (.type "int") = some false) (nMR : CM ≠ CR) (nCM : C ≠ CM)
    (c__law_cell : Cal P w K mg base 1 "_law_cell" ["_law_script", "_law_k"] (spCell K)) (c__law_same : Cal P w K mg base 5 "_law_same" ["_law_told", "_law_due"] (spSameT K 5)) (c__law_parts : Cal P w K mg base 4 "_law_parts" ["_law_script"] (spLParts K)) (c__law_build : Cal P w K mg base 12 "_law_build" ["_law_parts_here"] (spLBuild K C CR))
    (c_first : Cal P w K mg base 3 "first" ["build"] (spFirst K C CR CM)) (c__law_tells : Cal P w K mg base 7 "_law_tells" ["_law_moment", "_law_parts_here"] (spTells K C CR CM)) (c__law_lists_of : Cal P w K mg base 2 "_law_lists_of" ["_law_moment"] (spListsOf K C CR CM)) (c__law_refused : Cal P w K mg base 7 "_law_refused" ["_law_moment", "_law_which", "_law_task"] (spLRefused K C CR CM))
    (m_build : MCal P w K mg base 1 CM "build" ["self"] (spGetM K C CR CM fun b D p H v H' => v = .ref p)) (m_ports : MCal P w K mg base 1 CM "ports" ["self"] (spPorts K C CR CM)) (m_rights : MCal P w K mg base 5 CM "rights" ["self", "task"] (spMRights K C CR CM))
    (m_eqB : MCal P w K mg base 1 C "__eq__" ["self", "other"] (spEqB K C)) (m_eqM : MCal P w K mg base 2 CM "__eq__" ["self", "other"] (spEqM K C CR CM))
    : ∀ f fd, Fun K "law" "law" s_law f fd → FnOk P w K mg base CX0 13 f fd ["_law_script"] (spLaw K) := by
 refine Hk.hold ?_
 simp (disch := with_unfolding_all (
 exact Hk.disch (fun f fd F => by
  refine F.ok sc_law (fun vs H Q E h => ?_) (fun cdv A outer s H vs Q E hr h => ?_)
  · obtain ⟨a, ns, rfl, _⟩ := h; rfl
  · obtain ⟨a, ns, rfl, hs, l63, q⟩ := h
    have hu := hu_of hr
    refine ⟨_, (pss_cons (ps_set (i := 1) sc_law.nd rfl (Or.inl rfl) (pe_cal c__law_parts (hr.mono (by omega)) rfl (pa_cons (pv 0) pa_nil)))
      (pss_cons (ps_set (i := 2) sc_law.nd rfl (Or.inl rfl) (pe_cal c__law_build (hr.mono (by omega)) rfl (pa_cons (pv 1) pa_nil)))
      (pss_cons (ps_set (i := 3) sc_law.nd rfl (Or.inl rfl) (pe_cal c_first (hr.mono (by omega)) rfl (pa_cons (pv 2) pa_nil)))
      (pss_cons (ps_if (PW.pt (pw_or (pt_not (pt_val (pe_cal c__law_tells (hr.mono (by omega)) rfl (pa_cons (pv 3) (pa_cons (pv 1) pa_nil))))) (pw_or1 (pt_not (pt_cmpR (op_eqI m_eqB (hr.mono (by omega)) (hu1 hr)) (pe_mcal0 m_build (hr.mono (by omega)) (pv 3)) (pv 2) (nomark _)))))) (pss_one (ps_ret pe_bl)) pss_nil)
      (pss_cons (ps_for PassesOwn.never rfl (pi_list (pe_op op_cat (pe_op op_cat (pe_cal c__law_lists_of (hr.mono (by omega)) rfl (pa_cons (pv 3) pa_nil)) (pe_lst (pa_cons (pe_mcal0 m_ports (hr.mono (by omega)) (pv 3)) pa_nil))) (pe_lst (pa_cons (pe_mcal m_rights (hr.mono (by omega)) (pv 3) (pa_cons pe_int pa_nil)) pa_nil)))) (pg_name (i := 4) sc_law.nd rfl (Or.inl rfl)) (pss_one (ps_expr (pe_bm PySem.F.plainAttrs_list PySem.F.slot_list_append PySem.F.type_list_append mt_append (pv 4) (pa_cons (pe_tup (pa_cons pe_str (pa_cons pe_int pa_nil))) pa_nil)))))
      (pss_cons (ps_set (i := 5) sc_law.nd rfl (Or.inl rfl) (pe_mcal0 m_ports (hr.mono (by omega)) (pv 3)))
      (pss_cons (ps_for PassesOwn.never rfl (pi_range1 rfl B.range (pa_cons (pe_callB call_len_seq rfl B.len hb_len (pa_cons (pv 5) pa_nil)) pa_nil)) (pg_name (i := 6) sc_law.nd rfl (Or.inl rfl)) (pss_one (ps_expr (pe_bm PySem.F.plainAttrs_list PySem.F.slot_list_append PySem.F.type_list_append mt_append (pe_ix ix_list (pv 5) (pv 6) (fun _ _ => rfl)) (pa_cons (pv 6) pa_nil)))))
      (pss_cons (ps_if (pt_not (pt_val (pe_cal c__law_same (hr.mono (by omega)) rfl (pa_cons (pv 5) (pa_cons (pe_lc (own := [("_law_k", 6)]) (tt := tYes) rfl sc_law.nd (pi_range1 rfl B.range (pa_cons (pe_callB call_len_seq rfl B.len hb_len (pa_cons (pe_dget hu (pv 1) pe_str (fun _ _ => rfl)) pa_nil)) pa_nil)) (blkOk_by (N := ["_law_script", "_law_parts_here", "_law_build_here", "_law_moment", "_law_row", "_law_told", "_law_k", "_law_unlike", "_law_flags", "_law_at", "_law_other", "_law_bad"]) (sc := defScope s_law) (by decide +kernel)) (fun _ _ _ _ _ => (pg_name (i := 6) sc_law.nd rfl (Or.inl rfl))) (fun _ _ _ _ _ => pts_nil) (fun _ _ _ _ _ => (pe_lst (pa_cons (pv 6) pa_nil)))) pa_nil))))) (pss_one (ps_ret pe_bl)) pss_nil)
      (pss_cons (ps_if (PW.pt (pw_or (pt_not (pt_val (pe_cal c__law_tells (hr.mono (by omega)) rfl (pa_cons (pv 3) (pa_cons (pv 1) pa_nil))))) (pw_or1 (pt_not (pt_cmpR (op_eqI m_eqM (hr.mono (by omega)) (hu1 hr)) (pe_cal c_first (hr.mono (by omega)) rfl (pa_cons (pe_cal c__law_build (hr.mono (by omega)) rfl (pa_cons (pv 1) pa_nil)) pa_nil)) (pv 3) (nomark _)))))) (pss_one (ps_ret pe_bl)) pss_nil)
      (pss_cons (ps_set (i := 7) sc_law.nd rfl (Or.inl rfl) (pe_callTy call_dictD rfl B.dict_ hb_dict (pa_cons (pv 1) pa_nil)))
      (pss_cons (ps_dput hu (pv 7) pe_str (pe_callTy call_list_of rfl B.list_ hb_list (pa_cons (pe_dget hu (pv 1) pe_str (fun _ _ => rfl)) pa_nil)) rfl)
      (pss_cons (ps_set (i := 8) sc_law.nd rfl (Or.inl rfl) (pe_dget hu (pv 7) pe_str (fun _ _ => rfl)))
      (pss_cons (ps_set (i := 9) sc_law.nd rfl (Or.inl rfl) (pe_op op_mod (pe_callTy call_int1 rfl B.int_ hb_int (pa_cons (pe_cal c__law_cell (hr.mono (by omega)) rfl (pa_cons (pv 0) (pa_cons pe_int pa_nil))) pa_nil)) pe_int))
      (pss_cons (ps_asg (pe_not (pe_ix ix_list (pv 8) (pv 9) (fun _ _ => rfl))) (pg_sub (pv 8) (pv 9) set_list))
      (pss_cons (ps_set (i := 10) sc_law.nd rfl (Or.inl rfl) (pe_cal c_first (hr.mono (by omega)) rfl (pa_cons (pe_cal c__law_build (hr.mono (by omega)) rfl (pa_cons (pv 7) pa_nil)) pa_nil)))
      (pss_cons (ps_if (PW.pt (pw_or (pt_not (pt_val (pe_cal c__law_same (hr.mono (by omega)) rfl (pa_cons (pe_lst (pa_cons (pe_cmpR (op_eqI m_eqM (hr.mono (by omega)) (hu1 hr)) (pv 10) (pv 3) (nomark _)) (pa_cons (pe_cmpR (op_eqI m_eqM (hr.mono (by omega)) (hu1 hr)) (pv 3) (pv 10) (nomark _)) pa_nil))) (pa_cons (pe_lst (pa_cons pe_bl (pa_cons pe_bl pa_nil))) pa_nil))))) (pw_or1 (pt_not (pt_val (pe_cal c__law_tells (hr.mono (by omega)) rfl (pa_cons (pv 10) (pa_cons (pv 1) pa_nil)))))))) (pss_one (ps_ret pe_bl)) pss_nil)
      (pss_cons (ps_set (i := 11) sc_law.nd rfl (Or.inl rfl) (pe_lst (pa_cons (pe_callB call_len_seq rfl B.len hb_len (pa_cons (pe_dget hu (pv 1) pe_str (fun _ _ => rfl)) pa_nil)) (pa_cons (pe_un un_neg pe_int) (pa_cons (pe_op op_pow pe_int pe_int) (pa_cons pe_bl (pa_cons pe_bl (pa_cons pe_non (pa_cons pe_str (pa_cons (pe_tup (pa_cons pe_int pa_nil)) (pa_cons (pe_lst (pa_cons pe_int pa_nil)) (pa_cons pe_dnewK (pa_cons (pv 2) (pa_cons (pv 3) pa_nil))))))))))))))
      (pss_cons (ps_for PassesOwn.never rfl (pi_range1 rfl B.range (pa_cons pe_int pa_nil)) (pg_name (i := 6) sc_law.nd rfl (Or.inl rfl)) (pss_one (ps_if (pt_not (pt_val (pe_cal c__law_refused (hr.mono (by omega)) rfl (pa_cons (pv 3) (pa_cons (pe_op op_mod (pe_callTy call_int1 rfl B.int_ hb_int (pa_cons (pe_op op_add (pe_cal c__law_cell (hr.mono (by omega)) rfl (pa_cons (pv 0) (pa_cons pe_int pa_nil))) (pv 6)) pa_nil)) pe_int) (pa_cons (pe_ix ix_list (pv 11) (pv 6) (fun _ _ => rfl)) pa_nil)))))) (pss_one (ps_ret pe_bl)) pss_nil)))
      (pss_one (ps_ret (pe_cal c__law_tells (hr.mono (by omega)) rfl (pa_cons (pv 3) (pa_cons (pv 1) pa_nil))))))))))))))))))))))), ?_⟩
    walk_at "st0"
    refine ⟨a, ns, rfl, hs, l63, fun D b H1 s1 nD hL ok hf => ?_⟩
    walk_at "st"
    refine ⟨D, b, rfl, hL, ok, fun x H2 s2 nx hB => ?_⟩
    walk_at "st"
    refine ⟨x, b, rfl, hB, nMR, fun m H3 s3 hm => ?_⟩
    have s03 := s1.trans (s2.trans s3)
    have hL3 := hL.mono (s2.trans s3)
    have hB3 := hB.mono s3
    clear s1 s2 s3 hL hB nx
    walk_at "st"
    refine ⟨m, x, D, b, b, rfl, hm, rfl, hL3, ok, fun H4 s4 => ?_⟩
    replace hm := hm.mono s4
    replace hL3 := hL3.mono s4
    replace hB3 := hB3.mono s4
    replace s03 := s03.trans s4
    clear s4
    walk_at "st"
    have AE : allEqv b.parts b.parts = true := (allEqv_iff ok ok).mpr rfl
    obtain ⟨tds, pds, qds, lds, rds, kn, N⟩ := bn_of ok
    have N' := N
    obtain ⟨et, ep, eq, ek, er, t2, t4, p3, pl, q2, k2, rl, rr⟩ := N'
    have fn : (dl b.tasks).length = tds.length := by rw [et]; rfl
    have fp : firstD b .values_now = .tuple pds := by show tupOf b.pages = _; rw [ep]; rfl
    have fq : firstD b .queues = .tuple (List.replicate qds.length (.tuple [])) := by
      show PyData.tuple ((dl b.ports).map fun _ => .tuple []) = _
      rw [eq]
      show PyData.tuple (qds.map fun _ => .tuple []) = _
      rw [List.map_const']
    have fk : firstD b .lock_rows = .tuple (List.replicate kn (.tuple [.none, .tuple []])) := by
      show PyData.tuple (List.replicate (dInt0 b.locks).toNat (.tuple [.none, .tuple []])) = _
      rw [ek]
      show PyData.tuple (List.replicate ((kn : Int)).toNat (.tuple [.none, .tuple []])) = _
      rw [Int.toNat_natCast]
    have fr0 : firstD b .owned = .tuple (rds.map tupOf) := by
      show rowsT b.rights = _
      rw [er]; rfl
    refine iteF' rfl ?_
    walk_at "st"
    refine hm.meth (by decide +kernel) ?_
    walk_at "st"
    refine ⟨m, x, b, firstD b, rfl, hm, fun v H5 s5 e5 => ?_⟩
    subst e5
    replace hm := hm.mono s5
    replace hL3 := hL3.mono s5
    replace hB3 := hB3.mono s5
    replace s03 := s03.trans s5
    clear s5
    walk_at "st"
    refine q_eqB hB3.1 hB3.1 ?_
    rw [AE]
    refine ⟨_, rfl, ?_⟩
    refine iteF' rfl ?_
    walk_at "st"
    refine q_forLA ?_
    walk_at "st"
    refine ⟨m, x, b, firstD b, pds, qds.length, List.replicate kn (.tuple [.none, .tuple []]), [.none, .none], rfl, hm, fp, fq, by omega, fk, rfl, by omega, by rw [List.length_replicate]; omega, by simp, fun L0 a0 a1 a2 a3 H6 s6 nL0 n0 n1 n2 n3 eL0 _ h0 h1 h2 h3 _ => ?_⟩
    have hm6 := hm.mono s6
    walk_at "st"
    refine hm6.meth (by decide +kernel) ?_
    walk_at "st"
    refine ⟨m, x, b, firstD b, List.replicate qds.length [], rfl, hm6, by rw [fq, List.map_replicate], by rw [List.length_replicate]; omega, fun L1 ls1 zs1 H7 s7 nL1 eL1 ll1 _ _ _ _ => ?_⟩
    rw [List.length_replicate] at ll1
    have hm7 := hm6.mono s7
    walk_at "st"
    refine ⟨by show 1 ≤ sizeLine; decide, fun l8 nl8 => ?_⟩
    have s8 := same_new (o := .lst [V.ref L1]) nl8
    have el8 : upd H7 l8 (.lst [V.ref L1]) l8 = some (.lst [V.ref L1]) := upd_same
    generalize upd H7 l8 (.lst [V.ref L1]) = H8 at *
    walk_at "st"
    refine ⟨L0, l8, _, _, rfl, rfl, s8 _ _ (s7 _ _ eL0), el8, Nat.le_of_lt (sz1000 (by simp)), fun L9 nL9 => ?_⟩
    have s9 := same_new (o := .lst ([V.ref a0, V.ref a1, V.ref a2, V.ref a3] ++ [V.ref L1])) nL9
    have eL9 : upd H8 L9 (.lst ([V.ref a0, V.ref a1, V.ref a2, V.ref a3] ++ [V.ref L1])) L9 = some (.lst ([V.ref a0, V.ref a1, V.ref a2, V.ref a3] ++ [V.ref L1])) := upd_same
    generalize upd H8 L9 (.lst ([V.ref a0, V.ref a1, V.ref a2, V.ref a3] ++ [V.ref L1])) = H9 at *
    have hm9 := hm7.mono (s8.trans s9)
    walk_at "st"
    refine hm9.meth (by decide +kernel) ?_
    walk_at "st"
    obtain ⟨dr0, hr0⟩ : ∃ dr0, rds[0]? = some dr0 := ⟨_, List.getElem?_eq_getElem (by omega)⟩
    obtain ⟨es0, rfl, les0, _⟩ := rr dr0 (List.mem_of_getElem? hr0)
    refine ⟨m, x, b, firstD b, 0, rds.map tupOf, es0, rfl, hm9, by rw [fn]; omega, fr0, by rw [List.getElem?_map, hr0]; rfl, fun lR yR nR dyR => ?_⟩
    have sR := same_new (o := .lst yR) nR
    have elR : upd H9 lR (.lst yR) lR = some (.lst yR) := upd_same
    have lyR := dyR.length
    generalize upd H9 lR (.lst yR) = HR at *
    walk_at "st"
    refine ⟨by show 1 ≤ sizeLine; decide, fun l10 nl10 => ?_⟩
    have s10 := same_new (o := .lst [V.ref lR]) nl10
    have el10 : upd HR l10 (.lst [V.ref lR]) l10 = some (.lst [V.ref lR]) := upd_same
    generalize upd HR l10 (.lst [V.ref lR]) = H10 at *
    walk_at "st"
    refine ⟨L9, l10, _, _, rfl, rfl, s10 _ _ (sR _ _ eL9), el10, Nat.le_of_lt (sz1000 (by simp)), fun LF nLF => ?_⟩
    have sF := same_new (o := .lst ([V.ref a0, V.ref a1, V.ref a2, V.ref a3] ++ [V.ref L1] ++ [V.ref lR])) nLF
    have eLF : upd H10 LF (.lst ([V.ref a0, V.ref a1, V.ref a2, V.ref a3] ++ [V.ref L1] ++ [V.ref lR])) LF = some (.lst ([a0, a1, a2, a3, L1, lR].map V.ref)) := upd_same
    generalize upd H10 LF (.lst ([V.ref a0, V.ref a1, V.ref a2, V.ref a3] ++ [V.ref L1] ++ [V.ref lR])) = HF at *
    have s810 := s8.trans (s9.trans (sR.trans (s10.trans sF)))
    have s5F : Same H5 HF := s6.trans (s7.trans s810)
    obtain ⟨w0, h0, l0⟩ := h0
    obtain ⟨w1, h1, l1⟩ := h1
    obtain ⟨w2, h2, l2⟩ := h2
    obtain ⟨w3, h3, l3⟩ := h3
    have s7F := s7.trans s810
    have hla : ∀ q ∈ [a0, a1, a2, a3, L1, lR], H5 q = none ∧ q ≠ LF ∧ ∃ xs, HF q = some (.lst xs) ∧ xs.length ≤ 100 := fun q hq => by
      simp only [List.mem_cons, List.not_mem_nil, or_false] at hq
      have n6 : ∀ {o : HO} {c : Addr}, H6 c = some o → c ≠ LF := fun {o c} hc => ne_of_none (s10 _ _ (sR _ _ (s9 _ _ (s8 _ _ (s7 _ _ hc))))) nLF
      rcases hq with rfl | rfl | rfl | rfl | rfl | rfl
      · exact ⟨n0, n6 h0, _, s7F _ _ h0, l0⟩
      · exact ⟨n1, n6 h1, _, s7F _ _ h1, l1⟩
      · exact ⟨n2, n6 h2, _, s7F _ _ h2, l2⟩
      · exact ⟨n3, n6 h3, _, s7F _ _ h3, l3⟩
      · exact ⟨s6.free nL1, ne_of_none (s10 _ _ (sR _ _ (s9 _ _ (s8 _ _ eL1)))) nLF, _, s810 _ _ eL1, by rw [List.length_map]; omega⟩
      · exact ⟨(s6.trans (s7.trans (s8.trans s9))).free nR, ne_of_none (s10 _ _ elR) nLF, _, (s10.trans sF) _ _ elR, by omega⟩
    clear h0 h1 h2 h3 l0 l1 l2 l3 n0 n1 n2 n3 s7F s810 eL1 elR el10 eL9 el8 eL0 nLF nl10 nR nL9 nl8 nL1 nL0 sF s10 sR s9 s8 s7 s6 hm6 hm7 hm9
    have lla : [a0, a1, a2, a3, L1, lR].length = 6 := rfl
    generalize [a0, a1, a2, a3, L1, lR] = la at hla eLF lla
    let J : Nat → L2.St → Hp → Prop := fun j σ Hh => ∃ o4, σ = [some (.ref a), some (.ref D), some (.ref x), some (.ref m), o4, none, none, none, none, none, none, none] ∧ Same H5 Hh ∧ Hh LF = some (.lst (la.map V.ref)) ∧ ∀ q ∈ la, ∃ xs, Hh q = some (.lst xs) ∧ xs.length ≤ 100 + j
    refine ⟨LF, rfl, ⟨_, SqL.of eLF⟩, forL (la.map V.ref) J ⟨_, rfl, s5F, eLF, fun q hq => (hla q hq).2.2⟩ (fun i σ Hh _ hJ => by obtain ⟨_, _, _, e, _⟩ := hJ; exact SqL.of e) (fun i x0 σ Hh ex hJ => ?_) (fun σ Hh hJ => ?_)⟩
    · obtain ⟨o4, rfl, sJ, eJ, aJ⟩ := hJ
      rw [List.getElem?_map] at ex
      obtain ⟨q0, hq0, rfl⟩ := Option.map_eq_some_iff.mp ex
      have li := (List.getElem?_eq_some_iff.mp hq0).1
      have mq := List.mem_of_getElem? hq0
      obtain ⟨nq0, nqF, _⟩ := hla q0 mq
      obtain ⟨xs0, e0, lx0⟩ := aJ q0 mq
      refine q_gname ?_
      walk_at "st"
      refine ⟨.inl ⟨rfl, xs0, SqL.of e0⟩, ?_⟩
      walk_at "st"
      refine ⟨by show 2 ≤ sizeLine; decide, fun t nt => ?_⟩
      have st := same_new (o := .tup [V.str "read", V.int 0]) nt
      generalize upd Hh t (.tup [V.str "read", V.int 0]) = H2 at *
      refine ⟨q0, xs0, _, rfl, rfl, st _ _ e0, sz1000 (by omega), ?_⟩
      refine ⟨_, rfl, fun b o hb => ?_, ?_, fun q hq => ?_⟩
      · rw [upd_ne (ne_of_none hb nq0)]
        exact st _ _ (sJ _ _ hb)
      · rw [upd_ne (Ne.symm nqF)]
        exact st _ _ eJ
      · by_cases c : q = q0
        · subst c
          exact ⟨_, upd_same, by rw [List.length_append, List.length_singleton]; omega⟩
        · obtain ⟨xs, e2, l2⟩ := aJ q hq
          exact ⟨xs, by rw [upd_ne c]; exact st _ _ e2, by omega⟩
    · obtain ⟨o4, rfl, sJ, eJ, aJ⟩ := hJ
      have hmJ := hm.mono sJ
      have hLJ := hL3.mono sJ
      have hBJ := hB3.mono sJ
      have s0J := s03.trans sJ
      clear hm hL3 hB3 s03 sJ eJ aJ hla eLF s5F
      obtain ⟨x0, x1, x2, x3, x4, x5, x6, x7, x8, x9, x10, x11, e, d0, d1, d2, d3, d4, d5, d6, d7, d8, d9, d10, d11⟩ := hLJ.ex
      walk_at "st"
      refine hmJ.meth (by decide +kernel) ?_
      walk_at "st"
      refine ⟨m, x, b, firstD b, List.replicate qds.length [], rfl, hmJ, by rw [fq, List.map_replicate], by rw [List.length_replicate]; omega, fun LP lps zs H1 s1 nLP eLP llp ndp frp hlp hzp => ?_⟩
      rw [List.length_replicate] at llp
      have hz0 : ∀ i l, lps[i]? = some l → H1 l = some (.lst []) := fun i l hl => by
        have li := (List.getElem?_eq_some_iff.mp hl).1
        have z := hzp i [] (by rw [List.getElem?_replicate, if_pos (by omega)])
        rw [hlp i l hl]
        cases zz : zs i with
        | nil => rfl
        | cons y r => rw [zz] at z; cases z
      clear hlp hzp
      walk_at "st"
      refine q_forRA ?_
      walk_at "st"
      refine ⟨LP, _, rfl, .inl (SqL.of eLP), ?_⟩
      rw [List.length_map, llp]
      let J2 : Nat → L2.St → Hp → Prop := fun j σ Hy => ∃ o6, σ = [some (.ref a), some (.ref D), some (.ref x), some (.ref m), o4, some (.ref LP), o6, none, none, none, none, none] ∧ Same Hh Hy ∧ Hy LP = some (.lst (lps.map V.ref)) ∧ ∀ i l, lps[i]? = some l → Hy l = some (.lst (if i < j then [V.int i] else []))
      refine ⟨qds.length, rfl, by omega, by omega, ?_⟩
      rw [Int.toNat_natCast]
      refine forR J2 ⟨_, rfl, s1, eLP, fun i l hl => by rw [if_neg (by omega)]; exact hz0 i l hl⟩ (fun j σ Hy lj hJ2 => ?_) (fun σ Hy hJ2 => ?_)
      · obtain ⟨o6, rfl, sY, eY, hY⟩ := hJ2
        obtain ⟨lj', hlj⟩ : ∃ l, lps[j]? = some l := ⟨_, List.getElem?_eq_getElem (by omega)⟩
        have ej := hY j lj' hlj
        rw [if_neg (by omega)] at ej
        obtain ⟨nj1, nj2⟩ := frp lj' (List.mem_of_getElem? hlj)
        refine q_gname ?_
        walk_at "st"
        rw [Int.zero_add]
        refine q_ixL (SqL.of eY) (atI_nat (v := .ref lj') (by rw [List.getElem?_map, hlj]; rfl)) ?_
        refine ⟨.inl ⟨rfl, [], SqL.of ej⟩, ?_⟩
        walk_at "st"
        refine ⟨lj', [], _, rfl, rfl, ej, sz1000 (by simp), ?_⟩
        refine ⟨_, rfl, fun b o hb => ?_, ?_, fun i l hl => ?_⟩
        · rw [upd_ne (ne_of_none hb nj1)]
          exact sY _ _ hb
        · rw [upd_ne (Ne.symm nj2)]
          exact eY
        · by_cases c : i = j
          · subst c
            rw [hlj] at hl
            cases hl
            rw [upd_same, if_pos (by omega)]
            rfl
          · have nl : l ≠ lj' := fun z => by
              subst z
              exact c ((List.getElem?_inj (List.getElem?_eq_some_iff.mp hl).1 ndp).mp (hl.trans hlj.symm))
            rw [upd_ne nl, hY i l hl]
            by_cases c2 : i < j
            · rw [if_pos c2, if_pos (by omega)]
            · rw [if_neg c2, if_neg (by omega)]
      · obtain ⟨o6, rfl, sY, eY, hY⟩ := hJ2
        have dY : Dp K Hy (.ref LP) (.list ((List.range qds.length).map fun k => PyData.list [.int (k : Nat)])) := by
          refine .lst (SqL.of eY) (dpAll_of (by rw [List.length_map, List.length_map, List.length_range]; exact llp) fun i x d ex ed => ?_)
          rw [List.getElem?_map] at ex ed
          obtain ⟨l, hl, rfl⟩ := Option.map_eq_some_iff.mp ex
          obtain ⟨k, hk, rfl⟩ := Option.map_eq_some_iff.mp ed
          have li := (List.getElem?_eq_some_iff.mp hl).1
          rw [List.getElem?_range (by omega)] at hk
          cases hk
          have z := hY i l hl
          rw [if_pos (by omega)] at z
          exact .lst (SqL.of z) (.cons (.int _) .nil)
        have hmY := hmJ.mono sY
        have hLY := hLJ.mono sY
        have hBY := hBJ.mono sY
        have s0Y := s0J.trans sY
        have eY' := sY _ _ e
        have d2Y := L2.Dp.mono sY d2
        clear hmJ hBJ s0J eLP ndp frp hz0 s1 hY eY
        walk_at "st"
        refine q_lcR ?_
        walk_at "st"
        refine q_getD eY' (by rfl) ?_
        obtain ⟨pa2, pz2, rfl, ph2, pl2⟩ : ∃ a xs, x2 = .ref a ∧ SqL K Hy a xs ∧ xs.length = qds.length := by
          rw [eq] at d2Y
          cases d2Y with
          | lst h1 h2 => exact ⟨_, _, rfl, h1, h2.length⟩
        refine ⟨pa2, pz2, rfl, .inl ph2, ?_⟩
        rw [pl2]
        refine ⟨qds.length, rfl, by omega, by omega, ?_⟩
        rw [Int.toNat_natCast]
        refine fun XK nXK => lc_freshR walk_range (fun i l Hh => Hh l = some (.lst [V.int (i : Nat)])) nXK (sz1000 (by omega)) (fun H2 s => trivial) yfn_same ?_ ?_ ?_ ?_ ?_
        · exact fun i l Ha Hb s h => s _ _ h
        · exact fun i l Ha Hb acc n e2 bt h => bt _ _ h n
        · exact fun i l Ha h z => by rw [h] at z; cases z
        · rintro i y H6 H7 lt s ⟨rfl, rfl⟩ Q' k
          refine q_gname ?_
          refine ⟨rfl, ?_⟩
          walk_at "st"
          exact ⟨by show 1 ≤ sizeLine; decide, fun l nl => k l _ (same_new nl) nl (by rw [upd_same, Int.zero_add])⟩
        intro kls H2 s2 eXK lkl _ _ hkl
        have dK : Dp K H2 (.ref XK) (.list ((List.range qds.length).map fun k => PyData.list [.int (k : Nat)])) := by
          refine .lst (SqL.of eXK) (dpAll_of (by rw [List.length_map, List.length_map, List.length_range]; exact lkl) fun i x d ex ed => ?_)
          rw [List.getElem?_map] at ex ed
          obtain ⟨l, hl, rfl⟩ := Option.map_eq_some_iff.mp ex
          obtain ⟨k, hk, rfl⟩ := Option.map_eq_some_iff.mp ed
          have li := (List.getElem?_eq_some_iff.mp hl).1
          rw [List.getElem?_range (by omega)] at hk
          cases hk
          exact .lst (SqL.of (hkl i l hl)) (.cons (.int _) .nil)
        have hm2 := hmY.mono s2
        have hL2 := hLY.mono s2
        have hB2 := hBY.mono s2
        have s02 := s0Y.trans s2
        walk_at "st"
        refine ⟨.ref LP, .ref XK, _, rfl, L2.Dp.mono s2 dY, dK, ?_, ?_⟩
        · refine depN_lst (k := 4) (by rw [List.length_map, List.length_range]; omega) fun d hd => ?_
          obtain ⟨k, _, rfl⟩ := List.mem_map.mp hd
          exact depN_lst (k := 3) (by simp) fun y hy => by
            simp only [List.mem_cons, List.not_mem_nil, or_false] at hy
            subst hy
            exact depN_leaf trivial
        clear dY dK eXK lkl hkl hmY hLY hBY s0Y eY' d2Y ph2 s2 nXK
        walk_at "st"
        refine iteF' rfl ?_
        walk_at "st"
        refine ⟨m, x, D, b, b, rfl, hm2, rfl, hL2, ok, fun H3 s3 => ?_⟩
        replace hm2 := hm2.mono s3
        replace hL2 := hL2.mono s3
        replace hB2 := hB2.mono s3
        replace s02 := s02.trans s3
        clear s3
        walk_at "st"
        refine iteF' rfl ?_
        walk_at "st"
        refine ⟨D, b, rfl, hL2, ok, fun y4 H4 s4 _ hB4 => ?_⟩
        walk_at "st"
        refine ⟨y4, b, rfl, hB4, nMR, fun m5 H5' s5 hm5 => ?_⟩
        replace hm2 := hm2.mono (s4.trans s5)
        replace hL2 := hL2.mono (s4.trans s5)
        replace hB2 := hB2.mono (s4.trans s5)
        replace s02 := s02.trans (s4.trans s5)
        clear s4 s5
        walk_at "st"
        refine q_eqM hm5 hm2 (first_shaped ok) (first_shaped ok) ?_
        rw [AE, first_eqv ok]
        refine ⟨_, rfl, ?_⟩
        refine iteF' rfl ?_
        clear hm5 hB4
        walk_at "st"
        obtain ⟨f0, f1, f2, f3, hf0, hf1, hf2, hf3⟩ := hf
        clear hLJ e d0 d1 d2 d3 d4 d5 d6 d7 d8 d9 d10 d11
        obtain ⟨u0, u1, u2, u3, u4, u5, u6, u7, u8, u9, u10, u11, e, d0, d1, d2, d3, d4, d5, d6, d7, d8, d9, d10, d11⟩ := hL2.ex
        obtain ⟨fa, rfl, fs1⟩ : ∃ fa, u11 = .ref fa ∧ SqL K H5' fa [.bl f0, .bl f1, .bl f2, .bl f3] := by
          rw [hf0, hf1, hf2, hf3] at d11
          cases d11 with
          | @lst fa fxs _ fs1 fs2 =>
          cases fs2 with
          | @cons v0 r0 _ _ g0 fs2 =>
          cases fs2 with
          | @cons v1 r1 _ _ g1 fs2 =>
          cases fs2 with
          | @cons v2 r2 _ _ g2 fs2 =>
          cases fs2 with
          | @cons v3 r3 _ _ g3 fs2 =>
          cases fs2
          cases g0; cases g1; cases g2; cases g3
          exact ⟨fa, rfl, fs1⟩
        refine ⟨D, _, rfl, .inl e, fun U nU => ?_⟩
        have su := same_new (o := .dK (pk12 u0 u1 u2 u3 u4 u5 u6 u7 u8 u9 u10 (.ref fa))) nU
        have eU : upd H5' U (.dK (pk12 u0 u1 u2 u3 u4 u5 u6 u7 u8 u9 u10 (.ref fa))) U = some (.dK (pk12 u0 u1 u2 u3 u4 u5 u6 u7 u8 u9 u10 (.ref fa))) := upd_same
        generalize upd H5' U (.dK (pk12 u0 u1 u2 u3 u4 u5 u6 u7 u8 u9 u10 (.ref fa))) = H6 at *
        walk_at "st"
        refine q_getD (su _ _ e) (by rfl) ?_
        walk_at "st"
        refine ⟨fa, _, rfl, .inl (su.seq fs1), fun LB nLB => ?_⟩
        have sl := same_new (o := .lst [V.bl f0, V.bl f1, V.bl f2, V.bl f3]) nLB
        have eLB : upd H6 LB (.lst [V.bl f0, V.bl f1, V.bl f2, V.bl f3]) LB = some (.lst [V.bl f0, V.bl f1, V.bl f2, V.bl f3]) := upd_same
        generalize upd H6 LB (.lst [V.bl f0, V.bl f1, V.bl f2, V.bl f3]) = H7 at *
        have eU7 := sl _ _ eU
        have nLBU : LB ≠ U := fun z => by rw [z, eU7] at eLB; cases eLB
        walk_at "st"
        refine q_putD eU7 (sz1000 (by show 12 < 100000; decide)) (kv' := pk12 u0 u1 u2 u3 u4 u5 u6 u7 u8 u9 u10 (.ref LB)) (by rfl) ?_
        have bt : But U H7 (upd H7 U (.dK (pk12 u0 u1 u2 u3 u4 u5 u6 u7 u8 u9 u10 (.ref LB)))) := But.put
        have eU8 : upd H7 U (.dK (pk12 u0 u1 u2 u3 u4 u5 u6 u7 u8 u9 u10 (.ref LB))) U = some (.dK (pk12 u0 u1 u2 u3 u4 u5 u6 u7 u8 u9 u10 (.ref LB))) := upd_same
        generalize upd H7 U (.dK (pk12 u0 u1 u2 u3 u4 u5 u6 u7 u8 u9 u10 (.ref LB))) = H8 at *
        have eLB8 := bt _ _ eLB nLBU
        have s58 : Same H5' H8 := fun b o hb => bt _ _ (sl _ _ (su _ _ hb)) (ne_of_none hb nU)
        have nLB5 : H5' LB = none := su.free nLB
        clear bt eU7 eLB sl su eU nLB
        walk_at "st"
        refine q_getD eU8 (by rfl) ?_
        walk_at "st"
        refine ⟨a, ns, 7, rfl, (s02.trans s58).seq hs, l63, by omega, fun c7 H9 hc7 s9 => ?_⟩
        walk_at "st"
        refine .inl ⟨_, rfl, ?_⟩
        walk_at "st"
        refine ⟨_, _, rfl, rfl, (show (0 : Int) < 4 by decide), ?_⟩
        walk_at "st"
        obtain ⟨r, er4, hr4⟩ : ∃ r : Nat, c7 % 4 = (r : Int) ∧ r < 4 := ⟨(c7 % 4).toNat, by omega, by omega⟩
        rw [er4]
        obtain ⟨b', g, FL⟩ := flip_case ok hf0 hf1 hf2 hf3 hr4
        have eLB9 := s9 _ _ eLB8
        have eU9 := s9 _ _ eU8
        refine q_ixL (SqL.of eLB9) (atI_nat (v := .bl g) (by
          show ([f0, f1, f2, f3].map V.bl)[r]? = _
          rw [List.getElem?_map, FL.gg]; rfl)) ?_
        walk_at "st"
        refine q_setL (j := r) eLB9 (by unfold ixN; rw [if_pos (by omega), if_pos (by simp; omega), Int.toNat_natCast]) ?_
        have ev : ([V.bl f0, .bl f1, .bl f2, .bl f3].set r (.bl !g)) = ([f0, f1, f2, f3].set r (!g)).map V.bl := by rw [List.map_set]; rfl
        rw [ev]
        have bL := But.put (H := H9) (r := LB) (o := .lst (([f0, f1, f2, f3].set r (!g)).map V.bl))
        have eLB10 : upd H9 LB (.lst (([f0, f1, f2, f3].set r (!g)).map V.bl)) LB = some (.lst (([f0, f1, f2, f3].set r (!g)).map V.bl)) := upd_same
        generalize upd H9 LB (.lst (([f0, f1, f2, f3].set r (!g)).map V.bl)) = H10 at *
        have eU10 := bL _ _ eU9 (Ne.symm nLBU)
        have s510 : Same H5' H10 := fun b o hb => bL _ _ (s9 _ _ (s58 _ _ hb)) (ne_of_none hb nLB5)
        have dFl : Dp K H10 (.ref LB) (.list [b'.wipe, b'.pad, b'.lend, b'.share]) := by
          rw [FL.fl]
          exact .lst (SqL.of eLB10) (dpBls _)
        have hLU : LawAt K H10 U b' := ⟨⟨u0, u1, u2, u3, u4, u5, u6, u7, u8, u9, u10, .ref LB, eU10, by rw [FL.t]; exact L2.Dp.mono s510 d0, by rw [FL.p]; exact L2.Dp.mono s510 d1, by rw [FL.q]; exact L2.Dp.mono s510 d2, by rw [FL.k]; exact L2.Dp.mono s510 d3, by rw [FL.f]; exact L2.Dp.mono s510 d4, by rw [FL.d]; exact L2.Dp.mono s510 d5, by rw [FL.ri]; exact L2.Dp.mono s510 d6, by rw [FL.l]; exact L2.Dp.mono s510 d7, by rw [FL.c]; exact L2.Dp.mono s510 d8, by rw [FL.pl]; exact L2.Dp.mono s510 d9, by rw [FL.o]; exact L2.Dp.mono s510 d10, dFl⟩⟩
        clear dFl eU10 eLB10 bL ev eU9 eLB9 eU8 eLB8 s58 s9
        walk_at "st"
        refine ⟨U, b', rfl, hLU, FL.ok, fun y9 H11 s11 _ hB9 => ?_⟩
        walk_at "st"
        refine ⟨y9, b', rfl, hB9, nMR, fun m9 H12 s12 hm9 => ?_⟩
        have s5z := s510.trans (s11.trans s12)
        replace hm2 := hm2.mono s5z
        replace hL2 := hL2.mono s5z
        replace hB2 := hB2.mono s5z
        replace s02 := s02.trans s5z
        clear hLU hB9 s11 s12 s510 d1 d2 d3 d4 d5 d6 d7 d8 d9 d10 d11 fs1
        replace e := s5z _ _ e
        replace d0 := L2.Dp.mono s5z d0
        clear s5z
        walk_at "st"
        refine q_eqM hm9 hm2 (first_shaped FL.ok) (first_shaped ok) ?_
        rw [FL.ne2, Bool.false_and]
        walk_at "st"
        refine q_eqM hm2 hm9 (first_shaped ok) (first_shaped FL.ok) ?_
        rw [FL.ne1, Bool.false_and]
        walk_at "st"
        refine ⟨by show 2 ≤ sizeLine; decide, fun le1 nle1 => ?_⟩
        have se1 := same_new (o := .lst [V.bl false, V.bl false]) nle1
        have ee1 : upd H12 le1 (.lst [V.bl false, V.bl false]) le1 = some (.lst [V.bl false, V.bl false]) := upd_same
        generalize upd H12 le1 (.lst [V.bl false, V.bl false]) = H13 at *
        walk_at "st"
        refine ⟨by show 2 ≤ sizeLine; decide, fun le2 nle2 => ?_⟩
        have se2 := same_new (o := .lst [V.bl false, V.bl false]) nle2
        have ee2 : upd H13 le2 (.lst [V.bl false, V.bl false]) le2 = some (.lst [V.bl false, V.bl false]) := upd_same
        generalize upd H13 le2 (.lst [V.bl false, V.bl false]) = H14 at *
        have s24 := se1.trans se2
        walk_at "st"
        refine ⟨.ref le1, .ref le2, .list [.bool false, .bool false], rfl, .lst (SqL.of (se2 _ _ ee1)) (.cons (.bl _) (.cons (.bl _) .nil)), .lst (SqL.of ee2) (.cons (.bl _) (.cons (.bl _) .nil)), ?_, ?_⟩
        · exact depN_lst (k := 4) (by simp) fun y hy => by
            simp only [List.mem_cons, List.not_mem_nil, or_false] at hy
            rcases hy with rfl | rfl <;> exact depN_leaf trivial
        replace hm2 := hm2.mono s24
        replace hm9 := hm9.mono s24
        replace hL2 := hL2.mono s24
        replace hB2 := hB2.mono s24
        replace s02 := s02.trans s24
        replace e := s24 _ _ e
        replace d0 := L2.Dp.mono s24 d0
        clear s24 se1 se2 ee1 ee2 nle1 nle2
        walk_at "st"
        refine iteF' rfl ?_
        walk_at "st"
        refine ⟨m9, y9, D, b', b, rfl, by rw [← FL.fd]; exact hm9, by rw [FL.t], hL2, ok, fun H15 s15 => ?_⟩
        clear hm9
        replace hm2 := hm2.mono s15
        replace hL2 := hL2.mono s15
        replace hB2 := hB2.mono s15
        replace s02 := s02.trans s15
        replace e := s15 _ _ e
        replace d0 := L2.Dp.mono s15 d0
        clear s15
        walk_at "st"
        refine iteF' rfl ?_
        walk_at "st"
        refine q_getD e (by rfl) ?_
        walk_at "st"
        obtain ⟨ta, tz, rfl, th, tl⟩ : ∃ a xs, u0 = .ref a ∧ SqL K H15 a xs ∧ xs.length = tds.length := by
          rw [et] at d0
          cases d0 with
          | lst h1 h2 => exact ⟨_, _, rfl, h1, h2.length⟩
        refine ⟨ta, tz, rfl, .inl th, ?_⟩
        rw [tl]
        walk_at "st"
        refine ⟨10, 30, rfl, rfl, ⟨by decide, by decide, by decide⟩, ?_⟩
        walk_at "st"
        refine ⟨by show 1 ≤ sizeLine; decide, fun pt npt => ?_⟩
        have st := same_new (o := .tup [V.int 0]) npt
        have ept : upd H15 pt (.tup [V.int 0]) pt = some (.tup [V.int 0]) := upd_same
        generalize upd H15 pt (.tup [V.int 0]) = H16 at *
        walk_at "st"
        refine ⟨by show 1 ≤ sizeLine; decide, fun pl' npl => ?_⟩
        have sp := same_new (o := .lst [V.int 0]) npl
        have epl : upd H16 pl' (.lst [V.int 0]) pl' = some (.lst [V.int 0]) := upd_same
        generalize upd H16 pl' (.lst [V.int 0]) = H17 at *
        walk_at "st"
        intro pd npd
        have sd := same_new (o := .dK []) npd
        have epd : upd H17 pd (.dK []) pd = some (.dK []) := upd_same
        generalize upd H17 pd (.dK []) = H18 at *
        walk_at "st"
        refine ⟨by show 12 ≤ sizeLine; decide, fun LX nLX => ?_⟩
        have sx := same_new (o := .lst [V.int tds.length, V.int (-1), V.int (10 ^ (30 : Int).toNat), V.bl true, V.bl false, V.non, V.str "0", V.ref pt, V.ref pl', V.ref pd, V.ref x, V.ref m]) nLX
        have eLX : upd H18 LX (.lst [V.int tds.length, V.int (-1), V.int (10 ^ (30 : Int).toNat), V.bl true, V.bl false, V.non, V.str "0", V.ref pt, V.ref pl', V.ref pd, V.ref x, V.ref m]) LX = some (.lst [V.int tds.length, V.int (-1), V.int (10 ^ (30 : Int).toNat), V.bl true, V.bl false, V.non, V.str "0", V.ref pt, V.ref pl', V.ref pd, V.ref x, V.ref m]) := upd_same
        generalize upd H18 LX (.lst [V.int tds.length, V.int (-1), V.int (10 ^ (30 : Int).toNat), V.bl true, V.bl false, V.non, V.str "0", V.ref pt, V.ref pl', V.ref pd, V.ref x, V.ref m]) = H19 at *
        have s519 := st.trans (sp.trans (sd.trans sx))
        replace hm2 := hm2.mono s519
        replace hL2 := hL2.mono s519
        replace hB2 := hB2.mono s519
        replace s02 := s02.trans s519
        have ept' := (sp.trans (sd.trans sx)) _ _ ept
        have epl' := (sd.trans sx) _ _ epl
        have epd' := sx _ _ epd
        clear s519 st sp sd sx ept epl epd npt npl npd nLX e d0 th
        have bads : ∀ k, k < 12 → ∃ y, [V.int tds.length, V.int (-1), V.int (10 ^ (30 : Int).toNat), V.bl true, V.bl false, V.non, V.str "0", V.ref pt, V.ref pl', V.ref pd, V.ref x, V.ref m][k]? = some y ∧ BetV K H19 y 0 (((dl b.tasks).length : Int) - 1) false := fun k hk => by
          rw [fn]
          have big : ¬ ((10 : Int) ^ (30 : Int).toNat ≤ (tds.length : Int) - 1) := by
            have : (10 : Int) ^ (30 : Int).toNat = 1000000000000000000000000000000 := by decide +kernel
            omega
          obtain ⟨_, dxb, fsb, _, exb, _⟩ := hB2
          obtain ⟨dxm, fsm, _, exm, _⟩ := hm2
          have dB : ∀ {i : Int}, ¬ (0 ≤ i ∧ i ≤ (tds.length : Int) - 1) → false = dBetween (.int i) 0 ((tds.length : Int) - 1) := fun {i} h => by
            show false = (decide (0 ≤ i) && decide (i ≤ (tds.length : Int) - 1))
            symm
            rw [Bool.and_eq_false_iff]
            by_cases c : 0 ≤ i
            · exact .inr (decide_eq_false fun z => h ⟨c, z⟩)
            · exact .inl (decide_eq_false c)
          rcases (show k = 0 ∨ k = 1 ∨ k = 2 ∨ k = 3 ∨ k = 4 ∨ k = 5 ∨ k = 6 ∨ k = 7 ∨ k = 8 ∨ k = 9 ∨ k = 10 ∨ k = 11 by omega) with rfl | rfl | rfl | rfl | rfl | rfl | rfl | rfl | rfl | rfl | rfl | rfl
          · exact ⟨_, rfl, .inl ⟨_, .int _, dB (by omega)⟩⟩
          · exact ⟨_, rfl, .inl ⟨_, .int _, dB (by omega)⟩⟩
          · exact ⟨_, rfl, .inl ⟨_, .int _, dB fun z => big z.2⟩⟩
          · exact ⟨_, rfl, .inl ⟨_, .bl _, rfl⟩⟩
          · exact ⟨_, rfl, .inl ⟨_, .bl _, rfl⟩⟩
          · exact ⟨_, rfl, .inl ⟨_, .non, rfl⟩⟩
          · exact ⟨_, rfl, .inl ⟨_, .str _, rfl⟩⟩
          · exact ⟨_, rfl, .inl ⟨.tuple [.int 0], .tup (SqT.of ept') (.cons (.int _) .nil), rfl⟩⟩
          · exact ⟨_, rfl, .inl ⟨.list [.int 0], .lst (SqL.of epl') (.cons (.int _) .nil), rfl⟩⟩
          · exact ⟨_, rfl, .inr ⟨⟨_, .base (.dK epd'), kit_ty (by decide +kernel)⟩, rfl⟩⟩
          · exact ⟨_, rfl, .inr ⟨⟨_, .base (.ins exb IC.cl IC.ha IC.hn IC.htk IC.hm), kC⟩, rfl⟩⟩
          · exact ⟨_, rfl, .inr ⟨⟨_, .base (.ins exm IM.cl IM.ha IM.hn IM.htk IM.hm), kM⟩, rfl⟩⟩
        clear ept' epl' epd'
        have lbad : [V.int tds.length, V.int (-1), V.int (10 ^ (30 : Int).toNat), V.bl true, V.bl false, V.non, V.str "0", V.ref pt, V.ref pl', V.ref pd, V.ref x, V.ref m].length = 12 := rfl
        generalize [V.int tds.length, V.int (-1), V.int (10 ^ (30 : Int).toNat), V.bl true, V.bl false, V.non, V.str "0", V.ref pt, V.ref pl', V.ref pd, V.ref x, V.ref m] = bad at bads eLX lbad
        let J3 : Nat → L2.St → Hp → Prop := fun j σ Hy => ∃ o6, σ = [some (.ref a), some (.ref D), some (.ref x), some (.ref m), o4, some (.ref LP), o6, some (.ref U), some (.ref LB), some (.int r), some (.ref m9), some (.ref LX)] ∧ Same H19 Hy
        refine q_seq ?_
        refine q_forRA ?_
        walk_at "st"
        refine ⟨12, rfl, by omega, by omega, ?_⟩
        rw [show (12 : Int).toNat = 12 from rfl]
        refine forR J3 ⟨_, rfl, Same.refl _⟩ (fun j σ Hy lj hJ3 => ?_) (fun σ Hy hJ3 => ?_)
        · obtain ⟨o6, rfl, sY⟩ := hJ3
          obtain ⟨y, ey, by_⟩ := bads j lj
          refine q_gname ?_
          walk_at "st"
          refine ⟨a, ns, 6, rfl, (s02.trans sY).seq hs, l63, by omega, fun c6 H20 hc6 s20 => ?_⟩
          walk_at "st"
          refine .inl ⟨_, rfl, ?_⟩
          walk_at "st"
          refine ⟨_, _, rfl, rfl, (show (0 : Int) < 4 by decide), ?_⟩
          walk_at "st"
          obtain ⟨rw_, erw, hrw⟩ : ∃ k : Nat, (c6 + (0 + (j : Int))) % 4 = (k : Int) ∧ k < 4 := ⟨((c6 + (0 + (j : Int))) % 4).toNat, by omega, by omega⟩
          refine q_ixL (SqL.of (s20 _ _ (sY _ _ eLX))) (by rw [Int.zero_add]; exact atI_nat ey) ?_
          rw [erw]
          walk_at "st"
          refine ⟨m, x, b, firstD b, rw_, y, rfl, hrw, hm2.mono (sY.trans s20), by_.mono (sY.trans s20), fun H21 s21 => ?_⟩
          walk_at "st"
          refine iteF' rfl ?_
          walk_at "st"
          exact ⟨_, rfl, sY.trans (s20.trans s21)⟩
        · obtain ⟨o6, rfl, sY⟩ := hJ3
          walk_at "st"
          exact ⟨m, x, D, b, b, rfl, hm2.mono sY, rfl, hL2.mono sY, ok, fun H21 s21 => q _⟩))) only [↓Hk.hold_s]
end
end T
namespace T
theorem kit_int {K : PySem.W.Frag} {C : Addr} (h : PySem.W.mroIn K C (.type "int") = some false) : PySem.W.kitOne K (.ref C) (.type "int") = some false := by
  unfold PySem.W.kitOne PySem.W.kitCls
  have e : (Value.ref C == Value.type "int") = false := beq_eq_false_iff_ne.mpr (by intro z; cases z)
  rw [e, if_neg (by decide)]
  dsimp only
  rw [if_pos (by decide +kernel)]
  exact h
theorem all_ok {P : Program} {w : World} {K : PySem.W.Frag} {mg : Str → Option Value} {base : Heap} {C CR CM dF tR fR fM fB KE NT NTs : Addr} {fdR fdM fdB : FuncData}
    (B : Bl mg) (g_abs : mg "abs" = none) (g_sum : mg "sum" = none) (LL : LG mg) (TB : BCls K C) (R : RCls K CR) (TM : MCls K CM) (RF : RForms K w mg dF) (GR : GK K mg tR) (GMM : GM mg) (XN : XNs K mg KE NT) (XR : XRs K mg KE NT NTs) (nMR : CM ≠ CR) (nCM : C ≠ CM) (IC : C8.InsC K C) (IM : C8.InsC K CM) (kC : PySem.W.kitOne K (.ref C) (.type "int") = some false) (kM : PySem.W.kitOne K (.ref CM) (.type "int") = some false)
    (d_is_integer : DefAt K mg "is_integer" s_is_integer ["thing"])
    (d_is_between : DefAt K mg "is_between" s_is_between ["thing", "low", "high"])
    (d_is_index : DefAt K mg "is_index" s_is_index ["thing", "many"])
    (d_is_tuple : DefAt K mg "is_tuple" s_is_tuple ["thing", "many"])
    (d_is_list : DefAt K mg "is_list" s_is_list ["thing", "low", "high"])
    (d_is_ascending : DefAt K mg "is_ascending" s_is_ascending ["items"])
    (d_counted : DefAt K mg "counted" s_counted ["tasks", "pages", "ports", "locks", "disk"])
    (d_word_of : DefAt K mg "word_of" s_word_of ["thing"])
    (d_is_formed : DefAt K mg "is_formed" s_is_formed ["counts", "kinds", "thing"])
    (d_is_of_kind : DefAt K mg "is_of_kind" s_is_of_kind ["counts", "kind", "item"])
    (d_is_right : DefAt K mg "is_right" s_is_right ["counts", "thing"])
    (d_fit_as_numbers : DefAt K mg "fit_as_numbers" s_fit_as_numbers ["numbers", "most", "low", "high"])
    (d_fit_as_row : DefAt K mg "fit_as_row" s_fit_as_row ["counts", "row"])
    (d_fit_as_rights : DefAt K mg "fit_as_rights" s_fit_as_rights ["counts", "rights"])
    (d_fit_as_lines : DefAt K mg "fit_as_lines" s_fit_as_lines ["counts", "lines"])
    (d_fit_as_costs : DefAt K mg "fit_as_costs" s_fit_as_costs ["costs"])
    (d_fits_as_slot : DefAt K mg "fits_as_slot" s_fits_as_slot ["counts", "row"])
    (d_fits_as_outside : DefAt K mg "fits_as_outside" s_fits_as_outside ["counts", "outside"])
    (d_fit_as_plan : DefAt K mg "fit_as_plan" s_fit_as_plan ["counts", "plan"])
    (d_fit_as_tasks : DefAt K mg "fit_as_tasks" s_fit_as_tasks ["tasks"])
    (d_things_fault : DefAt K mg "things_fault" s_things_fault ["tasks", "pages", "ports", "locks", "frames", "disk"])
    (d_ways_fault : DefAt K mg "ways_fault" s_ways_fault ["counts", "rights", "lines", "costs", "plan", "outside"])
    (d_flags_fault : DefAt K mg "flags_fault" s_flags_fault ["flags"])
    (d_check_task : DefAt K mg "check_task" s_check_task ["build", "task"])
    (d_first : DefAt K mg "first" s_first ["build"])
    (d__law_cell : DefAt K mg "_law_cell" s__law_cell ["_law_script", "_law_k"])
    (d__law_digits : DefAt K mg "_law_digits" s__law_digits ["_law_cell_here", "_law_sizes"])
    (d__law_same : DefAt K mg "_law_same" s__law_same ["_law_told", "_law_due"])
    (d__law_menu : DefAt K mg "_law_menu" s__law_menu ["_law_many", "_law_pages", "_law_ports", "_law_locks", "_law_disk"])
    (d__law_rights : DefAt K mg "_law_rights" s__law_rights ["_law_cell_here", "_law_menu_here"])
    (d__law_things : DefAt K mg "_law_things" s__law_things ["_law_script"])
    (d__law_parts : DefAt K mg "_law_parts" s__law_parts ["_law_script"])
    (d__law_build : DefAt K mg "_law_build" s__law_build ["_law_parts_here"])
    (d__law_asked : DefAt K mg "_law_asked" s__law_asked ["_law_moment", "_law_which", "_law_task"])
    (d__law_refused : DefAt K mg "_law_refused" s__law_refused ["_law_moment", "_law_which", "_law_task"])
    (d__law_lists_of : DefAt K mg "_law_lists_of" s__law_lists_of ["_law_moment"])
    (d__law_tells : DefAt K mg "_law_tells" s__law_tells ["_law_moment", "_law_parts_here"])
    (b_tasks : MethAt K C "tasks" "Build.tasks" s_Build_tasks ["self"])
    (b_pages : MethAt K C "pages" "Build.pages" s_Build_pages ["self"])
    (b_ports : MethAt K C "ports" "Build.ports" s_Build_ports ["self"])
    (b_lines : MethAt K C "lines" "Build.lines" s_Build_lines ["self"])
    (b_locks : MethAt K C "locks" "Build.locks" s_Build_locks ["self"])
    (b_frames : MethAt K C "frames" "Build.frames" s_Build_frames ["self"])
    (b_disk : MethAt K C "disk" "Build.disk" s_Build_disk ["self"])
    (b_costs : MethAt K C "costs" "Build.costs" s_Build_costs ["self"])
    (b_outside : MethAt K C "outside" "Build.outside" s_Build_outside ["self"])
    (b_wipe : MethAt K C "wipe" "Build.wipe" s_Build_wipe ["self"])
    (b_pad : MethAt K C "pad" "Build.pad" s_Build_pad ["self"])
    (b_lend : MethAt K C "lend" "Build.lend" s_Build_lend ["self"])
    (b_share : MethAt K C "share" "Build.share" s_Build_share ["self"])
    (b_plan : MethAt K C "plan" "Build.plan" s_Build_plan ["self"])
    (b_sides : MethAt K C "sides" "Build.sides" s_Build_sides ["self"])
    (b_rights : MethAt K C "rights" "Build.rights" s_Build_rights ["self"])
    (b___eq__ : MethAt K C "__eq__" "Build.__eq__" s_Build___eq__ ["self", "other"])
    (r_set_costs : MethAt K CR "set_costs" "Rules.set_costs" s_Rules_set_costs ["self", "costs"])
    (r_set_frames : MethAt K CR "set_frames" "Rules.set_frames" s_Rules_set_frames ["self", "build"])
    (r_slot_ticks : MethAt K CR "slot_ticks" "Rules.slot_ticks" s_Rules_slot_ticks ["self", "rows"])
    (r_set_plan : MethAt K CR "set_plan" "Rules.set_plan" s_Rules_set_plan ["self", "plan"])
    (r_set_letters : MethAt K CR "set_letters" "Rules.set_letters" s_Rules_set_letters ["self", "outside"])
    (o_build : MethAt K CM "build" "Moment.build" s_Moment_build ["self"])
    (o_shape : MethAt K CM "shape" "Moment.shape" s_Moment_shape ["self"])
    (o_status : MethAt K CM "status" "Moment.status" s_Moment_status ["self", "task"])
    (o_answer : MethAt K CM "answer" "Moment.answer" s_Moment_answer ["self", "task"])
    (o_rights : MethAt K CM "rights" "Moment.rights" s_Moment_rights ["self", "task"])
    (o_held : MethAt K CM "held" "Moment.held" s_Moment_held ["self", "task"])
    (o_pages : MethAt K CM "pages" "Moment.pages" s_Moment_pages ["self"])
    (o_ports : MethAt K CM "ports" "Moment.ports" s_Moment_ports ["self"])
    (o_locks : MethAt K CM "locks" "Moment.locks" s_Moment_locks ["self"])
    (o_lines : MethAt K CM "lines" "Moment.lines" s_Moment_lines ["self"])
    (o_head : MethAt K CM "head" "Moment.head" s_Moment_head ["self"])
    (o_running : MethAt K CM "running" "Moment.running" s_Moment_running ["self"])
    (o___eq__ : MethAt K CM "__eq__" "Moment.__eq__" s_Moment___eq__ ["self", "other"])
    (gR : mg "Rules" = some (.ref CR)) (MR : Mk K CR fR) (FR : Fun K "__init__" "Rules.__init__" s_Rules___init__ fR fdR) (bR : Binds K fdR ["self", "build"] [])
    (gM : mg "Moment" = some (.ref CM)) (MM : Mk K CM fM) (FM : Fun K "__init__" "Moment.__init__" s_Moment___init__ fM fdM) (bM : Binds K fdM ["self", "build", "shape"] [])
    (gB : mg "Build" = some (.ref C)) (MB : Mk K C fB) (FB : Fun K "__init__" "Build.__init__" s_Build___init__ fB fdB) (bB : KBn K fdB ["self", "tasks", "pages", "ports", "locks", "frames", "disk", "rights", "lines", "costs", "plan", "outside", "wipe", "pad", "lend", "share"] (11 + 1) ["wipe", "pad", "lend", "share"] (fun us ws => us ++ ws) (fun vs zs => vs ++ zs)) :
    ∀ f fd, Fun K "law" "law" s_law f fd → FnOk P w K mg base CX0 13 f fd ["_law_script"] (spLaw K) := by
 refine Hk.hold ?_
 simp (disch := with_unfolding_all (
 exact Hk.disch (by
  have c_is_integer := ok_is_integer (P := P) (w := w) (base := base) B d_is_integer 
  have c_is_between := ok_is_between (P := P) (w := w) (base := base) B d_is_between c_is_integer
  have c_is_index := ok_is_index (P := P) (w := w) (base := base) B d_is_index c_is_between
  have c_is_tuple := ok_is_tuple (P := P) (w := w) (base := base) B d_is_tuple 
  have c_is_list := ok_is_list (P := P) (w := w) (base := base) B d_is_list 
  have c_is_ascending := ok_is_ascending (P := P) (w := w) (base := base) B d_is_ascending 
  have c_counted := ok_counted (P := P) (w := w) (base := base) B d_counted 
  have c_word_of := ok_word_of (P := P) (w := w) (base := base) B d_word_of 
  have c_is_of_kind := ok_is_of_kind1 (P := P) (w := w) (base := base) B d_is_of_kind c_is_between c_is_index
  have c_is_formed := ok_is_formed (P := P) (w := w) (base := base) B d_is_formed c_is_of_kind
  have c_is_right := ok_is_right (P := P) (base := base) B RF d_is_right c_word_of c_is_formed
  have c_fit_as_numbers := ok_fit_as_numbers (P := P) (w := w) (base := base) B d_fit_as_numbers c_is_list c_is_between
  have c_fit_as_row := ok_fit_as_row (P := P) (w := w) (base := base) B d_fit_as_row c_is_list c_is_right c_is_ascending
  have c_fit_as_rights := ok_fit_as_rights (P := P) (w := w) (base := base) B d_fit_as_rights c_is_list c_fit_as_row
  have c_fit_as_lines := ok_fit_as_lines (P := P) (w := w) (base := base) B d_fit_as_lines c_is_list c_is_between
  have c_fit_as_costs := ok_fit_as_costs (P := P) (w := w) (base := base) B d_fit_as_costs c_is_tuple c_is_between
  have c_fits_as_slot := ok_fits_as_slot (P := P) (w := w) (base := base) B d_fits_as_slot c_is_tuple c_is_between c_is_index
  have c_fits_as_outside := ok_fits_as_outside (P := P) (w := w) (base := base) B d_fits_as_outside c_is_tuple c_is_between c_is_index
  have c_fit_as_plan := ok_fit_as_plan (P := P) (w := w) (base := base) B d_fit_as_plan c_is_tuple c_is_between c_is_list c_fits_as_slot
  have c_fit_as_tasks := ok_fit_as_tasks (P := P) (w := w) (base := base) B d_fit_as_tasks c_is_list c_is_tuple c_is_between
  have c_things_fault := ok_things_fault (P := P) (w := w) (base := base) B d_things_fault c_fit_as_tasks c_fit_as_numbers c_is_between
  have c_ways_fault := ok_ways_fault (P := P) (w := w) (base := base) B d_ways_fault c_fit_as_rights c_fit_as_lines c_fit_as_costs c_fit_as_plan c_fits_as_outside
  have c_flags_fault := ok_flags_fault (P := P) (w := w) (base := base) B d_flags_fault 
  have m_tasks := ok_Build_tasks (P := P) (w := w) (base := base) B TB b_tasks
  have m_pages := ok_Build_pages (P := P) (w := w) (base := base) B TB b_pages
  have m_ports := ok_Build_ports (P := P) (w := w) (base := base) B TB b_ports
  have m_lines := ok_Build_lines (P := P) (w := w) (base := base) B TB b_lines
  have m_locks := ok_Build_locks (P := P) (w := w) (base := base) B TB b_locks
  have m_frames := ok_Build_frames (P := P) (w := w) (base := base) B TB b_frames
  have m_disk := ok_Build_disk (P := P) (w := w) (base := base) B TB b_disk
  have m_costs := ok_Build_costs (P := P) (w := w) (base := base) B TB b_costs
  have m_outside := ok_Build_outside (P := P) (w := w) (base := base) B TB b_outside
  have m_wipe := ok_Build_wipe (P := P) (w := w) (base := base) B TB b_wipe
  have m_pad := ok_Build_pad (P := P) (w := w) (base := base) B TB b_pad
  have m_lend := ok_Build_lend (P := P) (w := w) (base := base) B TB b_lend
  have m_share := ok_Build_share (P := P) (w := w) (base := base) B TB b_share
  have m_plan := ok_Build_plan (P := P) (w := w) (base := base) B TB b_plan
  have m_sides := ok_Build_sides (P := P) (w := w) (base := base) B TB b_sides
  have m_rights := ok_Build_rights (P := P) (w := w) (base := base) B TB b_rights
  have m_eqB := ok_Build_eq (P := P) (w := w) (base := base) B TB gB IC b___eq__
  have m_set_costs := ok_set_costs (P := P) (w := w) (base := base) B R r_set_costs
  have m_set_frames := ok_set_frames (P := P) (w := w) (base := base) B R m_frames m_share m_sides r_set_frames
  have m_slot_ticks := ok_slot_ticks (P := P) (w := w) (base := base) B R r_slot_ticks
  have m_set_plan := ok_set_plan (P := P) (w := w) (base := base) B R m_slot_ticks r_set_plan
  have m_set_letters := ok_set_letters (P := P) (w := w) (base := base) B LL R r_set_letters
  have i_Rules := ok_Rules (P := P) (w := w) (base := base) B R c_counted m_tasks m_pages m_ports m_lines m_locks m_disk m_costs m_plan m_outside m_wipe m_pad m_lend m_set_costs m_set_frames m_set_plan m_set_letters fR fdR FR
  have c_Rules : MkCal P w K mg base 3 CR "Rules" ["self", "build"] (spRules K C CR) := ⟨gR, fR, fdR, MR, bR, i_Rules⟩
  have i_Build := ok_Build (P := P) (w := w) (base := base) B TB c_counted c_things_fault c_ways_fault c_flags_fault c_Rules fB fdB FB
  have c_Build : MkKCal P w K mg base 10 C "Build" ["self", "tasks", "pages", "ports", "locks", "frames", "disk", "rights", "lines", "costs", "plan", "outside", "wipe", "pad", "lend", "share"] 11 ["wipe", "pad", "lend", "share"] (spBuild K C CR) := ⟨gB, fB, fdB, MB, bB, i_Build⟩
  have c_Moment : MkCal P w K mg base 1 CM "Moment" ["self", "build", "shape"] (spMoment K C CR CM) := ⟨gM, fM, fdM, MM, bM, ok_Moment B TM fM fdM FM⟩
  have o_build' := ok_M_build (P := P) (w := w) (base := base) (C := C) (CR := CR) B TM o_build
  have o_shape' := ok_M_shape (P := P) (w := w) (base := base) (C := C) (CR := CR) B TM o_shape
  have o_running' := ok_M_running (P := P) (w := w) (base := base) (C := C) (CR := CR) B TM GMM o_running
  have o_head' := ok_M_head (P := P) (w := w) (base := base) (C := C) (CR := CR) B TM GMM o_head
  have o_pages' := ok_M_pages (P := P) (w := w) (base := base) (C := C) (CR := CR) B TM GMM o_pages
  have o_locks' := ok_M_locks (P := P) (w := w) (base := base) (C := C) (CR := CR) B TM GMM o_locks
  have o_lines' := ok_M_lines (P := P) (w := w) (base := base) (C := C) (CR := CR) B TM GMM o_lines
  have o_ports' := ok_M_ports (P := P) (w := w) (base := base) (C := C) (CR := CR) B TM GMM o_ports
  have c_check_task := ok_check_task (P := P) (w := w) (base := base) B TB R c_is_index d_check_task
  have o_status' := ok_M_status (P := P) (w := w) (base := base) B TM GMM c_check_task o_status
  have o_answer' := ok_M_answer (P := P) (w := w) (base := base) B TM GMM c_check_task o_answer
  have o_rights' := ok_M_rights (P := P) (w := w) (base := base) B TM GMM c_check_task o_rights
  have o_held' := ok_M_held (P := P) (w := w) (base := base) B TM GMM c_check_task o_held
  have c_is_integerO := ok_is_integerO (P := P) (w := w) (base := base) B d_is_integer
  have c_is_betweenO := ok_is_betweenO (P := P) (w := w) (base := base) B d_is_between c_is_integerO
  have c_is_indexO := ok_is_indexO (P := P) (w := w) (base := base) B d_is_index c_is_betweenO
  have c_check_taskX := ok_check_taskX (P := P) (w := w) (base := base) B XN TB R c_is_indexO d_check_task
  have x_status := MCalX.md (ok_M_statusX (P := P) (w := w) (base := base) B TM c_check_taskX o_status)
  have x_answer := MCalX.md (ok_M_answerX (P := P) (w := w) (base := base) B TM c_check_taskX o_answer)
  have x_rights := MCalX.md (ok_M_rightsX (P := P) (w := w) (base := base) B TM c_check_taskX o_rights)
  have x_held := MCalX.md (ok_M_heldX (P := P) (w := w) (base := base) B TM c_check_taskX o_held)
  have m_eqM := ok_Moment_eq (P := P) (w := w) (base := base) (CR := CR) B TM gM IM m_eqB o___eq__
  have c_first := ok_first (P := P) (w := w) (base := base) B TB R GR m_rights m_ports m_locks m_pages c_Moment d_first
  have c__law_cell := ok_law_cell (P := P) (w := w) (base := base) B g_abs g_sum d__law_cell
  have c__law_digits := ok_law_digits (P := P) (w := w) (base := base) B d__law_digits
  have c__law_same := ok_law_same (P := P) (w := w) (base := base) B d__law_same 5
  have c__law_menu := ok_law_menu (P := P) (w := w) (base := base) (K := K) B d__law_menu
  have c__law_rights := ok_law_rights (P := P) (w := w) (base := base) B c__law_digits d__law_rights
  have c__law_things := ok_law_things (P := P) (w := w) (base := base) B c__law_cell c__law_digits c__law_menu c__law_rights d__law_things
  have c__law_parts := ok_law_parts (P := P) (w := w) (base := base) B c__law_cell c__law_digits c__law_things d__law_parts
  have c__law_build := ok_law_build (P := P) (w := w) (base := base) B c_Build d__law_build
  have c__law_asked := ok_law_asked (P := P) (w := w) (base := base) B o_status' o_answer' o_rights' o_held' d__law_asked
  have c__law_askedX := ok_law_askedX (P := P) (w := w) (base := base) B x_status x_answer x_rights x_held d__law_asked
  have c__law_refused := ok_law_refused (P := P) (w := w) (base := base) B XR c__law_askedX d__law_refused
  have c__law_lists_of := ok_law_lists_of (P := P) (w := w) (base := base) B o_pages' o_ports' o_locks' o_lines' d__law_lists_of
  have c__law_tells := ok_law_tells (P := P) (w := w) (base := base) B c__law_same c__law_lists_of c__law_asked o_shape' o_head' o_running' d__law_tells
  exact ok_law B IC IM kC kM nMR nCM c__law_cell c__law_same c__law_parts c__law_build c_first c__law_tells c__law_lists_of c__law_refused o_build' o_ports' o_rights' m_eqB m_eqM))) only [↓Hk.hold_s]
end T
namespace T
/-- what the top has written of a def -/
structure DefF (K : PySem.W.Frag) (x qual : Str) (st : Stmt) (f : Addr) : Prop where
  ex : ∃ (oc : Value) (od : Option Addr) (kV doc pm : Value) (an : Option Addr) (cd ct : Value) (sl : Array (Option Value)), K.lookup f = some ⟨oc, od, .func (PySem.W.fnOf x qual (defArgs st) (defBody st) (defScope st) .none kV doc pm an cd ct), sl⟩ ∧ PySem.W.codeIn K cd qual = true
  kp : PySem.W.keepIn K (.ref f) = true
theorem DefF.mk' {K : PySem.W.Frag} {x qual : Str} {st : Stmt} {f : Addr} {oc : Value} {od : Option Addr} {kV doc pm : Value} {an : Option Addr} {cd ct : Value} {sl : Array (Option Value)} (l : K.lookup f = some ⟨oc, od, .func (PySem.W.fnOf x qual (defArgs st) (defBody st) (defScope st) .none kV doc pm an cd ct), sl⟩) (c : PySem.W.codeIn K cd qual = true) (k : PySem.W.keepIn K (.ref f) = true) : DefF K x qual st f := ⟨⟨oc, od, kV, doc, pm, an, cd, ct, sl, l, c⟩, k⟩
theorem DefF.fn {K : PySem.W.Frag} {x qual : Str} {st : Stmt} {f : Addr} (d : DefF K x qual st f) : ∃ fd, Fun K x qual st f fd := by
  obtain ⟨⟨oc, od, kV, doc, pm, an, cd, ct, sl, l, c⟩, k⟩ := d
  exact ⟨_, fun_mk l c k⟩
theorem DefF.at {K : PySem.W.Frag} {mg : Str → Option Value} {h : Heap} {x : Str} {st : Stmt} {f : Addr} {ps : List Str} (X : K.In h) (G : h.Ns mainGlobals mg) (a : PySem.W.nsIn K mainGlobals x = some (some (.ref f))) (d : DefF K x x st f)
    (b : ∀ fd, Fun K x x st f fd → Binds K fd ps []) : DefAt K mg x st ps := by
  obtain ⟨fd, F⟩ := d.fn
  exact ⟨f, fd, F, PySem.W.mg_of X G a, b fd F⟩
theorem DefF.meth {K : PySem.W.Frag} {m qual : Str} {st : Stmt} {f C : Addr} {ps : List Str} (cl : Cls K C) (a : PySem.W.findIn K (.ref C) m = some (some (.ref f))) (i : PySem.W.isFn K (.ref f) = true) (d : DefF K m qual st f)
    (b : ∀ fd, Fun K m qual st f fd → Binds K fd ps []) : MethAt K C m qual st ps := by
  obtain ⟨fd, F⟩ := d.fn
  exact ⟨cl, f, fd, F, ⟨a, i, F.kp⟩, b fd F⟩
theorem build_binds {K : PySem.W.Frag} {f : Addr} : ∀ fd, Fun K "__init__" "Build.__init__" s_Build___init__ f fd → KBn K fd ["self", "tasks", "pages", "ports", "locks", "frames", "disk", "rights", "lines", "costs", "plan", "outside", "wipe", "pad", "lend", "share"] (11 + 1) ["wipe", "pad", "lend", "share"] (fun us ws => us ++ ws) (fun vs zs => vs ++ zs) := fun fd F => by
  obtain ⟨oc, od, kV, doc, pm, an, cdv, ct, osl, rfl, lk, hcd⟩ := F.ex
  refine ⟨fun s us ws _ h1 h2 => ?_, fun r1 r2 => r1.append r2⟩
  match us, h1, ws, h2 with
  | [a0, a1, a2, a3, a4, a5, a6, a7, a8, a9, a10, a11], _, [w0, w1, w2, w3], _ => exact .of_eq rfl
/-- RIGHT_FORMS as it stands -/
theorem find_forms {K : PySem.W.Frag} {tab : List (Str × List Str)} : ∀ {l : List DictEntry} {tab : List (Str × List Str)}, Paired (fun (e : DictEntry) (p : Str × List Str) => ∃ t r, e.key = .str p.1 t ∧ e.val = .ref r ∧ ∀ H, SqT K H r (p.2.map V.str)) l tab → ∀ z,
    (∃ ks t e, tab.lookup z = some ks ∧ l.find? (·.key.isStr z) = some e ∧ e.val = .ref t ∧ ∀ H, SqT K H t (ks.map V.str)) ∨ (tab.lookup z = none ∧ l.find? (·.key.isStr z) = none)
  | [], [], .nil, z => .inr ⟨rfl, rfl⟩
  | e :: l, p :: tab, .cons h t, z => by
    obtain ⟨tk, r, e1, e2, e3⟩ := h
    by_cases hz : z = p.1
    · left
      refine ⟨p.2, r, e, by rw [List.lookup_cons, hz]; simp, by rw [List.find?_cons, e1, hz]; simp [Value.isStr], e2, e3⟩
    · have n1 : (z == p.1) = false := by simpa using hz
      have n2 : e.key.isStr z = false := by rw [e1]; simp [Value.isStr]; exact fun q => hz q.symm
      rw [List.lookup_cons, n1, List.find?_cons, n2]
      exact find_forms (tab := tab) (l := l) t z
theorem forms_mk {K : PySem.W.Frag} {w : World} {d : Addr} {tab : List (Str × List Str)} {es : Array DictEntry} {n : Nat} (hl : K.lookup d = some ⟨.type "dict", none, .dict es n, #[]⟩) (hk : PySem.W.KeysLit w.params es.toList) (low : (d == sysModules) = false)
    (hp : Paired (fun (e : DictEntry) (p : Str × List Str) => ∃ t r, e.key = .str p.1 t ∧ e.val = .ref r ∧ ∀ H, SqT K H r (p.2.map V.str)) es.toList tab) : FormsAt K w d tab := by
  refine ⟨⟨es, n, hl, hk⟩, low, fun z => ?_⟩
  rcases find_forms (K := K) (tab := tab) hp z with ⟨ks, t, e, h1, h2, h3, h4⟩ | ⟨h1, h2⟩
  · left
    refine ⟨ks, t, h1, ?_, h4⟩
    unfold PySem.W.nsIn
    rw [hl]
    simp only [h2, h3]
  · right
    refine ⟨h1, ?_⟩
    unfold PySem.W.nsIn
    rw [hl]
    have nr : es.toList.any (·.refKey) = false := by
      rw [List.any_eq_false]
      intro e he
      obtain ⟨x, t, e1, _⟩ := hk.all e he
      simp [DictEntry.refKey, e1]
    simp only [h2, nr]
    rfl
theorem tupK {K : PySem.W.Frag} {r : Addr} {oc : Value} {od : Option Addr} {its : Array Value} {n : Nat} {sl : Array (Option Value)} {xs : List V} (l : K.lookup r = some ⟨oc, od, .seq its n, sl⟩) (hc : oc = .type "tuple") (hs : its.size ≤ 100) (v : Vals xs its.toList) : ∀ H, SqT K H r xs :=
  fun _ => .inr ⟨_, its, n, l, hc, rfl, Nat.le_trans hs (by decide), v⟩
def IsErr (K : PySem.W.Frag) (KE C : Addr) : Prop := ∃ (nm q : Str) (N : Addr) (bs : List Value) (sn : List Str) (sub : List Value) (ab : Bool) (col : Option Bool) (dd : Option Addr) (k0 k1 k2 k3 k5 : Option Value), K.lookup C = some (excClassObj nm q C N bs (.ref KE :: PySem.HandSPX.veTail) true sn sub ab col dd k0 k1 k2 k3 k5 "ValueError.__new__")
theorem IsErr.mk' {K : PySem.W.Frag} {KE C : Addr} {nm q : Str} {N : Addr} {bs : List Value} {sn : List Str} {sub : List Value} {ab : Bool} {col : Option Bool} {dd : Option Addr} {k0 k1 k2 k3 k5 : Option Value}
    (h : K.lookup C = some (excClassObj nm q C N bs [.ref KE, .type "ValueError", .type "Exception", .type "BaseException", .type "object"] true sn sub ab col dd k0 k1 k2 k3 k5 "ValueError.__new__")) : IsErr K KE C := ⟨nm, q, N, bs, sn, sub, ab, col, dd, k0, k1, k2, k3, k5, h⟩
end T
namespace T
theorem all_mk {l : PySem.W.OpenLaw} {w : World} {K : PySem.W.Frag} {h : Heap} {mg : Str → Option Value} {fa C CR CM dF tR KE NT NTs f_is_integer f_is_between f_is_index f_is_tuple f_is_list f_is_ascending f_counted f_word_of f_is_formed f_is_of_kind f_is_right f_fit_as_numbers f_fit_as_row f_fit_as_rights f_fit_as_lines f_fit_as_costs f_fits_as_slot f_fits_as_outside f_fit_as_plan f_fit_as_tasks f_things_fault f_ways_fault f_flags_fault f_check_task f_first f__law_cell f__law_digits f__law_same f__law_menu f__law_rights f__law_things f__law_parts f__law_build f__law_asked f__law_refused f__law_lists_of f__law_tells f_law f_Build___init__ f_Build_tasks f_Build_pages f_Build_ports f_Build_lines f_Build_locks f_Build_frames f_Build_disk f_Build_costs f_Build_outside f_Build_wipe f_Build_pad f_Build_lend f_Build_share f_Build_plan f_Build_sides f_Build_rights f_Build___eq__ f_Rules___init__ f_Rules_set_costs f_Rules_set_frames f_Rules_slot_ticks f_Rules_set_plan f_Rules_set_letters f_Moment___init__ f_Moment_build f_Moment_shape f_Moment_status f_Moment_answer f_Moment_rights f_Moment_held f_Moment_pages f_Moment_ports f_Moment_locks f_Moment_lines f_Moment_head f_Moment_running f_Moment___eq__ : Addr} {t_STATUSES t_ANSWERS t_RIGHTS t_FRAMES t_PAGES t_PORTS t_LOCKS t_LINES t_HEAD t_RUNNING : Tok} (X : K.In h) (G : h.Ns mainGlobals mg) (hfa : mg "law" = some (.ref fa))
    (z_int : PySem.W.nsIn K mainGlobals "int" = some none)
    (z_str : PySem.W.nsIn K mainGlobals "str" = some none)
    (z_bool : PySem.W.nsIn K mainGlobals "bool" = some none)
    (z_list : PySem.W.nsIn K mainGlobals "list" = some none)
    (z_tuple : PySem.W.nsIn K mainGlobals "tuple" = some none)
    (z_dict : PySem.W.nsIn K mainGlobals "dict" = some none)
    (z_set : PySem.W.nsIn K mainGlobals "set" = some none)
    (z_len : PySem.W.nsIn K mainGlobals "len" = some none)
    (z_isinstance : PySem.W.nsIn K mainGlobals "isinstance" = some none)
    (z_all : PySem.W.nsIn K mainGlobals "all" = some none)
    (z_any : PySem.W.nsIn K mainGlobals "any" = some none)
    (z_min : PySem.W.nsIn K mainGlobals "min" = some none)
    (z_max : PySem.W.nsIn K mainGlobals "max" = some none)
    (z_sorted : PySem.W.nsIn K mainGlobals "sorted" = some none)
    (z_range : PySem.W.nsIn K mainGlobals "range" = some none)
    (z_zip : PySem.W.nsIn K mainGlobals "zip" = some none)
    (z_abs : PySem.W.nsIn K mainGlobals "abs" = some none)
    (z_sum : PySem.W.nsIn K mainGlobals "sum" = some none)
    (z_ValueError : PySem.W.nsIn K mainGlobals "ValueError" = some none)
    (a_lcm : PySem.W.nsIn K mainGlobals "lcm" = some (some (.builtin "math.lcm")))
    (a_RF : PySem.W.nsIn K mainGlobals "RIGHT_FORMS" = some (some (.ref dF)))
    (RFF : FormsAt K w dF rTab)
    (a_READY : PySem.W.nsIn K mainGlobals "READY" = some (some (.ref tR)))
    (RDY : ∀ H, SqT K H tR [V.str "ready"])
    (n_STATUSES : PySem.W.nsIn K mainGlobals "STATUSES" = some (some (.int 0 t_STATUSES)))
    (n_ANSWERS : PySem.W.nsIn K mainGlobals "ANSWERS" = some (some (.int 1 t_ANSWERS)))
    (n_RIGHTS : PySem.W.nsIn K mainGlobals "RIGHTS" = some (some (.int 2 t_RIGHTS)))
    (n_FRAMES : PySem.W.nsIn K mainGlobals "FRAMES" = some (some (.int 3 t_FRAMES)))
    (n_PAGES : PySem.W.nsIn K mainGlobals "PAGES" = some (some (.int 4 t_PAGES)))
    (n_PORTS : PySem.W.nsIn K mainGlobals "PORTS" = some (some (.int 5 t_PORTS)))
    (n_LOCKS : PySem.W.nsIn K mainGlobals "LOCKS" = some (some (.int 6 t_LOCKS)))
    (n_LINES : PySem.W.nsIn K mainGlobals "LINES" = some (some (.int 7 t_LINES)))
    (n_HEAD : PySem.W.nsIn K mainGlobals "HEAD" = some (some (.int 8 t_HEAD)))
    (n_RUNNING : PySem.W.nsIn K mainGlobals "RUNNING" = some (some (.int 9 t_RUNNING)))
    (a_KE : PySem.W.nsIn K mainGlobals "KernelError" = some (some (.ref KE)))
    (ks : PySem.W.subIn K (.ref KE) (.type "BaseException") = some true)
    (kd : PySem.W.hasDictIn K KE = true)
    (kt : PySem.W.typeIn K (.ref KE) = some (.type "type"))
    (a_NT : PySem.W.nsIn K mainGlobals "NoTask" = some (some (.ref NT)))
    (L_NT : IsErr K KE NT)
    (ga_NT : PySem.W.findIn K (.ref NT) "__getattribute__" = some (some (.builtin "BaseException.__getattribute__")))
    (gg_NT : PySem.W.findIn K (.ref NT) "__getattr__" = some none)
    (gc_NT : PySem.W.findIn K (.ref NT) "__class__" = some (some (.builtin "object.__class__")))
    (kp_NT : PySem.W.keepIn K (.ref NT) = true)
    (a_NTs : PySem.W.nsIn K mainGlobals "NoTasks" = some (some (.ref NTs)))
    (L_NTs : IsErr K KE NTs)
    (ga_NTs : PySem.W.findIn K (.ref NTs) "__getattribute__" = some (some (.builtin "BaseException.__getattribute__")))
    (gg_NTs : PySem.W.findIn K (.ref NTs) "__getattr__" = some none)
    (gc_NTs : PySem.W.findIn K (.ref NTs) "__class__" = some (some (.builtin "object.__class__")))
    (kp_NTs : PySem.W.keepIn K (.ref NTs) = true)
    (x_NT : PySem.W.excIn K NT veB "ValueError.__new__" = true)
    (nTT : NT ≠ NTs)
    (nTK : NTs ≠ KE)
    (a_Build : PySem.W.nsIn K mainGlobals "Build" = some (some (.ref C)))
    (pg_Build : PySem.W.plainGet K C Str.empty = true)
    (hd_Build : PySem.W.hasDictIn K C = true)
    (po_Build : PySem.W.plainOver K C = true)
    (sa_Build : PySem.W.findIn K (.ref C) "__setattr__" = some (some (.builtin "object.__setattr__")))
    (mk_Build : PySem.W.makesIn K C = true)
    (kc_Build : PySem.W.keepIn K (.ref C) = true)
    (a_Rules : PySem.W.nsIn K mainGlobals "Rules" = some (some (.ref CR)))
    (pg_Rules : PySem.W.plainGet K CR Str.empty = true)
    (hd_Rules : PySem.W.hasDictIn K CR = true)
    (po_Rules : PySem.W.plainOver K CR = true)
    (sa_Rules : PySem.W.findIn K (.ref CR) "__setattr__" = some (some (.builtin "object.__setattr__")))
    (mk_Rules : PySem.W.makesIn K CR = true)
    (kc_Rules : PySem.W.keepIn K (.ref CR) = true)
    (a_Moment : PySem.W.nsIn K mainGlobals "Moment" = some (some (.ref CM)))
    (pg_Moment : PySem.W.plainGet K CM Str.empty = true)
    (hd_Moment : PySem.W.hasDictIn K CM = true)
    (po_Moment : PySem.W.plainOver K CM = true)
    (sa_Moment : PySem.W.findIn K (.ref CM) "__setattr__" = some (some (.builtin "object.__setattr__")))
    (mk_Moment : PySem.W.makesIn K CM = true)
    (kc_Moment : PySem.W.keepIn K (.ref CM) = true)
    (hn : PySem.W.specialIn K (.builtin "object.__class__") "__get__" = some (some (.builtin "getset_descriptor.__get__")))
    (ht : PySem.W.takesIn K (.builtin "object.__class__") = some true)
    (gc_Build : PySem.W.findIn K (.ref C) "__class__" = some (some (.builtin "object.__class__")))
    (mo_Build : PySem.W.mroIn K C (.type "object") = some true)
    (mi_Build : PySem.W.mroIn K C (.type "int") = some false)
    (gc_Moment : PySem.W.findIn K (.ref CM) "__class__" = some (some (.builtin "object.__class__")))
    (mo_Moment : PySem.W.mroIn K CM (.type "object") = some true)
    (mi_Moment : PySem.W.mroIn K CM (.type "int") = some false)
    (nMR : CM ≠ CR)
    (nCM : C ≠ CM)
    (nB__parts : PySem.W.findIn K (.ref C) "_parts" = some none)
    (nB_rules : PySem.W.findIn K (.ref C) "rules" = some none)
    (nR_task_count : PySem.W.findIn K (.ref CR) "task_count" = some none)
    (nR_levels : PySem.W.findIn K (.ref CR) "levels" = some none)
    (nR_side_of : PySem.W.findIn K (.ref CR) "side_of" = some none)
    (nR_sizes : PySem.W.findIn K (.ref CR) "sizes" = some none)
    (nR_line_of : PySem.W.findIn K (.ref CR) "line_of" = some none)
    (nR_places : PySem.W.findIn K (.ref CR) "places" = some none)
    (nR_counts : PySem.W.findIn K (.ref CR) "counts" = some none)
    (nR_wipes : PySem.W.findIn K (.ref CR) "wipes" = some none)
    (nR_pads : PySem.W.findIn K (.ref CR) "pads" = some none)
    (nR_lends : PySem.W.findIn K (.ref CR) "lends" = some none)
    (nR_plain : PySem.W.findIn K (.ref CR) "plain" = some none)
    (nR_miss : PySem.W.findIn K (.ref CR) "miss" = some none)
    (nR_switch : PySem.W.findIn K (.ref CR) "switch" = some none)
    (nR_greatest : PySem.W.findIn K (.ref CR) "greatest" = some none)
    (nR_all_frames : PySem.W.findIn K (.ref CR) "all_frames" = some none)
    (nR_side_frames : PySem.W.findIn K (.ref CR) "side_frames" = some none)
    (nR_has_slots : PySem.W.findIn K (.ref CR) "has_slots" = some none)
    (nR_span : PySem.W.findIn K (.ref CR) "span" = some none)
    (nR_slots : PySem.W.findIn K (.ref CR) "slots" = some none)
    (nR_letter_port : PySem.W.findIn K (.ref CR) "letter_port" = some none)
    (nR_every : PySem.W.findIn K (.ref CR) "every" = some none)
    (nR_period : PySem.W.findIn K (.ref CR) "period" = some none)
    (nM__build : PySem.W.findIn K (.ref CM) "_build" = some none)
    (nM__shape : PySem.W.findIn K (.ref CM) "_shape" = some none)
    (a_is_integer : PySem.W.nsIn K mainGlobals "is_integer" = some (some (.ref f_is_integer)))
    (d_is_integer : DefF K "is_integer" "is_integer" s_is_integer f_is_integer)
    (a_is_between : PySem.W.nsIn K mainGlobals "is_between" = some (some (.ref f_is_between)))
    (d_is_between : DefF K "is_between" "is_between" s_is_between f_is_between)
    (a_is_index : PySem.W.nsIn K mainGlobals "is_index" = some (some (.ref f_is_index)))
    (d_is_index : DefF K "is_index" "is_index" s_is_index f_is_index)
    (a_is_tuple : PySem.W.nsIn K mainGlobals "is_tuple" = some (some (.ref f_is_tuple)))
    (d_is_tuple : DefF K "is_tuple" "is_tuple" s_is_tuple f_is_tuple)
    (a_is_list : PySem.W.nsIn K mainGlobals "is_list" = some (some (.ref f_is_list)))
    (d_is_list : DefF K "is_list" "is_list" s_is_list f_is_list)
    (a_is_ascending : PySem.W.nsIn K mainGlobals "is_ascending" = some (some (.ref f_is_ascending)))
    (d_is_ascending : DefF K "is_ascending" "is_ascending" s_is_ascending f_is_ascending)
    (a_counted : PySem.W.nsIn K mainGlobals "counted" = some (some (.ref f_counted)))
    (d_counted : DefF K "counted" "counted" s_counted f_counted)
    (a_word_of : PySem.W.nsIn K mainGlobals "word_of" = some (some (.ref f_word_of)))
    (d_word_of : DefF K "word_of" "word_of" s_word_of f_word_of)
    (a_is_formed : PySem.W.nsIn K mainGlobals "is_formed" = some (some (.ref f_is_formed)))
    (d_is_formed : DefF K "is_formed" "is_formed" s_is_formed f_is_formed)
    (a_is_of_kind : PySem.W.nsIn K mainGlobals "is_of_kind" = some (some (.ref f_is_of_kind)))
    (d_is_of_kind : DefF K "is_of_kind" "is_of_kind" s_is_of_kind f_is_of_kind)
    (a_is_right : PySem.W.nsIn K mainGlobals "is_right" = some (some (.ref f_is_right)))
    (d_is_right : DefF K "is_right" "is_right" s_is_right f_is_right)
    (a_fit_as_numbers : PySem.W.nsIn K mainGlobals "fit_as_numbers" = some (some (.ref f_fit_as_numbers)))
    (d_fit_as_numbers : DefF K "fit_as_numbers" "fit_as_numbers" s_fit_as_numbers f_fit_as_numbers)
    (a_fit_as_row : PySem.W.nsIn K mainGlobals "fit_as_row" = some (some (.ref f_fit_as_row)))
    (d_fit_as_row : DefF K "fit_as_row" "fit_as_row" s_fit_as_row f_fit_as_row)
    (a_fit_as_rights : PySem.W.nsIn K mainGlobals "fit_as_rights" = some (some (.ref f_fit_as_rights)))
    (d_fit_as_rights : DefF K "fit_as_rights" "fit_as_rights" s_fit_as_rights f_fit_as_rights)
    (a_fit_as_lines : PySem.W.nsIn K mainGlobals "fit_as_lines" = some (some (.ref f_fit_as_lines)))
    (d_fit_as_lines : DefF K "fit_as_lines" "fit_as_lines" s_fit_as_lines f_fit_as_lines)
    (a_fit_as_costs : PySem.W.nsIn K mainGlobals "fit_as_costs" = some (some (.ref f_fit_as_costs)))
    (d_fit_as_costs : DefF K "fit_as_costs" "fit_as_costs" s_fit_as_costs f_fit_as_costs)
    (a_fits_as_slot : PySem.W.nsIn K mainGlobals "fits_as_slot" = some (some (.ref f_fits_as_slot)))
    (d_fits_as_slot : DefF K "fits_as_slot" "fits_as_slot" s_fits_as_slot f_fits_as_slot)
    (a_fits_as_outside : PySem.W.nsIn K mainGlobals "fits_as_outside" = some (some (.ref f_fits_as_outside)))
    (d_fits_as_outside : DefF K "fits_as_outside" "fits_as_outside" s_fits_as_outside f_fits_as_outside)
    (a_fit_as_plan : PySem.W.nsIn K mainGlobals "fit_as_plan" = some (some (.ref f_fit_as_plan)))
    (d_fit_as_plan : DefF K "fit_as_plan" "fit_as_plan" s_fit_as_plan f_fit_as_plan)
    (a_fit_as_tasks : PySem.W.nsIn K mainGlobals "fit_as_tasks" = some (some (.ref f_fit_as_tasks)))
    (d_fit_as_tasks : DefF K "fit_as_tasks" "fit_as_tasks" s_fit_as_tasks f_fit_as_tasks)
    (a_things_fault : PySem.W.nsIn K mainGlobals "things_fault" = some (some (.ref f_things_fault)))
    (d_things_fault : DefF K "things_fault" "things_fault" s_things_fault f_things_fault)
    (a_ways_fault : PySem.W.nsIn K mainGlobals "ways_fault" = some (some (.ref f_ways_fault)))
    (d_ways_fault : DefF K "ways_fault" "ways_fault" s_ways_fault f_ways_fault)
    (a_flags_fault : PySem.W.nsIn K mainGlobals "flags_fault" = some (some (.ref f_flags_fault)))
    (d_flags_fault : DefF K "flags_fault" "flags_fault" s_flags_fault f_flags_fault)
    (a_check_task : PySem.W.nsIn K mainGlobals "check_task" = some (some (.ref f_check_task)))
    (d_check_task : DefF K "check_task" "check_task" s_check_task f_check_task)
    (a_first : PySem.W.nsIn K mainGlobals "first" = some (some (.ref f_first)))
    (d_first : DefF K "first" "first" s_first f_first)
    (a__law_cell : PySem.W.nsIn K mainGlobals "_law_cell" = some (some (.ref f__law_cell)))
    (d__law_cell : DefF K "_law_cell" "_law_cell" s__law_cell f__law_cell)
    (a__law_digits : PySem.W.nsIn K mainGlobals "_law_digits" = some (some (.ref f__law_digits)))
    (d__law_digits : DefF K "_law_digits" "_law_digits" s__law_digits f__law_digits)
    (a__law_same : PySem.W.nsIn K mainGlobals "_law_same" = some (some (.ref f__law_same)))
    (d__law_same : DefF K "_law_same" "_law_same" s__law_same f__law_same)
    (a__law_menu : PySem.W.nsIn K mainGlobals "_law_menu" = some (some (.ref f__law_menu)))
    (d__law_menu : DefF K "_law_menu" "_law_menu" s__law_menu f__law_menu)
    (a__law_rights : PySem.W.nsIn K mainGlobals "_law_rights" = some (some (.ref f__law_rights)))
    (d__law_rights : DefF K "_law_rights" "_law_rights" s__law_rights f__law_rights)
    (a__law_things : PySem.W.nsIn K mainGlobals "_law_things" = some (some (.ref f__law_things)))
    (d__law_things : DefF K "_law_things" "_law_things" s__law_things f__law_things)
    (a__law_parts : PySem.W.nsIn K mainGlobals "_law_parts" = some (some (.ref f__law_parts)))
    (d__law_parts : DefF K "_law_parts" "_law_parts" s__law_parts f__law_parts)
    (a__law_build : PySem.W.nsIn K mainGlobals "_law_build" = some (some (.ref f__law_build)))
    (d__law_build : DefF K "_law_build" "_law_build" s__law_build f__law_build)
    (a__law_asked : PySem.W.nsIn K mainGlobals "_law_asked" = some (some (.ref f__law_asked)))
    (d__law_asked : DefF K "_law_asked" "_law_asked" s__law_asked f__law_asked)
    (a__law_refused : PySem.W.nsIn K mainGlobals "_law_refused" = some (some (.ref f__law_refused)))
    (d__law_refused : DefF K "_law_refused" "_law_refused" s__law_refused f__law_refused)
    (a__law_lists_of : PySem.W.nsIn K mainGlobals "_law_lists_of" = some (some (.ref f__law_lists_of)))
    (d__law_lists_of : DefF K "_law_lists_of" "_law_lists_of" s__law_lists_of f__law_lists_of)
    (a__law_tells : PySem.W.nsIn K mainGlobals "_law_tells" = some (some (.ref f__law_tells)))
    (d__law_tells : DefF K "_law_tells" "_law_tells" s__law_tells f__law_tells)
    (a_law : PySem.W.nsIn K mainGlobals "law" = some (some (.ref f_law)))
    (d_law : DefF K "law" "law" s_law f_law)
    (a_Build___init__ : PySem.W.findIn K (.ref C) "__init__" = some (some (.ref f_Build___init__)))
    (i_Build___init__ : PySem.W.isFn K (.ref f_Build___init__) = true)
    (d_Build___init__ : DefF K "__init__" "Build.__init__" s_Build___init__ f_Build___init__)
    (a_Build_tasks : PySem.W.findIn K (.ref C) "tasks" = some (some (.ref f_Build_tasks)))
    (i_Build_tasks : PySem.W.isFn K (.ref f_Build_tasks) = true)
    (d_Build_tasks : DefF K "tasks" "Build.tasks" s_Build_tasks f_Build_tasks)
    (a_Build_pages : PySem.W.findIn K (.ref C) "pages" = some (some (.ref f_Build_pages)))
    (i_Build_pages : PySem.W.isFn K (.ref f_Build_pages) = true)
    (d_Build_pages : DefF K "pages" "Build.pages" s_Build_pages f_Build_pages)
    (a_Build_ports : PySem.W.findIn K (.ref C) "ports" = some (some (.ref f_Build_ports)))
    (i_Build_ports : PySem.W.isFn K (.ref f_Build_ports) = true)
    (d_Build_ports : DefF K "ports" "Build.ports" s_Build_ports f_Build_ports)
    (a_Build_lines : PySem.W.findIn K (.ref C) "lines" = some (some (.ref f_Build_lines)))
    (i_Build_lines : PySem.W.isFn K (.ref f_Build_lines) = true)
    (d_Build_lines : DefF K "lines" "Build.lines" s_Build_lines f_Build_lines)
    (a_Build_locks : PySem.W.findIn K (.ref C) "locks" = some (some (.ref f_Build_locks)))
    (i_Build_locks : PySem.W.isFn K (.ref f_Build_locks) = true)
    (d_Build_locks : DefF K "locks" "Build.locks" s_Build_locks f_Build_locks)
    (a_Build_frames : PySem.W.findIn K (.ref C) "frames" = some (some (.ref f_Build_frames)))
    (i_Build_frames : PySem.W.isFn K (.ref f_Build_frames) = true)
    (d_Build_frames : DefF K "frames" "Build.frames" s_Build_frames f_Build_frames)
    (a_Build_disk : PySem.W.findIn K (.ref C) "disk" = some (some (.ref f_Build_disk)))
    (i_Build_disk : PySem.W.isFn K (.ref f_Build_disk) = true)
    (d_Build_disk : DefF K "disk" "Build.disk" s_Build_disk f_Build_disk)
    (a_Build_costs : PySem.W.findIn K (.ref C) "costs" = some (some (.ref f_Build_costs)))
    (i_Build_costs : PySem.W.isFn K (.ref f_Build_costs) = true)
    (d_Build_costs : DefF K "costs" "Build.costs" s_Build_costs f_Build_costs)
    (a_Build_outside : PySem.W.findIn K (.ref C) "outside" = some (some (.ref f_Build_outside)))
    (i_Build_outside : PySem.W.isFn K (.ref f_Build_outside) = true)
    (d_Build_outside : DefF K "outside" "Build.outside" s_Build_outside f_Build_outside)
    (a_Build_wipe : PySem.W.findIn K (.ref C) "wipe" = some (some (.ref f_Build_wipe)))
    (i_Build_wipe : PySem.W.isFn K (.ref f_Build_wipe) = true)
    (d_Build_wipe : DefF K "wipe" "Build.wipe" s_Build_wipe f_Build_wipe)
    (a_Build_pad : PySem.W.findIn K (.ref C) "pad" = some (some (.ref f_Build_pad)))
    (i_Build_pad : PySem.W.isFn K (.ref f_Build_pad) = true)
    (d_Build_pad : DefF K "pad" "Build.pad" s_Build_pad f_Build_pad)
    (a_Build_lend : PySem.W.findIn K (.ref C) "lend" = some (some (.ref f_Build_lend)))
    (i_Build_lend : PySem.W.isFn K (.ref f_Build_lend) = true)
    (d_Build_lend : DefF K "lend" "Build.lend" s_Build_lend f_Build_lend)
    (a_Build_share : PySem.W.findIn K (.ref C) "share" = some (some (.ref f_Build_share)))
    (i_Build_share : PySem.W.isFn K (.ref f_Build_share) = true)
    (d_Build_share : DefF K "share" "Build.share" s_Build_share f_Build_share)
    (a_Build_plan : PySem.W.findIn K (.ref C) "plan" = some (some (.ref f_Build_plan)))
    (i_Build_plan : PySem.W.isFn K (.ref f_Build_plan) = true)
    (d_Build_plan : DefF K "plan" "Build.plan" s_Build_plan f_Build_plan)
    (a_Build_sides : PySem.W.findIn K (.ref C) "sides" = some (some (.ref f_Build_sides)))
    (i_Build_sides : PySem.W.isFn K (.ref f_Build_sides) = true)
    (d_Build_sides : DefF K "sides" "Build.sides" s_Build_sides f_Build_sides)
    (a_Build_rights : PySem.W.findIn K (.ref C) "rights" = some (some (.ref f_Build_rights)))
    (i_Build_rights : PySem.W.isFn K (.ref f_Build_rights) = true)
    (d_Build_rights : DefF K "rights" "Build.rights" s_Build_rights f_Build_rights)
    (a_Build___eq__ : PySem.W.findIn K (.ref C) "__eq__" = some (some (.ref f_Build___eq__)))
    (i_Build___eq__ : PySem.W.isFn K (.ref f_Build___eq__) = true)
    (d_Build___eq__ : DefF K "__eq__" "Build.__eq__" s_Build___eq__ f_Build___eq__)
    (a_Rules___init__ : PySem.W.findIn K (.ref CR) "__init__" = some (some (.ref f_Rules___init__)))
    (i_Rules___init__ : PySem.W.isFn K (.ref f_Rules___init__) = true)
    (d_Rules___init__ : DefF K "__init__" "Rules.__init__" s_Rules___init__ f_Rules___init__)
    (a_Rules_set_costs : PySem.W.findIn K (.ref CR) "set_costs" = some (some (.ref f_Rules_set_costs)))
    (i_Rules_set_costs : PySem.W.isFn K (.ref f_Rules_set_costs) = true)
    (d_Rules_set_costs : DefF K "set_costs" "Rules.set_costs" s_Rules_set_costs f_Rules_set_costs)
    (a_Rules_set_frames : PySem.W.findIn K (.ref CR) "set_frames" = some (some (.ref f_Rules_set_frames)))
    (i_Rules_set_frames : PySem.W.isFn K (.ref f_Rules_set_frames) = true)
    (d_Rules_set_frames : DefF K "set_frames" "Rules.set_frames" s_Rules_set_frames f_Rules_set_frames)
    (a_Rules_slot_ticks : PySem.W.findIn K (.ref CR) "slot_ticks" = some (some (.ref f_Rules_slot_ticks)))
    (i_Rules_slot_ticks : PySem.W.isFn K (.ref f_Rules_slot_ticks) = true)
    (d_Rules_slot_ticks : DefF K "slot_ticks" "Rules.slot_ticks" s_Rules_slot_ticks f_Rules_slot_ticks)
    (a_Rules_set_plan : PySem.W.findIn K (.ref CR) "set_plan" = some (some (.ref f_Rules_set_plan)))
    (i_Rules_set_plan : PySem.W.isFn K (.ref f_Rules_set_plan) = true)
    (d_Rules_set_plan : DefF K "set_plan" "Rules.set_plan" s_Rules_set_plan f_Rules_set_plan)
    (a_Rules_set_letters : PySem.W.findIn K (.ref CR) "set_letters" = some (some (.ref f_Rules_set_letters)))
    (i_Rules_set_letters : PySem.W.isFn K (.ref f_Rules_set_letters) = true)
    (d_Rules_set_letters : DefF K "set_letters" "Rules.set_letters" s_Rules_set_letters f_Rules_set_letters)
    (a_Moment___init__ : PySem.W.findIn K (.ref CM) "__init__" = some (some (.ref f_Moment___init__)))
    (i_Moment___init__ : PySem.W.isFn K (.ref f_Moment___init__) = true)
    (d_Moment___init__ : DefF K "__init__" "Moment.__init__" s_Moment___init__ f_Moment___init__)
    (a_Moment_build : PySem.W.findIn K (.ref CM) "build" = some (some (.ref f_Moment_build)))
    (i_Moment_build : PySem.W.isFn K (.ref f_Moment_build) = true)
    (d_Moment_build : DefF K "build" "Moment.build" s_Moment_build f_Moment_build)
    (a_Moment_shape : PySem.W.findIn K (.ref CM) "shape" = some (some (.ref f_Moment_shape)))
    (i_Moment_shape : PySem.W.isFn K (.ref f_Moment_shape) = true)
    (d_Moment_shape : DefF K "shape" "Moment.shape" s_Moment_shape f_Moment_shape)
    (a_Moment_status : PySem.W.findIn K (.ref CM) "status" = some (some (.ref f_Moment_status)))
    (i_Moment_status : PySem.W.isFn K (.ref f_Moment_status) = true)
    (d_Moment_status : DefF K "status" "Moment.status" s_Moment_status f_Moment_status)
    (a_Moment_answer : PySem.W.findIn K (.ref CM) "answer" = some (some (.ref f_Moment_answer)))
    (i_Moment_answer : PySem.W.isFn K (.ref f_Moment_answer) = true)
    (d_Moment_answer : DefF K "answer" "Moment.answer" s_Moment_answer f_Moment_answer)
    (a_Moment_rights : PySem.W.findIn K (.ref CM) "rights" = some (some (.ref f_Moment_rights)))
    (i_Moment_rights : PySem.W.isFn K (.ref f_Moment_rights) = true)
    (d_Moment_rights : DefF K "rights" "Moment.rights" s_Moment_rights f_Moment_rights)
    (a_Moment_held : PySem.W.findIn K (.ref CM) "held" = some (some (.ref f_Moment_held)))
    (i_Moment_held : PySem.W.isFn K (.ref f_Moment_held) = true)
    (d_Moment_held : DefF K "held" "Moment.held" s_Moment_held f_Moment_held)
    (a_Moment_pages : PySem.W.findIn K (.ref CM) "pages" = some (some (.ref f_Moment_pages)))
    (i_Moment_pages : PySem.W.isFn K (.ref f_Moment_pages) = true)
    (d_Moment_pages : DefF K "pages" "Moment.pages" s_Moment_pages f_Moment_pages)
    (a_Moment_ports : PySem.W.findIn K (.ref CM) "ports" = some (some (.ref f_Moment_ports)))
    (i_Moment_ports : PySem.W.isFn K (.ref f_Moment_ports) = true)
    (d_Moment_ports : DefF K "ports" "Moment.ports" s_Moment_ports f_Moment_ports)
    (a_Moment_locks : PySem.W.findIn K (.ref CM) "locks" = some (some (.ref f_Moment_locks)))
    (i_Moment_locks : PySem.W.isFn K (.ref f_Moment_locks) = true)
    (d_Moment_locks : DefF K "locks" "Moment.locks" s_Moment_locks f_Moment_locks)
    (a_Moment_lines : PySem.W.findIn K (.ref CM) "lines" = some (some (.ref f_Moment_lines)))
    (i_Moment_lines : PySem.W.isFn K (.ref f_Moment_lines) = true)
    (d_Moment_lines : DefF K "lines" "Moment.lines" s_Moment_lines f_Moment_lines)
    (a_Moment_head : PySem.W.findIn K (.ref CM) "head" = some (some (.ref f_Moment_head)))
    (i_Moment_head : PySem.W.isFn K (.ref f_Moment_head) = true)
    (d_Moment_head : DefF K "head" "Moment.head" s_Moment_head f_Moment_head)
    (a_Moment_running : PySem.W.findIn K (.ref CM) "running" = some (some (.ref f_Moment_running)))
    (i_Moment_running : PySem.W.isFn K (.ref f_Moment_running) = true)
    (d_Moment_running : DefF K "running" "Moment.running" s_Moment_running f_Moment_running)
    (a_Moment___eq__ : PySem.W.findIn K (.ref CM) "__eq__" = some (some (.ref f_Moment___eq__)))
    (i_Moment___eq__ : PySem.W.isFn K (.ref f_Moment___eq__) = true)
    (d_Moment___eq__ : DefF K "__eq__" "Moment.__eq__" s_Moment___eq__ f_Moment___eq__) :
    ∃ fd : FuncData, (∀ (s : Shared) (v : Value), BindsTo s fd ⟨[v], []⟩ [("_law_script", v)]) ∧ ∀ base : Heap, K.In base → base.Ns mainGlobals mg → FnOk l.prog w K mg base CX0 13 fa fd ["_law_script"] (spLaw K) := by
 refine Hk.hold ?_
 simp (disch := with_unfolding_all (
 exact Hk.disch (by
  have e := hfa.symm.trans (PySem.W.mg_of X G a_law)
  cases e
  have B : Bl mg := ⟨PySem.W.mg_none_of X G z_int, PySem.W.mg_none_of X G z_str, PySem.W.mg_none_of X G z_bool, PySem.W.mg_none_of X G z_list, PySem.W.mg_none_of X G z_tuple, PySem.W.mg_none_of X G z_dict, PySem.W.mg_none_of X G z_set, PySem.W.mg_none_of X G z_len, PySem.W.mg_none_of X G z_isinstance, PySem.W.mg_none_of X G z_all, PySem.W.mg_none_of X G z_any, PySem.W.mg_none_of X G z_min, PySem.W.mg_none_of X G z_max, PySem.W.mg_none_of X G z_sorted, PySem.W.mg_none_of X G z_range, PySem.W.mg_none_of X G z_zip⟩
  have cBuild : Cls K C := ⟨pg_Build, hd_Build, po_Build, sa_Build⟩
  have cRules : Cls K CR := ⟨pg_Rules, hd_Rules, po_Rules, sa_Rules⟩
  have cMoment : Cls K CM := ⟨pg_Moment, hd_Moment, po_Moment, sa_Moment⟩
  have R : RCls K CR := ⟨cRules, fun f hf => by
    simp only [RN, List.mem_cons, List.not_mem_nil, or_false] at hf
    rcases hf with rfl | rfl | rfl | rfl | rfl | rfl | rfl | rfl | rfl | rfl | rfl | rfl | rfl | rfl | rfl | rfl | rfl | rfl | rfl | rfl | rfl | rfl
    · exact nR_task_count
    · exact nR_levels
    · exact nR_side_of
    · exact nR_sizes
    · exact nR_line_of
    · exact nR_places
    · exact nR_counts
    · exact nR_wipes
    · exact nR_pads
    · exact nR_lends
    · exact nR_plain
    · exact nR_miss
    · exact nR_switch
    · exact nR_greatest
    · exact nR_all_frames
    · exact nR_side_frames
    · exact nR_has_slots
    · exact nR_span
    · exact nR_slots
    · exact nR_letter_port
    · exact nR_every
    · exact nR_period⟩
  obtain ⟨⟨oc, od, kV, doc, pm, an, cd, ct, sl, ll, lc⟩, lk⟩ := d_law
  obtain ⟨fdR, FR⟩ := d_Rules___init__.fn
  obtain ⟨fdB, FB⟩ := d_Build___init__.fn
  obtain ⟨fdM, FM⟩ := d_Moment___init__.fn
  have bR : Binds K fdR ["self", "build"] [] := FR.bindsP rfl rfl (by decide +kernel)
  have bM : Binds K fdM ["self", "build", "shape"] [] := FM.bindsP rfl rfl (by decide +kernel)
  have D_is_integer : DefAt K mg "is_integer" s_is_integer ["thing"] := d_is_integer.at X G a_is_integer (fun fd F => F.bindsP rfl rfl (by decide +kernel))
  have D_is_between : DefAt K mg "is_between" s_is_between ["thing", "low", "high"] := d_is_between.at X G a_is_between (fun fd F => F.bindsP rfl rfl (by decide +kernel))
  have D_is_index : DefAt K mg "is_index" s_is_index ["thing", "many"] := d_is_index.at X G a_is_index (fun fd F => F.bindsP rfl rfl (by decide +kernel))
  have D_is_tuple : DefAt K mg "is_tuple" s_is_tuple ["thing", "many"] := d_is_tuple.at X G a_is_tuple (fun fd F => F.bindsP rfl rfl (by decide +kernel))
  have D_is_list : DefAt K mg "is_list" s_is_list ["thing", "low", "high"] := d_is_list.at X G a_is_list (fun fd F => F.bindsP rfl rfl (by decide +kernel))
  have D_is_ascending : DefAt K mg "is_ascending" s_is_ascending ["items"] := d_is_ascending.at X G a_is_ascending (fun fd F => F.bindsP rfl rfl (by decide +kernel))
  have D_counted : DefAt K mg "counted" s_counted ["tasks", "pages", "ports", "locks", "disk"] := d_counted.at X G a_counted (fun fd F => F.bindsP rfl rfl (by decide +kernel))
  have D_word_of : DefAt K mg "word_of" s_word_of ["thing"] := d_word_of.at X G a_word_of (fun fd F => F.bindsP rfl rfl (by decide +kernel))
  have D_is_formed : DefAt K mg "is_formed" s_is_formed ["counts", "kinds", "thing"] := d_is_formed.at X G a_is_formed (fun fd F => F.bindsP rfl rfl (by decide +kernel))
  have D_is_of_kind : DefAt K mg "is_of_kind" s_is_of_kind ["counts", "kind", "item"] := d_is_of_kind.at X G a_is_of_kind (fun fd F => F.bindsP rfl rfl (by decide +kernel))
  have D_is_right : DefAt K mg "is_right" s_is_right ["counts", "thing"] := d_is_right.at X G a_is_right (fun fd F => F.bindsP rfl rfl (by decide +kernel))
  have D_fit_as_numbers : DefAt K mg "fit_as_numbers" s_fit_as_numbers ["numbers", "most", "low", "high"] := d_fit_as_numbers.at X G a_fit_as_numbers (fun fd F => F.bindsP rfl rfl (by decide +kernel))
  have D_fit_as_row : DefAt K mg "fit_as_row" s_fit_as_row ["counts", "row"] := d_fit_as_row.at X G a_fit_as_row (fun fd F => F.bindsP rfl rfl (by decide +kernel))
  have D_fit_as_rights : DefAt K mg "fit_as_rights" s_fit_as_rights ["counts", "rights"] := d_fit_as_rights.at X G a_fit_as_rights (fun fd F => F.bindsP rfl rfl (by decide +kernel))
  have D_fit_as_lines : DefAt K mg "fit_as_lines" s_fit_as_lines ["counts", "lines"] := d_fit_as_lines.at X G a_fit_as_lines (fun fd F => F.bindsP rfl rfl (by decide +kernel))
  have D_fit_as_costs : DefAt K mg "fit_as_costs" s_fit_as_costs ["costs"] := d_fit_as_costs.at X G a_fit_as_costs (fun fd F => F.bindsP rfl rfl (by decide +kernel))
  have D_fits_as_slot : DefAt K mg "fits_as_slot" s_fits_as_slot ["counts", "row"] := d_fits_as_slot.at X G a_fits_as_slot (fun fd F => F.bindsP rfl rfl (by decide +kernel))
  have D_fits_as_outside : DefAt K mg "fits_as_outside" s_fits_as_outside ["counts", "outside"] := d_fits_as_outside.at X G a_fits_as_outside (fun fd F => F.bindsP rfl rfl (by decide +kernel))
  have D_fit_as_plan : DefAt K mg "fit_as_plan" s_fit_as_plan ["counts", "plan"] := d_fit_as_plan.at X G a_fit_as_plan (fun fd F => F.bindsP rfl rfl (by decide +kernel))
  have D_fit_as_tasks : DefAt K mg "fit_as_tasks" s_fit_as_tasks ["tasks"] := d_fit_as_tasks.at X G a_fit_as_tasks (fun fd F => F.bindsP rfl rfl (by decide +kernel))
  have D_things_fault : DefAt K mg "things_fault" s_things_fault ["tasks", "pages", "ports", "locks", "frames", "disk"] := d_things_fault.at X G a_things_fault (fun fd F => F.bindsP rfl rfl (by decide +kernel))
  have D_ways_fault : DefAt K mg "ways_fault" s_ways_fault ["counts", "rights", "lines", "costs", "plan", "outside"] := d_ways_fault.at X G a_ways_fault (fun fd F => F.bindsP rfl rfl (by decide +kernel))
  have D_flags_fault : DefAt K mg "flags_fault" s_flags_fault ["flags"] := d_flags_fault.at X G a_flags_fault (fun fd F => F.bindsP rfl rfl (by decide +kernel))
  have D_check_task : DefAt K mg "check_task" s_check_task ["build", "task"] := d_check_task.at X G a_check_task (fun fd F => F.bindsP rfl rfl (by decide +kernel))
  have D_first : DefAt K mg "first" s_first ["build"] := d_first.at X G a_first (fun fd F => F.bindsP rfl rfl (by decide +kernel))
  have D__law_cell : DefAt K mg "_law_cell" s__law_cell ["_law_script", "_law_k"] := d__law_cell.at X G a__law_cell (fun fd F => F.bindsP rfl rfl (by decide +kernel))
  have D__law_digits : DefAt K mg "_law_digits" s__law_digits ["_law_cell_here", "_law_sizes"] := d__law_digits.at X G a__law_digits (fun fd F => F.bindsP rfl rfl (by decide +kernel))
  have D__law_same : DefAt K mg "_law_same" s__law_same ["_law_told", "_law_due"] := d__law_same.at X G a__law_same (fun fd F => F.bindsP rfl rfl (by decide +kernel))
  have D__law_menu : DefAt K mg "_law_menu" s__law_menu ["_law_many", "_law_pages", "_law_ports", "_law_locks", "_law_disk"] := d__law_menu.at X G a__law_menu (fun fd F => F.bindsP rfl rfl (by decide +kernel))
  have D__law_rights : DefAt K mg "_law_rights" s__law_rights ["_law_cell_here", "_law_menu_here"] := d__law_rights.at X G a__law_rights (fun fd F => F.bindsP rfl rfl (by decide +kernel))
  have D__law_things : DefAt K mg "_law_things" s__law_things ["_law_script"] := d__law_things.at X G a__law_things (fun fd F => F.bindsP rfl rfl (by decide +kernel))
  have D__law_parts : DefAt K mg "_law_parts" s__law_parts ["_law_script"] := d__law_parts.at X G a__law_parts (fun fd F => F.bindsP rfl rfl (by decide +kernel))
  have D__law_build : DefAt K mg "_law_build" s__law_build ["_law_parts_here"] := d__law_build.at X G a__law_build (fun fd F => F.bindsP rfl rfl (by decide +kernel))
  have D__law_asked : DefAt K mg "_law_asked" s__law_asked ["_law_moment", "_law_which", "_law_task"] := d__law_asked.at X G a__law_asked (fun fd F => F.bindsP rfl rfl (by decide +kernel))
  have D__law_refused : DefAt K mg "_law_refused" s__law_refused ["_law_moment", "_law_which", "_law_task"] := d__law_refused.at X G a__law_refused (fun fd F => F.bindsP rfl rfl (by decide +kernel))
  have D__law_lists_of : DefAt K mg "_law_lists_of" s__law_lists_of ["_law_moment"] := d__law_lists_of.at X G a__law_lists_of (fun fd F => F.bindsP rfl rfl (by decide +kernel))
  have D__law_tells : DefAt K mg "_law_tells" s__law_tells ["_law_moment", "_law_parts_here"] := d__law_tells.at X G a__law_tells (fun fd F => F.bindsP rfl rfl (by decide +kernel))
  have M_Build_tasks : MethAt K C "tasks" "Build.tasks" s_Build_tasks ["self"] := d_Build_tasks.meth cBuild a_Build_tasks i_Build_tasks (fun fd F => F.bindsP rfl rfl (by decide +kernel))
  have M_Build_pages : MethAt K C "pages" "Build.pages" s_Build_pages ["self"] := d_Build_pages.meth cBuild a_Build_pages i_Build_pages (fun fd F => F.bindsP rfl rfl (by decide +kernel))
  have M_Build_ports : MethAt K C "ports" "Build.ports" s_Build_ports ["self"] := d_Build_ports.meth cBuild a_Build_ports i_Build_ports (fun fd F => F.bindsP rfl rfl (by decide +kernel))
  have M_Build_lines : MethAt K C "lines" "Build.lines" s_Build_lines ["self"] := d_Build_lines.meth cBuild a_Build_lines i_Build_lines (fun fd F => F.bindsP rfl rfl (by decide +kernel))
  have M_Build_locks : MethAt K C "locks" "Build.locks" s_Build_locks ["self"] := d_Build_locks.meth cBuild a_Build_locks i_Build_locks (fun fd F => F.bindsP rfl rfl (by decide +kernel))
  have M_Build_frames : MethAt K C "frames" "Build.frames" s_Build_frames ["self"] := d_Build_frames.meth cBuild a_Build_frames i_Build_frames (fun fd F => F.bindsP rfl rfl (by decide +kernel))
  have M_Build_disk : MethAt K C "disk" "Build.disk" s_Build_disk ["self"] := d_Build_disk.meth cBuild a_Build_disk i_Build_disk (fun fd F => F.bindsP rfl rfl (by decide +kernel))
  have M_Build_costs : MethAt K C "costs" "Build.costs" s_Build_costs ["self"] := d_Build_costs.meth cBuild a_Build_costs i_Build_costs (fun fd F => F.bindsP rfl rfl (by decide +kernel))
  have M_Build_outside : MethAt K C "outside" "Build.outside" s_Build_outside ["self"] := d_Build_outside.meth cBuild a_Build_outside i_Build_outside (fun fd F => F.bindsP rfl rfl (by decide +kernel))
  have M_Build_wipe : MethAt K C "wipe" "Build.wipe" s_Build_wipe ["self"] := d_Build_wipe.meth cBuild a_Build_wipe i_Build_wipe (fun fd F => F.bindsP rfl rfl (by decide +kernel))
  have M_Build_pad : MethAt K C "pad" "Build.pad" s_Build_pad ["self"] := d_Build_pad.meth cBuild a_Build_pad i_Build_pad (fun fd F => F.bindsP rfl rfl (by decide +kernel))
  have M_Build_lend : MethAt K C "lend" "Build.lend" s_Build_lend ["self"] := d_Build_lend.meth cBuild a_Build_lend i_Build_lend (fun fd F => F.bindsP rfl rfl (by decide +kernel))
  have M_Build_share : MethAt K C "share" "Build.share" s_Build_share ["self"] := d_Build_share.meth cBuild a_Build_share i_Build_share (fun fd F => F.bindsP rfl rfl (by decide +kernel))
  have M_Build_plan : MethAt K C "plan" "Build.plan" s_Build_plan ["self"] := d_Build_plan.meth cBuild a_Build_plan i_Build_plan (fun fd F => F.bindsP rfl rfl (by decide +kernel))
  have M_Build_sides : MethAt K C "sides" "Build.sides" s_Build_sides ["self"] := d_Build_sides.meth cBuild a_Build_sides i_Build_sides (fun fd F => F.bindsP rfl rfl (by decide +kernel))
  have M_Build_rights : MethAt K C "rights" "Build.rights" s_Build_rights ["self"] := d_Build_rights.meth cBuild a_Build_rights i_Build_rights (fun fd F => F.bindsP rfl rfl (by decide +kernel))
  have M_Build___eq__ : MethAt K C "__eq__" "Build.__eq__" s_Build___eq__ ["self", "other"] := d_Build___eq__.meth cBuild a_Build___eq__ i_Build___eq__ (fun fd F => F.bindsP rfl rfl (by decide +kernel))
  have M_Rules_set_costs : MethAt K CR "set_costs" "Rules.set_costs" s_Rules_set_costs ["self", "costs"] := d_Rules_set_costs.meth cRules a_Rules_set_costs i_Rules_set_costs (fun fd F => F.bindsP rfl rfl (by decide +kernel))
  have M_Rules_set_frames : MethAt K CR "set_frames" "Rules.set_frames" s_Rules_set_frames ["self", "build"] := d_Rules_set_frames.meth cRules a_Rules_set_frames i_Rules_set_frames (fun fd F => F.bindsP rfl rfl (by decide +kernel))
  have M_Rules_slot_ticks : MethAt K CR "slot_ticks" "Rules.slot_ticks" s_Rules_slot_ticks ["self", "rows"] := d_Rules_slot_ticks.meth cRules a_Rules_slot_ticks i_Rules_slot_ticks (fun fd F => F.bindsP rfl rfl (by decide +kernel))
  have M_Rules_set_plan : MethAt K CR "set_plan" "Rules.set_plan" s_Rules_set_plan ["self", "plan"] := d_Rules_set_plan.meth cRules a_Rules_set_plan i_Rules_set_plan (fun fd F => F.bindsP rfl rfl (by decide +kernel))
  have M_Rules_set_letters : MethAt K CR "set_letters" "Rules.set_letters" s_Rules_set_letters ["self", "outside"] := d_Rules_set_letters.meth cRules a_Rules_set_letters i_Rules_set_letters (fun fd F => F.bindsP rfl rfl (by decide +kernel))
  have M_Moment_build : MethAt K CM "build" "Moment.build" s_Moment_build ["self"] := d_Moment_build.meth cMoment a_Moment_build i_Moment_build (fun fd F => F.bindsP rfl rfl (by decide +kernel))
  have M_Moment_shape : MethAt K CM "shape" "Moment.shape" s_Moment_shape ["self"] := d_Moment_shape.meth cMoment a_Moment_shape i_Moment_shape (fun fd F => F.bindsP rfl rfl (by decide +kernel))
  have M_Moment_status : MethAt K CM "status" "Moment.status" s_Moment_status ["self", "task"] := d_Moment_status.meth cMoment a_Moment_status i_Moment_status (fun fd F => F.bindsP rfl rfl (by decide +kernel))
  have M_Moment_answer : MethAt K CM "answer" "Moment.answer" s_Moment_answer ["self", "task"] := d_Moment_answer.meth cMoment a_Moment_answer i_Moment_answer (fun fd F => F.bindsP rfl rfl (by decide +kernel))
  have M_Moment_rights : MethAt K CM "rights" "Moment.rights" s_Moment_rights ["self", "task"] := d_Moment_rights.meth cMoment a_Moment_rights i_Moment_rights (fun fd F => F.bindsP rfl rfl (by decide +kernel))
  have M_Moment_held : MethAt K CM "held" "Moment.held" s_Moment_held ["self", "task"] := d_Moment_held.meth cMoment a_Moment_held i_Moment_held (fun fd F => F.bindsP rfl rfl (by decide +kernel))
  have M_Moment_pages : MethAt K CM "pages" "Moment.pages" s_Moment_pages ["self"] := d_Moment_pages.meth cMoment a_Moment_pages i_Moment_pages (fun fd F => F.bindsP rfl rfl (by decide +kernel))
  have M_Moment_ports : MethAt K CM "ports" "Moment.ports" s_Moment_ports ["self"] := d_Moment_ports.meth cMoment a_Moment_ports i_Moment_ports (fun fd F => F.bindsP rfl rfl (by decide +kernel))
  have M_Moment_locks : MethAt K CM "locks" "Moment.locks" s_Moment_locks ["self"] := d_Moment_locks.meth cMoment a_Moment_locks i_Moment_locks (fun fd F => F.bindsP rfl rfl (by decide +kernel))
  have M_Moment_lines : MethAt K CM "lines" "Moment.lines" s_Moment_lines ["self"] := d_Moment_lines.meth cMoment a_Moment_lines i_Moment_lines (fun fd F => F.bindsP rfl rfl (by decide +kernel))
  have M_Moment_head : MethAt K CM "head" "Moment.head" s_Moment_head ["self"] := d_Moment_head.meth cMoment a_Moment_head i_Moment_head (fun fd F => F.bindsP rfl rfl (by decide +kernel))
  have M_Moment_running : MethAt K CM "running" "Moment.running" s_Moment_running ["self"] := d_Moment_running.meth cMoment a_Moment_running i_Moment_running (fun fd F => F.bindsP rfl rfl (by decide +kernel))
  have M_Moment___eq__ : MethAt K CM "__eq__" "Moment.__eq__" s_Moment___eq__ ["self", "other"] := d_Moment___eq__.meth cMoment a_Moment___eq__ i_Moment___eq__ (fun fd F => F.bindsP rfl rfl (by decide +kernel))
  have E_NT : ECls K mg KE "NoTask" NT := ⟨(PySem.W.mg_of X G a_NT), L_NT, ga_NT, gg_NT, gc_NT, kp_NT⟩
  have E_NTs : ECls K mg KE "NoTasks" NTs := ⟨(PySem.W.mg_of X G a_NTs), L_NTs, ga_NTs, gg_NTs, gc_NTs, kp_NTs⟩
  refine ⟨PySem.W.fnOf "law" "law" (defArgs s_law) (defBody s_law) (defScope s_law) .none kV doc pm an cd ct, fun s v => .of_eq rfl, fun base _ _ => ?_⟩
  exact all_ok (P := l.prog) (w := w) (base := base) B (PySem.W.mg_none_of X G z_abs) (PySem.W.mg_none_of X G z_sum) ⟨(PySem.W.mg_of X G a_lcm)⟩ ⟨cBuild, nB__parts, nB_rules⟩ R ⟨cMoment, nM__build, nM__shape⟩ ⟨(PySem.W.mg_of X G a_RF), RFF⟩ ⟨(PySem.W.mg_of X G a_READY), fun H => .tup (RDY H) (.cons (.str _) .nil)⟩ ⟨⟨_, (PySem.W.mg_of X G n_STATUSES)⟩, ⟨_, (PySem.W.mg_of X G n_ANSWERS)⟩, ⟨_, (PySem.W.mg_of X G n_RIGHTS)⟩, ⟨_, (PySem.W.mg_of X G n_FRAMES)⟩, ⟨_, (PySem.W.mg_of X G n_PAGES)⟩, ⟨_, (PySem.W.mg_of X G n_PORTS)⟩, ⟨_, (PySem.W.mg_of X G n_LOCKS)⟩, ⟨_, (PySem.W.mg_of X G n_LINES)⟩, ⟨_, (PySem.W.mg_of X G n_HEAD)⟩, ⟨_, (PySem.W.mg_of X G n_RUNNING)⟩⟩ ⟨E_NT, x_NT⟩ ⟨E_NT, E_NTs, nTT, nTK, E_NT.exc hn ht, (PySem.W.mg_of X G a_KE), ks, kd, kt, PySem.W.mg_none_of X G z_ValueError⟩ nMR nCM ⟨cBuild, gc_Build, hn, ht, mo_Build, if_pos (beq_self_eq_true _)⟩ ⟨cMoment, gc_Moment, hn, ht, mo_Moment, if_pos (beq_self_eq_true _)⟩ (kit_int mi_Build) (kit_int mi_Moment) D_is_integer D_is_between D_is_index D_is_tuple D_is_list D_is_ascending D_counted D_word_of D_is_formed D_is_of_kind D_is_right D_fit_as_numbers D_fit_as_row D_fit_as_rights D_fit_as_lines D_fit_as_costs D_fits_as_slot D_fits_as_outside D_fit_as_plan D_fit_as_tasks D_things_fault D_ways_fault D_flags_fault D_check_task D_first D__law_cell D__law_digits D__law_same D__law_menu D__law_rights D__law_things D__law_parts D__law_build D__law_asked D__law_refused D__law_lists_of D__law_tells M_Build_tasks M_Build_pages M_Build_ports M_Build_lines M_Build_locks M_Build_frames M_Build_disk M_Build_costs M_Build_outside M_Build_wipe M_Build_pad M_Build_lend M_Build_share M_Build_plan M_Build_sides M_Build_rights M_Build___eq__ M_Rules_set_costs M_Rules_set_frames M_Rules_slot_ticks M_Rules_set_plan M_Rules_set_letters M_Moment_build M_Moment_shape M_Moment_status M_Moment_answer M_Moment_rights M_Moment_held M_Moment_pages M_Moment_ports M_Moment_locks M_Moment_lines M_Moment_head M_Moment_running M_Moment___eq__ (PySem.W.mg_of X G a_Rules) ⟨mk_Rules, a_Rules___init__, i_Rules___init__, kc_Rules⟩ FR bR (PySem.W.mg_of X G a_Moment) ⟨mk_Moment, a_Moment___init__, i_Moment___init__, kc_Moment⟩ FM bM (PySem.W.mg_of X G a_Build) ⟨mk_Build, a_Build___init__, i_Build___init__, kc_Build⟩ FB (build_binds fdB FB) _ _ (fun_mk (st := s_law) ll lc lk)))) only [↓Hk.hold_s]
theorem walk {l : PySem.W.OpenLaw} {q : Program} {loose : List Str} {XP : (Str → Option Value) → Heap → Prop} {YP : World → Heap → Prop} {d : DefRec} {K : Params → PySem.W.Frag} (hn : l.most = some 63) (hdf : d.params.defaults = [])
    (hY : ∀ (w : World) (h : Heap), YP w h → (K w.params).In h)
    (F : ∀ (w : World) (mg : Str → Option Value) (fa : Addr) (h : Heap), (K w.params).In h → h.Ns mainGlobals mg → mg d.name = some (.ref fa) →
      ∃ fd : FuncData, (∀ (s : Shared) (u : Value), BindsTo s fd ⟨[u], []⟩ [("_law_script", u)]) ∧ ∀ base : Heap, (K w.params).In base → base.Ns mainGlobals mg → FnOk l.prog w (K w.params) mg base CX0 13 fa fd ["_law_script"] (spLaw (K w.params))) :
    PySem.W.WalkO q loose XP YP l.row.toRowW d [] (fun f vs => PySem.call f vs) :=
  L2.walk_of (n := 63) (k := 13) (x := "_law_script") (CX := fun _ => CX0) (sp := fun w => spLaw (K w.params)) hn (by decide) hdf ⟨rfl, by decide, by decide⟩ hY F (fun _ _ a ns hl _ hS => ⟨a, ns, rfl, hS, hl, fun _ => rfl⟩) fun _ _ _ _ _ z => z
end T
def PySem.W.Fast.tw16527378817512323104 : Unit := ()
def PySem.W.Fast.tw3013557191610646016 : Unit := ()
def PySem.W.Fast.tw14838196789094358593 : Unit := ()
def PySem.W.Fast.tw7023589395151451073 : Unit := ()
def PySem.W.Fast.tw3515081475593241155 : Unit := ()
def PySem.W.Fast.tw15114215170018254885 : Unit := ()
def PySem.W.Fast.tw1257585431620073861 : Unit := ()
def PySem.W.Fast.tw3878101611104542246 : Unit := ()
def PySem.W.Fast.tw6708235463553593126 : Unit := ()
def PySem.W.Fast.tw8773838625100190502 : Unit := ()
def PySem.W.Fast.tw18341534200698394502 : Unit := ()
def PySem.W.Fast.tw13098603452236547495 : Unit := ()
def PySem.W.Fast.tw16796150429873064776 : Unit := ()
def PySem.W.Fast.tw15968007967873548745 : Unit := ()
def PySem.W.Fast.tw9576989719476091146 : Unit := ()
def PySem.W.Fast.tw11853126687668816362 : Unit := ()
def PySem.W.Fast.tw2399666373247006186 : Unit := ()
def PySem.W.Fast.tw7342526656287251338 : Unit := ()
def PySem.W.Fast.tw14559311485634780427 : Unit := ()
def PySem.W.Fast.tw1210771795108934701 : Unit := ()
def PySem.W.Fast.tw15045382650337710829 : Unit := ()
def PySem.W.Fast.tw1500888484150836173 : Unit := ()
def PySem.W.Fast.tw8379512359802403183 : Unit := ()
def PySem.W.Fast.tw17884776377463137775 : Unit := ()
def PySem.W.Fast.tw14836589389926399120 : Unit := ()
def PySem.W.Fast.tw4068927889856364016 : Unit := ()
def PySem.W.Fast.tw7821510361968072849 : Unit := ()
def PySem.W.Fast.tw7173240860935858417 : Unit := ()
def PySem.W.Fast.tw771281237586066321 : Unit := ()
def PySem.W.Fast.tw3797804936673388659 : Unit := ()
def PySem.W.Fast.tw13212887023422083443 : Unit := ()
def PySem.W.Fast.tw9987241996600263027 : Unit := ()
def PySem.W.Fast.tw18223132103657036916 : Unit := ()
def PySem.W.Fast.tw4578828536961991957 : Unit := ()
def PySem.W.Fast.tw8783196812605613590 : Unit := ()
def PySem.W.Fast.tw7276830326086340278 : Unit := ()
def PySem.W.Fast.tw15909034373520295734 : Unit := ()
def PySem.W.Fast.tw17803475886326705816 : Unit := ()
def PySem.W.Fast.tw7813837003589610392 : Unit := ()
def PySem.W.Fast.tw15647395064315836473 : Unit := ()
def PySem.W.Fast.tw4219320335922735321 : Unit := ()
def PySem.W.Fast.tw9945231567334825273 : Unit := ()
def PySem.W.Fast.tw5194851786606652793 : Unit := ()
def PySem.W.Fast.tw13182534825519330073 : Unit := ()
def PySem.W.Fast.tw15382601638747281786 : Unit := ()
def PySem.W.Fast.tw13037353749242402490 : Unit := ()
def PySem.W.Fast.tw3668620842340149050 : Unit := ()
def PySem.W.Fast.tw6357815121973622075 : Unit := ()
def PySem.W.Fast.tw7133804761834097276 : Unit := ()
def PySem.W.Fast.tw12757024265326766846 : Unit := ()
def PySem.W.Fast.tw13542144218258444351 : Unit := ()
def PySem.W.Fast.tw7430677107307650111 : Unit := ()
def PySem.W.Fast.tw10329573535936136255 : Unit := ()
def PySem.W.Fast.tw16529738494254624223 : Unit := ()
def PySem.W.Fast.tw6895954367035495263 : Unit := ()
def PySem.W.Fast.tw4065945678195948543 : Unit := ()

open PySem PySem.W PyProof.Rows
set_option maxRecDepth 100000 in
set_option maxHeartbeats 0 in
theorem PySem.Challenge.cw_hushkernel_k13_first_moment_holds : PySem.Challenge.rw_hushkernel_k13_first_moment.Holds := by
  w_on; o_law; k_head; (case hw => w_witness2)
  k_fill
  refine T.walk (l := PySem.Challenge.rw_hushkernel_k13_first_moment) rfl rfl (fun w h Y => PySem.W.kIn_of Y) ?F
  case F =>
    intro w mg fa h KX G hmg
    refine' T.all_mk KX G hmg ?z_int ?z_str ?z_bool ?z_list ?z_tuple ?z_dict ?z_set ?z_len ?z_isinstance ?z_all ?z_any ?z_min ?z_max ?z_sorted ?z_range ?z_zip ?z_abs ?z_sum ?z_ValueError ?a_lcm ?a_RF ?RFF ?a_READY ?RDY ?n_STATUSES ?n_ANSWERS ?n_RIGHTS ?n_FRAMES ?n_PAGES ?n_PORTS ?n_LOCKS ?n_LINES ?n_HEAD ?n_RUNNING ?a_KE ?ks ?kd ?kt ?a_NT ?L_NT ?ga_NT ?gg_NT ?gc_NT ?kp_NT ?a_NTs ?L_NTs ?ga_NTs ?gg_NTs ?gc_NTs ?kp_NTs ?x_NT ?nTT ?nTK ?a_Build ?pg_Build ?hd_Build ?po_Build ?sa_Build ?mk_Build ?kc_Build ?a_Rules ?pg_Rules ?hd_Rules ?po_Rules ?sa_Rules ?mk_Rules ?kc_Rules ?a_Moment ?pg_Moment ?hd_Moment ?po_Moment ?sa_Moment ?mk_Moment ?kc_Moment ?hn ?ht ?gc_Build ?mo_Build ?mi_Build ?gc_Moment ?mo_Moment ?mi_Moment ?nMR ?nCM ?nB__parts ?nB_rules ?nR_task_count ?nR_levels ?nR_side_of ?nR_sizes ?nR_line_of ?nR_places ?nR_counts ?nR_wipes ?nR_pads ?nR_lends ?nR_plain ?nR_miss ?nR_switch ?nR_greatest ?nR_all_frames ?nR_side_frames ?nR_has_slots ?nR_span ?nR_slots ?nR_letter_port ?nR_every ?nR_period ?nM__build ?nM__shape ?a_is_integer ?d_is_integer ?a_is_between ?d_is_between ?a_is_index ?d_is_index ?a_is_tuple ?d_is_tuple ?a_is_list ?d_is_list ?a_is_ascending ?d_is_ascending ?a_counted ?d_counted ?a_word_of ?d_word_of ?a_is_formed ?d_is_formed ?a_is_of_kind ?d_is_of_kind ?a_is_right ?d_is_right ?a_fit_as_numbers ?d_fit_as_numbers ?a_fit_as_row ?d_fit_as_row ?a_fit_as_rights ?d_fit_as_rights ?a_fit_as_lines ?d_fit_as_lines ?a_fit_as_costs ?d_fit_as_costs ?a_fits_as_slot ?d_fits_as_slot ?a_fits_as_outside ?d_fits_as_outside ?a_fit_as_plan ?d_fit_as_plan ?a_fit_as_tasks ?d_fit_as_tasks ?a_things_fault ?d_things_fault ?a_ways_fault ?d_ways_fault ?a_flags_fault ?d_flags_fault ?a_check_task ?d_check_task ?a_first ?d_first ?a__law_cell ?d__law_cell ?a__law_digits ?d__law_digits ?a__law_same ?d__law_same ?a__law_menu ?d__law_menu ?a__law_rights ?d__law_rights ?a__law_things ?d__law_things ?a__law_parts ?d__law_parts ?a__law_build ?d__law_build ?a__law_asked ?d__law_asked ?a__law_refused ?d__law_refused ?a__law_lists_of ?d__law_lists_of ?a__law_tells ?d__law_tells ?a_law ?d_law ?a_Build___init__ ?i_Build___init__ ?d_Build___init__ ?a_Build_tasks ?i_Build_tasks ?d_Build_tasks ?a_Build_pages ?i_Build_pages ?d_Build_pages ?a_Build_ports ?i_Build_ports ?d_Build_ports ?a_Build_lines ?i_Build_lines ?d_Build_lines ?a_Build_locks ?i_Build_locks ?d_Build_locks ?a_Build_frames ?i_Build_frames ?d_Build_frames ?a_Build_disk ?i_Build_disk ?d_Build_disk ?a_Build_costs ?i_Build_costs ?d_Build_costs ?a_Build_outside ?i_Build_outside ?d_Build_outside ?a_Build_wipe ?i_Build_wipe ?d_Build_wipe ?a_Build_pad ?i_Build_pad ?d_Build_pad ?a_Build_lend ?i_Build_lend ?d_Build_lend ?a_Build_share ?i_Build_share ?d_Build_share ?a_Build_plan ?i_Build_plan ?d_Build_plan ?a_Build_sides ?i_Build_sides ?d_Build_sides ?a_Build_rights ?i_Build_rights ?d_Build_rights ?a_Build___eq__ ?i_Build___eq__ ?d_Build___eq__ ?a_Rules___init__ ?i_Rules___init__ ?d_Rules___init__ ?a_Rules_set_costs ?i_Rules_set_costs ?d_Rules_set_costs ?a_Rules_set_frames ?i_Rules_set_frames ?d_Rules_set_frames ?a_Rules_slot_ticks ?i_Rules_slot_ticks ?d_Rules_slot_ticks ?a_Rules_set_plan ?i_Rules_set_plan ?d_Rules_set_plan ?a_Rules_set_letters ?i_Rules_set_letters ?d_Rules_set_letters ?a_Moment___init__ ?i_Moment___init__ ?d_Moment___init__ ?a_Moment_build ?i_Moment_build ?d_Moment_build ?a_Moment_shape ?i_Moment_shape ?d_Moment_shape ?a_Moment_status ?i_Moment_status ?d_Moment_status ?a_Moment_answer ?i_Moment_answer ?d_Moment_answer ?a_Moment_rights ?i_Moment_rights ?d_Moment_rights ?a_Moment_held ?i_Moment_held ?d_Moment_held ?a_Moment_pages ?i_Moment_pages ?d_Moment_pages ?a_Moment_ports ?i_Moment_ports ?d_Moment_ports ?a_Moment_locks ?i_Moment_locks ?d_Moment_locks ?a_Moment_lines ?i_Moment_lines ?d_Moment_lines ?a_Moment_head ?i_Moment_head ?d_Moment_head ?a_Moment_running ?i_Moment_running ?d_Moment_running ?a_Moment___eq__ ?i_Moment___eq__ ?d_Moment___eq__
    (case z_int => k_is)
    (case z_str => k_is)
    (case z_bool => k_is)
    (case z_list => k_is)
    (case z_tuple => k_is)
    (case z_dict => k_is)
    (case z_set => k_is)
    (case z_len => k_is)
    (case z_isinstance => k_is)
    (case z_all => k_is)
    (case z_any => k_is)
    (case z_min => k_is)
    (case z_max => k_is)
    (case z_sorted => k_is)
    (case z_range => k_is)
    (case z_zip => k_is)
    (case z_abs => k_is)
    (case z_sum => k_is)
    (case z_ValueError => k_is)
    (case a_lcm => k_is)
    (case a_RF => k_is)
    (case RFF =>
      refine' T.forms_mk ?ffA ?ffB ?ffC ?ffD
      (case ffA => rfl)
      (case ffC => rfl)
      (case ffB => exact ⟨⟨_, _, rfl, rfl⟩, ⟨_, _, rfl, rfl⟩, ⟨_, _, rfl, rfl⟩, ⟨_, _, rfl, rfl⟩, ⟨_, _, rfl, rfl⟩, ⟨_, _, rfl, rfl⟩, ⟨_, _, rfl, rfl⟩, ⟨_, _, rfl, rfl⟩, trivial⟩)
      (case ffD => exact Paired.cons ⟨_, _, rfl, rfl, T.tupK (K := _) rfl rfl (show (1 : Nat) ≤ 100 by decide) (.cons ⟨_, rfl⟩ .nil)⟩ (Paired.cons ⟨_, _, rfl, rfl, T.tupK (K := _) rfl rfl (show (1 : Nat) ≤ 100 by decide) (.cons ⟨_, rfl⟩ .nil)⟩ (Paired.cons ⟨_, _, rfl, rfl, T.tupK (K := _) rfl rfl (show (1 : Nat) ≤ 100 by decide) (.cons ⟨_, rfl⟩ .nil)⟩ (Paired.cons ⟨_, _, rfl, rfl, T.tupK (K := _) rfl rfl (show (1 : Nat) ≤ 100 by decide) (.cons ⟨_, rfl⟩ .nil)⟩ (Paired.cons ⟨_, _, rfl, rfl, T.tupK (K := _) rfl rfl (show (1 : Nat) ≤ 100 by decide) (.cons ⟨_, rfl⟩ .nil)⟩ (Paired.cons ⟨_, _, rfl, rfl, T.tupK (K := _) rfl rfl (show (1 : Nat) ≤ 100 by decide) (.cons ⟨_, rfl⟩ .nil)⟩ (Paired.cons ⟨_, _, rfl, rfl, T.tupK (K := _) rfl rfl (show (1 : Nat) ≤ 100 by decide) (.cons ⟨_, rfl⟩ .nil)⟩ (Paired.cons ⟨_, _, rfl, rfl, T.tupK (K := _) rfl rfl (show (1 : Nat) ≤ 100 by decide) (.cons ⟨_, rfl⟩ .nil)⟩ (.nil))))))))))
    (case a_READY => k_is)
    (case RDY => exact T.tupK (K := _) rfl rfl (show (1 : Nat) ≤ 100 by decide) (.cons ⟨_, rfl⟩ .nil))
    (case n_STATUSES => k_is)
    (case n_ANSWERS => k_is)
    (case n_RIGHTS => k_is)
    (case n_FRAMES => k_is)
    (case n_PAGES => k_is)
    (case n_PORTS => k_is)
    (case n_LOCKS => k_is)
    (case n_LINES => k_is)
    (case n_HEAD => k_is)
    (case n_RUNNING => k_is)
    (case a_KE => k_is)
    (case ks => k_is)
    (case kd => k_is)
    (case kt => k_is)
    (case a_NT => k_is)
    (case L_NT => refine' T.IsErr.mk' ?l; (case l => k_is))
    (case ga_NT => k_is)
    (case gg_NT => k_is)
    (case gc_NT => k_is)
    (case kp_NT => k_is)
    (case a_NTs => k_is)
    (case L_NTs => refine' T.IsErr.mk' ?l; (case l => k_is))
    (case ga_NTs => k_is)
    (case gg_NTs => k_is)
    (case gc_NTs => k_is)
    (case kp_NTs => k_is)
    (case x_NT => first | k_exc | k_is)
    (case a_Build => k_is)
    (case pg_Build => k_is)
    (case hd_Build => k_is)
    (case po_Build => k_is)
    (case sa_Build => k_is)
    (case mk_Build => k_is)
    (case kc_Build => k_is)
    (case a_Rules => k_is)
    (case pg_Rules => k_is)
    (case hd_Rules => k_is)
    (case po_Rules => k_is)
    (case sa_Rules => k_is)
    (case mk_Rules => k_is)
    (case kc_Rules => k_is)
    (case a_Moment => k_is)
    (case pg_Moment => k_is)
    (case hd_Moment => k_is)
    (case po_Moment => k_is)
    (case sa_Moment => k_is)
    (case mk_Moment => k_is)
    (case kc_Moment => k_is)
    (case hn => k_is)
    (case ht => k_is)
    (case gc_Build => k_is)
    (case mo_Build => k_is)
    (case mi_Build => k_is)
    (case gc_Moment => k_is)
    (case mo_Moment => k_is)
    (case mi_Moment => k_is)
    (case nB__parts => k_is)
    (case nB_rules => k_is)
    (case nR_task_count => k_is)
    (case nR_levels => k_is)
    (case nR_side_of => k_is)
    (case nR_sizes => k_is)
    (case nR_line_of => k_is)
    (case nR_places => k_is)
    (case nR_counts => k_is)
    (case nR_wipes => k_is)
    (case nR_pads => k_is)
    (case nR_lends => k_is)
    (case nR_plain => k_is)
    (case nR_miss => k_is)
    (case nR_switch => k_is)
    (case nR_greatest => k_is)
    (case nR_all_frames => k_is)
    (case nR_side_frames => k_is)
    (case nR_has_slots => k_is)
    (case nR_span => k_is)
    (case nR_slots => k_is)
    (case nR_letter_port => k_is)
    (case nR_every => k_is)
    (case nR_period => k_is)
    (case nM__build => k_is)
    (case nM__shape => k_is)
    (case a_is_integer => k_is)
    (case d_is_integer => refine' T.DefF.mk' ?l ?c ?k; (case l => k_is); (case c => k_is); (case k => k_is))
    (case a_is_between => k_is)
    (case d_is_between => refine' T.DefF.mk' ?l ?c ?k; (case l => k_is); (case c => k_is); (case k => k_is))
    (case a_is_index => k_is)
    (case d_is_index => refine' T.DefF.mk' ?l ?c ?k; (case l => k_is); (case c => k_is); (case k => k_is))
    (case a_is_tuple => k_is)
    (case d_is_tuple => refine' T.DefF.mk' ?l ?c ?k; (case l => k_is); (case c => k_is); (case k => k_is))
    (case a_is_list => k_is)
    (case d_is_list => refine' T.DefF.mk' ?l ?c ?k; (case l => k_is); (case c => k_is); (case k => k_is))
    (case a_is_ascending => k_is)
    (case d_is_ascending => refine' T.DefF.mk' ?l ?c ?k; (case l => k_is); (case c => k_is); (case k => k_is))
    (case a_counted => k_is)
    (case d_counted => refine' T.DefF.mk' ?l ?c ?k; (case l => k_is); (case c => k_is); (case k => k_is))
    (case a_word_of => k_is)
    (case d_word_of => refine' T.DefF.mk' ?l ?c ?k; (case l => k_is); (case c => k_is); (case k => k_is))
    (case a_is_formed => k_is)
    (case d_is_formed => refine' T.DefF.mk' ?l ?c ?k; (case l => k_is); (case c => k_is); (case k => k_is))
    (case a_is_of_kind => k_is)
    (case d_is_of_kind => refine' T.DefF.mk' ?l ?c ?k; (case l => k_is); (case c => k_is); (case k => k_is))
    (case a_is_right => k_is)
    (case d_is_right => refine' T.DefF.mk' ?l ?c ?k; (case l => k_is); (case c => k_is); (case k => k_is))
    (case a_fit_as_numbers => k_is)
    (case d_fit_as_numbers => refine' T.DefF.mk' ?l ?c ?k; (case l => k_is); (case c => k_is); (case k => k_is))
    (case a_fit_as_row => k_is)
    (case d_fit_as_row => refine' T.DefF.mk' ?l ?c ?k; (case l => k_is); (case c => k_is); (case k => k_is))
    (case a_fit_as_rights => k_is)
    (case d_fit_as_rights => refine' T.DefF.mk' ?l ?c ?k; (case l => k_is); (case c => k_is); (case k => k_is))
    (case a_fit_as_lines => k_is)
    (case d_fit_as_lines => refine' T.DefF.mk' ?l ?c ?k; (case l => k_is); (case c => k_is); (case k => k_is))
    (case a_fit_as_costs => k_is)
    (case d_fit_as_costs => refine' T.DefF.mk' ?l ?c ?k; (case l => k_is); (case c => k_is); (case k => k_is))
    (case a_fits_as_slot => k_is)
    (case d_fits_as_slot => refine' T.DefF.mk' ?l ?c ?k; (case l => k_is); (case c => k_is); (case k => k_is))
    (case a_fits_as_outside => k_is)
    (case d_fits_as_outside => refine' T.DefF.mk' ?l ?c ?k; (case l => k_is); (case c => k_is); (case k => k_is))
    (case a_fit_as_plan => k_is)
    (case d_fit_as_plan => refine' T.DefF.mk' ?l ?c ?k; (case l => k_is); (case c => k_is); (case k => k_is))
    (case a_fit_as_tasks => k_is)
    (case d_fit_as_tasks => refine' T.DefF.mk' ?l ?c ?k; (case l => k_is); (case c => k_is); (case k => k_is))
    (case a_things_fault => k_is)
    (case d_things_fault => refine' T.DefF.mk' ?l ?c ?k; (case l => k_is); (case c => k_is); (case k => k_is))
    (case a_ways_fault => k_is)
    (case d_ways_fault => refine' T.DefF.mk' ?l ?c ?k; (case l => k_is); (case c => k_is); (case k => k_is))
    (case a_flags_fault => k_is)
    (case d_flags_fault => refine' T.DefF.mk' ?l ?c ?k; (case l => k_is); (case c => k_is); (case k => k_is))
    (case a_check_task => k_is)
    (case d_check_task => refine' T.DefF.mk' ?l ?c ?k; (case l => k_is); (case c => k_is); (case k => k_is))
    (case a_first => k_is)
    (case d_first => refine' T.DefF.mk' ?l ?c ?k; (case l => k_is); (case c => k_is); (case k => k_is))
    (case a__law_cell => k_is)
    (case d__law_cell => refine' T.DefF.mk' ?l ?c ?k; (case l => k_is); (case c => k_is); (case k => k_is))
    (case a__law_digits => k_is)
    (case d__law_digits => refine' T.DefF.mk' ?l ?c ?k; (case l => k_is); (case c => k_is); (case k => k_is))
    (case a__law_same => k_is)
    (case d__law_same => refine' T.DefF.mk' ?l ?c ?k; (case l => k_is); (case c => k_is); (case k => k_is))
    (case a__law_menu => k_is)
    (case d__law_menu => refine' T.DefF.mk' ?l ?c ?k; (case l => k_is); (case c => k_is); (case k => k_is))
    (case a__law_rights => k_is)
    (case d__law_rights => refine' T.DefF.mk' ?l ?c ?k; (case l => k_is); (case c => k_is); (case k => k_is))
    (case a__law_things => k_is)
    (case d__law_things => refine' T.DefF.mk' ?l ?c ?k; (case l => k_is); (case c => k_is); (case k => k_is))
    (case a__law_parts => k_is)
    (case d__law_parts => refine' T.DefF.mk' ?l ?c ?k; (case l => k_is); (case c => k_is); (case k => k_is))
    (case a__law_build => k_is)
    (case d__law_build => refine' T.DefF.mk' ?l ?c ?k; (case l => k_is); (case c => k_is); (case k => k_is))
    (case a__law_asked => k_is)
    (case d__law_asked => refine' T.DefF.mk' ?l ?c ?k; (case l => k_is); (case c => k_is); (case k => k_is))
    (case a__law_refused => k_is)
    (case d__law_refused => refine' T.DefF.mk' ?l ?c ?k; (case l => k_is); (case c => k_is); (case k => k_is))
    (case a__law_lists_of => k_is)
    (case d__law_lists_of => refine' T.DefF.mk' ?l ?c ?k; (case l => k_is); (case c => k_is); (case k => k_is))
    (case a__law_tells => k_is)
    (case d__law_tells => refine' T.DefF.mk' ?l ?c ?k; (case l => k_is); (case c => k_is); (case k => k_is))
    (case a_law => k_is)
    (case d_law => refine' T.DefF.mk' ?l ?c ?k; (case l => k_is); (case c => k_is); (case k => k_is))
    (case a_Build___init__ => k_is)
    (case i_Build___init__ => k_is)
    (case d_Build___init__ => refine' T.DefF.mk' ?l ?c ?k; (case l => k_is); (case c => k_is); (case k => k_is))
    (case a_Build_tasks => k_is)
    (case i_Build_tasks => k_is)
    (case d_Build_tasks => refine' T.DefF.mk' ?l ?c ?k; (case l => k_is); (case c => k_is); (case k => k_is))
    (case a_Build_pages => k_is)
    (case i_Build_pages => k_is)
    (case d_Build_pages => refine' T.DefF.mk' ?l ?c ?k; (case l => k_is); (case c => k_is); (case k => k_is))
    (case a_Build_ports => k_is)
    (case i_Build_ports => k_is)
    (case d_Build_ports => refine' T.DefF.mk' ?l ?c ?k; (case l => k_is); (case c => k_is); (case k => k_is))
    (case a_Build_lines => k_is)
    (case i_Build_lines => k_is)
    (case d_Build_lines => refine' T.DefF.mk' ?l ?c ?k; (case l => k_is); (case c => k_is); (case k => k_is))
    (case a_Build_locks => k_is)
    (case i_Build_locks => k_is)
    (case d_Build_locks => refine' T.DefF.mk' ?l ?c ?k; (case l => k_is); (case c => k_is); (case k => k_is))
    (case a_Build_frames => k_is)
    (case i_Build_frames => k_is)
    (case d_Build_frames => refine' T.DefF.mk' ?l ?c ?k; (case l => k_is); (case c => k_is); (case k => k_is))
    (case a_Build_disk => k_is)
    (case i_Build_disk => k_is)
    (case d_Build_disk => refine' T.DefF.mk' ?l ?c ?k; (case l => k_is); (case c => k_is); (case k => k_is))
    (case a_Build_costs => k_is)
    (case i_Build_costs => k_is)
    (case d_Build_costs => refine' T.DefF.mk' ?l ?c ?k; (case l => k_is); (case c => k_is); (case k => k_is))
    (case a_Build_outside => k_is)
    (case i_Build_outside => k_is)
    (case d_Build_outside => refine' T.DefF.mk' ?l ?c ?k; (case l => k_is); (case c => k_is); (case k => k_is))
    (case a_Build_wipe => k_is)
    (case i_Build_wipe => k_is)
    (case d_Build_wipe => refine' T.DefF.mk' ?l ?c ?k; (case l => k_is); (case c => k_is); (case k => k_is))
    (case a_Build_pad => k_is)
    (case i_Build_pad => k_is)
    (case d_Build_pad => refine' T.DefF.mk' ?l ?c ?k; (case l => k_is); (case c => k_is); (case k => k_is))
    (case a_Build_lend => k_is)
    (case i_Build_lend => k_is)
    (case d_Build_lend => refine' T.DefF.mk' ?l ?c ?k; (case l => k_is); (case c => k_is); (case k => k_is))
    (case a_Build_share => k_is)
    (case i_Build_share => k_is)
    (case d_Build_share => refine' T.DefF.mk' ?l ?c ?k; (case l => k_is); (case c => k_is); (case k => k_is))
    (case a_Build_plan => k_is)
    (case i_Build_plan => k_is)
    (case d_Build_plan => refine' T.DefF.mk' ?l ?c ?k; (case l => k_is); (case c => k_is); (case k => k_is))
    (case a_Build_sides => k_is)
    (case i_Build_sides => k_is)
    (case d_Build_sides => refine' T.DefF.mk' ?l ?c ?k; (case l => k_is); (case c => k_is); (case k => k_is))
    (case a_Build_rights => k_is)
    (case i_Build_rights => k_is)
    (case d_Build_rights => refine' T.DefF.mk' ?l ?c ?k; (case l => k_is); (case c => k_is); (case k => k_is))
    (case a_Build___eq__ => k_is)
    (case i_Build___eq__ => k_is)
    (case d_Build___eq__ => refine' T.DefF.mk' ?l ?c ?k; (case l => k_is); (case c => k_is); (case k => k_is))
    (case a_Rules___init__ => k_is)
    (case i_Rules___init__ => k_is)
    (case d_Rules___init__ => refine' T.DefF.mk' ?l ?c ?k; (case l => k_is); (case c => k_is); (case k => k_is))
    (case a_Rules_set_costs => k_is)
    (case i_Rules_set_costs => k_is)
    (case d_Rules_set_costs => refine' T.DefF.mk' ?l ?c ?k; (case l => k_is); (case c => k_is); (case k => k_is))
    (case a_Rules_set_frames => k_is)
    (case i_Rules_set_frames => k_is)
    (case d_Rules_set_frames => refine' T.DefF.mk' ?l ?c ?k; (case l => k_is); (case c => k_is); (case k => k_is))
    (case a_Rules_slot_ticks => k_is)
    (case i_Rules_slot_ticks => k_is)
    (case d_Rules_slot_ticks => refine' T.DefF.mk' ?l ?c ?k; (case l => k_is); (case c => k_is); (case k => k_is))
    (case a_Rules_set_plan => k_is)
    (case i_Rules_set_plan => k_is)
    (case d_Rules_set_plan => refine' T.DefF.mk' ?l ?c ?k; (case l => k_is); (case c => k_is); (case k => k_is))
    (case a_Rules_set_letters => k_is)
    (case i_Rules_set_letters => k_is)
    (case d_Rules_set_letters => refine' T.DefF.mk' ?l ?c ?k; (case l => k_is); (case c => k_is); (case k => k_is))
    (case a_Moment___init__ => k_is)
    (case i_Moment___init__ => k_is)
    (case d_Moment___init__ => refine' T.DefF.mk' ?l ?c ?k; (case l => k_is); (case c => k_is); (case k => k_is))
    (case a_Moment_build => k_is)
    (case i_Moment_build => k_is)
    (case d_Moment_build => refine' T.DefF.mk' ?l ?c ?k; (case l => k_is); (case c => k_is); (case k => k_is))
    (case a_Moment_shape => k_is)
    (case i_Moment_shape => k_is)
    (case d_Moment_shape => refine' T.DefF.mk' ?l ?c ?k; (case l => k_is); (case c => k_is); (case k => k_is))
    (case a_Moment_status => k_is)
    (case i_Moment_status => k_is)
    (case d_Moment_status => refine' T.DefF.mk' ?l ?c ?k; (case l => k_is); (case c => k_is); (case k => k_is))
    (case a_Moment_answer => k_is)
    (case i_Moment_answer => k_is)
    (case d_Moment_answer => refine' T.DefF.mk' ?l ?c ?k; (case l => k_is); (case c => k_is); (case k => k_is))
    (case a_Moment_rights => k_is)
    (case i_Moment_rights => k_is)
    (case d_Moment_rights => refine' T.DefF.mk' ?l ?c ?k; (case l => k_is); (case c => k_is); (case k => k_is))
    (case a_Moment_held => k_is)
    (case i_Moment_held => k_is)
    (case d_Moment_held => refine' T.DefF.mk' ?l ?c ?k; (case l => k_is); (case c => k_is); (case k => k_is))
    (case a_Moment_pages => k_is)
    (case i_Moment_pages => k_is)
    (case d_Moment_pages => refine' T.DefF.mk' ?l ?c ?k; (case l => k_is); (case c => k_is); (case k => k_is))
    (case a_Moment_ports => k_is)
    (case i_Moment_ports => k_is)
    (case d_Moment_ports => refine' T.DefF.mk' ?l ?c ?k; (case l => k_is); (case c => k_is); (case k => k_is))
    (case a_Moment_locks => k_is)
    (case i_Moment_locks => k_is)
    (case d_Moment_locks => refine' T.DefF.mk' ?l ?c ?k; (case l => k_is); (case c => k_is); (case k => k_is))
    (case a_Moment_lines => k_is)
    (case i_Moment_lines => k_is)
    (case d_Moment_lines => refine' T.DefF.mk' ?l ?c ?k; (case l => k_is); (case c => k_is); (case k => k_is))
    (case a_Moment_head => k_is)
    (case i_Moment_head => k_is)
    (case d_Moment_head => refine' T.DefF.mk' ?l ?c ?k; (case l => k_is); (case c => k_is); (case k => k_is))
    (case a_Moment_running => k_is)
    (case i_Moment_running => k_is)
    (case d_Moment_running => refine' T.DefF.mk' ?l ?c ?k; (case l => k_is); (case c => k_is); (case k => k_is))
    (case a_Moment___eq__ => k_is)
    (case i_Moment___eq__ => k_is)
    (case d_Moment___eq__ => refine' T.DefF.mk' ?l ?c ?k; (case l => k_is); (case c => k_is); (case k => k_is))
    (case nTT => decide)
    (case nTK => decide)
    (case nMR => decide)
    (case nCM => decide)
