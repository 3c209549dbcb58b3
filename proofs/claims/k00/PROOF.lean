import PyProof.Rows.All
import Wide.All
import OpenK.AllK
import Wide.FinOn
import PyProof.EqAt
import PyProof.EqKinds
import PyProof.TupleCall
import HandS.Base
import HandS.Call
import HandS.List
import HandS.Dict
import HandS.Set
import HandS.SetFor
import HandS.TupLe
import HandS.Words
import HandS.Strs
import KE.KMathG
import PyProof.Rows.SetFrom
import HandS.Comp
import HandS.Iter
import HandS.Zip
import HandS.Wide
import HandS.Conv
import HandS.IsInst
import HandS.Ends
import HandS.Walk
import HandS.Evl
import HandS.WordsList
import HandS.WordsDict
import HandS.Gcd
import HandS.MakeKwOnly
import HandS.TupAny
import HandS.More
import HandS.HotCalls
import HandS.ExcInit
import HandS.ExcIs
import HandS.ExcField
import HandS.Exc
import KE.KExcIs
import HandS.ExcOwn
import HandS.WordsExc
import PySem.Challenge.RW_hushkernel_k00_errors
set_option Elab.async false
set_option linter.all false
set_option maxRecDepth 100000
set_option maxHeartbeats 4000000
namespace Hk
open PySem PySem.Spec PyProof.Rows L2
section
variable {X : Cx}
/-! ## math.lcm -/
def rLcm : List V → Hp → VK → Prop := fun vs H Q => ∃ a b : Int, vs = [.int a, .int b] ∧ 0 < a ∧ a < 1000 ∧ 0 < b ∧ b < 1000 ∧ Q (.int ((Nat.lcm a.natAbs b.natAbs : Nat) : Int)) H
theorem lcm_small {n : Nat} (h : n < 1000000) : ((n : Nat) : Int).natAbs.log2 < bitsLine := by
  show n.log2 < bitsLine
  by_cases h0 : n = 0
  · subst h0; decide
  · have : n.log2 < 20 := (Nat.log2_lt h0).2 (by omega)
    exact Nat.lt_trans this (by decide)
theorem cr_lcm : CallR X (.builtin "math.lcm") rLcm := by
  rintro pins s σ H vs us Q I r ⟨a, b, rfl, a0, a1, b0, b1, q⟩
  obtain ⟨t, u, rfl⟩ := Vals.int2 r
  have e : (Nat.lcm 1 a.natAbs).lcm b.natAbs = a.natAbs.lcm b.natAbs := by rw [Nat.lcm_one_left]
  have hb : a.natAbs.lcm b.natAbs < 1000000 := by
    have h1 : a.natAbs.lcm b.natAbs ≤ a.natAbs * b.natAbs := by
      unfold Nat.lcm; exact Nat.div_le_self _ _
    have h2 : a.natAbs * b.natAbs ≤ 999 * 999 := Nat.mul_le_mul (by omega) (by omega)
    omega
  refine PySem.W.mg_lcm_v (c := ((Nat.lcm a.natAbs b.natAbs : Nat) : Int)) (by omega) (by omega) (by rw [e]) (lcm_small hb) ⟨.int _, H, I.tok _, ⟨_, rfl⟩, q⟩
/-! ## a target o.f -/
def gFld (K : PySem.W.Frag) (ta : TE) (f : Str) : TG := fun v σ H Q => ta σ H fun x H2 => ∃ a C dx fs, x = .ref a ∧ H2 a = some (.ins C dx fs) ∧ Cls K C ∧ NoAttr K C f ∧ fs.length < 1000 ∧ Q σ (upd H2 a (.ins C dx (putF f v fs)))

theorem pg_fld {o : Expr} {f : Str} {pos : Pos} {ta : TE} (ho : PE X o ta) : PG X (.Attribute o f pos) (gFld X.K ta f) := by
  refine ⟨fun pins s σ H v u Q I r h => ?_⟩
  rw [arm_assign_Attribute]
  refine wpAny_bind (wpAny_holding (thn (ho.run pins s σ H _ I h) fun ov s1 hh => ?_))
  obtain ⟨x, H1, I1, rx, a, C, dx, fs, ex, ea, c, n, l, q⟩ := hh
  subst ex
  obtain rfl : ov = Value.ref a := rx
  refine wpAny_bind (wpAny_standAt (wpAny_bind (wpAny_holding ?_)))
  exact setattr_ok I1 ea c n l r fun s3 I3 => wpAny_release ⟨σ, _, I3, q⟩
/-! ## tuples of a text and an int, by < -/
def ltWI (a b : Str × Int) : Bool := if a.1 = b.1 then decide (a.2 < b.2) else decide (a.1.cps.toList < b.1.cps.toList)
def rLtWI (K : PySem.W.Frag) : R2 := fun x y H Q => ∃ (a b : Addr) (p q : Str × Int), x = .ref a ∧ y = .ref b ∧ SqT K H a [.str p.1, .int p.2] ∧ SqT K H b [.str q.1, .int q.2] ∧ Q (.bl (ltWI p q)) H
theorem op_ltWI (hu : X.A.units < cLine) : OpR X (compareOp .Lt) (rLtWI X.K) := by
  intro pins s σ H x y v u Q I rx ry h
  obtain ⟨a, b, ⟨w1, i1⟩, ⟨w2, i2⟩, rfl, rfl, ha, hb, q⟩ := h
  cases rx
  cases ry
  obtain ⟨its, r1, p1, _⟩ := I.tuple ha
  obtain ⟨its2, r2, p2, _⟩ := I.tuple hb
  cases r1 with
  | cons c1 r1 => cases r1 with
    | cons c2 r1 => cases r1; cases r2 with
      | cons c3 r2 => cases r2 with
        | cons c4 r2 =>
          cases r2
          obtain ⟨t1, rfl⟩ := c1
          obtain ⟨t2, rfl⟩ := c2
          obtain ⟨t3, rfl⟩ := c3
          obtain ⟨t4, rfl⟩ := c4
          have key := Ob.RcOp.tuples_lt (A := X.A) (s := s) (e := fun j => if j = 0 then (w1 == w2) else (i1 == i2))
            (r := fun j => if j = 0 then decide (w1.cps.toList < w2.cps.toList) else decide (i1 < i2)) p1 p2 hu ?_ ?_
          · have e : Ob.lexAt (fun j => if j = 0 then (w1 == w2) else (i1 == i2)) (fun j => if j = 0 then decide (w1.cps.toList < w2.cps.toList) else decide (i1 < i2)) (decide (2 < 2)) 0 2 = ltWI (w1, i1) (w2, i2) := by
              unfold ltWI
              rw [Ob.lexAt_succ, Ob.lexAt_succ, Ob.lexAt_zero]
              by_cases e1 : w1 = w2
              · subst e1
                by_cases e2 : i1 = i2
                · subst e2; simp
                · simp [e2]
              · simp [e1]
            exact key X.prog X.w _ _ ⟨.bl (ltWI (w1, i1) (w2, i2)), H, I, by rw [← e]; rfl, q⟩
          · intro j h1 h2
            match j, h1 with
            | 0, _ => exact SeqAt.EqAt.str_str w1 t1 w2 t3
            | 1, _ => exact SeqAt.EqAt.int_int i1 t2 i2 t4
          · intro j h1 h2 _
            match j, h1 with
            | 0, _ => exact fun _ _ _ _ z => PyProof.Rows.lt_str z
            | 1, _ => exact fun _ _ _ _ z => PyProof.Rows.lt_int z
/-! ## set(xs) of a list of ints -/
def rSetOfL (K : PySem.W.Frag) (w : World) : List V → Hp → VK → Prop := fun xs H Q => ∃ (l : Addr) (ns : List Int), xs = [.ref l] ∧ SqL K H l (ns.map V.int) ∧ ns.length < 60 ∧
  ∀ a n, H a = none → n ≤ ns.length → Q (.ref a) (upd H a (SetO w a (fun j => decide (j ∈ ns)) n))
end
end Hk

set_option Elab.async false
set_option linter.all false
set_option maxRecDepth 100000
set_option maxHeartbeats 4000000
namespace PySem
open PyProof.Rows L2
/-- a set that stands empty and new -/
abbrev hkFresh (w : World) : Obj := { cls := .type "set", dict := none, data := .set #[] 0 (.fresh 0 0 (!w.params.followText "set-order")) }
section
variable {P : Program} {w : World} {A : Around} {E : Value → Shared → Prop} {s : Shared}
set_option maxRecDepth 100000 in
set_option maxHeartbeats 3200000 in
/-- set(xs), xs a list of ints, as a set whose order is known -/
theorem hk_set_list {l : Addr} {xs : Array Value} (ns : List Int) {Q : Value → Shared → Prop} (hnd : A.handled = none) (isl : s.heap.IsList l xs) (hin : IntsAre xs.toList ns) (few : ns.length + 1 < scanBound)
    (k : ∀ (h2 : Heap) (tk c : Nat), SetR w h2 s.heap.objs.size (fun j => decide (j ∈ ns)) c → c ≤ ns.length → (∀ b o, s.heap.get? b = some o → h2.get? b = some o) → Q (.ref s.heap.objs.size) { s with heap := h2, toks := tk }) :
    wpAny (model P w) A (call (.type "set") [.ref l]) Q E s := by
  have nsz : xs.size = ns.length := by have z := IntsAre.length hin; rwa [Array.length_toList] at z
  obtain ⟨_, _, hm0⟩ := F.called_set.mro
  have hm1 := F.called_set.made
  have hm2 := F.called_set.sub
  refine wpAny_call (codeAny_of_tree ?_)
  show wpAny _ _ (callAny (.type "set") _) _ _ _
  refine wpAny_pure ⟨Code.quiet_builtin _ (by decide +kernel), codeAny_builtin F.entry_type_call ?_⟩
  rw [Around.under_plain (weight_type_call_type "set" [.ref l] []) rfl]
  have a1 := F.called_set.notType
  have a2 := F.called_set.canCreate
  have a3 := F.typeCall_set_1 (.ref l)
  repeat any_goals (first | assumption | wp_step)
  refine codeAny_mono (code_set_led1 (.ref l) (E := E) (Q₁ := fun v s1 => v = .ref s.heap.objs.size ∧ s1 = { s with heap := s.heap.push (hkFresh w) }) ⟨rfl, rfl⟩) fun r1 s1 h1 => ?_
  match r1, h1 with
  | .error _, h1 => exact h1
  | .ok .next, h1 | .ok .brk, h1 | .ok .cont, h1 => exact h1.elim
  | .ok (.ret v), h1 =>
    obtain ⟨rfl, rfl⟩ := h1
    have fr : (s.heap.push (hkFresh w)).get? s.heap.objs.size = some (hkFresh w) := Heap.get?_push_size _ rfl
    have ty : Shared.TypeIs { s with heap := s.heap.push (hkFresh w) } (.ref s.heap.objs.size) "set" := ⟨_, fr, rfl⟩
    have b1 := F.called_set.init.lookup
    have b2 := F.called_set.init.bind (.ref s.heap.objs.size)
    repeat any_goals (first | assumption | wp_step)
    refine codeAny_mono (codeAny_call_builtin (R := wants (fun r s2 => r = .none ∧ ∃ h2 tk c, s2 = { s with heap := h2, toks := tk } ∧ SetR w h2 s.heap.objs.size (fun j => decide (j ∈ ns)) c ∧ c ≤ ns.length ∧
      (∀ b o, s.heap.get? b = some o → h2.get? b = some o)) E) F.called_set.init.plain F.entry_set_init (check_set_init_1 ty ?_)) fun r2 s2 h2 => ?_
    · obtain ⟨⟨oc, od, oda, osl⟩, hol, hcl, nl, hdl⟩ := isl
      dsimp only at hcl hdl
      subst hcl hdl
      have hol2 : (s.heap.push (hkFresh w)).get? l = some { cls := .type "list", dict := od, data := .seq xs nl, slots := osl } := Heap.get?_push_of_some _ hol
      have c1 := F.sub_list_set
      have c2 := F.sub_list_frozenset
      have c3 : (Value.type "list" == Value.type "dict") = false := by decide
      have il : (s.heap.push (hkFresh w)).IsList l xs := ⟨_, hol2, rfl, nl, rfl⟩
      unfold Builtin.«set.__init__» noKeywords Builtin.Frozenset.updateFrom
      generalize hpi : pyIter = pin
      wp_walk
      subst hpi
      refine wpAny_pyIter_list il (wpAny_bind (wpAny_runValue ?_))
      have lS : l < s.heap.objs.size := Heap.lt_size hol
      have sz1 : (s.heap.push (hkFresh w)).objs.size = s.heap.objs.size + 1 := Heap.size_push ..
      have d1 : l ≠ (s.heap.push (hkFresh w)).objs.size := by rw [sz1]; exact Nat.ne_of_lt (Nat.lt_succ_of_lt lS)
      have d2 : s.heap.objs.size ∉ [(s.heap.push (hkFresh w)).objs.size, l] := by
        rw [sz1]
        intro hm
        rcases List.mem_cons.mp hm with z | z
        · exact Nat.ne_of_lt (Nat.lt_succ_self _) z
        · exact Nat.ne_of_gt lS (List.mem_singleton.mp z)
      have vals : ∀ (i : Nat) (v : Value), xs[i]? = some v → ∃ k t, ns[i]? = some k ∧ v = .int k t := fun i v hv => by
        have lt : i < ns.length := by rw [← nsz]; exact (Array.getElem?_eq_some_iff.mp hv).1
        obtain ⟨t, z⟩ := IntsAre.int_at hin i v (by rw [Array.getElem?_toList]; exact hv)
        refine ⟨ns[i], t, List.getElem?_eq_getElem lt, z.trans ?_⟩
        rw [List.getD_eq_getElem?_getD, List.getElem?_eq_getElem lt]; rfl
      refine set_update_ints ((Walks.list (by simp [hnd]) _ l d1 xs).toS) s.heap.objs.size d2 ns nsz few vals (xs.size - 0) 0 _ (by omega) (Nat.zero_le _) ⟨⟨_, Heap.get?_push_size _ rfl, rfl, rfl⟩, il.push _⟩
        ⟨0, Nat.le_refl 0, setR_new_at (Heap.get?_push_of_some _ fr)⟩ fun s3 c3 mv cle hS => ?_
      obtain ⟨h3, g3, d3, t3, o3⟩ := s3
      cases (show g3 = s.gens from mv.gens)
      cases (show d3 = s.drawn from mv.drawn)
      cases (show o3 = s.os from mv.os)
      show wpAny _ _ _ _ _ _
      refine wpAny_pure ?_
      show wpAny _ _ (ret Value.none) _ _ _
      rw [nsz] at cle
      refine wpAny_pure ⟨rfl, h3, t3, c3, rfl, hS, cle, fun b o e => ?_⟩
      have lt := Heap.lt_size e
      refine mv.heap b o (fun hm => ?_) (Heap.get?_push_of_some _ (Heap.get?_push_of_some _ e))
      rcases List.mem_cons.mp hm with z | z
      · exact Nat.ne_of_lt lt z
      · exact Nat.ne_of_lt (Nat.lt_succ_of_lt lt) ((List.mem_singleton.mp z).trans sz1)
    · match r2, h2 with
      | .error _, h2 => exact h2
      | .ok .next, h2 | .ok .brk, h2 | .ok .cont, h2 => exact h2.elim
      | .ok (.ret _), h2 =>
        obtain ⟨rfl, h3, tk, c, rfl, hS, cle, keep⟩ := h2
        repeat any_goals (first | assumption | wp_step)
        exact k _ _ _ hS cle keep
end
end PySem
namespace Hk
open PySem PySem.Spec PyProof.Rows L2
section
variable {X : Cx}
theorem cr_setL (hc : X.calm = true) : CallR X (.type "set") (rSetOfL X.K X.w) := by
  rintro pins s σ H xs us Q I r ⟨l, ns, rfl, hl, few, q⟩
  rw [Vals.ref1 r]
  obtain ⟨its, rv, pl, hz⟩ := I.list hl
  have hn : H s.heap.objs.size = none := I.hok.fresh (Nat.le_refl _)
  refine hk_set_list ns (I.ok.hd hc) pl.isList (by simpa using rv.ints) (by unfold scanBound; omega) fun h2 tk c hS cle keep => ?_
  exact ⟨.ref s.heap.objs.size, upd H s.heap.objs.size (SetO X.w s.heap.objs.size (fun j => decide (j ∈ ns)) c), I.laid (t' := tk) keep (Nat.le_refl _) (setO_new hS), rfl, q _ c hn cle⟩
end
end Hk

set_option Elab.async false
set_option linter.all false
set_option maxRecDepth 100000
set_option maxHeartbeats 4000000
namespace PySem
section
variable {prog : Program} {w : World} {T : Type} [DecidableEq T] {knd : KeyKind prog w T} {A : Around} {E : Value → Shared → Prop} {s : Shared}
theorem hk_any_no {kvs : List (T × Value)} {k : T} (h : k ∉ kvs.map (·.1)) : ¬ (kvs.any fun p => decide (p.1 = k)) = true := fun z => by
  obtain ⟨p, m, e⟩ := List.any_eq_true.mp z
  exact h (of_decide_eq_true e ▸ List.mem_map_of_mem m)
theorem hk_put {d : Addr} {kvs : List (T × Value)} {k : T} {key v : Value} {Q : Unit → Shared → Prop} (isk : knd.is k key = true) (hm : s.heap.DictOf knd d kvs) (sz : kvs.length ≤ sizeLine)
    (q : ∀ h2, h2.DictOf knd d (stored kvs k v) → Heap.SameBut d s.heap h2 → Q () { s with heap := h2 }) : wpAny (model prog w) A (dictPut d (knd.hash k) key v) Q E s := by
  obtain ⟨o, ⟨l⟩, ep, ho, hc, hd, hk, hp, nd⟩ := hm
  have ll : l.length = kvs.length := hp.length
  have ix : ((⟨l⟩ : Array DictEntry).findIdx? fun e => knd.is k e.key) = kvs.findIdx? fun p => decide (p.1 = k) := by
    rw [← hp.findIdx k]; simp
  unfold dictPut
  refine wpAny_bind (wpAny_dictFind_of isk ho hd hk ?_)
  cases hi : (⟨l⟩ : Array DictEntry).findIdx? fun e => knd.is k e.key with
  | none =>
    have no : k ∉ kvs.map (·.1) := not_mem_of_findIdx_none (ix ▸ hi)
    have st : stored kvs k v = kvs ++ [(k, v)] := by rw [stored, if_neg (hk_any_no no)]
    refine wpAny_updateDictKeys (hz := by show l.length ≤ _; omega) ho hd (q _ ⟨_, _, ep + 1, Heap.get?_update_self _ ho (Obj.isFreed_of_dict (Obj.data_mapDictKeys hd _)), hc.mapDictKeys _, Obj.data_mapDictKeys hd _, hk.push isk _, ?_, ?_⟩ (Heap.SameBut.update ..))
    · rw [st]; simpa using hp.append isk (knd.hash k) v
    · rw [st, List.map_append, List.nodup_append]
      exact ⟨nd, by simp, fun a ha b hb e => no (by rw [List.map_singleton, List.mem_singleton] at hb; have e2 : a = k := e.trans hb; rw [← e2]; exact ha)⟩
  | some i =>
    have st : stored kvs k v = kvs.map fun p => if p.1 = k then (p.1, v) else p := by rw [stored, if_pos (any_of_findIdx_some (ix ▸ hi))]
    refine wpAny_updateDict ho hd (q _ ⟨_, _, ep, Heap.get?_update_self _ ho (Obj.isFreed_of_dict (Obj.data_mapDict hd _)), hc.mapDict _, Obj.data_mapDict hd _, hk.modify _ _, ?_, ?_⟩ (Heap.SameBut.update ..))
    · rw [st]
      simpa using hp.modify nd (i := i) (by rw [← hi]; simp) v
    · rw [st, keys_map_store]; exact nd
/-- what ** of a dict does in a display that holds something already -/
theorem hk_merge {d o : Addr} {kvs more : List (T × Value)} {Q : Unit → Shared → Prop} (ne : d ≠ o) (oS : (o == sysModules) = false) (some0 : kvs ≠ [])
    (hd : s.heap.DictOf knd d kvs) (ho : s.heap.DictOf knd o more) (sz : kvs.length + more.length ≤ sizeLine)
    (q : ∀ h2, h2.DictOf knd d (merged kvs more) → Heap.SameBut d s.heap h2 → Q () { s with heap := h2 }) : wpAny (model prog w) A (mergeMapping d (.ref o) false) Q E s := by
  obtain ⟨ob, ⟨es⟩, ep, e1, e2, e3, e4, e5, e6⟩ := id ho
  obtain ⟨db, ⟨ds⟩, dp, f1, f2, f3, f4, f5, f6⟩ := id hd
  have hl : es.length = more.length := e5.length
  have hne : (⟨ds⟩ : Array DictEntry).isEmpty = false := by
    have z : ds.length = kvs.length := f5.length
    cases ds with
    | nil => cases kvs with
      | nil => exact absurd rfl some0
      | cons a r => simp at z
    | cons a r => rfl
  unfold mergeMapping
  refine wpAny_bind (wpAny_isInstance ho.typeIs (T := "dict") (U := "dict") (b := true) (by rw [isSubtype_type]; kernel_rfl) ?_)
  rw [if_pos rfl]
  refine wpAny_bind (wpAny_specialOf ho.typeIs F.slot_dict_iter.lookup (wpAny_bind (wpAny_pure ?_)))
  show wpAny _ _ (if (o == sysModules) = true then _ else _) _ _ _
  rw [oS, if_neg Bool.false_ne_true]
  refine wpAny_bind (wpAny_dictEntries f1 f3 ?_)
  rw [hne, if_neg Bool.false_ne_true]
  refine wpAny_bind (wpAny_dictEntries e1 e3 (wpAny_bind (wpAny_dictEpoch e1 e3 ?_)))
  refine wpAny_bind ?_
  refine wpAny_forIn_list _ (fun rest _ s2 => ∃ h2 i, s2 = { s with heap := h2 } ∧ rest = List.range' i (es.length - i) ∧ i ≤ es.length ∧ h2.DictOf knd d (merged kvs (more.take i)) ∧ h2.get? o = some ob ∧ Heap.SameBut d s.heap h2)
    _ ?_ ?_ _ _ ⟨s.heap, 0, rfl, by simp [List.range_eq_range'], Nat.zero_le _, by simpa [merged] using hd, e1, Heap.SameBut.refl _ _⟩
  · rintro x rest b s2 ⟨h2, i, rfl, er, le, g1, g2, g3⟩
    have lt : i < es.length := by
      rcases Nat.lt_or_ge i es.length with z | z
      · exact z
      · rw [Nat.sub_eq_zero_of_le z] at er; simp at er
    rw [show es.length - i = (es.length - (i + 1)) + 1 by omega, List.range'_succ] at er
    injection er with ex er
    subst ex
    refine wpAny_bind (wpAny_dictEntries g2 e3 ?_)
    rw [show (⟨es⟩ : Array DictEntry)[x]? = some es[x] by simp [lt]]
    have lm : x < more.length := by omega
    obtain ⟨hkey, hval⟩ := e5.get? (e := es[x]) (i := x) (by simp [lt]) (List.getElem?_eq_getElem lm)
    obtain ⟨k2, hk2, hh⟩ := e4 es[x] (by simp)
    obtain rfl : k2 = more[x].1 := knd.inj _ _ _ hk2 hkey
    have lz : (merged kvs (more.take x)).length ≤ sizeLine := by
      have a1 := merged_length_le kvs (more.take x)
      have a2 : (more.take x).length ≤ more.length := by rw [List.length_take]; omega
      omega
    refine wpAny_bind (wpAny_holding ?_)
    show wpAny _ _ (dictPut d es[x].hash es[x].key es[x].val) _ _ _
    rw [hh, hval]
    refine hk_put hkey g1 lz fun h3 i1 i2 => ?_
    have i3 : h3.get? o = some ob := (i2.2 o (Ne.symm ne)).trans g2
    refine wpAny_bind (wpAny_dictEpoch i3 e3 ?_)
    rw [if_neg (by simp)]
    refine wpAny_pure ⟨h3, x + 1, rfl, er, lt, ?_, i3, g3.trans i2⟩
    rw [merged_take_succ kvs more x more[x] (List.getElem?_eq_getElem lm)]
    exact i1
  · rintro b s2 ⟨h2, i, rfl, er, le, g1, g2, g3⟩
    have en : i = es.length := by
      rcases Nat.lt_or_ge i es.length with z | z
      · rw [show es.length - i = (es.length - (i + 1)) + 1 by omega, List.range'_succ] at er
        cases er
      · omega
    rw [en, hl, List.take_length] at g1
    exact wpAny_pure (q h2 g1 g3)
end
end PySem

set_option Elab.async false
set_option linter.all false
set_option maxRecDepth 100000
set_option maxHeartbeats 4000000
namespace PySem
abbrev HkIt := Option (Sem Value) × Sem Value
abbrev HkSt := Option Addr × List (Sem Value × Sem Value)
theorem hk_gather (f : HkIt → HkSt → Sem (ForInStep HkSt)) (hf : ∀ (p : Sem Value × Sem Value) (run : List (Sem Value × Sem Value)), run.length + 1 < 17 → f (some p.1, p.2) (none, run) = pure (.yield (none, run ++ [p]))) (tail : List HkIt) :
    ∀ (l run : List (Sem Value × Sem Value)), run.length + l.length < 17 → forIn ((l.map fun p => (some p.1, p.2)) ++ tail) ((none, run) : HkSt) f = forIn tail ((none, run ++ l) : HkSt) f
  | [], run, _ => by simp
  | p :: r, run, h => by
    rw [List.length_cons] at h
    rw [List.map_cons, List.cons_append, List.forIn_cons, hf p run (by omega), pure_bind]
    have z := hk_gather f hf tail r (run ++ [p]) (by simp; omega)
    simpa using z
section
variable {prog : Program} {w : World} {T : Type} [DecidableEq T] {knd : KeyKind prog w T} {A : Around} {E : Value → Shared → Prop} {s : Shared}
theorem hk_display {pairs : List (Sem Value × Sem Value)} {v : Sem Value} {Q : Value → Shared → Prop} (h0 : pairs ≠ []) (h16 : pairs.length < 16)
    (h : wpAny (model prog w) A (subDict pairs) (fun d s1 => wpAny (model prog w) A v (fun m s2 => wpAny (model prog w) A (mergeMapping d m false) (fun _ s3 => Q (.ref d) s3) (fun _ _ => False) s2) E s1) E s) :
    wpAny (model prog w) A (dictDisplay ((pairs.map fun p => (some p.1, p.2)) ++ [(none, v)])) Q E s := by
  unfold dictDisplay
  dsimp only
  rw [hk_gather _ (fun p run hr => by
    have z : ((run ++ [(p.1, p.2)]).length == 17) = false := by simp; omega
    simp only [z, Bool.false_eq_true, if_false]) _ pairs [] (by simp; omega)]
  have ne : pairs.isEmpty = false := by cases pairs <;> first | exact absurd rfl h0 | rfl
  simp only [List.nil_append, List.forIn_cons, List.forIn_nil, ne]
  refine wpAny_bind (wpAny_bind (wpAny_bind ?_))
  rw [if_neg Bool.false_ne_true]
  refine wpAny_bind (wpAny_mono h (fun d s1 h1 => wpAny_pure ?_) fun _ _ e => e)
  dsimp only
  refine wpAny_bind (wpAny_pure (wpAny_bind (wpAny_holding (wpAny_mono h1 (fun m s2 h2 => ?_) fun _ _ e => e))))
  refine wpAny_bind (wpAny_onRaise (wpAny_tryCatch (wpAny_onRaise (wpAny_holding (wpAny_mono h2 (fun _ s3 h3 => ?_) fun _ _ e => e.elim)))))
  refine wpAny_pure (wpAny_pure ?_)
  dsimp only
  refine wpAny_bind ?_
  rw [if_pos (show ([] : List (Sem Value × Sem Value)).isEmpty = true from rfl)]
  exact wpAny_pure (wpAny_pure h3)
theorem hk_zip {env : Env} {pos : Pos} {v : Expr} : ∀ (keys : List (Option Expr)) (values : List Expr), keys.all (·.isSome) = true → keys.length = values.length →
    (evalEachOpt (keys ++ [none]) env).zip ((evalEach (values ++ [v]) env).map fun v => do let x ← v; standAt pos; pure x) = ((pairTrees keys values env pos).map fun p => (some p.1, p.2)) ++ [(none, do let x ← eval v env; standAt pos; pure x)]
  | [], [], _, _ => rfl
  | [], _ :: _, _, h => by simp at h
  | _ :: _, [], _, h => by simp at h
  | none :: _, _ :: _, h, _ => by simp at h
  | some k :: ks, u :: us, h, hl => by
    have z := hk_zip (v := v) (pos := pos) (env := env) ks us (by simpa using h) (by simpa using hl)
    show (some (eval k env), (do let x ← eval u env; standAt pos; pure x)) :: (evalEachOpt (ks ++ [none]) env).zip ((evalEach (us ++ [v]) env).map fun v => do let x ← v; standAt pos; pure x) = _
    rw [z]; rfl
end
end PySem
namespace Hk
open PySem PySem.Spec PyProof.Rows L2
/-- {k: v, .., **d}: pairs first, then the dict -/
def tDispS (trs : List (TE × TE)) (tv : TE) : TE := fun σ H Q => ∀ p, H p = none → tPairs trs σ (upd H p (.dK [])) fun ps H2 => H2 p = some (.dK []) ∧ ∃ kvs : List (Key × V), ps = kvs.map (fun kv => (kV kv.1, kv.2)) ∧ kvs.length ≤ 15 ∧
  tv σ (upd H2 p (.dK (mergeK [] kvs))) fun x H3 => ∃ (a : Addr) (more : List (Key × V)), x = .ref a ∧ a ≠ p ∧ Rd H3 a (.dK more) ∧ H3 p = some (.dK (mergeK [] kvs)) ∧ mergeK [] kvs ≠ [] ∧ (mergeK [] kvs).length + more.length ≤ 1000 ∧ Q (.ref p) (upd H3 p (.dK (mergeK (mergeK [] kvs) more)))
section
variable {X : Cx} {pos : Pos}
theorem kv_nonempty {κ : Type} {a : List (κ × V)} {b : List (κ × Value)} (r : KV a b) (h : a ≠ []) : b ≠ [] := by
  cases r with
  | nil => exact absurd rfl h
  | cons _ _ => simp
theorem pe_dispS {keys : List (Option Expr)} {values : List Expr} {d0 : Expr} {trs : List (TE × TE)} {tv : TE} (h : PPs X pos keys.dropLast values.dropLast trs) (hv : PE X (values.getLastD d0) tv)
    (hk : keys = keys.dropLast ++ [none] := by rfl) (hvl : values = values.dropLast ++ [values.getLastD d0] := by rfl) (hall : keys.dropLast.all (·.isSome) = true := by rfl) (hl : keys.dropLast.length = values.dropLast.length := by rfl)
    (h0 : (0 < keys.dropLast.length) = True := by simp) (h15 : keys.dropLast.length ≤ 15 := by decide) : PE X (.Dict keys values pos) (tDispS trs tv) := by
  refine ⟨fun pins s σ H Q I q => ?_⟩
  have hn := I.hok.fresh (Nat.le_refl s.heap.objs.size)
  have I1 := I.laid (a := s.heap.objs.size) (o := .dK []) (h' := s.heap.push { cls := .type "dict", data := .dict #[] }) (t' := s.toks) (fun _ _ z => Heap.get?_push_of_some _ z) (Nat.le_refl _) (dk_empty s.heap I.big)
  have len := pairTrees_length keys.dropLast values.dropLast X.env pos hall hl
  have h00 : 0 < keys.dropLast.length := by rw [h0]; exact True.intro
  rw [hk, hvl, arm_eval_Dict, hk_zip _ _ hall hl]
  refine wpAny_bind (wpAny_standAt (hk_display (fun z => by rw [z] at len; have l2 : 0 = keys.dropLast.length := len; omega) (by omega) ?_))
  refine wpAny_subDict (knd := mixKind X.prog X.w) (by omega) (thn (h.run pins _ σ _ _ I1 (q _ hn)) fun ws s2 hh => ?_)
  obtain ⟨ps, H2, I2, rel, e, kvs, ep, lk, q2⟩ := hh
  subst ep
  obtain ⟨rs, c, rk⟩ := carries_of (P := X.prog) (w := X.w) rel
  obtain ⟨z, hd, vs0, r0, dd⟩ := dk_of I2.hok e
  cases r0
  refine ⟨rs, c, dd, fun h2 d2 sb => ?_⟩
  have rm := rk.merge .nil
  have lm := length_mergeK kvs []
  rw [List.length_nil] at lm
  have I3 := d_write (t' := s2.toks + ws.length) I2 (by rw [e]; exact True.intro) sb (let ⟨o, _, _, ho, _⟩ := d2; ⟨o, ho⟩) (dk_new (by rw [sizeLine_eq]; omega) hd rm d2)
  refine wpAny_bind (thn (hv.run pins _ σ _ _ I3 q2) fun u s3 hh => wpAny_bind (wpAny_standAt (wpAny_pure ?_)))
  obtain ⟨x, H3, I4, rx, a, more, ex, nap, ra, hp, ne, l15, q3⟩ := hh
  subst ex
  obtain rfl : u = Value.ref a := rx
  obtain ⟨_, ha, ms, rmore, da⟩ := dk_rd I4.hok ra
  obtain ⟨_, _, cs, rc, dp⟩ := dk_of I4.hok hp
  have lcs : cs.length = (mergeK [] kvs).length := (Paired.length rc).symm
  have lms : ms.length = more.length := (Paired.length rmore).symm
  refine hk_merge (knd := mixKind X.prog X.w) (Ne.symm nap) ha (kv_nonempty rc ne) dp da (by rw [sizeLine_eq, lcs, lms]; omega) fun h3 d3 sb3 => ?_
  have l4 := length_mergeK more (mergeK [] kvs)
  exact ⟨.ref s.heap.objs.size, _, d_write (t' := s3.toks) I4 (by rw [hp]; exact True.intro) sb3 (let ⟨o, _, _, ho, _⟩ := d3; ⟨o, ho⟩) (dk_new (by rw [sizeLine_eq]; omega) hd (rmore.merge rc) d3), rfl, q3⟩
end
end Hk

set_option Elab.async false
set_option linter.all false
set_option maxRecDepth 100000
set_option maxHeartbeats 4000000
namespace Hk
open PySem PySem.Spec PyProof.Rows L2
/-- how many unlike ints there are -/
def distinct (ns : List Int) : Nat := (firstMet (fun i => ns.getD i 0) ns.length).length
theorem step_nodup {l : List Int} (v : Int) (h : l.Nodup) : (step_dedup l v).Nodup := by
  unfold step_dedup
  by_cases e : l.any (· == v) = true
  · rw [if_pos e]; exact h
  · rw [if_neg e]
    refine List.nodup_append.mpr ⟨h, by simp, fun a ha b hb z => ?_⟩
    rw [List.mem_singleton] at hb
    subst hb
    subst z
    exact e (List.any_eq_true.mpr ⟨a, ha, by simp⟩)
theorem firstMet_nd (val : Nat → Int) : ∀ i, (firstMet val i).Nodup
  | 0 => by rw [firstMet_zero]; exact List.nodup_nil
  | i + 1 => by rw [firstMet_succ]; exact step_nodup _ (firstMet_nd val i)
theorem firstMet_mem {ns : List Int} {k : Int} : k ∈ firstMet (fun i => ns.getD i 0) ns.length ↔ k ∈ ns := by
  have z := firstMet_any (fun i => ns.getD i 0) ns.length k
  have e : (List.range ns.length).map (fun i => ns.getD i 0) = ns := by
    refine List.ext_getElem (by simp) fun i h1 h2 => ?_
    simp [List.getD_eq_getElem?_getD, List.getElem?_eq_getElem h2]
  rw [e] at z
  have a : ∀ l : List Int, l.any (· == k) = true ↔ k ∈ l := fun l => by simp
  rw [← a, ← a, z]
theorem distinct_gt {ns : List Int} : 1 < distinct ns ↔ ∃ a ∈ ns, ∃ b ∈ ns, a ≠ b := by
  unfold distinct
  have nd := firstMet_nd (fun i => ns.getD i 0) ns.length
  have mm : ∀ k, k ∈ firstMet (fun i => ns.getD i 0) ns.length ↔ k ∈ ns := fun _ => firstMet_mem
  generalize firstMet (fun i => ns.getD i 0) ns.length = l at nd mm
  constructor
  · intro h
    match l, h, nd, mm with
    | a :: b :: r, _, nd, mm =>
      refine ⟨a, (mm a).mp (by simp), b, (mm b).mp (by simp), fun e => ?_⟩
      subst e
      simp at nd
  · rintro ⟨a, ha, b, hb, ne⟩
    have h1 := (mm a).mpr ha
    have h2 := (mm b).mpr hb
    match l, h1, h2 with
    | [x], h1, h2 =>
      rw [List.mem_singleton] at h1 h2
      exact absurd (h1.trans h2.symm) ne
    | x :: y :: r, _, _ => simp
section
variable {X : Cx}
def tLenSetD (K : PySem.W.Frag) (ta : TE) : TE := fun σ H Q => ta σ H fun x H1 => ∃ (l : Addr) (ns : List Int), x = V.ref l ∧ SqL K H1 l (ns.map V.int) ∧ ns.length < 60 ∧ Q (.int (distinct ns)) H1
theorem pe_lenSetD {a : Expr} {ta : TE} {p p2 q pos : Pos} (hc : X.calm = true) (hg : Gl X "len") (hm : X.mg "len" = none) (hg2 : Gl X "set") (hm2 : X.mg "set" = none) (ha : PE X a ta)
    (na : starEach [a] X.env = (false, eval a X.env) :: starEach [] X.env := by rfl) : PE X (.Call (.Name "len" p) [.Call (.Name "set" p2) [a] [] q] [] pos) (tLenSetD X.K ta) := by
  refine ⟨fun pins s σ H Q I h => Call_ (ld_blt I hg hm PySem.boot_len (PyProof.Rows.callWith_builtin1 (PyProof.Rows.args_cons (Call_ (ld_blt I hg2 hm2 PyProof.Rows.boot_set ?_)) rfl) rfl rfl))⟩
  refine PyProof.Rows.callWith_type1 (PyProof.Rows.args_cons (thn (ha.run pins s σ H _ I h) fun v s1 hh => PyProof.Rows.args_nil ?_) na) na rfl
  obtain ⟨x, H1, I1, r1, l, ns, ex, hq, few, q1⟩ := hh
  subst ex
  cases r1
  obtain ⟨its, r, pl, hz⟩ := I1.list hq
  have hl : its.toArray.size = ns.length := by rw [List.size_toArray, ← r.length, List.length_map]
  refine call_set_list (I1.ok.hd hc) pl.isList (ns := ns) (by simpa using r.ints) (by unfold scanBound; omega) fun h2 tk hS keep => PyProof.Rows.args_nil ?_
  rw [hl] at hS
  obtain ⟨o, es, ep, t, ho, hex, hd, _, _, _, hf, hn⟩ := hS
  have I2 : Inv X pins σ H1 { s1 with heap := h2, toks := tk } := I1.kept fun b o e => keep b o (Heap.lt_size e) e
  have le : distinct ns ≤ ns.length := firstMet_length_le _ _
  have hn2 : es.size = distinct ns := hn
  refine call_len_set ho hex hd hf (by rw [hn2]; omega) ⟨.int (distinct ns), H1, I2.tok _, ⟨_, by rw [hn2]⟩, q1⟩
end
end Hk

set_option Elab.async false
set_option linter.all false
set_option maxRecDepth 100000
set_option maxHeartbeats 4000000
namespace Hk
open PySem PySem.Spec PyProof.Rows L2
theorem hb_int : bootBuiltins "int" = some (.type "int") := PyProof.Rows.boot_int
theorem hb_str : bootBuiltins "str" = some (.type "str") := PyProof.Rows.boot_str
theorem hb_bool : bootBuiltins "bool" = some (.type "bool") := PyProof.Rows.boot_bool
theorem hb_list : bootBuiltins "list" = some (.type "list") := PyProof.Rows.boot_list
theorem hb_tuple : bootBuiltins "tuple" = some (.type "tuple") := PyProof.Rows.boot_tuple
theorem hb_dict : bootBuiltins "dict" = some (.type "dict") := PyProof.Rows.boot_dict
theorem hb_set : bootBuiltins "set" = some (.type "set") := PyProof.Rows.boot_set
theorem hb_len : bootBuiltins "len" = some (.builtin "len") := PySem.boot_len
theorem hb_isinstance : bootBuiltins "isinstance" = some (.builtin "isinstance") := PyProof.Rows.boot_isinstance
theorem hb_all : bootBuiltins "all" = some (.builtin "all") := PyProof.Rows.boot_all
theorem hb_any : bootBuiltins "any" = some (.builtin "any") := PyProof.Rows.boot_any
theorem hb_min : bootBuiltins "min" = some (.builtin "min") := PyProof.Rows.boot_min
theorem hb_max : bootBuiltins "max" = some (.builtin "max") := PyProof.Rows.boot_max
theorem hb_sorted : bootBuiltins "sorted" = some (.builtin "sorted") := PyProof.Rows.boot_sorted
/-- no name of the module hides these -/
structure Bl (mg : Str → Option Value) : Prop where
  int_ : mg "int" = none
  str_ : mg "str" = none
  bool_ : mg "bool" = none
  list_ : mg "list" = none
  tuple_ : mg "tuple" = none
  dict_ : mg "dict" = none
  set_ : mg "set" = none
  len : mg "len" = none
  isinstance : mg "isinstance" = none
  all : mg "all" = none
  any : mg "any" = none
  min : mg "min" = none
  max : mg "max" = none
  sorted : mg "sorted" = none
  range : mg "range" = none
  zip : mg "zip" = none
/-- a def of the module as it stands behind the top -/
structure DefAt (K : PySem.W.Frag) (mg : Str → Option Value) (x : Str) (st : Stmt) (ps : List Str) : Prop where
  ex : ∃ f fd, Fun K x x st f fd ∧ mg x = some (.ref f) ∧ Binds K fd ps []
/-- a def that can be called: its promise -/
structure Cal (P : Program) (w : World) (K : PySem.W.Frag) (mg : Str → Option Value) (base : Heap) (k : Nat) (x : Str) (ps : List Str) (sp : Sp) : Prop where
  ex : ∃ f fd, mg x = some (.ref f) ∧ PySem.W.keepIn K (.ref f) = true ∧ Binds K fd ps [] ∧ FnOk P w K mg base CX0 k f fd ps sp
theorem DefAt.cal {P : Program} {w : World} {K : PySem.W.Frag} {mg : Str → Option Value} {base : Heap} {k : Nat} {x : Str} {st : Stmt} {ps : List Str} {sp : Sp} (d : DefAt K mg x st ps)
    (h : ∀ f fd, Fun K x x st f fd → FnOk P w K mg base CX0 k f fd ps sp) : Cal P w K mg base k x ps sp := by
  obtain ⟨f, fd, F, g, b⟩ := d.ex
  exact ⟨f, fd, g, F.kp, b, h f fd F⟩
section
variable {X : Cx} {k : Nat} {x : Str} {ps : List Str} {sp : Sp} {p pos : Pos} {e : Expr} {es : List Expr} {t : TA}
theorem pe_cal (c : Cal X.prog X.w X.K X.mg X.base k x ps sp) (hr : Room k X.A) (hg : Gl X x) (ha : PA X (e :: es) t) (hdb : (x == ("__debug__" : Str)) = false := by decide)
    (he : starEach (e :: es) X.env = (false, eval e X.env) :: starEach es X.env := by rfl) (hpl : (backTo pos (starEach es X.env)).any (·.1) = false := by rfl) : PE X (.Call (.Name x p) (e :: es) [] pos) (tCall sp [] E0 t) := by
  obtain ⟨f, fd, g, kp, b, F⟩ := c.ex
  exact pe_call F hr hg g kp b .nil pass0 ha hdb he hpl
end
/-! ## readings -/
section
variable {σ : L2.St} {H : Hp} {D : Ends} {Q : VK} {ta tb te : TE} {t u : TS} {K : PySem.W.Frag} {v : V}
theorem q_seq (h : t { D with nx := u D } σ H) : tSeq t u D σ H := h
theorem q_next (h : D.nx σ H) : tNext D σ H := h
theorem q_set {i : Nat} (h : te σ H fun x H1 => D.nx (σ.set i (some x)) H1) : tAsg te (gName i) D σ H := h
theorem q_asg {g : TG} (h : te σ H fun x H1 => g x σ H1 D.nx) : tAsg te g D σ H := h
theorem q_ret (h : te σ H D.rt) : tRet te D σ H := h
theorem q_drop (h : te σ H fun _ H1 => D.nx σ H1) : tDrop te D σ H := h
theorem q_ifs {c : TT} (h : c σ H fun b H1 => if b = true then t D σ H1 else u D σ H1) : tIfS c t u D σ H := h
theorem q_ife {c : TT} (h : c σ H fun b H1 => if b = true then ta σ H1 Q else tb σ H1 Q) : tIf c ta tb σ H Q := h
theorem q_var {i : Nat} (h : σ[i]? = some (some v)) (q : Q v H) : tVar i σ H Q := ⟨v, h, q⟩
theorem q_c (q : Q v H) : tC v σ H Q := q
theorem q_op {r : R2} (h : ta σ H fun x H1 => tb σ H1 fun y H2 => r x y H2 Q) : tOp r ta tb σ H Q := h
theorem q_un {r : V → Hp → VK → Prop} (h : ta σ H fun x H1 => r x H1 Q) : tUn r ta σ H Q := h
theorem q_chain {r r' : R2} {tc : TE} (h : ta σ H fun x H1 => tb σ H1 fun y H2 => r x y H2 fun z H3 => ∃ k, z = .bl k ∧ (if k = true then tc σ H3 fun w' H4 => r' y w' H4 Q else Q (.bl false) H3)) : tChain r r' ta tb tc σ H Q := h
theorem q_rI0 {g : Int → Int → V} {i j : Int} (q : Q (g i j) H) : rI0 g (.int i) (.int j) H Q := ⟨i, j, rfl, rfl, q⟩
theorem q_rI {C : Int → Int → Prop} {g : Int → Int → V} {i j : Int} (c : C i j) (q : Q (g i j) H) : rI C g (.int i) (.int j) H Q := ⟨i, j, rfl, rfl, c, q⟩
theorem q_rU {g : Int → V} {i : Int} (q : Q (g i) H) : rU g (.int i) H Q := ⟨i, rfl, q⟩
theorem q_eq {x y : V} (h : scal x y = true) (q : Q (.bl (decide (x = y))) H) : rEq x y H Q := ⟨h, q⟩
theorem q_ne {x y : V} (h : scal x y = true) (q : Q (.bl (!decide (x = y))) H) : rNe x y H Q := ⟨h, q⟩
theorem q_test {q : Bool → Hp → Prop} (h : te σ H fun x H1 => ∃ k, x = .bl k ∧ q k H1) : tTest te σ H q := h
theorem q_tB {q : Bool → Hp → Prop} (h : te σ H fun x H1 => ∃ k, x = .bl k ∧ q k H1) : tB te σ H q := h
theorem q_bl {b : Bool} {q : Bool → Prop} (h : q b) : ∃ k, V.bl b = .bl k ∧ q k := ⟨b, rfl, h⟩
theorem q_and {c d : TT} {q : Bool → Hp → Prop} (h : c σ H fun b H1 => if b = true then d σ H1 q else q false H1) : tAnd c d σ H q := h
theorem q_or {c d : TT} {q : Bool → Hp → Prop} (h : c σ H fun b H1 => if b = true then q true H1 else d σ H1 q) : tOr c d σ H q := h
theorem q_not {c : TT} {q : Bool → Hp → Prop} (h : c σ H fun b H1 => q (!b) H1) : tNot c σ H q := h
theorem q_andV (h : ta σ H fun x H1 => ∃ c, x = .bl c ∧ if c = true then tb σ H1 Q else Q (.bl false) H1) : tAndV ta tb σ H Q := h
theorem q_orV (h : ta σ H fun x H1 => ∃ c, x = .bl c ∧ if c = true then Q (.bl true) H1 else tb σ H1 Q) : tOrV ta tb σ H Q := h
theorem q_notV (h : ta σ H fun x H1 => ∃ c, x = .bl c ∧ Q (.bl (!c)) H1) : tNotV ta σ H Q := h
theorem q_isN (h : ta σ H fun x H1 => Q (.bl (decide (x = .non))) H1) : tIsN ta σ H Q := h
theorem q_notN (h : ta σ H fun x H1 => Q (.bl (!decide (x = .non))) H1) : tNotN ta σ H Q := h
theorem q_nil {q : List V → Hp → Prop} (h : q [] H) : tNil σ H q := h
theorem q_cons {tr : TA} {q : List V → Hp → Prop} (h : ta σ H fun x H1 => tr σ H1 fun xs H2 => q (x :: xs) H2) : tCons ta tr σ H q := h
theorem q_tup {tr : TA} (h : tr σ H fun xs H1 => xs.length ≤ sizeLine ∧ ∀ p, H1 p = none → Q (.ref p) (upd H1 p (.tup xs))) : tTup tr σ H Q := h
theorem q_lst {tr : TA} (h : tr σ H fun xs H1 => xs.length ≤ sizeLine ∧ ∀ p, H1 p = none → Q (.ref p) (upd H1 p (.lst xs))) : tLst tr σ H Q := h
theorem q_cb {r : List V → Hp → VK → Prop} {tr : TA} (h : tr σ H fun vs H1 => r vs H1 Q) : tCB r tr σ H Q := h
theorem q_call {sp : Sp} {E : XK} {tr : TA} (h : tr σ H fun vs H1 => sp (vs ++ []) H1 Q E) : tCall sp [] E tr σ H Q := h
theorem q_fld {f : Str} (h : ta σ H fun x H1 => ∃ a C dx fs v, x = .ref a ∧ H1 a = some (.ins C dx fs) ∧ Cls K C ∧ NoAttr K C f ∧ fs.lookup f = some v ∧ Q v H1) : tFld K ta f σ H Q := h
theorem q_bm {T : String} {r : V → List V → Hp → VK → Prop} {tr : TA} (h : ta σ H fun x H1 => tyV K T x H1 ∧ tr σ H1 fun xs H2 => r x xs H2 Q) : tBM K T r ta tr σ H Q := h
theorem q_dget (h : ta σ H fun x H1 => tb σ H1 fun y H2 => ∃ a v, x = .ref a ∧ DGet H2 a y (some v) ∧ Q v H2) : tDGet ta tb σ H Q := h
theorem q_ixL {a : Addr} {xs : List V} {i : Int} {z : V} (h : SqL K H a xs) (hi : atI xs i = some z) (q : Q z H) : rIxL K (.ref a) (.int i) H Q := ⟨a, xs, i, z, rfl, rfl, h, hi, q⟩
theorem q_ixT {a : Addr} {xs : List V} {i : Int} {z : V} (h : SqT K H a xs) (hi : atI xs i = some z) (q : Q z H) : rIxT K (.ref a) (.int i) H Q := ⟨a, xs, i, z, rfl, rfl, h, hi, q⟩
theorem q_setL {a : Addr} {xs : List V} {i : Int} {j : Nat} {z : V} {q : Hp → Prop} (h : H a = some (.lst xs)) (hi : ixN xs.length i = some j) (k : q (upd H a (.lst (xs.set j z)))) : rSetL (.ref a) (.int i) z H q := ⟨a, xs, i, j, rfl, rfl, h, hi, k⟩
theorem q_sub {ti : TE} {r : TSet} {q : L2.St → Hp → Prop} (h : ta σ H fun o H1 => ti σ H1 fun i H2 => r o i v H2 fun H3 => q σ H3) : gSub ta ti r v σ H q := h
theorem q_for {wi : TI} {g : TG} (h : wi σ H fun J H1 => ∃ W : Nat → Nat → L2.St → Hp → Prop, (∃ m, W 0 m σ H1) ∧ ∀ i m σ H, W i m σ H →
    (J.stop i H ∧ D.nx σ H) ∨ (J.go i H ∧ ∃ N : L2.St → Hp → Prop, (∀ σ' H', N σ' H' → ∃ m', m' < m ∧ W (i + 1) m' σ' H') ∧ ∀ x H', J.yld i H x H' → g x σ H' fun σ2 H2 => t { D with nx := N, ct := N, bk := D.nx } σ2 H2)) : tFor wi g t D σ H := h
end
/-! ## data -/
mutual
theorem _root_.L2.Dp.mono {K : PySem.W.Frag} {H H' : Hp} (s : Same H H') : ∀ {v : V} {d : PyData}, Dp K H v d → Dp K H' v d
  | _, _, .non => .non
  | _, _, .bl b => .bl b
  | _, _, .int i => .int i
  | _, _, .str x => .str x
  | _, _, .lst h a => .lst (s.seq h) (L2.DpAll.mono s a)
  | _, _, .tup h a => .tup (Evl.ex_t s h) (L2.DpAll.mono s a)
theorem _root_.L2.DpAll.mono {K : PySem.W.Frag} {H H' : Hp} (s : Same H H') : ∀ {vs : List V} {ds : List PyData}, DpAll K H vs ds → DpAll K H' vs ds
  | _, _, .nil => .nil
  | _, _, .cons h t => .cons (L2.Dp.mono s h) (L2.DpAll.mono s t)
end
theorem same_new {H : Hp} {p : Addr} {o : HO} (h : H p = none) : Same H (upd H p o) := fun b u e => by
  rw [upd_ne (ne_of_none e h)]; exact e
end Hk

set_option Elab.async false
set_option linter.all false
set_option maxRecDepth 100000
set_option maxHeartbeats 4000000
namespace Hk
open PySem PySem.Spec PyProof.Rows L2
/-! ## isinstance of data -/
def dTy : PyData → String
  | .none => "NoneType" | .bool _ => "bool" | .int _ => "int" | .str _ => "str" | .list _ => "list" | .tuple _ => "tuple" | .dict _ => "dict"
theorem _root_.L2.Dp.ty {K : PySem.W.Frag} {H : Hp} {x : V} {d : PyData} (h : Dp K H x d) : TyX K H x (.type (dTy d)) := by
  cases h with
  | non => exact .base .non
  | bl b => exact .base (.bl b)
  | int i => exact .base (.int i)
  | str z => exact .base (.str z)
  | lst h _ => rcases h with (h | ⟨o, h⟩) | ⟨o, its, n, l, c, _⟩
               · exact .base (.lst h)
               · exact .base (.frz h)
               · exact .kList l c
  | tup h _ => rcases h with (h | ⟨o, h⟩) | ⟨o, its, n, l, c, _⟩
               · exact .base (.tup h)
               · exact .fTuple h
               · exact .kTuple l c
def isInt : PyData → Bool | .int _ => true | .bool _ => true | _ => false
def isBool : PyData → Bool | .bool _ => true | _ => false
def isStr : PyData → Bool | .str _ => true | _ => false
def isList : PyData → Bool | .list _ => true | _ => false
def isTuple : PyData → Bool | .tuple _ => true | _ => false
theorem kb_NoneType_int : kitB "NoneType" "int" = some false := by decide +kernel
theorem kb_bool_int : kitB "bool" "int" = some true := by decide +kernel
theorem kb_int_int : kitB "int" "int" = some true := by decide +kernel
theorem kb_str_int : kitB "str" "int" = some false := by decide +kernel
theorem kb_list_int : kitB "list" "int" = some false := by decide +kernel
theorem kb_tuple_int : kitB "tuple" "int" = some false := by decide +kernel
theorem kb_int (d : PyData) (h : ∀ kvs, d ≠ .dict kvs) : kitB (dTy d) "int" = some (isInt d) := by
  cases d with
  | none => exact kb_NoneType_int
  | bool _ => exact kb_bool_int
  | int _ => exact kb_int_int
  | str _ => exact kb_str_int
  | list _ => exact kb_list_int
  | tuple _ => exact kb_tuple_int
  | dict kvs => exact absurd rfl (h kvs)
theorem kb_NoneType_bool : kitB "NoneType" "bool" = some false := by decide +kernel
theorem kb_bool_bool : kitB "bool" "bool" = some true := by decide +kernel
theorem kb_int_bool : kitB "int" "bool" = some false := by decide +kernel
theorem kb_str_bool : kitB "str" "bool" = some false := by decide +kernel
theorem kb_list_bool : kitB "list" "bool" = some false := by decide +kernel
theorem kb_tuple_bool : kitB "tuple" "bool" = some false := by decide +kernel
theorem kb_bool (d : PyData) (h : ∀ kvs, d ≠ .dict kvs) : kitB (dTy d) "bool" = some (isBool d) := by
  cases d with
  | none => exact kb_NoneType_bool
  | bool _ => exact kb_bool_bool
  | int _ => exact kb_int_bool
  | str _ => exact kb_str_bool
  | list _ => exact kb_list_bool
  | tuple _ => exact kb_tuple_bool
  | dict kvs => exact absurd rfl (h kvs)
theorem kb_NoneType_str : kitB "NoneType" "str" = some false := by decide +kernel
theorem kb_bool_str : kitB "bool" "str" = some false := by decide +kernel
theorem kb_int_str : kitB "int" "str" = some false := by decide +kernel
theorem kb_str_str : kitB "str" "str" = some true := by decide +kernel
theorem kb_list_str : kitB "list" "str" = some false := by decide +kernel
theorem kb_tuple_str : kitB "tuple" "str" = some false := by decide +kernel
theorem kb_str (d : PyData) (h : ∀ kvs, d ≠ .dict kvs) : kitB (dTy d) "str" = some (isStr d) := by
  cases d with
  | none => exact kb_NoneType_str
  | bool _ => exact kb_bool_str
  | int _ => exact kb_int_str
  | str _ => exact kb_str_str
  | list _ => exact kb_list_str
  | tuple _ => exact kb_tuple_str
  | dict kvs => exact absurd rfl (h kvs)
theorem kb_NoneType_list : kitB "NoneType" "list" = some false := by decide +kernel
theorem kb_bool_list : kitB "bool" "list" = some false := by decide +kernel
theorem kb_int_list : kitB "int" "list" = some false := by decide +kernel
theorem kb_str_list : kitB "str" "list" = some false := by decide +kernel
theorem kb_list_list : kitB "list" "list" = some true := by decide +kernel
theorem kb_tuple_list : kitB "tuple" "list" = some false := by decide +kernel
theorem kb_list (d : PyData) (h : ∀ kvs, d ≠ .dict kvs) : kitB (dTy d) "list" = some (isList d) := by
  cases d with
  | none => exact kb_NoneType_list
  | bool _ => exact kb_bool_list
  | int _ => exact kb_int_list
  | str _ => exact kb_str_list
  | list _ => exact kb_list_list
  | tuple _ => exact kb_tuple_list
  | dict kvs => exact absurd rfl (h kvs)
theorem kb_NoneType_tuple : kitB "NoneType" "tuple" = some false := by decide +kernel
theorem kb_bool_tuple : kitB "bool" "tuple" = some false := by decide +kernel
theorem kb_int_tuple : kitB "int" "tuple" = some false := by decide +kernel
theorem kb_str_tuple : kitB "str" "tuple" = some false := by decide +kernel
theorem kb_list_tuple : kitB "list" "tuple" = some false := by decide +kernel
theorem kb_tuple_tuple : kitB "tuple" "tuple" = some true := by decide +kernel
theorem kb_tuple (d : PyData) (h : ∀ kvs, d ≠ .dict kvs) : kitB (dTy d) "tuple" = some (isTuple d) := by
  cases d with
  | none => exact kb_NoneType_tuple
  | bool _ => exact kb_bool_tuple
  | int _ => exact kb_int_tuple
  | str _ => exact kb_str_tuple
  | list _ => exact kb_list_tuple
  | tuple _ => exact kb_tuple_tuple
  | dict kvs => exact absurd rfl (h kvs)
theorem _root_.L2.Dp.nodict {K : PySem.W.Frag} {H : Hp} {x : V} {d : PyData} (h : Dp K H x d) : ∀ kvs, d ≠ .dict kvs := by
  intro kvs e; subst e; cases h
section
variable {K : PySem.W.Frag} {H : Hp} {x : V} {d : PyData} {Q : VK}
theorem q_isi {T : String} {b : Bool} (h : Dp K H x d) (k : kitB (dTy d) T = some b) (q : Q (.bl b) H) : rIsi K [x, .ty T] H Q := ⟨x, .ty T, _, _, b, rfl, .ty T, h.ty, kit_ty k, q⟩
theorem q_isi_int (h : Dp K H x d) (q : Q (.bl (isInt d)) H) : rIsi K [x, .ty "int"] H Q := q_isi h (kb_int d h.nodict) q
theorem q_isi_bool (h : Dp K H x d) (q : Q (.bl (isBool d)) H) : rIsi K [x, .ty "bool"] H Q := q_isi h (kb_bool d h.nodict) q
theorem q_isi_str (h : Dp K H x d) (q : Q (.bl (isStr d)) H) : rIsi K [x, .ty "str"] H Q := q_isi h (kb_str d h.nodict) q
theorem q_isi_list (h : Dp K H x d) (q : Q (.bl (isList d)) H) : rIsi K [x, .ty "list"] H Q := q_isi h (kb_list d h.nodict) q
theorem q_isi_tuple (h : Dp K H x d) (q : Q (.bl (isTuple d)) H) : rIsi K [x, .ty "tuple"] H Q := q_isi h (kb_tuple d h.nodict) q
theorem q_if {c : Bool} {A B : Prop} (h1 : c = true → A) (h2 : c = false → B) : if c = true then A else B := by
  cases c with
  | true => exact iteT (h1 rfl)
  | false => exact iteF (h2 rfl)
theorem _root_.L2.DpAll.length {xs : List V} {ds : List PyData} (h : DpAll K H xs ds) : xs.length = ds.length := by
  induction ds generalizing xs with
  | nil => cases h; rfl
  | cons d ds ih => cases h with
    | cons a t => simp [ih t]
theorem _root_.L2.DpAll.get {xs : List V} {ds : List PyData} (h : DpAll K H xs ds) : ∀ {i : Nat} {d : PyData}, ds[i]? = some d → ∃ x, xs[i]? = some x ∧ Dp K H x d := by
  induction ds generalizing xs with
  | nil => intro i d e; simp at e
  | cons d ds ih => cases h with
    | cons a t =>
      intro i d2 e
      cases i with
      | zero => simp at e; subst e; exact ⟨_, rfl, a⟩
      | succ i => simpa using ih t (by simpa using e)
theorem _root_.L2.DpAll.get' {xs : List V} {ds : List PyData} (h : DpAll K H xs ds) {i : Nat} {x : V} (e : xs[i]? = some x) : ∃ d, ds[i]? = some d ∧ Dp K H x d := by
  have hl := h.length
  have lt : i < ds.length := by rw [← hl]; exact (List.getElem?_eq_some_iff.mp e).1
  obtain ⟨y, ey, hy⟩ := h.get (List.getElem?_eq_getElem lt)
  rw [e] at ey; cases ey
  exact ⟨_, List.getElem?_eq_getElem lt, hy⟩
theorem q_lenL {a : Addr} {xs : List V} (h : SqL K H a xs) (q : Q (.int xs.length) H) : ∃ p ys, [V.ref a] = [.ref p] ∧ (SqL K H p ys ∨ SqT K H p ys) ∧ Q (.int ys.length) H := ⟨a, xs, rfl, .inl h, q⟩
theorem q_lenT {a : Addr} {xs : List V} (h : SqT K H a xs) (q : Q (.int xs.length) H) : ∃ p ys, [V.ref a] = [.ref p] ∧ (SqL K H p ys ∨ SqT K H p ys) ∧ Q (.int ys.length) H := ⟨a, xs, rfl, .inr h, q⟩
end
end Hk

set_option Elab.async false
set_option linter.all false
set_option maxRecDepth 100000
set_option maxHeartbeats 4000000
namespace Hk
open PySem PySem.Spec PyProof.Rows L2
/-- all but what stands at D is as it was -/
def But (D : Addr) (H H' : Hp) : Prop := ∀ b o, H b = some o → b ≠ D → H' b = some o
theorem But.seqT {K : PySem.W.Frag} {D : Addr} {H H' : Hp} {acc : List V} (e : H D = some (.lst acc)) (s : But D H H') {t : Addr} {xs : List V} (h : SqT K H t xs) : SqT K H' t xs := by
  rcases h with (h | ⟨o, h⟩) | h
  · exact .inl (.inl (s _ _ h (fun z => by subst z; rw [h] at e; cases e)))
  · exact .inl (.inr ⟨o, s _ _ h (fun z => by subst z; rw [h] at e; cases e)⟩)
  · exact .inr h
section
variable {J : It} {n : Nat} {G : Hp → Prop} {Y : Nat → Hp → V → Hp → Prop} {g : TG} {te : TE} {vs : List Nat} {σ : L2.St} {H1 : Hp} {D : Addr} {Qd : Hp → Prop}
/-- what a comprehension without a test makes, each item told by R -/
theorem lc_rel (w : L2.Walk J n G Y) (R : Nat → V → Hp → Prop) (hD : H1 D = none) (few : n < sizeLine) (hG : ∀ H', Same H1 H' → G H') (hY : ∀ i H x H', Y i H x H' → Same H H')
    (hR : ∀ i y H H' acc, H D = some (.lst acc) → But D H H' → R i y H → R i y H')
    (body : ∀ i x H' H2, i < n → Same H1 H' → Y i H' x H2 → ∀ Q' : VK, (∀ y H3, Same H2 H3 → R i y H3 → Q' y H3) → g x (wipe σ vs) H2 fun σ2 H3 => wipe σ2 vs = wipe σ vs ∧ te σ2 H3 Q')
    (done : ∀ ys H', Same H1 H' → H' D = some (.lst ys) → ys.length = n → (∀ i y, ys[i]? = some y → R i y H') → Qd H') :
    ∃ W : Nat → Nat → Hp → Prop, (∃ m, W 0 m (upd H1 D (.lst []))) ∧ ∀ i m H, W i m H →
      (J.stop i H ∧ Qd H) ∨ (J.go i H ∧ ∃ Nx : Hp → Prop, (∀ H', Nx H' → ∃ m', m' < m ∧ W (i + 1) m' H') ∧ ∀ x H', J.yld i H x H' → g x (wipe σ vs) H' fun σ2 H2 => wipe σ2 vs = wipe σ vs ∧ tYes σ2 H2 fun b H3 =>
        if b = true then te σ2 H3 fun y H4 => ∃ acc, H4 D = some (.lst acc) ∧ acc.length < sizeLine ∧ Nx (upd H4 D (.lst (acc ++ [y]))) else Nx H3) := by
  refine lc_it w (fun i H => Same H1 H ∧ ∃ ys, H D = some (.lst ys) ∧ ys.length = i ∧ ∀ j y, ys[j]? = some y → R j y H) ⟨same_new hD, [], upd_same, rfl, fun j y e => by simp at e⟩ (fun i H _ h => hG H h.1) ?_ ?_
  · rintro i x H H2 lt ⟨s1, ys, e, l, r⟩ y
    have s2 := hY i H x H2 y
    have z := body i x H H2 lt s1 y (fun y H4 => ∃ acc, H4 D = some (.lst acc) ∧ acc.length < sizeLine ∧ (Same H1 (upd H4 D (.lst (acc ++ [y]))) ∧ ∃ ys, upd H4 D (.lst (acc ++ [y])) D = some (.lst ys) ∧ ys.length = i + 1 ∧ ∀ j y', ys[j]? = some y' → R j y' (upd H4 D (.lst (acc ++ [y]))))) ?_
    · exact z
    · intro y H4 s4 ry
      have e4 : H4 D = some (.lst ys) := s4 _ _ (s2 _ _ e)
      have bt : ∀ o, But D H4 (upd H4 D o) := fun o b u h hb => by rw [upd_ne hb]; exact h
      refine ⟨ys, e4, by omega, fun b o h => ?_, ys ++ [y], upd_same, by simp [l], fun j y' hj => ?_⟩
      · have hb : b ≠ D := ne_of_none h hD
        rw [upd_ne hb]
        exact s4 _ _ (s2 _ _ (s1 _ _ h))
      · refine hR j y' H4 _ ys e4 (bt _) ?_
        rw [List.getElem?_append] at hj
        split at hj
        · refine hR j y' H H4 ys e (fun b o h hb => s4 _ _ (s2 _ _ h)) (r j y' hj)
        · rename_i hge
          have : j = i := by
            rcases Nat.lt_trichotomy j i with z | z | z
            · omega
            · exact z
            · rw [List.getElem?_eq_none (by simp; omega)] at hj; cases hj
          subst this
          simp [l] at hj
          subst hj
          exact ry
  · rintro H ⟨s1, ys, e, l, r⟩
    exact done ys H s1 e l r
/-- .. each item a value that the heap plays no part in -/
theorem lc_val (w : L2.Walk J n G Y) (f : Nat → V) (hD : H1 D = none) (few : n < sizeLine) (hG : ∀ H', Same H1 H' → G H') (hY : ∀ i H x H', Y i H x H' → Same H H')
    (body : ∀ i x H' H2, i < n → Same H1 H' → Y i H' x H2 → ∀ Q' : VK, (∀ H3, Same H2 H3 → Q' (f i) H3) → g x (wipe σ vs) H2 fun σ2 H3 => wipe σ2 vs = wipe σ vs ∧ te σ2 H3 Q')
    (done : ∀ H', Same H1 H' → H' D = some (.lst ((List.range n).map f)) → Qd H') :
    ∃ W : Nat → Nat → Hp → Prop, (∃ m, W 0 m (upd H1 D (.lst []))) ∧ ∀ i m H, W i m H →
      (J.stop i H ∧ Qd H) ∨ (J.go i H ∧ ∃ Nx : Hp → Prop, (∀ H', Nx H' → ∃ m', m' < m ∧ W (i + 1) m' H') ∧ ∀ x H', J.yld i H x H' → g x (wipe σ vs) H' fun σ2 H2 => wipe σ2 vs = wipe σ vs ∧ tYes σ2 H2 fun b H3 =>
        if b = true then te σ2 H3 fun y H4 => ∃ acc, H4 D = some (.lst acc) ∧ acc.length < sizeLine ∧ Nx (upd H4 D (.lst (acc ++ [y]))) else Nx H3) := by
  refine lc_rel w (fun i y _ => y = f i) hD few hG hY (fun _ _ _ _ _ _ _ h => h) (fun i x H' H2 lt s y Q' k => body i x H' H2 lt s y Q' fun H3 s3 => k _ H3 s3 rfl) fun ys H' s e l r => done H' s ?_
  have : ys = (List.range n).map f := by
    refine List.ext_getElem (by simp [l]) fun i h1 h2 => ?_
    simpa using r i _ (List.getElem?_eq_getElem h1)
  rw [← this]; exact e
end
theorem yat_same {xs : List V} : ∀ i H x H', YAt xs i H x H' → Same H H' := fun i H x H' y => by
  obtain ⟨rfl, _⟩ := y; exact Same.refl _
theorem yfn_same {f : Nat → V} : ∀ i H x H', YFn f i H x H' → Same H H' := fun i H x H' y => by
  obtain ⟨rfl, _⟩ := y; exact Same.refl _
theorem ypair_same {f g : Nat → Option V} : ∀ i H x H', YPair f g i H x H' → Same H H' := fun i H x H' y => by
  obtain ⟨t, a, b, rfl, n, rfl, _⟩ := y; exact same_new n
theorem Same.sqT {K : PySem.W.Frag} {H H' : Hp} {a : Addr} {xs : List V} (s : Same H H') (h : SqT K H a xs) : SqT K H' a xs := Evl.ex_t s h
theorem sz1000 {n : Nat} (h : n < 100000) : n < sizeLine := Evl.sz_lt h
/-- the last sizes -/
theorem hk_all_range (n : Nat) (p : Nat → Bool) : ((List.range n).map p).all id = true ↔ ∀ i, i < n → p i = true := by simp
end Hk

set_option Elab.async false
set_option linter.all false
set_option maxRecDepth 100000
set_option maxHeartbeats 4000000
namespace Hk
open PySem PySem.Spec PyProof.Rows L2
/-- a dict of the module: texts, and tuples of texts -/
structure FormsAt (K : PySem.W.Frag) (w : World) (d : Addr) (tab : List (Str × List Str)) : Prop where
  at_ : ∃ es n, K.lookup d = some ⟨.type "dict", none, .dict es n, #[]⟩ ∧ PySem.W.KeysLit w.params es.toList
  low : (d == sysModules) = false
  get : ∀ z, (∃ ks t, tab.lookup z = some ks ∧ PySem.W.nsIn K d z = some (some (.ref t)) ∧ ∀ H, SqT K H t (ks.map V.str)) ∨ (tab.lookup z = none ∧ PySem.W.nsIn K d z = some none)
def tKGet (K : PySem.W.Frag) (d : Addr) (tab : List (Str × List Str)) (to te : TE) : TE := fun σ H Q => to σ H fun x H1 => x = .ref d ∧ te σ H1 fun y H2 => ∃ z, y = .str z ∧
  (∀ t ks, tab.lookup z = some ks → (∀ H, SqT K H t (ks.map V.str)) → Q (.ref t) H2) ∧ (tab.lookup z = none → Q .non H2)
section
variable {X : Cx} {o e : Expr} {apos cpos : Pos} {to te : TE} {d : Addr} {tab : List (Str × List Str)}
theorem pe_kget (F : FormsAt X.K X.w d tab) (ho : PE X o to) (he : PE X e te) (m : M1 X o "get" apos e cpos) : PE X (.Call (.Attribute o "get" apos) [e] [] cpos) (tKGet X.K d tab to te) := by
  refine ⟨fun pins s σ H Q I h => ?_⟩
  obtain ⟨es, n, hl, hk⟩ := F.at_
  refine wpAny_Call_method m.base m.few m.line PySem.F.plainAttrs_dict PySem.F.slot_dict_get PySem.F.type_dict_get (thn (ho.run pins s σ H _ I h) fun u s1 hh => ?_)
  obtain ⟨x, H1, I1, rx, ex, q1⟩ := hh
  subst ex
  obtain rfl : u = Value.ref d := rx
  have hm := PySem.W.mapOf_K (prog := X.prog) (w := X.w) I1.kIn hl hk
  refine ⟨hm.typeIs, hm.noDict, ?_⟩
  rw [m.trees]
  refine Calls.callWith_builtin rfl (Calls.evalArgs_plain (Calls.spliced_cons (thn (he.run pins s1 σ H1 _ I1 q1) fun iv s2 hh => Calls.spliced_nil ?_)))
  obtain ⟨y, H2, I2, ry, z, ey, q2, q3⟩ := hh
  subst ey
  obtain ⟨tk, rfl⟩ := ry
  have hm2 := PySem.W.mapOf_K (prog := X.prog) (w := X.w) I2.kIn hl hk
  refine call_meetsIn PySem.F.slot_dict_get hm2.typeIs PySem.F.entry_dict_get (PySem.F.args_dict_get_2 _ _) (meets_dict_get (strKind X.prog X.w) d (PySem.strKind_is X.prog X.w z tk) F.low) ⟨_, hm2, ?_⟩
  rcases F.get z with ⟨ks, t, e1, e2, e3⟩ | ⟨e1, e2⟩
  · rw [PySem.W.find_K hl e2]
    exact ⟨.ref t, H2, I2.tok _, rfl, q2 t ks e1 e3⟩
  · rw [PySem.W.find_K hl e2]
    exact ⟨.non, H2, I2.tok _, rfl, q3 e1⟩
end
end Hk

set_option Elab.async false
set_option linter.all false
set_option maxRecDepth 100000
set_option maxHeartbeats 4000000
namespace Hk
open PySem PySem.Spec PyProof.Rows L2
theorem walk_zipT {K : PySem.W.Frag} {a b : Addr} {xs ys : List V} {n : Nat} (hn : n = min xs.length ys.length) : L2.Walk (RZ.ItzT K a b) n (fun H => SqT K H a xs ∧ SqT K H b ys) (YPair (fun i => xs[i]?) (fun i => ys[i]?)) := by
  subst hn
  refine ⟨fun i H hi q => ⟨xs, ys, xs[i]'(by omega), ys[i]'(by omega), q.1, q.2, by simp, by simp⟩, fun H q => ⟨xs, ys, q.1, q.2, by omega⟩, fun i H v H' _ q y => ?_⟩
  obtain ⟨t, x, z, e1, e2, e3, e4, e5⟩ := y
  exact ⟨t, x, z, e1, e2, e3, e4 xs q.1, e5 ys q.2⟩
/-- so many of each kind -/
abbrev Cnt := List (Str × Int)
def countKV (c : Cnt) : List (Key × V) := c.map fun p => (Sum.inr p.1, V.int p.2)
theorem countKV_get : ∀ {c : Cnt} {z : Str} {n : Int}, c.lookup z = some n → valV (countKV c) (Sum.inr z) = some (.int n)
  | (a, m) :: r, z, n, h => by
    unfold countKV
    rw [List.map_cons]
    by_cases e : a = z
    · subst e
      rw [valV_pos rfl]
      simp at h
      rw [h]
    · rw [valV_neg (fun q => e (by simpa using q))]
      have h2 : r.lookup z = some n := by
        rw [List.lookup_cons] at h
        have e2 : (z == a) = false := by simpa using fun q => e q.symm
        rwa [e2] at h
      exact countKV_get h2
theorem dgetC {H : Hp} {a : Addr} {c : Cnt} {z : Str} {n : Int} (h : H a = some (.dK (countKV c))) (e : c.lookup z = some n) : DGet H a (.str z) (some (.int n)) := by
  rw [← countKV_get e]
  exact DGet.k (k := Sum.inr z) h
theorem lookup_mem {α : Type} : ∀ {T : List (Str × α)} {z : Str} {v : α}, T.lookup z = some v → (z, v) ∈ T
  | (a, u) :: r, z, v, h => by
    rw [List.lookup_cons] at h
    split at h
    · rename_i e
      cases h
      rw [eq_of_beq e]
      exact List.mem_cons_self
    · exact List.mem_cons_of_mem _ (lookup_mem h)
theorem dpAll_of {K : PySem.W.Frag} {H : Hp} {xs : List V} {ds : List PyData} (l : xs.length = ds.length) (h : ∀ (i : Nat) (x : V) (d : PyData), xs[i]? = some x → ds[i]? = some d → Dp K H x d) : DpAll K H xs ds := by
  induction ds generalizing xs with
  | nil => cases xs with
    | nil => exact .nil
    | cons a r => simp at l
  | cons d ds ih => cases xs with
    | nil => simp at l
    | cons a r => exact .cons (h 0 a d rfl rfl) (ih (by simpa using l) fun i x e h1 h2 => h (i + 1) x e (by simpa using h1) (by simpa using h2))
theorem _root_.L2.DpAll.drop {K : PySem.W.Frag} {H : Hp} {xs : List V} {ds : List PyData} (h : DpAll K H xs ds) (n : Nat) : DpAll K H (xs.drop n) (ds.drop n) := by
  induction n generalizing xs ds with
  | zero => exact h
  | succ n ih => cases h with
    | nil => exact .nil
    | cons a t => exact ih t
theorem atI0 {α : Type} {xs : List α} {x : α} (h : xs[0]? = some x) : atI xs 0 = some x := atI_nat (j := 0) h
theorem atI1 {α : Type} {xs : List α} {x : α} (h : xs[1]? = some x) : atI xs 1 = some x := atI_nat (j := 1) h
end Hk
namespace Hk
open PySem PySem.Spec PyProof.Rows L2
/-- [p(x) for x in xs], xs a list of data, p a test -/
theorem lc_test {K : PySem.W.Frag} {a : Addr} {xs : List V} {ds : List PyData} {g : TG} {te : TE} {vs : List Nat} {σ : L2.St} {H1 : Hp} {D : Addr} {Qd : Hp → Prop} (p : PyData → Bool) (hx : SqL K H1 a xs) (hd : DpAll K H1 xs ds) (few : ds.length < 100000) (hD : H1 D = none)
    (body : ∀ x d H2, Dp K H2 x d → d ∈ ds → Same H1 H2 → ∀ Q' : VK, (∀ H3, Same H2 H3 → Q' (.bl (p d)) H3) → g x (wipe σ vs) H2 fun σ2 H3 => wipe σ2 vs = wipe σ vs ∧ te σ2 H3 Q')
    (done : ∀ H', Same H1 H' → SqL K H' D ((ds.map p).map V.bl) → Qd H') :
    ∃ W : Nat → Nat → Hp → Prop, (∃ m, W 0 m (upd H1 D (.lst []))) ∧ ∀ i m H, W i m H →
      ((Itl K a).stop i H ∧ Qd H) ∨ ((Itl K a).go i H ∧ ∃ Nx : Hp → Prop, (∀ H', Nx H' → ∃ m', m' < m ∧ W (i + 1) m' H') ∧ ∀ x H', (Itl K a).yld i H x H' → g x (wipe σ vs) H' fun σ2 H2 => wipe σ2 vs = wipe σ vs ∧ tYes σ2 H2 fun b H3 =>
        if b = true then te σ2 H3 fun y H4 => ∃ acc, H4 D = some (.lst acc) ∧ acc.length < sizeLine ∧ Nx (upd H4 D (.lst (acc ++ [y]))) else Nx H3) := by
  have l := hd.length
  refine lc_val (n := xs.length) walk_list (fun i => .bl (p (ds.getD i .none))) hD (sz1000 (by omega)) (fun H2 s => s.seq hx) yat_same ?_ ?_
  · rintro i x H2 H3 lt s ⟨rfl, e⟩ Q2 k
    obtain ⟨d, e2, hd2⟩ := hd.get' e
    refine body x d H3 (Dp.mono s hd2) (List.mem_of_getElem? e2) s Q2 fun H4 s4 => ?_
    have z := k H4 s4
    rw [List.getD_eq_getElem?_getD, e2] at z
    exact z
  · intro H2 s e
    refine done H2 s (SqL.of ?_)
    rw [e]
    congr 2
    refine List.ext_getElem (by simp [l]) fun i h1 h2 => ?_
    have lt : i < ds.length := by simpa using h2
    simp [List.getD_eq_getElem?_getD, List.getElem?_eq_getElem lt]
theorem all_map_id {α : Type} (l : List α) (p : α → Bool) : (l.map p).all id = l.all p := by rw [List.all_map]; rfl
end Hk

set_option Elab.async false
set_option linter.all false
set_option maxRecDepth 100000
set_option maxHeartbeats 4000000
namespace Hk
open PySem PySem.Spec PyProof.Rows L2
section
variable {K : PySem.W.Frag} {a : Addr} {xs : List V} {g : TG} {tb : TS} {D : Ends} {σ : L2.St} {H : Hp}
theorem q_forV {k : Nat} (xs : List V) (Pv : Nat → L2.St → Hp → Prop) (hv : σ[k]? = some (some (.ref a))) (hx : SqL K H a xs) (h0 : Pv 0 σ H) (hl : ∀ i σ H, i ≤ xs.length → Pv i σ H → SqL K H a xs)
    (hs : ∀ i x σ H, xs[i]? = some x → Pv i σ H → g x σ H fun σ2 H2 => tb { D with nx := Pv (i + 1), ct := Pv (i + 1), bk := D.nx } σ2 H2) (hd : ∀ σ H, Pv xs.length σ H → D.nx σ H) : tFor (iList K (tVar k)) g tb D σ H :=
  q_for ⟨_, hv, a, rfl, ⟨xs, hx⟩, for_list Pv h0 hl hs hd⟩
theorem q_forR {k : Nat} {n : Int} (Pv : Nat → L2.St → Hp → Prop) (hv : σ[k]? = some (some (.int n))) (h1 : n < 1000000) (h2 : -1000000 < n) (h0 : Pv 0 σ H)
    (hs : ∀ i σ H, i < n.toNat → Pv i σ H → g (.int (0 + i)) σ H fun σ2 H2 => tb { D with nx := Pv (i + 1), ct := Pv (i + 1), bk := D.nx } σ2 H2) (hd : ∀ σ H, Pv n.toNat σ H → D.nx σ H) : tFor (iRng1 (tCons (tVar k) tNil)) g tb D σ H :=
  q_for ⟨_, hv, n, rfl, by omega, by omega, for_range Pv h0 hs hd⟩
theorem q_forL (xs : List V) (Pv : Nat → L2.St → Hp → Prop) (h0 : Pv 0 σ H) (hl : ∀ i σ H, i ≤ xs.length → Pv i σ H → SqL K H a xs)
    (hs : ∀ i x σ H, xs[i]? = some x → Pv i σ H → g x σ H fun σ2 H2 => tb { D with nx := Pv (i + 1), ct := Pv (i + 1), bk := D.nx } σ2 H2) (hd : ∀ σ H, Pv xs.length σ H → D.nx σ H) (hx : SqL K H a xs) (te : TE) (he : ∀ Q : VK, Q (.ref a) H → te σ H Q) : tFor (iList K te) g tb D σ H :=
  q_for (he _ ⟨a, rfl, ⟨xs, hx⟩, for_list Pv h0 hl hs hd⟩)
end
/-- [f(x) for x in xs], each a value that the heap plays no part in, xs a list of data -/
theorem lc_map {K : PySem.W.Frag} {a : Addr} {xs : List V} {ds : List PyData} {g : TG} {te : TE} {vs : List Nat} {σ : L2.St} {H1 : Hp} {D : Addr} {Qd : Hp → Prop} (f : PyData → V) (hx : SqL K H1 a xs) (hd : DpAll K H1 xs ds) (few : ds.length < 100000) (hD : H1 D = none)
    (body : ∀ x d H2, Dp K H2 x d → d ∈ ds → Same H1 H2 → ∀ Q' : VK, (∀ H3, Same H2 H3 → Q' (f d) H3) → g x (wipe σ vs) H2 fun σ2 H3 => wipe σ2 vs = wipe σ vs ∧ te σ2 H3 Q')
    (done : ∀ H', Same H1 H' → H' D = some (.lst (ds.map f)) → Qd H') :
    ∃ W : Nat → Nat → Hp → Prop, (∃ m, W 0 m (upd H1 D (.lst []))) ∧ ∀ i m H, W i m H →
      ((Itl K a).stop i H ∧ Qd H) ∨ ((Itl K a).go i H ∧ ∃ Nx : Hp → Prop, (∀ H', Nx H' → ∃ m', m' < m ∧ W (i + 1) m' H') ∧ ∀ x H', (Itl K a).yld i H x H' → g x (wipe σ vs) H' fun σ2 H2 => wipe σ2 vs = wipe σ vs ∧ tYes σ2 H2 fun b H3 =>
        if b = true then te σ2 H3 fun y H4 => ∃ acc, H4 D = some (.lst acc) ∧ acc.length < sizeLine ∧ Nx (upd H4 D (.lst (acc ++ [y]))) else Nx H3) := by
  have l := hd.length
  refine lc_val (n := xs.length) walk_list (fun i => f (ds.getD i .none)) hD (sz1000 (by omega)) (fun H2 s => s.seq hx) yat_same ?_ ?_
  · rintro i x H2 H3 lt s ⟨rfl, e⟩ Q2 k
    obtain ⟨d, e2, hd2⟩ := hd.get' e
    refine body x d H3 (L2.Dp.mono s hd2) (List.mem_of_getElem? e2) s Q2 fun H4 s4 => ?_
    have z := k H4 s4
    rw [List.getD_eq_getElem?_getD, e2] at z
    exact z
  · intro H2 s e
    refine done H2 s ?_
    rw [e]
    congr 2
    refine List.ext_getElem (by simp [l]) fun i h1 h2 => ?_
    have lt : i < ds.length := by simpa using h2
    simp [List.getD_eq_getElem?_getD, List.getElem?_eq_getElem lt]
theorem ty_but {K : PySem.W.Frag} {H H2 : Hp} {a : Addr} {kvs : List (Key × V)} {x : V} {d : PyData} (hd : Dp K H x d) (ha : H a = some (.dK kvs)) (k : ∀ b o, H b = some o → b ≠ a → H2 b = some o) : TyX K H2 x (.type (dTy d)) := by
  cases hd with
  | non => exact .base .non
  | bl b => exact .base (.bl b)
  | int b => exact .base (.int b)
  | str b => exact .base (.str b)
  | @lst c xs ds hs _ => rcases hs with (hs | ⟨o, hs⟩) | ⟨o, its, n, l0, c0, _⟩
                         · exact .base (.lst (k _ _ hs (ne_of hs ha (by simp))))
                         · exact .base (.frz (k _ _ hs (ne_of hs ha (by simp))))
                         · exact .kList l0 c0
  | @tup c xs ds hs _ => rcases hs with (hs | ⟨o, hs⟩) | ⟨o, its, n, l0, c0, _⟩
                         · exact .base (.tup (k _ _ hs (ne_of hs ha (by simp))))
                         · exact .fTuple (k _ _ hs (ne_of hs ha (by simp)))
                         · exact .kTuple l0 c0
end Hk

set_option Elab.async false
set_option linter.all false
set_option maxRecDepth 100000
set_option maxHeartbeats 4000000
namespace Hk
open PySem PySem.Spec PyProof.Rows L2
/-- a method as it stands behind the top -/
structure MethAt (K : PySem.W.Frag) (C : Addr) (m qual : Str) (st : Stmt) (ps : List Str) : Prop where
  cls : Cls K C
  ex : ∃ f fd, Fun K m qual st f fd ∧ Meth K C m f ∧ Binds K fd ps []
structure MCal (P : Program) (w : World) (K : PySem.W.Frag) (mg : Str → Option Value) (base : Heap) (k : Nat) (C : Addr) (m : Str) (ps : List Str) (sp : Sp) : Prop where
  cls : Cls K C
  ex : ∃ f fd, Meth K C m f ∧ Binds K fd ps [] ∧ FnOk P w K mg base CX0 k f fd ps sp
theorem MethAt.cal {P : Program} {w : World} {K : PySem.W.Frag} {mg : Str → Option Value} {base : Heap} {k : Nat} {C : Addr} {m qual : Str} {st : Stmt} {ps : List Str} {sp : Sp} (d : MethAt K C m qual st ps)
    (h : ∀ f fd, Fun K m qual st f fd → FnOk P w K mg base CX0 k f fd ps sp) : MCal P w K mg base k C m ps sp := by
  obtain ⟨f, fd, F, g, b⟩ := d.ex
  exact ⟨d.cls, f, fd, g, b, h f fd F⟩
/-- a class that can be called: its __init__'s promise -/
structure MkCal (P : Program) (w : World) (K : PySem.W.Frag) (mg : Str → Option Value) (base : Heap) (k : Nat) (C : Addr) (x : Str) (ps : List Str) (sp : Sp) : Prop where
  g : mg x = some (.ref C)
  ex : ∃ f fd, Mk K C f ∧ Binds K fd ps [] ∧ FnOk P w K mg base CX0 k f fd ps sp
structure MkKCal (P : Program) (w : World) (K : PySem.W.Frag) (mg : Str → Option Value) (base : Heap) (k : Nat) (C : Addr) (x : Str) (ps : List Str) (n : Nat) (ks : List Str) (sp : Sp) : Prop where
  g : mg x = some (.ref C)
  ex : ∃ f fd, Mk K C f ∧ KBn K fd ps (n + 1) ks (fun us ws => us ++ ws) (fun vs zs => vs ++ zs) ∧ FnOk P w K mg base CX0 k f fd ps sp
section
variable {X : Cx} {k n : Nat} {x m : Str} {ps ks : List Str} {sp : Sp} {p pos apos : Pos} {o e : Expr} {es : List Expr} {kws : List Keyword} {ta : TE} {t tk : TA} {C : Addr}
theorem pe_mcal {pl : Sem Bool} (c : MCal X.prog X.w X.K X.mg X.base k C m ps sp) (hr : Room k X.A) (ho : PE X o ta) (ha : PA X (e :: es) t)
    (hst : starEach (e :: es) X.env = (false, eval e X.env) :: starEach es X.env := by rfl) (hpl : (backTo pos (starEach es X.env)).any (·.1) = false := by rfl)
    (ht : eval (.Call (.Attribute o m apos) (e :: es) [] pos) X.env = (do
      let ov ← eval o X.env; standAt apos.atName
      let (f, first) ← holding [ov] (getMethod ov m pl); callWith pos f first (backTo pos (starEach (e :: es) X.env)) (backToKw pos (keywordEach [] X.env))) := by rfl) : PE X (.Call (.Attribute o m apos) (e :: es) [] pos) (tMeth C m sp [] E0 ta t) := by
  obtain ⟨cl, f, fd, mt, b, F⟩ := c
  exact pe_meth ho cl mt F hr b .nil pass0 ha hst hpl ht
theorem pe_mcal0 {pl : Sem Bool} (c : MCal X.prog X.w X.K X.mg X.base k C m ps sp) (hr : Room k X.A) (ho : PE X o ta)
    (ht : eval (.Call (.Attribute o m apos) [] [] pos) X.env = (do
      let ov ← eval o X.env; standAt apos.atName
      let (f, first) ← holding [ov] (getMethod ov m pl); callWith pos f first (backTo pos (starEach [] X.env)) (backToKw pos (keywordEach [] X.env))) := by rfl) : PE X (.Call (.Attribute o m apos) [] [] pos) (tMeth C m sp [] E0 ta tNil) := by
  obtain ⟨cl, f, fd, mt, b, F⟩ := c
  exact pe_meth0 ho cl mt F hr b .nil pass0 ht
theorem pe_mk (c : MkCal X.prog X.w X.K X.mg X.base k C x ps sp) (hr : Room (k + 1) X.A) (hg : Gl X x) (ha : PA X (e :: es) t) (hdb : (x == ("__debug__" : Str)) = false := by decide)
    (he : starEach (e :: es) X.env = (false, eval e X.env) :: starEach es X.env := by rfl) (hpl : (backTo pos (starEach es X.env)).any (·.1) = false := by rfl) : PE X (.Call (.Name x p) (e :: es) [] pos) (tMake C sp [] E0 t) := by
  obtain ⟨g, f, fd, M, b, F⟩ := c
  exact pe_make M F hr hg g b .nil pass0 ha hdb he hpl
theorem pe_mkk (c : MkKCal X.prog X.w X.K X.mg X.base k C x ps n ks sp) (hr : Room (k + 1) X.A) (hg : Gl X x) (ha : PA X (e :: es) t) (hkw : PK X kws tk)
    (hall : (backToKw pos (keywordEach kws X.env)).all (·.1.isSome) = true := by rfl) (hks : (backToKw pos (keywordEach kws X.env)).filterMap (·.1) = ks := by rfl) (hdb : (x == ("__debug__" : Str)) = false := by decide)
    (he : starEach (e :: es) X.env = (false, eval e X.env) :: starEach es X.env := by rfl) (hpl : ((backTo pos (starEach (e :: es) X.env)).any (·.1) || (backToKw pos (keywordEach kws X.env)).any (·.1.isNone)) = false := by rfl) :
    PE X (.Call (.Name x p) (e :: es) kws pos) (tMakeK C n ks.length sp (fun vs zs => vs ++ zs) E0 t tk) := by
  obtain ⟨g, f, fd, M, b, F⟩ := c
  exact pe_makeK M F hr hg g b pass0 ha hkw hall hks hdb he hpl
end
section
variable {K : PySem.W.Frag} {σ : L2.St} {H : Hp} {Q : VK} {D : Ends} {ta tv te : TE} {t : TA} {C : Addr} {m f : Str} {sp : Sp}
theorem q_meth (h : ta σ H fun x H1 => ∃ a dx fs, x = .ref a ∧ H1 a = some (.ins C dx fs) ∧ fs.lookup m = none ∧ t σ H1 fun vs H2 => sp (x :: (vs ++ [])) H2 Q E0) : tMeth C m sp [] E0 ta t σ H Q := h
theorem q_make (h : t σ H fun vs H1 => ∀ x dx, H1 x = none → H1 dx = none → dx ≠ x → sp (.ref x :: (vs ++ [])) (upd (upd H1 dx (.own x)) x (.ins C dx [])) (fun v H2 => v = .non ∧ Q (.ref x) H2) E0) : tMake C sp [] E0 t σ H Q := h
theorem q_sfld (h : tv σ H fun y H1 => ta σ H1 fun x H2 => ∃ a C dx fs, x = .ref a ∧ H2 a = some (.ins C dx fs) ∧ Cls K C ∧ NoAttr K C f ∧ fs.length < 1000 ∧ D.nx σ (upd H2 a (.ins C dx (putF f y fs)))) : sFld K ta tv f D σ H := h
end
/-- fields that are there -/
theorem put_same (f : Str) (v : V) (fs : List (Str × V)) : (putF f v fs).lookup f = some v := by rw [lookup_putF, if_pos rfl]
theorem put_ne {f g : Str} (v : V) (fs : List (Str × V)) (h : g ≠ f) : (putF f v fs).lookup g = fs.lookup g := by rw [lookup_putF, if_neg h]
/-- the parts of a build -/
structure BD where
  tasks : PyData
  pages : PyData
  ports : PyData
  locks : PyData
  frames : PyData
  disk : PyData
  rights : PyData
  lines : PyData
  costs : PyData
  plan : PyData
  outside : PyData
  wipe : PyData
  pad : PyData
  lend : PyData
  share : PyData
def tupOf : PyData → PyData | .list l => .tuple l | d => d
def rowsT : PyData → PyData | .list l => .tuple (l.map tupOf) | d => d
def planT : PyData → PyData | .tuple [.str z, e] => .tuple [.str z, if z = "slots" then tupOf e else e] | d => d
def BD.parts (b : BD) : List (Str × PyData) := [("tasks", tupOf b.tasks), ("pages", tupOf b.pages), ("ports", tupOf b.ports), ("locks", b.locks), ("frames", b.frames), ("disk", b.disk), ("rights", rowsT b.rights), ("lines", tupOf b.lines), ("costs", b.costs),
  ("plan", planT b.plan), ("outside", b.outside), ("wipe", b.wipe), ("pad", b.pad), ("lend", b.lend), ("share", b.share)]
theorem pairedKV_get {K : PySem.W.Frag} {H : Hp} : ∀ {kvs : List (Key × V)} {l : List (Str × PyData)} {z : Str} {d : PyData}, Paired (fun p q => p.1 = Sum.inr q.1 ∧ Dp K H p.2 q.2) kvs l → l.lookup z = some d → ∃ v, valV kvs (Sum.inr z) = some v ∧ Dp K H v d
  | [], [], z, d, .nil, e => by simp at e
  | p :: kvs, q :: l, z, d, .cons h t, e => by
    rw [List.lookup_cons] at e
    by_cases hz : z = q.1
    · subst hz
      rw [beq_self_eq_true] at e
      cases e
      exact ⟨p.2, valV_pos h.1, h.2⟩
    · have hb : (z == q.1) = false := by simpa using hz
      rw [hb] at e
      obtain ⟨v, e1, e2⟩ := pairedKV_get t e
      refine ⟨v, ?_, e2⟩
      rw [valV_neg (fun y => hz (by rw [h.1] at y; exact (Sum.inr.inj y).symm))]
      exact e1
end Hk
namespace Hk
open PySem PySem.Spec PyProof.Rows L2
/-- [f(x) for x in xs], xs a tuple of data -/
theorem lc_mapT {K : PySem.W.Frag} {a : Addr} {xs : List V} {ds : List PyData} {g : TG} {te : TE} {vs : List Nat} {σ : L2.St} {H1 : Hp} {D : Addr} {Qd : Hp → Prop} (f : PyData → V) (hx : SqT K H1 a xs) (hd : DpAll K H1 xs ds) (few : ds.length < 100000) (hD : H1 D = none)
    (body : ∀ x d H2, Dp K H2 x d → d ∈ ds → Same H1 H2 → ∀ Q' : VK, (∀ H3, Same H2 H3 → Q' (f d) H3) → g x (wipe σ vs) H2 fun σ2 H3 => wipe σ2 vs = wipe σ vs ∧ te σ2 H3 Q')
    (done : ∀ H', Same H1 H' → H' D = some (.lst (ds.map f)) → Qd H') :
    ∃ W : Nat → Nat → Hp → Prop, (∃ m, W 0 m (upd H1 D (.lst []))) ∧ ∀ i m H, W i m H →
      ((Itt K a).stop i H ∧ Qd H) ∨ ((Itt K a).go i H ∧ ∃ Nx : Hp → Prop, (∀ H', Nx H' → ∃ m', m' < m ∧ W (i + 1) m' H') ∧ ∀ x H', (Itt K a).yld i H x H' → g x (wipe σ vs) H' fun σ2 H2 => wipe σ2 vs = wipe σ vs ∧ tYes σ2 H2 fun b H3 =>
        if b = true then te σ2 H3 fun y H4 => ∃ acc, H4 D = some (.lst acc) ∧ acc.length < sizeLine ∧ Nx (upd H4 D (.lst (acc ++ [y]))) else Nx H3) := by
  have l := hd.length
  refine lc_val (n := xs.length) walk_tup (fun i => f (ds.getD i .none)) hD (sz1000 (by omega)) (fun H2 s => Same.sqT s hx) yat_same ?_ ?_
  · rintro i x H2 H3 lt s ⟨rfl, e⟩ Q2 k
    obtain ⟨d, e2, hd2⟩ := hd.get' e
    refine body x d H3 (L2.Dp.mono s hd2) (List.mem_of_getElem? e2) s Q2 fun H4 s4 => ?_
    have z := k H4 s4
    rw [List.getD_eq_getElem?_getD, e2] at z
    exact z
  · intro H2 s e
    refine done H2 s ?_
    rw [e]
    congr 2
    refine List.ext_getElem (by simp [l]) fun i h1 h2 => ?_
    have lt : i < ds.length := by simpa using h2
    simp [List.getD_eq_getElem?_getD, List.getElem?_eq_getElem lt]
/-- all but instances is as it was -/
def Keep (H H' : Hp) : Prop := ∀ b o, H b = some o → (∀ C dx fs, o ≠ .ins C dx fs) → H' b = some o
theorem But.keep {r C dx : Addr} {fs : List (Str × V)} {H H' : Hp} (e : H r = some (.ins C dx fs)) (s : But r H H') : Keep H H' := fun b o h n => s b o h fun z => by
  subst z; rw [e] at h; cases h; exact n C dx fs rfl
theorem Keep.sqL {K : PySem.W.Frag} {H H' : Hp} {a : Addr} {xs : List V} (s : Keep H H') (h : SqL K H a xs) : SqL K H' a xs := by
  rcases h with (h | ⟨o, h⟩) | h
  · exact .inl (.inl (s _ _ h (by simp)))
  · exact .inl (.inr ⟨o, s _ _ h (by simp)⟩)
  · exact .inr h
theorem Keep.sqT {K : PySem.W.Frag} {H H' : Hp} {a : Addr} {xs : List V} (s : Keep H H') (h : SqT K H a xs) : SqT K H' a xs := by
  rcases h with (h | ⟨o, h⟩) | h
  · exact .inl (.inl (s _ _ h (by simp)))
  · exact .inl (.inr ⟨o, s _ _ h (by simp)⟩)
  · exact .inr h
mutual
theorem dpKeep {K : PySem.W.Frag} {H H' : Hp} (s : Keep H H') : ∀ {v : V} {d : PyData}, Dp K H v d → Dp K H' v d
  | _, _, .non => .non
  | _, _, .bl b => .bl b
  | _, _, .int i => .int i
  | _, _, .str x => .str x
  | _, _, .lst h a => .lst (Keep.sqL s h) (dpAllKeep s a)
  | _, _, .tup h a => .tup (Keep.sqT s h) (dpAllKeep s a)
theorem dpAllKeep {K : PySem.W.Frag} {H H' : Hp} (s : Keep H H') : ∀ {vs : List V} {ds : List PyData}, DpAll K H vs ds → DpAll K H' vs ds
  | _, _, .nil => .nil
  | _, _, .cons h t => .cons (dpKeep s h) (dpAllKeep s t)
end
theorem But.refl {r : Addr} {H : Hp} : But r H H := fun _ _ h _ => h
theorem But.trans {r : Addr} {H H1 H2 : Hp} (a : But r H H1) (b : But r H1 H2) : But r H H2 := fun x o h n => b x o (a x o h n) n
theorem But.same {r : Addr} {H H1 : Hp} (a : Same H H1) : But r H H1 := fun x o h _ => a x o h
theorem But.put {r : Addr} {H : Hp} {o : HO} : But r H (upd H r o) := fun x u h n => by rw [upd_ne n]; exact h
/-- no other fields -/
def Only (fs : List (Str × V)) (L : List Str) : Prop := ∀ m, m ∉ L → fs.lookup m = none
theorem Only.put {fs : List (Str × V)} {L : List Str} (h : Only fs L) {f : Str} {v : V} (hf : f ∈ L) : Only (putF f v fs) L := fun m hm => by
  rw [put_ne v fs (fun e => hm (by rw [e]; exact hf))]; exact h m hm
end Hk

set_option Elab.async false
set_option linter.all false
set_option maxRecDepth 100000
set_option maxHeartbeats 4000000
namespace Hk
open PySem PySem.Spec PyProof.Rows L2 L2H
/-- the exception that a suite holds, at p: of the class at D, its own dict at d (where it has one) -/
structure ExA (K : PySem.W.Frag) (p : Addr × Obj) (D : Addr) (d : Option Addr) : Prop where
  z : Zc (.ref D) d p.2
  f : ∃ vs, p.2.data = .fields vs
  c : L2.ExcC K D
/-- its dict stands there -/
def XdAt (H : Hp) : Option Addr → List (Str × V) → Prop
  | none, fs => fs = []
  | some dd, fs => H dd = some (.xd fs)
/-! ## a def that is called in the suite, p the exception that is handled -/
structure FnE (P : Program) (w : World) (K : PySem.W.Frag) (mg : Str → Option Value) (base : Heap) (k : Nat) (f : Addr) (fd : FuncData) (ps : List Str) (sp : Addr × Obj → Sp) : Prop where
  len : ∀ p vs H Q E, sp p vs H Q E → vs.length = ps.length
  run : ∀ (A : Around) (outer : List Env) (s : Shared) (H : Hp) (args : Args) (us : List Value) (vs : List V) (Q : VK) (p : Addr × Obj), RoomH k A → PinOk outer H s p → Env0 P w K mg base A outer s H → BindsTo s fd args (ps.zip us) → Vals vs us → sp p vs H Q L2.E0 →
    codeAny (model P w) A (.call (.ref f) args) (CR L2.CX0 outer P w H s Q L2.E0) s
/-- the end of a body is the end of the call -/
theorem ends_call {X : Cx} {P : Program} {w : World} {outer : List Env} {s s2 : Shared} {H : Hp} {Q : VK} {fl : Flow} (eP : X.prog = P) (ew : X.w = w) (es : X.s_0 = s) (eH : X.H_0 = H) (ef : X.fs = frs outer) (ex : X.ex = [])
    (z : SP X [] { nx := fun _ H' => Q .non H', rt := Q } fl s2) : CE outer P w H s Q (match fl with | .ret u => u | _ => .none) s2 := by
  subst eP ew es eH
  have put : ∀ {τ : L2.St} {H2 : Hp} {x : V} {u : Value}, Inv X [] τ H2 s2 → RelV x u → Q x H2 → CE outer X.prog X.w X.H_0 X.s_0 Q u s2 := by
    intro τ H2 x u J rx qx
    have un := J.base
    rw [ef, ex] at un
    exact ⟨x, H2, J.os, J.bare, un, J.hok, rx, qx⟩
  rcases fl with _ | _ | _ | u
  · obtain ⟨τ, H2, J, z⟩ := z
    exact put (x := .non) J rfl z
  · obtain ⟨_, _, _, z⟩ := z
    exact absurd z id
  · obtain ⟨_, _, _, z⟩ := z
    exact absurd z id
  · obtain ⟨x, τ, H2, J, rx, z⟩ := z
    exact put J rx z
theorem fn_ofE {P : Program} {w : World} {K : PySem.W.Frag} {mg : Str → Option Value} {base : Heap} {k : Nat} {f : Addr} {name qual : Str} {params : Arguments} {body : List Stmt} {scope : Scope} {dV kV doc pm cdv ct oc : Value} {an od : Option Addr}
    {osl : Array (Option Value)} {N ps : List Str} {sp : Addr × Obj → Sp} (lk : K.lookup f = some ⟨oc, od, .func (PySem.W.fnOf name qual params body scope dV kV doc pm an cdv ct), osl⟩) (hcd : PySem.W.codeIn K cdv qual = true) (S : FnScope N ps scope)
    (len : ∀ p vs H Q E, sp p vs H Q E → vs.length = ps.length)
    (hbody : ∀ (A : Around) (outer : List Env) (s : Shared) (H : Hp) (vs : List V) (Q : VK) (p : Addr × Obj), RoomH k (A.deeper (envOfC qual scope s.heap.objs.size f cdv)) → sp p vs H Q L2.E0 →
      ∃ t, PSs (cxH L2.CX0 P w K mg base N qual scope f cdv A outer s H L2.E0 p) body t ∧ t { nx := fun _ H' => Q .non H', rt := Q } (L2.start N vs) H) :
    FnE P w K mg base (k + 1) f (PySem.W.fnOf name qual params body scope dV kV doc pm an cdv ct) ps sp := by
  constructor
  · exact len
  intro A outer s H args us vs Q p room pin env bind rel promise
  have old : ∀ b o, base.get? b = some o → s.heap.get? b = some o := by
    intro b o z
    exact (env.bs b o z).left
  have kin := PySem.W.Frag.In.keeps env.mod.kin old
  have many := len _ _ _ _ _ promise
  apply codeAny_call_function room.depth (kin _ _ lk) rfl S.co S.gen rfl (PySem.W.codeRec_of kin hcd)
  apply bind
  apply wpAny_newFunctionEnv_cells S.kind
  · intro y my
    have where_ := S.par y.1 (List.of_mem_zip my).left
    cases where_ with
    | inl loc => exact Or.inl loc
    | inr cel => exact Or.inr ⟨cel, PySem.W.cellsFrom_some _ _ _ (Or.inl cel)⟩
  · intro fr same s1 entered
    cases same
    constructor
    · exact Heap.NoLimit.keeps (Heap.NoLimit.keeps env.mod.nolimit old) entered.toInCall.keep
    apply codeAny_func
    obtain ⟨t, body_ok, due⟩ := hbody A outer s H vs Q p (room.deeper _) promise
    have start_ := inv_startH (CX := L2.CX0) (E := L2.E0) S pin env many rel entered
    apply wpAny_mono (body_ok.run [] s1 _ H _ start_ due)
    · intro fl s2 z
      have end_ := ends_call (outer := outer) rfl rfl rfl rfl rfl rfl z
      cases fl <;> exact end_
    · intro u s2 z
      exact z
section
variable {X : Cx} {k : Nat} {f C : Addr} {fd : FuncData} {ps : List Str} {sp : Addr × Obj → Sp} {x m : Str} {q pos apos : Pos} {e o : Expr} {es : List Expr} {ta : TE} {t : TA} {p : Addr × Obj}
theorem run_fnE {pins : List (Addr × Obj)} {σ : L2.St} {H : Hp} {s : Shared} {Q : VK} {us : List Value} {vs : List V} (F : FnE X.prog X.w X.K X.mg X.base k f fd ps sp) (hr : RoomH k X.A) (hp : p ∈ X.pn) (hb : Binds X.K fd ps [])
    (I : Inv X pins σ H s) (r : Vals vs us) (h : sp p vs H Q L2.E0) : wpAny (model X.prog X.w) X.A (call (.ref f) us) (EP X pins σ Q) X.xe s := by
  have given : (us ++ []).length = ps.length := by simpa [← r.length] using F.len _ _ _ _ _ h
  have args := hb s us I.kIn given
  simp only [List.append_nil] at args
  obtain ⟨at_, untracked, notL, notF, notCell⟩ := I.pin p (List.mem_append.mpr (Or.inl hp))
  have away : p.1 ∉ frs X.stack := by
    intro hm
    rcases List.mem_cons.mp (I.stkSub _ hm) with z | z
    · exact notL z
    · exact notF z
  apply wpAny_call
  apply codeAny_mono (F.run X.A X.stack s H ⟨us, []⟩ us vs Q p hr ⟨at_, untracked, away, notCell⟩ I.env0 args r h)
  intro res s2 z
  match res, z with
  | .error _, z => exact absurd z id
  | .ok (.ret _), z => exact I.after z
  | .ok .next, z => exact absurd z id
  | .ok .brk, z => exact absurd z id
  | .ok .cont, z => exact absurd z id
def tCallE (sp : Addr × Obj → Sp) (p : Addr × Obj) (t : TA) : TE := fun σ H Q => t σ H fun vs H1 => sp p vs H1 Q L2.E0
theorem pe_callE (F : FnE X.prog X.w X.K X.mg X.base k f fd ps sp) (hr : RoomH k X.A) (hp : p ∈ X.pn) (hg : Gl X x) (hm : X.mg x = some (.ref f)) (hk : PySem.W.keepIn X.K (.ref f) = true) (hb : Binds X.K fd ps []) (ha : PA X (e :: es) t)
    (hdb : (x == ("__debug__" : Str)) = false := by decide) (he : starEach (e :: es) X.env = (false, eval e X.env) :: starEach es X.env := by rfl) (hpl : (backTo pos (starEach es X.env)).any (·.1) = false := by rfl) : PE X (.Call (.Name x q) (e :: es) [] pos) (tCallE sp p t) where
  run := by
    intro pins s σ H Q I h
    apply wpAny_Call_Name_kw
    apply ld_glob I hg hm _ hdb
    apply PySem.W.callWith_K (h₀ := X.base) I.ok.mod.kin hk _ he hpl
    apply thn (ha.run pos pins s σ H _ I h)
    intro us s1 z
    obtain ⟨vs, H1, J, rel, due⟩ := z
    exact ⟨J.kIn, run_fnE F hr hp hb J rel due⟩
/-- isinstance(e, c), e the exception that the suite holds -/
def rIsX (K : PySem.W.Frag) (p : Addr × Obj) : List V → Hp → VK → Prop := fun xs H Q => ∃ (D : Addr) (d : Option Addr) (fs : List (Str × V)) (c : V) (cv : Value) (b : Bool), ExA K p D d ∧ XdAt H d fs ∧ xs = [.ref p.1, c] ∧ (∀ u, RelV c u → u = cv) ∧ PySem.W.kitOne K (.ref D) cv = some b ∧ Q (.bl b) H
theorem ExA.at {X : Cx} {p : Addr × Obj} {D : Addr} {d : Option Addr} {fs : List (Str × V)} {pins : List (Addr × Obj)} {σ : L2.St} {H : Hp} {s : Shared} (EA : ExA X.K p D d) (xd : XdAt H d fs) (hp : p ∈ X.pn) (I : Inv X pins σ H s) :
    ∃ od, PySem.W.InstAt s.heap p.1 p.2 D od ∧ (d.isSome = true → ∃ (ob : Obj) (mA : Str → Option Value), od = some ob ∧ (∀ y, PySem.W.lookIn y ob = some (mA y)) ∧ ∀ y, RelO (fs.lookup y) (mA y)) := by
  obtain ⟨here, _⟩ := I.pin p (List.mem_append.mpr (Or.inl hp))
  obtain ⟨ws, hw⟩ := EA.f
  have plain : PySem.W.notCls p.2 = true := by unfold PySem.W.notCls; rw [hw]
  rcases d with _ | dd
  · exact ⟨none, ⟨here, EA.z.1, plain, by rw [EA.z.2]; trivial⟩, fun z => by cases z⟩
  · obtain ⟨mA, hn, rel⟩ : ∃ mA, s.heap.Ns1 dd mA ∧ ∀ y, RelO (fs.lookup y) (mA y) := I.hok dd _ xd
    obtain ⟨ob, e1, e2⟩ := lookIn_ns hn
    exact ⟨some ob, ⟨here, EA.z.1, plain, by rw [EA.z.2]; exact e1⟩, fun _ => ⟨ob, mA, rfl, e2, rel⟩⟩
theorem call_isX (hp : p ∈ X.pn) : CallR X (.builtin "isinstance") (rIsX X.K p) := by
  rintro pins s σ H xs us Q I r ⟨D, d, fs, c, cv, b, EA, xd, rfl, told, ans, due⟩
  match us, r with
  | [_, u], .cons same (.cons rel .nil) =>
    cases same
    cases told u rel
    obtain ⟨od, J, _⟩ := EA.at xd hp I
    have some_ : (PySem.W.clsIn X.K D).isSome = true := Option.isSome_iff_exists.mpr ((PySem.W.any_some EA.c.hd).imp fun _ z => z.1)
    apply PySem.W.kia_one (PySem.W.kitx_exc (ox := p.2) (od := od) some_ EA.c.hg EA.c.hk EA.c.hs EA.c.ha EA.c.hn EA.c.ht EA.c.hm) I.kIn J ans
    · intro z; cases z
    · intro tk
      exact ⟨.bl b, H, I.tok tk, rfl, due⟩
/-- e.f, e the exception that the suite holds -/
def tXfX (K : PySem.W.Frag) (p : Addr × Obj) (n : Str) (te : TE) : TE := fun σ H Q => te σ H fun x H1 => x = .ref p.1 ∧ ∃ (D : Addr) (dd : Addr) (fs : List (Str × V)) (v : V), ExA K p D (some dd) ∧ PySem.W.findIn K (.ref D) n = some none ∧ H1 dd = some (.xd fs) ∧ fs.lookup n = some v ∧ Q v H1
theorem pe_xfX {te : TE} {n : Str} (hp : p ∈ X.pn) (he : PE X e te) (hb : attributeBase e n X.env (eval e X.env) = eval e X.env := by rfl) : PE X (.Attribute e n pos) (tXfX X.K p n te) where
  run := by
    intro pins s σ H Q I h
    apply attr_of hb
    apply thn (he.run pins s σ H _ I h)
    rintro u s1 ⟨x, H1, J, same, rfl, D, dd, fs, v, EA, none_, xd, there, due⟩
    cases same
    obtain ⟨od, at_, own⟩ := EA.at (d := some dd) xd hp J
    obtain ⟨ob, mA, rfl, look, rel⟩ := own rfl
    have rn := rel n
    rw [there] at rn
    obtain ⟨u, hu, ru⟩ := RelO.some_of rn
    have found := PySem.W.findObj_own EA.c.hd none_ rfl (show PySem.W.lookIn n ob = some (some u) by rw [look, hu])
    exact HandSPX.exc_get J.kIn at_ EA.c.hg EA.c.hk EA.c.hs found (handed_of ru) ⟨v, H1, J.tok _, ru, due⟩
/-- what is never come to -/
def tNever : TE := fun _ _ _ => False
theorem pe_never : PE X e tNever := ⟨fun _ _ _ _ _ _ h => h.elim⟩
end
theorem q_gname {σ : L2.St} {H : Hp} {i : Nat} {v : V} {q : L2.St → Hp → Prop} (h : q (σ.set i (some v)) H) : gName i v σ H q := h
theorem q_app {K : PySem.W.Frag} {σ : L2.St} {H : Hp} {D : Ends} {i : Nat} {te : TE} {a : Addr} {acc : List V} (hv : σ[i]? = some (some (.ref a))) (ha : H a = some (.lst acc)) (h : te σ H fun y H2 => ∃ l xs z, V.ref a = .ref l ∧ [y] = [z] ∧ H2 l = some (.lst xs) ∧ xs.length < sizeLine ∧ D.nx σ (upd H2 l (.lst (xs ++ [z])))) : tDrop (tBM K "list" rAppend (tVar i) (tCons te tNil)) D σ H :=
  ⟨_, hv, .inl ⟨rfl, acc, SqL.of ha⟩, h⟩
theorem q_rng1 {ta : TA} {σ : L2.St} {H : Hp} {R : It → Hp → Prop} (h : ta σ H fun vs H1 => ∃ j : Int, vs = [.int j] ∧ -(2 ^ 62) ≤ j ∧ j < 2 ^ 62 ∧ R (Itr 0 j.toNat) H1) : iRng1 ta σ H R := h
/-- a loop over a range, its bound told already -/
def ForR (n : Nat) (g : TG) (tb : TS) (D : Ends) (σ : L2.St) (H1 : Hp) : Prop := ∃ W : Nat → Nat → L2.St → Hp → Prop, (∃ m, W 0 m σ H1) ∧ ∀ i m σ H, W i m σ H →
    ((Itr 0 n).stop i H ∧ D.nx σ H) ∨ ((Itr 0 n).go i H ∧ ∃ N : L2.St → Hp → Prop, (∀ σ' H', N σ' H' → ∃ m', m' < m ∧ W (i + 1) m' σ' H') ∧ ∀ x H', (Itr 0 n).yld i H x H' → g x σ H' fun σ2 H2 => tb { D with nx := N, ct := N, bk := D.nx } σ2 H2)
theorem q_forRA {ta : TA} {g : TG} {tb : TS} {D : Ends} {σ : L2.St} {H : Hp} (h : ta σ H fun vs H1 => ∃ j : Int, vs = [.int j] ∧ -(2 ^ 62) ≤ j ∧ j < 2 ^ 62 ∧ ForR j.toNat g tb D σ H1) : tFor (iRng1 ta) g tb D σ H := h
theorem forR {n : Nat} {g : TG} {tb : TS} {D : Ends} {σ : L2.St} {H : Hp} (Pv : Nat → L2.St → Hp → Prop) (h0 : Pv 0 σ H)
    (hs : ∀ i σ H, i < n → Pv i σ H → g (.int (0 + (i : Int))) σ H fun σ2 H2 => tb { D with nx := Pv (i + 1), ct := Pv (i + 1), bk := D.nx } σ2 H2) (hd : ∀ σ H, Pv n σ H → D.nx σ H) : ForR n g tb D σ H := for_range Pv h0 hs hd
theorem seq_if {c : TT} {t u R : TS} {D : Ends} {σ : L2.St} {H : Hp} (Pa : L2.St → Hp → Prop) (h2 : ∀ σ H, Pa σ H → R D σ H) (h1 : ∀ N : L2.St → Hp → Prop, (∀ σ H, Pa σ H → N σ H) → tIfS c t u { D with nx := N } σ H) : tSeq (tIfS c t u) R D σ H := h1 (R D) h2
end Hk

set_option Elab.async false
set_option linter.all false
set_option maxRecDepth 100000
set_option maxHeartbeats 4000000
namespace Hk
open PySem PySem.Spec PyProof.Rows L2
/-- an error class of the module: directly under the class at KE, which stands under ValueError -/
structure ECls (K : PySem.W.Frag) (mg : Str → Option Value) (KE : Addr) (x : Str) (C : Addr) : Prop where
  g : mg x = some (.ref C)
  L : ∃ (nm q : Str) (N : Addr) (bs : List Value) (sn : List Str) (sub : List Value) (ab : Bool) (col : Option Bool) (dd : Option Addr) (k0 k1 k2 k3 k5 : Option Value), K.lookup C = some (excClassObj nm q C N bs (.ref KE :: PySem.HandSPX.veTail) true sn sub ab col dd k0 k1 k2 k3 k5 "ValueError.__new__")
  ga : PySem.W.findIn K (.ref C) "__getattribute__" = some (some (.builtin "BaseException.__getattribute__"))
  gg : PySem.W.findIn K (.ref C) "__getattr__" = some none
  gc : PySem.W.findIn K (.ref C) "__class__" = some (some (.builtin "object.__class__"))
  kp : PySem.W.keepIn K (.ref C) = true
section
variable {K : PySem.W.Frag} {mg : Str → Option Value} {KE C : Addr} {x : Str}
theorem ECls.cls (E : ECls K mg KE x C) : ∃ cd : ClassData, PySem.W.clsIn K C = some cd ∧ cd.mro = .ref C :: .ref KE :: PySem.HandSPX.veTail ∧ cd.hasDict = true := by
  obtain ⟨nm, q, N, bs, sn, sub, ab, col, dd, k0, k1, k2, k3, k5, h⟩ := E.L
  refine ⟨_, by unfold PySem.W.clsIn; rw [h], rfl, rfl⟩
theorem ECls.mro (E : ECls K mg KE x C) (v : Value) : PySem.W.mroIn K C v = some ((Value.ref C :: .ref KE :: PySem.HandSPX.veTail).contains v) := by
  obtain ⟨cd, h1, h2, _⟩ := E.cls
  unfold PySem.W.mroIn
  rw [h1, Option.bind_some, h2]
  rfl
theorem ECls.sub (E : ECls K mg KE x C) (v : Value) : PySem.W.subIn K (.ref C) v = some ((Value.ref C :: .ref KE :: PySem.HandSPX.veTail).contains v) := E.mro v
theorem ECls.exC (E : ECls K mg KE x C) : PySem.W.subIn K (.ref C) (.type "BaseException") = some true := by
  rw [E.sub]; congr 1
theorem ECls.ty (E : ECls K mg KE x C) : PySem.W.typeIn K (.ref C) = some (.type "type") := by
  obtain ⟨nm, q, N, bs, sn, sub, ab, col, dd, k0, k1, k2, k3, k5, h⟩ := E.L
  show (K.lookup C).map (·.cls) = _
  rw [h]; rfl
theorem ECls.hd (E : ECls K mg KE x C) : PySem.W.hasDictIn K C = true := by
  obtain ⟨cd, h1, _, h3⟩ := E.cls
  unfold PySem.W.hasDictIn
  rw [h1]; exact h3
theorem ECls.isSome (E : ECls K mg KE x C) : (PySem.W.clsIn K C).isSome = true := by
  obtain ⟨cd, h1, _⟩ := E.cls
  rw [h1]; rfl
/-- what isinstance wants of the class -/
theorem ECls.exc (E : ECls K mg KE x C) (hn : PySem.W.specialIn K (.builtin "object.__class__") "__get__" = some (some (.builtin "getset_descriptor.__get__"))) (ht : PySem.W.takesIn K (.builtin "object.__class__") = some true) : L2.ExcC K C :=
  ⟨E.ga, E.gg, E.exC, E.hd, E.gc, hn, ht, by rw [E.mro]; congr 1⟩
theorem ref_beq (a b : Addr) : (Value.ref a == Value.ref b) = decide (a = b) := by
  by_cases h : a = b
  · subst h; simp
  · rw [decide_eq_false h]; exact beq_eq_false_iff_ne.mpr fun z => h (Value.ref.inj z)
/-- isinstance of an error of the class at C -/
theorem ECls.kitVE (E : ECls K mg KE x C) : PySem.W.kitOne K (.ref C) (.type "ValueError") = some true := by
  unfold PySem.W.kitOne PySem.W.kitCls
  have e : (Value.ref C == Value.type "ValueError") = false := beq_eq_false_iff_ne.mpr (by intro z; cases z)
  rw [e, if_neg (by decide)]
  dsimp only
  rw [if_pos (by decide +kernel), E.sub]
  congr 1
theorem ECls.kit {C2 : Addr} {y : Str} (E : ECls K mg KE x C) (E2 : ECls K mg KE y C2) (ne : C2 ≠ KE) : PySem.W.kitOne K (.ref C) (.ref C2) = some (decide (C = C2)) := by
  unfold PySem.W.kitOne
  rw [ref_beq]
  by_cases h : C = C2
  · rw [if_pos (by simpa using h), decide_eq_true h]
  · rw [if_neg (by simpa using h), decide_eq_false h]
    unfold PySem.W.kitCls
    dsimp only
    rw [if_pos (by rw [E2.isSome, E2.ty]; rfl), E.sub]
    congr 1
    rw [List.contains_cons, List.contains_cons, ref_beq, ref_beq, decide_eq_false (fun z => h z.symm), decide_eq_false ne]
    rfl
/-- except KernelError takes it -/
theorem ECls.exm (E : ECls K mg KE x C) (h1 : PySem.W.subIn K (.ref KE) (.type "BaseException") = some true) (hd : PySem.W.hasDictIn K KE = true) (ht : PySem.W.typeIn K (.ref KE) = some (.type "type")) : PySem.W.exmOne K (.ref C) (.ref KE) = some true := by
  refine PySem.W.exm_ref h1 hd ht ?_
  rw [E.sub]
  congr 1
  rw [List.contains_cons, List.contains_cons, ref_beq, ref_beq, decide_eq_true (rfl : KE = KE)]
  simp
end
section
variable {X : Cx} {C : Addr} {bmB : List Value} {B newId initId : String} {x : Str} {p pos pos2 : Pos}
/-- X() -/
theorem pmk_own0 (F : ExcBaseFacts B newId initId bmB) (q : PySem.W.excIn X.K C bmB newId = true) (gC : X.mg x = some (.ref C)) (kC : PySem.W.keepIn X.K (.ref C) = true) (r : Raises X (.ref C)) (hg : Gl X x)
    (hdb : (x == ("__debug__" : Str)) = false := by decide) : PMk X (.Call (.Name x p) [] [] pos) (fun _ H Q => Q (.ref C) none H) := by
  rintro pins ⟨hp, g, d, t, os⟩ σ H Q I h
  apply wpAny_Call_Name_kw
  apply ld_glob I hg gC _ hdb
  apply PySem.W.callWith_K0 I.kIn kC
  obtain ⟨_, _, _, _, _, _, _, _, _, _, _, _, _, _, _, _, _, hC, hN, hni, T⟩ := exc_obj I.kIn q
  apply wpAny_call_exc_subT F T hC hN hni
  intro h' e made
  exact mk_of I made r h (I.hok.gone made.new)
end
/-- a def that may raise, as a promise by its name -/
structure CalX (P : Program) (w : World) (K : PySem.W.Frag) (mg : Str → Option Value) (base : Heap) (k : Nat) (x : Str) (ps : List Str) (sp : Sp) : Prop where
  ex : ∃ f fd, mg x = some (.ref f) ∧ PySem.W.keepIn K (.ref f) = true ∧ Binds K fd ps [] ∧ FnOk P w K mg base (L2.CX P w) k f fd ps sp
theorem DefAt.calX {P : Program} {w : World} {K : PySem.W.Frag} {mg : Str → Option Value} {base : Heap} {k : Nat} {x : Str} {st : Stmt} {ps : List Str} {sp : Sp} (d : DefAt K mg x st ps)
    (h : ∀ f fd, Fun K x x st f fd → FnOk P w K mg base (L2.CX P w) k f fd ps sp) : CalX P w K mg base k x ps sp := by
  obtain ⟨f, fd, F, g, b⟩ := d.ex
  exact ⟨f, fd, g, F.kp, b, h f fd F⟩
structure CalE (P : Program) (w : World) (K : PySem.W.Frag) (mg : Str → Option Value) (base : Heap) (k : Nat) (x : Str) (ps : List Str) (sp : Addr × Obj → Sp) : Prop where
  ex : ∃ f fd, mg x = some (.ref f) ∧ PySem.W.keepIn K (.ref f) = true ∧ Binds K fd ps [] ∧ FnE P w K mg base k f fd ps sp
section
variable {X : Cx} {k : Nat} {x : Str} {ps : List Str} {sp : Sp} {spE : Addr × Obj → Sp} {p pos : Pos} {e : Expr} {es : List Expr} {t : TA} {W : WX} {pp : Addr × Obj}
theorem pe_calX (c : CalX X.prog X.w X.K X.mg X.base k x ps sp) (hr : Room k X.A) (hg : Gl X x) (tk : Takes X W) (ha : PA X (e :: es) t) (hdb : (x == ("__debug__" : Str)) = false := by decide)
    (he : starEach (e :: es) X.env = (false, eval e X.env) :: starEach es X.env := by rfl) (hpl : (backTo pos (starEach es X.env)).any (·.1) = false := by rfl) : PE X (.Call (.Name x p) (e :: es) [] pos) (tCallS sp (WE W) t) := by
  obtain ⟨f, fd, g, kp, b, F⟩ := c.ex
  exact pe_callS F hr hg g kp b (fun σ => passAt tk σ) ha hdb he hpl
theorem pe_calE (c : CalE X.prog X.w X.K X.mg X.base k x ps spE) (hr : L2H.RoomH k X.A) (hp : pp ∈ X.pn) (hg : Gl X x) (ha : PA X (e :: es) t) (hdb : (x == ("__debug__" : Str)) = false := by decide)
    (he : starEach (e :: es) X.env = (false, eval e X.env) :: starEach es X.env := by rfl) (hpl : (backTo pos (starEach es X.env)).any (·.1) = false := by rfl) : PE X (.Call (.Name x p) (e :: es) [] pos) (tCallE spE pp t) := by
  obtain ⟨f, fd, g, kp, b, F⟩ := c.ex
  exact pe_callE F hr hp hg g kp b ha hdb he hpl
end
theorem _root_.L2.Fun.okE {P : Program} {w : World} {K : PySem.W.Frag} {mg : Str → Option Value} {base : Heap} {x qual : Str} {st : Stmt} {f : Addr} {fd : FuncData} {N ps : List Str} {k : Nat} {sp : Addr × Obj → Sp} (F : Fun K x qual st f fd) (S : FnScope N ps (defScope st))
    (len : ∀ p vs H Q E, sp p vs H Q E → vs.length = ps.length)
    (hbody : ∀ (cdv : Value) (A : Around) (outer : List Env) (s : Shared) (H : Hp) (vs : List V) (Q : VK) (p : Addr × Obj), L2H.RoomH k (A.deeper (envOfC qual (defScope st) s.heap.objs.size f cdv)) → sp p vs H Q L2.E0 →
      ∃ t, PSs (L2H.cxH L2.CX0 P w K mg base N qual (defScope st) f cdv A outer s H L2.E0 p) (defBody st) t ∧ t { nx := fun _ H' => Q .non H', rt := Q } (L2.start N vs) H) : FnE P w K mg base (k + 1) f fd ps sp := by
  obtain ⟨_, _, _, _, _, _, cdv, _, _, rfl, lk, hcd⟩ := F.ex
  exact fn_ofE lk hcd S len fun A outer s H vs Q p hr h => hbody cdv A outer s H vs Q p hr h
end Hk

set_option Elab.async false
set_option linter.all false
set_option maxRecDepth 100000
set_option maxHeartbeats 4000000
open PySem PySem.Spec PyProof.Rows L2 Hk
local macro_rules | `(tactic| walk_at "s1") => `(tactic| first
  | with_reducible refine q_seq ?_ | with_reducible refine q_next ?_ | with_reducible refine q_set ?_ | with_reducible refine q_ret ?_ | with_reducible refine q_drop ?_ | with_reducible refine q_ifs ?_ | with_reducible refine q_ife ?_
  | ((with_reducible show tVar _ _ _ _); refine q_var (by exact rfl) ?_)
  | with_reducible refine q_c ?_ | with_reducible refine q_op ?_ | with_reducible refine q_un ?_ | with_reducible refine q_chain ?_
  | with_reducible refine q_rI0 ?_ | with_reducible refine q_rU ?_ | with_reducible refine q_test ?_ | with_reducible refine q_tB ?_ | with_reducible refine q_bl ?_
  | with_reducible refine q_and ?_ | with_reducible refine q_or ?_ | with_reducible refine q_not ?_ | with_reducible refine q_andV ?_ | with_reducible refine q_orV ?_ | with_reducible refine q_notV ?_
  | with_reducible refine q_isN ?_ | with_reducible refine q_notN ?_ | with_reducible refine q_nil ?_ | with_reducible refine q_cons ?_ | with_reducible refine q_tup ?_ | with_reducible refine q_lst ?_
  | with_reducible refine q_cb ?_ | with_reducible refine q_call ?_ | with_reducible refine q_fld ?_ | with_reducible refine q_bm ?_ | with_reducible refine q_dget ?_
  | (with_reducible refine q_isi_int (by assumption) ?_) | (with_reducible refine q_isi_bool (by assumption) ?_) | (with_reducible refine q_isi_str (by assumption) ?_) | (with_reducible refine q_isi_list (by assumption) ?_) | (with_reducible refine q_isi_tuple (by assumption) ?_)
  | with_reducible refine q_sub ?_ | with_reducible refine q_asg ?_)
local macro_rules | `(tactic| walk_at "st") => `(tactic| (repeat (walk_at "s1"; try dsimp only [List.set_cons_zero, List.set_cons_succ, List.append_nil, List.cons_append, List.nil_append, cxOf])))
local macro_rules | `(tactic| walk_at "st0") => `(tactic| (simp only [L2.start, List.map_cons, List.map_nil, List.length_cons, List.length_nil, Nat.reduceAdd, Nat.reduceSub, List.reduceReplicate, List.replicate_zero, List.cons_append, List.nil_append, List.append_nil]; walk_at "st"))
local macro_rules | `(tactic| walk_at "s1") => `(tactic| first | with_reducible refine q_meth ?_ | with_reducible refine q_sfld ?_ | with_reducible refine q_make ?_)
local macro_rules | `(tactic| walk_at "lk") => `(tactic| (repeat (first | exact put_same _ _ _ | assumption | rw [put_ne _ _ (by decide +kernel)])))



namespace T
def topS (i : Nat) : Stmt := PySem.Challenge.pw_hushkernel_k00_errors.main.body.getD i (.Pass ⟨0, 0, 0, 0⟩)
abbrev s_NoBuild___init__ : Stmt := inClass (topS 19) 0
theorem sc_NoBuild___init__ : FnScope ["self", "part"] ["self", "part"] (defScope s_NoBuild___init__) := ⟨rfl, rfl, rfl, by decide +kernel, rfl, by decide +kernel, by decide +kernel⟩
abbrev s_NoActs___init__ : Stmt := inClass (topS 20) 0
theorem sc_NoActs___init__ : FnScope ["self", "index"] ["self", "index"] (defScope s_NoActs___init__) := ⟨rfl, rfl, rfl, by decide +kernel, rfl, by decide +kernel, by decide +kernel⟩
abbrev s_NoRows___init__ : Stmt := inClass (topS 21) 0
theorem sc_NoRows___init__ : FnScope ["self", "index"] ["self", "index"] (defScope s_NoRows___init__) := ⟨rfl, rfl, rfl, by decide +kernel, rfl, by decide +kernel, by decide +kernel⟩
abbrev s_NoProgram___init__ : Stmt := inClass (topS 22) 0
theorem sc_NoProgram___init__ : FnScope ["self", "task", "index"] ["self", "task", "index"] (defScope s_NoProgram___init__) := ⟨rfl, rfl, rfl, by decide +kernel, rfl, by decide +kernel, by decide +kernel⟩
abbrev s_TooMany___init__ : Stmt := inClass (topS 23) 0
theorem sc_TooMany___init__ : FnScope ["self", "most"] ["self", "most"] (defScope s_TooMany___init__) := ⟨rfl, rfl, rfl, by decide +kernel, rfl, by decide +kernel, by decide +kernel⟩
abbrev s_NoText___init__ : Stmt := inClass (topS 24) 0
theorem sc_NoText___init__ : FnScope ["self", "line"] ["self", "line"] (defScope s_NoText___init__) := ⟨rfl, rfl, rfl, by decide +kernel, rfl, by decide +kernel, by decide +kernel⟩
abbrev s__law_source : Stmt := topS 26
theorem sc__law_source : FnScope ["_law_script", "_law_great", "_law_seed", "_law_cell"] ["_law_script"] (defScope s__law_source) := ⟨rfl, rfl, rfl, by decide +kernel, rfl, by decide +kernel, by decide +kernel⟩
abbrev s__law_draw : Stmt := topS 27
theorem sc__law_draw : FnScope ["_law_source_here", "_law_many", "_law_great", "_law_worth_here", "_law_number"] ["_law_source_here", "_law_many"] (defScope s__law_draw) := ⟨rfl, rfl, rfl, by decide +kernel, rfl, by decide +kernel, by decide +kernel⟩
abbrev s__law_same : Stmt := topS 28
theorem sc__law_same : FnScope ["_law_one", "_law_two", "_law_k"] ["_law_one", "_law_two"] (defScope s__law_same) := ⟨rfl, rfl, rfl, by decide +kernel, rfl, by decide +kernel, by decide +kernel⟩
abbrev s__law_kinds : Stmt := topS 29
theorem sc__law_kinds : FnScope ["_law_e", "_law_kinds_here"] ["_law_e"] (defScope s__law_kinds) := ⟨rfl, rfl, rfl, by decide +kernel, rfl, by decide +kernel, by decide +kernel⟩
abbrev s__law_plain : Stmt := topS 30
theorem sc__law_plain : FnScope ["_law_which"] ["_law_which"] (defScope s__law_plain) := ⟨rfl, rfl, rfl, by decide +kernel, rfl, by decide +kernel, by decide +kernel⟩
abbrev s__law_raise : Stmt := topS 31
theorem sc__law_raise : FnScope ["_law_which", "_law_one", "_law_two"] ["_law_which", "_law_one", "_law_two"] (defScope s__law_raise) := ⟨rfl, rfl, rfl, by decide +kernel, rfl, by decide +kernel, by decide +kernel⟩
abbrev s__law_worth : Stmt := topS 32
theorem sc__law_worth : FnScope ["_law_source_here", "_law_number", "_law_kind"] ["_law_source_here"] (defScope s__law_worth) := ⟨rfl, rfl, rfl, by decide +kernel, rfl, by decide +kernel, by decide +kernel⟩
abbrev s__law_fields : Stmt := topS 33
theorem sc__law_fields : FnScope ["_law_which", "_law_one", "_law_two", "_law_caught", "_law_e"] ["_law_which", "_law_one", "_law_two"] (defScope s__law_fields) := ⟨rfl, rfl, rfl, by decide +kernel, rfl, by decide +kernel, by decide +kernel⟩
abbrev s__law_read_fields : Stmt := topS 34
theorem sc__law_read_fields : FnScope ["_law_which", "_law_e"] ["_law_which", "_law_e"] (defScope s__law_read_fields) := ⟨rfl, rfl, rfl, by decide +kernel, rfl, by decide +kernel, by decide +kernel⟩
abbrev s__law_holds : Stmt := topS 35
theorem sc__law_holds : FnScope ["_law_which", "_law_one", "_law_two", "_law_caught", "_law_fields_here", "_law_k"] ["_law_which", "_law_one", "_law_two"] (defScope s__law_holds) := ⟨rfl, rfl, rfl, by decide +kernel, rfl, by decide +kernel, by decide +kernel⟩
abbrev s_law : Stmt := topS 36
theorem sc_law : FnScope ["_law_script", "_law_source_here", "_law_first", "_law_second", "_law_one", "_law_two"] ["_law_script"] (defScope s_law) := ⟨rfl, rfl, rfl, by decide +kernel, rfl, by decide +kernel, by decide +kernel⟩
section
variable {P : Program} {w : World} {K : PySem.W.Frag} {mg : Str → Option Value} {base : Heap}
/-- the source of the drawn numbers -/
def SrcAt (H : Hp) (p g : Addr) (n : Nat) : Prop := ∃ (gs : List Int) (seed cnt : Int), H p = some (.lst [.ref g, .int seed, .int cnt]) ∧ H g = some (.lst (gs.map V.int)) ∧ gs.length ≤ 63 ∧ 0 ≤ seed ∧ seed < 2147483647 ∧ 0 ≤ cnt ∧ cnt ≤ n
theorem SrcAt.le {H : Hp} {p g : Addr} {n m : Nat} (h : SrcAt H p g n) (l : n ≤ m) : SrcAt H p g m := by
  obtain ⟨gs, seed, cnt, h1, h2, h3, h4, h5, h6, h7⟩ := h
  exact ⟨gs, seed, cnt, h1, h2, h3, h4, h5, h6, by omega⟩
theorem SrcAt.ne {H : Hp} {p g : Addr} {n : Nat} (h : SrcAt H p g n) : p ≠ g := by
  obtain ⟨gs, seed, cnt, h1, h2, _⟩ := h
  intro z
  subst z
  rw [h1] at h2
  cases gs with
  | nil => simp at h2
  | cons x r => simp at h2
/-- all but the source is as it was -/
def Off (p g : Addr) (H H' : Hp) : Prop := ∀ b o, H b = some o → b ≠ p → b ≠ g → H' b = some o
theorem Off.same {p g : Addr} {H H' : Hp} (s : Same H H') : Off p g H H' := fun b o h _ _ => s b o h
theorem Off.trans {p g : Addr} {H H1 H2 : Hp} (a : Off p g H H1) (b : Off p g H1 H2) : Off p g H H2 := fun x o h n m => b x o (a x o h n m) n m
def spSource (K : PySem.W.Frag) : Sp := fun vs H Q _ => ∃ (a : Addr) (ns : List Int), vs = [.ref a] ∧ SqL K H a (ns.map V.int) ∧ ns.length ≤ 63 ∧ ∀ p g H', Same H H' → H p = none → H g = none → SrcAt H' p g 0 → Q (.ref p) H'
theorem ok_law_source (B : Bl mg) (d : DefAt K mg "_law_source" s__law_source ["_law_script"]) : Cal P w K mg base 1 "_law_source" ["_law_script"] (spSource K) := d.cal fun f fd F => by
  refine F.ok sc__law_source (fun vs H Q E h => ?_) (fun cdv A outer s H vs Q E hr h => ?_)
  · obtain ⟨a, ns, rfl, _⟩ := h; rfl
  · obtain ⟨a, ns, rfl, hs, l63, q⟩ := h
    refine ⟨_, (pss_cons (ps_setLc (i := 1) (own := [("_law_cell", 3)]) rfl sc__law_source.nd rfl rfl (sw_true rfl rfl rfl (by decide +kernel)) (pi_list (pv 0)) (blkOk_by (N := ["_law_script", "_law_great", "_law_seed", "_law_cell"]) (sc := defScope s__law_source) (by decide +kernel)) (fun _ _ _ _ _ => (pg_name (i := 3) sc__law_source.nd rfl (Or.inl rfl))) (fun _ _ _ _ _ => (pts_one (pt_cmpR op_ge (pv 3) (pe_op op_pow pe_int pe_int) (nomark _)))) (fun _ _ _ _ _ => (pv 3)))
      (pss_cons (ps_set (i := 2) sc__law_source.nd rfl (Or.inl rfl) pe_int)
      (pss_cons (ps_for PassesOwn.never rfl (pi_list (pv 0)) (pg_name (i := 3) sc__law_source.nd rfl (Or.inl rfl)) (pss_one (ps_set (i := 2) sc__law_source.nd rfl (Or.inl rfl) (pe_op op_mod (pe_callTy call_int1 rfl B.int_ hb_int (pa_cons (pe_op op_add (pe_op op_add (pe_op op_mulW (pv 2) pe_int) (pe_op op_mod (pe_callTy call_int1 rfl B.int_ hb_int (pa_cons (pv 3) pa_nil)) pe_int)) pe_int) pa_nil)) pe_int))))
      (pss_one (ps_ret (pe_lst (pa_cons (pv 1) (pa_cons (pv 2) (pa_cons pe_int pa_nil))))))))), ?_⟩
    walk_at "st0"
    refine ⟨_, rfl, a, rfl, ⟨_, hs⟩, fun D nD => lc_it walk_list (fun i H2 => Same H H2 ∧ ∃ ys : List Int, H2 D = some (.lst (ys.map V.int)) ∧ ys.length ≤ i) ⟨same_new nD, [], upd_same, by simp⟩ (fun i H2 _ h => h.1.seq hs) ?_ ?_⟩
    · rintro i x H2 H3 lt ⟨s2, ys, e2, l2⟩ ⟨rfl, ex⟩
      obtain ⟨z, rfl⟩ : ∃ z, x = V.int z := by
        rw [List.getElem?_map] at ex
        cases e : ns[i]? with
        | none => rw [e] at ex; cases ex
        | some z => rw [e] at ex; exact ⟨z, (Option.some.inj ex).symm⟩
      refine q_gname ⟨rfl, ?_⟩
      walk_at "st"
      refine ⟨10, 18, rfl, rfl, ⟨by decide, by decide, by decide⟩, ?_⟩
      walk_at "st"
      rw [List.length_map] at lt
      refine q_if (fun hc => ?_) (fun hc => ?_)
      · walk_at "st"
        refine ⟨_, e2, by rw [List.length_map]; exact sz1000 (by omega), fun b o hb => ?_, ys ++ [z], by rw [List.map_append]; exact upd_same, by simp; omega⟩
        rw [upd_ne (ne_of_none hb nD)]; exact s2 _ _ hb
      · exact ⟨s2, ys, e2, by omega⟩
    rintro H2 ⟨s2, ys, e2, l2⟩
    rw [List.length_map] at l2
    walk_at "st"
    refine q_forV (ns.map V.int) (fun i σ H3 => H3 = H2 ∧ ∃ (seed : Int) (o : Option V), σ = [some (.ref a), some (.ref D), some (.int seed), o] ∧ 0 ≤ seed ∧ seed < 2147483647) rfl (s2.seq hs) ⟨rfl, _, _, rfl, by omega, by omega⟩ (fun i σ H3 _ h => by rw [h.1]; exact s2.seq hs) ?_ ?_
    · rintro i x σ H3 ex ⟨rfl, seed, o, rfl, b0, b1⟩
      obtain ⟨z, rfl⟩ : ∃ z, x = V.int z := by
        rw [List.getElem?_map] at ex
        cases e : ns[i]? with
        | none => rw [e] at ex; cases ex
        | some z => rw [e] at ex; exact ⟨z, (Option.some.inj ex).symm⟩
      refine q_gname ?_
      walk_at "st"
      refine ⟨_, _, rfl, rfl, wide_mul (a := 31) (b := 16) (by omega) (by omega) (by omega) (by omega) (by omega), ?_⟩
      walk_at "st"
      refine .inl ⟨_, rfl, ?_⟩
      walk_at "st"
      refine ⟨_, _, rfl, rfl, by omega, ?_⟩
      walk_at "st"
      refine .inl ⟨_, rfl, ?_⟩
      walk_at "st"
      refine ⟨_, _, rfl, rfl, by omega, ?_⟩
      exact ⟨rfl, _, _, rfl, Int.emod_nonneg _ (by omega), Int.emod_lt_of_pos _ (by omega)⟩
    · rintro σ H3 ⟨rfl, seed, o, rfl, b0, b1⟩
      walk_at "st"
      refine ⟨by show 3 ≤ sizeLine; decide, fun p np => ?_⟩
      have nDp : D ≠ p := ne_of_none e2 np
      exact q p D _ (s2.trans (same_new np)) (s2.free np) nD ⟨ys, seed, 0, upd_same, by rw [upd_ne nDp]; exact e2, by omega, b0, b1, by omega, by omega⟩
def rGetL (K : PySem.W.Frag) : V → V → Hp → VK → Prop := fun x y H Q => ∃ p xs i v, x = .ref p ∧ y = .int i ∧ 0 ≤ i ∧ SqL K H p xs ∧ atI xs i = some v ∧ Q v H
theorem get_list {X : Cx} : PGet X (rGetL X.K) := by
  intro pins s σ H x y v u Q I rx ry h
  obtain ⟨p, xs, i, z, rfl, rfl, h0, hq, he, q⟩ := h
  cases rx
  obtain ⟨t, rfl⟩ := ry
  obtain ⟨its, r, pl, hz⟩ := I.list hq
  obtain ⟨j, h1, h2, h3, h4, h5⟩ := atI_get he
  obtain ⟨w, ew, rw'⟩ := r.get h2
  have hl := r.length
  have hn := line63
  have hj : i.toNat = j := by
    rw [seqIndex_of h0 h5] at h1
    exact Option.some.inj h1
  exact wpAny_getItem_list pl.isList h0 (by omega) (by rw [hj]; simpa using ew) ⟨z, H, I, rw', q⟩
def spDraw (K : PySem.W.Frag) : Sp := fun vs H Q _ => ∃ (p g : Addr) (n : Nat) (many : Int), vs = [.ref p, .int many] ∧ SrcAt H p g n ∧ n ≤ 100000 ∧ 0 < many ∧ many < 30000000000000000000000000000000000000000000 ∧ ∀ r H', 0 ≤ r → r < many → SrcAt H' p g (n + 1) → Off p g H H' → Q (.int r) H'
theorem ok_law_draw (B : Bl mg) (d : DefAt K mg "_law_draw" s__law_draw ["_law_source_here", "_law_many"]) : Cal P w K mg base 1 "_law_draw" ["_law_source_here", "_law_many"] (spDraw K) := d.cal fun f fd F => by
  refine F.ok sc__law_draw (fun vs H Q E h => ?_) (fun cdv A outer s H vs Q E hr h => ?_)
  · obtain ⟨p, g, n, many, rfl, _⟩ := h; rfl
  · obtain ⟨p, g, n, many, rfl, S, hn, m0, m1, q⟩ := h
    refine ⟨_, (pss_cons (ps_set (i := 2) sc__law_draw.nd rfl (Or.inl rfl) (pe_ix ix_list (pv 0) pe_int (fun _ _ => rfl)))
      (pss_cons (ps_if (pt_cmpR op_gt (pe_callB call_len_seq rfl B.len hb_len (pa_cons (pv 2) pa_nil)) pe_int (nomark _)) (pss_cons (ps_set (i := 3) sc__law_draw.nd rfl (Or.inl rfl) (pe_op op_mod (pe_callTy call_int1 rfl B.int_ hb_int (pa_cons (pe_ix ix_list (pv 2) pe_int (fun _ _ => rfl)) pa_nil)) (pv 1)))
      (pss_cons (ps_asg (pe_op op_fdivW (pe_ix ix_list (pv 2) pe_int (fun _ _ => rfl)) (pv 1)) (pg_sub (pv 2) pe_int set_list))
      (pss_cons (ps_if (pt_cmpR op_eq (pe_ix ix_list (pv 2) pe_int (fun _ _ => rfl)) pe_int (nomark _)) (pss_one (ps_expr (pe_bm PySem.F.plainAttrs_list PySem.F.slot_list_pop PySem.F.type_list_pop mt_popAt (pv 2) (pa_cons pe_int pa_nil)))) pss_nil)
      (pss_one (ps_ret (pv 3)))))) pss_nil)
      (pss_cons (ps_augS (pv 0) pe_int T.get_list pe_int ip_add set_list)
      (pss_cons (ps_set (i := 4) sc__law_draw.nd rfl (Or.inl rfl) (pe_op op_mod (pe_callTy call_int1 rfl B.int_ hb_int (pa_cons (pe_op op_add (pe_op op_mulW (pe_op op_add (pe_ix ix_list (pv 0) pe_int (fun _ _ => rfl)) (pe_op op_mulW (pe_ix ix_list (pv 0) pe_int (fun _ _ => rfl)) pe_int)) pe_int) (pe_ix ix_list (pv 0) pe_int (fun _ _ => rfl))) pa_nil)) pe_int))
      (pss_cons (ps_set (i := 4) sc__law_draw.nd rfl (Or.inl rfl) (pe_op op_mod (pe_callTy call_int1 rfl B.int_ hb_int (pa_cons (pe_op op_add (pe_op op_mulW (pv 4) (pe_op op_add (pe_op op_fdivW (pv 4) pe_int) pe_int)) (pe_ix ix_list (pv 0) pe_int (fun _ _ => rfl))) pa_nil)) pe_int))
      (pss_cons (ps_set (i := 4) sc__law_draw.nd rfl (Or.inl rfl) (pe_op op_mod (pe_callTy call_int1 rfl B.int_ hb_int (pa_cons (pe_op op_add (pe_op op_mulW (pv 4) (pe_op op_add (pe_op op_fdivW (pv 4) pe_int) pe_int)) pe_int) pa_nil)) pe_int))
      (pss_one (ps_ret (pe_op op_mod (pe_callTy call_int1 rfl B.int_ hb_int (pa_cons (pe_op op_fdivW (pv 4) pe_int) pa_nil)) (pv 1)))))))))), ?_⟩
    walk_at "st0"
    have npg := S.ne
    obtain ⟨gs, seed, cnt, hp, hg, l63, b0, b1, c0, c1⟩ := S
    refine q_ixL (SqL.of hp) (atI0 rfl) ?_
    walk_at "st"
    refine ⟨g, _, rfl, .inl (SqL.of hg), ?_⟩
    walk_at "st"
    rw [List.length_map]
    cases gs with
    | cons g0 gr =>
      rw [decide_eq_true (by rw [List.length_cons]; omega)]
      refine iteT ?_
      walk_at "st"
      refine q_ixL (SqL.of hg) (atI0 rfl) ?_
      walk_at "st"
      refine .inl ⟨_, rfl, ?_⟩
      walk_at "st"
      refine ⟨_, _, rfl, rfl, m0, ?_⟩
      walk_at "st"
      refine q_ixL (SqL.of hg) (atI0 rfl) ?_
      walk_at "st"
      refine ⟨_, _, rfl, rfl, wide_div (b := 160) m0 (by omega) (by omega) (by omega), ?_⟩
      walk_at "st"
      refine q_setL (j := 0) hg (by simp [ixN]) ?_
      walk_at "st"
      have S1 : ∀ hs : List Int, hs.length ≤ 63 → ∀ H', H' = upd (upd H g (.lst (((g0 :: gr).map V.int).set 0 (.int (g0 / many))))) g (.lst (hs.map V.int)) → SrcAt H' p g (n + 1) ∧ Off p g H H' := fun hs lh H' e => by
        subst e
        refine ⟨⟨hs, seed, cnt, by rw [upd_ne npg, upd_ne npg]; exact hp, upd_same, lh, b0, b1, c0, by omega⟩, fun b o hb _ nb => by rw [upd_ne nb, upd_ne nb]; exact hb⟩
      refine q_ixL (SqL.of upd_same) (atI0 rfl) ?_
      walk_at "st"
      refine q_eq rfl ?_
      walk_at "st"
      refine q_if (fun hc => ?_) (fun hc => ?_)
      · refine ⟨_, rfl, .inl ⟨rfl, _, SqL.of upd_same⟩, ?_⟩
        walk_at "st"
        refine ⟨g, _, 0, 0, _, rfl, rfl, upd_same, by decide, by decide, by rw [PySem.seqIndex_of (by omega) (by simp)]; rfl, rfl, ?_⟩
        walk_at "st"
        obtain ⟨s1, o1⟩ := S1 gr (by rw [List.length_cons] at l63; omega) _ rfl
        exact q _ _ (Int.emod_nonneg _ (by omega)) (Int.emod_lt_of_pos _ m0) s1 o1
      · walk_at "st"
        refine q _ _ (Int.emod_nonneg _ (by omega)) (Int.emod_lt_of_pos _ m0) ⟨(g0 / many) :: gr, seed, cnt, by rw [upd_ne npg]; exact hp, upd_same, l63, b0, b1, c0, by omega⟩ fun b o hb _ nb => by rw [upd_ne nb]; exact hb
    | nil =>
      refine iteF ?_
      walk_at "st"
      refine ⟨_, rfl, ⟨p, _, 2, _, rfl, rfl, by omega, SqL.of hp, rfl, ?_⟩⟩
      refine ⟨cnt, 1, rfl, rfl, ?_⟩
      refine q_setL (j := 2) hp rfl ?_
      dsimp only [List.set_cons_zero, List.set_cons_succ]
      have off : Off p g H (upd H p (.lst [.ref g, .int seed, .int (cnt + 1)])) := fun b o hb nb _ => by rw [upd_ne nb]; exact hb
      have src : SrcAt (upd H p (.lst [.ref g, .int seed, .int (cnt + 1)])) p g (n + 1) := ⟨[], seed, cnt + 1, upd_same, by rw [upd_ne npg.symm]; exact hg, by simp, b0, b1, by omega, by omega⟩
      walk_at "st"
      refine q_ixL (SqL.of upd_same) (i := 1) rfl ?_
      walk_at "st"
      refine q_ixL (SqL.of upd_same) (i := 2) rfl ?_
      walk_at "st"
      refine ⟨_, _, rfl, rfl, wide_mul (a := 18) (b := 14) (by omega) (by omega) (by omega) (by omega) (by omega), ?_⟩
      walk_at "st"
      refine ⟨_, _, rfl, rfl, wide_mul (a := 34) (b := 16) (by omega) (by omega) (by omega) (by omega) (by omega), ?_⟩
      walk_at "st"
      refine q_ixL (SqL.of upd_same) (i := 2) rfl ?_
      walk_at "st"
      refine .inl ⟨_, rfl, ?_⟩
      walk_at "st"
      refine ⟨_, _, rfl, rfl, by omega, ?_⟩
      generalize hz1 : ((seed + (cnt + 1) * 7919) * 48271 + (cnt + 1)) % 2147483647 = z1
      have z1a : 0 ≤ z1 := by rw [← hz1]; exact Int.emod_nonneg _ (by omega)
      have z1b : z1 < 2147483647 := by rw [← hz1]; exact Int.emod_lt_of_pos _ (by omega)
      walk_at "st"
      refine ⟨_, _, rfl, rfl, wide_div (b := 10) (by omega) (by omega) (by omega) (by omega), ?_⟩
      walk_at "st"
      refine ⟨_, _, rfl, rfl, wide_mul (a := 31) (b := 32) (by omega) (by omega) (by omega) (by omega) (by omega), ?_⟩
      walk_at "st"
      refine q_ixL (SqL.of upd_same) (i := 2) rfl ?_
      walk_at "st"
      refine .inl ⟨_, rfl, ?_⟩
      walk_at "st"
      refine ⟨_, _, rfl, rfl, by omega, ?_⟩
      generalize hz2 : (z1 * (z1 / 1009 + 69621) + (cnt + 1)) % 2147483629 = z2
      have z2a : 0 ≤ z2 := by rw [← hz2]; exact Int.emod_nonneg _ (by omega)
      have z2b : z2 < 2147483629 := by rw [← hz2]; exact Int.emod_lt_of_pos _ (by omega)
      walk_at "st"
      refine ⟨_, _, rfl, rfl, wide_div (b := 11) (by omega) (by omega) (by omega) (by omega), ?_⟩
      walk_at "st"
      refine ⟨_, _, rfl, rfl, wide_mul (a := 31) (b := 32) (by omega) (by omega) (by omega) (by omega) (by omega), ?_⟩
      walk_at "st"
      refine .inl ⟨_, rfl, ?_⟩
      walk_at "st"
      refine ⟨_, _, rfl, rfl, by omega, ?_⟩
      generalize (z2 * (z2 / 2003 + 40692) + 5) % 2147483399 = z3
      walk_at "st"
      refine ⟨_, _, rfl, rfl, wide_div (b := 4) (by omega) (by omega) (by omega) (by omega), ?_⟩
      walk_at "st"
      refine .inl ⟨_, rfl, ?_⟩
      walk_at "st"
      refine ⟨_, _, rfl, rfl, m0, ?_⟩
      exact q _ _ (Int.emod_nonneg _ (by omega)) (Int.emod_lt_of_pos _ m0) src off
end
section
variable {P : Program} {w : World} {K : PySem.W.Frag} {mg : Str → Option Value} {base : Heap}
/-- the heap without the source -/
def offH (p g : Addr) (H : Hp) : Hp := fun b => if b = p ∨ b = g then none else H b
theorem offH_of {p g b : Addr} {H : Hp} {o : HO} (h : H b = some o) (n1 : b ≠ p) (n2 : b ≠ g) : offH p g H b = some o := by
  unfold offH; rw [if_neg (by simp [n1, n2])]; exact h
theorem offH_to {p g : Addr} {H : Hp} : Same (offH p g H) H := fun b o h => by
  unfold offH at h
  split at h
  · cases h
  · exact h
theorem offH_ne {p g b : Addr} {H : Hp} {o : HO} (h : offH p g H b = some o) : b ≠ p ∧ b ≠ g := by
  unfold offH at h
  split at h
  · cases h
  · rename_i n
    exact ⟨fun e => n (.inl e), fun e => n (.inr e)⟩
theorem Off.sameH {p g : Addr} {H H' : Hp} (s : Off p g H H') : Same (offH p g H) (offH p g H') := fun b o h => offH_of (s b o (offH_to _ _ h) (offH_ne h).1 (offH_ne h).2) (offH_ne h).1 (offH_ne h).2
theorem offH_upd {p g D : Addr} {H : Hp} {o : HO} (n1 : D ≠ p) (n2 : D ≠ g) : offH p g (upd H D o) = upd (offH p g H) D o := by
  funext b
  by_cases e : b = D
  · subst e
    rw [upd_same]
    exact offH_of upd_same n1 n2
  · rw [upd_ne e]
    unfold offH
    rw [upd_ne e]
theorem off_new {p g D : Addr} {H : Hp} {n : Nat} (S : SrcAt H p g n) (h : H D = none) : D ≠ p ∧ D ≠ g := by
  obtain ⟨gs, seed, cnt, h1, h2, _⟩ := S
  exact ⟨fun z => by (subst z; rw [h] at h1; cases h1), fun z => by (subst z; rw [h] at h2; cases h2)⟩
theorem SrcAt.same {p g : Addr} {H H' : Hp} {n : Nat} (S : SrcAt H p g n) (s : Same H H') : SrcAt H' p g n := by
  obtain ⟨gs, seed, cnt, h1, h2, r⟩ := S
  exact ⟨gs, seed, cnt, s _ _ h1, s _ _ h2, r⟩
theorem SrcAt.upd {p g D : Addr} {H : Hp} {n : Nat} {o : HO} (S : SrcAt H p g n) (n1 : D ≠ p) (n2 : D ≠ g) : SrcAt (upd H D o) p g n := by
  obtain ⟨gs, seed, cnt, h1, h2, r⟩ := S
  exact ⟨gs, seed, cnt, by rw [upd_ne n1.symm]; exact h1, by rw [upd_ne n2.symm]; exact h2, r⟩
theorem off_sqT {p g a : Addr} {H : Hp} {n : Nat} {xs : List V} (S : SrcAt H p g n) (h : SqT K H a xs) : SqT K (offH p g H) a xs := by
  obtain ⟨gs, seed, cnt, h1, h2, _⟩ := S
  rcases h with (h | ⟨o, h⟩) | h
  · exact .inl (.inl (offH_of h (fun z => by subst z; rw [h] at h1; cases h1) (fun z => by subst z; rw [h] at h2; cases h2)))
  · exact .inl (.inr ⟨o, offH_of h (fun z => by subst z; rw [h] at h1; cases h1) (fun z => by subst z; rw [h] at h2; cases h2)⟩)
  · exact .inr h
/-- what is new in H' -/
def diffH (H H' : Hp) : Hp := fun b => if H b = none then H' b else none
theorem diffH_of {H H' : Hp} {b : Addr} {o : HO} (h : H' b = some o) (n : H b = none) : diffH H H' b = some o := by unfold diffH; rw [if_pos n]; exact h
theorem diffH_to {H H' : Hp} : Same (diffH H H') H' := fun b o h => by
  unfold diffH at h
  split at h
  · exact h
  · cases h
theorem diffH_no {H H' : Hp} {b : Addr} {o : HO} (h : diffH H H' b = some o) : H b = none := by
  unfold diffH at h
  split at h
  · assumption
  · cases h
theorem diffH_left {H H1 H' : Hp} (s : Same H H1) : Same (diffH H1 H') (diffH H H') := fun b o h => diffH_of (diffH_to _ _ h) (s.free (diffH_no h))
theorem diffH_right {H H' H2 : Hp} (s : ∀ b o, H b = none → H' b = some o → H2 b = some o) : Same (diffH H H') (diffH H H2) := fun b o h => diffH_of (s _ _ (diffH_no h) (diffH_to _ _ h)) (diffH_no h)
theorem off_free {p g b : Addr} {H H' : Hp} (o : Off p g H H') (n1 : b ≠ p) (n2 : b ≠ g) (h : H' b = none) : H b = none := by
  cases e : H b with
  | none => rfl
  | some u => have z := o _ _ e n1 n2; rw [h] at z; cases z
def leaf : PyData → Prop | .none => True | .bool _ => True | .int _ => True | .str _ => True | _ => False
theorem leaf_any {H H' : Hp} {v : V} {d : PyData} (l : leaf d) (h : Dp K H v d) : Dp K H' v d := by
  cases h with
  | non => exact .non
  | bl b => exact .bl b
  | int i => exact .int i
  | str z => exact .str z
  | lst _ _ => exact l.elim
  | tup _ _ => exact l.elim
def depN : Nat → PyData → Prop
  | 0, _ => False
  | k + 1, d => leaf d ∨ ∃ ds, (d = .list ds ∨ d = .tuple ds) ∧ ds.length ≤ 1000 ∧ ∀ e ∈ ds, depN k e
end
/-- what the top has written of a def -/
structure DefF (K : PySem.W.Frag) (x qual : Str) (st : Stmt) (f : Addr) : Prop where
  ex : ∃ (oc : Value) (od : Option Addr) (kV doc pm : Value) (an : Option Addr) (cd ct : Value) (sl : Array (Option Value)), K.lookup f = some ⟨oc, od, .func (PySem.W.fnOf x qual (defArgs st) (defBody st) (defScope st) .none kV doc pm an cd ct), sl⟩ ∧ PySem.W.codeIn K cd qual = true
  kp : PySem.W.keepIn K (.ref f) = true
theorem DefF.mk' {K : PySem.W.Frag} {x qual : Str} {st : Stmt} {f : Addr} {oc : Value} {od : Option Addr} {kV doc pm : Value} {an : Option Addr} {cd ct : Value} {sl : Array (Option Value)} (l : K.lookup f = some ⟨oc, od, .func (PySem.W.fnOf x qual (defArgs st) (defBody st) (defScope st) .none kV doc pm an cd ct), sl⟩) (c : PySem.W.codeIn K cd qual = true) (k : PySem.W.keepIn K (.ref f) = true) : DefF K x qual st f := ⟨⟨oc, od, kV, doc, pm, an, cd, ct, sl, l, c⟩, k⟩
theorem DefF.fn {K : PySem.W.Frag} {x qual : Str} {st : Stmt} {f : Addr} (d : DefF K x qual st f) : ∃ fd, Fun K x qual st f fd := by
  obtain ⟨⟨oc, od, kV, doc, pm, an, cd, ct, sl, l, c⟩, k⟩ := d
  exact ⟨_, fun_mk l c k⟩
theorem DefF.at {K : PySem.W.Frag} {mg : Str → Option Value} {h : Heap} {x : Str} {st : Stmt} {f : Addr} {ps : List Str} (X : K.In h) (G : h.Ns mainGlobals mg) (a : PySem.W.nsIn K mainGlobals x = some (some (.ref f))) (d : DefF K x x st f)
    (b : ∀ fd, Fun K x x st f fd → Binds K fd ps []) : DefAt K mg x st ps := by
  obtain ⟨fd, F⟩ := d.fn
  exact ⟨f, fd, F, PySem.W.mg_of X G a, b fd F⟩
end T



namespace T
theorem iteT' {c : Bool} {A B : Prop} (h : c = true) (a : A) : if c = true then A else B := by rw [if_pos h]; exact a
theorem iteF' {c : Bool} {A B : Prop} (h : c = false) (b : B) : if c = true then A else B := by rw [h]; exact iteF b
local macro_rules | `(tactic| walk_at "sm") => `(tactic| (repeat (first | (walk_at "s1"; try dsimp only [List.set_cons_zero, List.set_cons_succ, List.append_nil, List.cons_append, List.nil_append, cxOf]) | ((with_reducible refine iteT' ?hh ?_); (case hh => rfl)) | ((with_reducible refine iteF' ?hh ?_); (case hh => rfl)) | with_reducible refine q_eq rfl ?_)))
section
variable {P : Program} {w : World} {K : PySem.W.Frag} {mg : Str → Option Value} {base : Heap}
def rIxA (K : PySem.W.Frag) : R2 := fun x y H Q => rIxL K x y H Q ∨ rIxT K x y H Q
theorem ix_any {X : Cx} : IxR X (rIxA X.K) := fun value slice pins s σ H x y v u Q I rx ry h e => h.elim (fun h => ix_list value slice pins s σ H x y v u Q I rx ry h e) (fun h => ix_tup value slice pins s σ H x y v u Q I rx ry h e)
def spSame (K : PySem.W.Frag) (k : Nat) : Sp := fun vs H Q _ => ∃ (v1 v2 : V) (d1 d2 : PyData), vs = [v1, v2] ∧ Dp K H v1 d1 ∧ Dp K H v2 d2 ∧ depN k d2 ∧ ∀ b : Bool, (b = true ↔ d1 = d2) → Q (.bl b) H
theorem bl_dec {x y : V} {b : Bool} (h : b = decide (x = y)) : b = true ↔ x = y := by subst h; exact decide_eq_true_iff
/-- a list or a tuple -/
def SqA (K : PySem.W.Frag) (H : Hp) (v : V) (xs : List V) : Prop := ∃ a, v = .ref a ∧ (SqL K H a xs ∨ SqT K H a xs)
theorem q_lenA {K : PySem.W.Frag} {H : Hp} {Q : VK} {v : V} {xs : List V} (h : SqA K H v xs) (q : Q (.int xs.length) H) : ∃ p ys, [v] = [V.ref p] ∧ (SqL K H p ys ∨ SqT K H p ys) ∧ Q (.int ys.length) H := by
  obtain ⟨a, rfl, h⟩ := h
  exact ⟨a, xs, rfl, h, q⟩
theorem q_lenR {K : PySem.W.Frag} {H : Hp} {F : List V → Prop} {r : Addr} {xs : List V} (h : SqL K H r xs ∨ SqT K H r xs) (q : F xs) : ∃ p ys, [V.ref r] = [V.ref p] ∧ (SqL K H p ys ∨ SqT K H p ys) ∧ F ys := ⟨r, xs, rfl, h, q⟩
theorem q_ixA {K : PySem.W.Frag} {H : Hp} {Q : VK} {v z : V} {xs : List V} {i : Int} (h : SqA K H v xs) (e : atI xs i = some z) (q : Q z H) : rIxA K v (.int i) H Q := by
  obtain ⟨a, rfl, h | h⟩ := h
  · exact .inl ⟨a, xs, i, z, rfl, rfl, h, e, q⟩
  · exact .inr ⟨a, xs, i, z, rfl, rfl, h, e, q⟩
/-- behind the kinds: the lengths, the items -/
theorem take_eq {α : Type} {a b : List α} (l : a.length = b.length) : a = b ↔ ∀ i, i < b.length → a[i]? = b[i]? := by
  constructor
  · rintro rfl i _; rfl
  · intro h
    refine List.ext_getElem? fun i => ?_
    by_cases c : i < b.length
    · exact h i c
    · rw [List.getElem?_eq_none (by omega), List.getElem?_eq_none (by omega)]
theorem ok_law_same (B : Bl mg) (d : DefAt K mg "_law_same" s__law_same ["_law_one", "_law_two"]) : ∀ k, Cal P w K mg base k "_law_same" ["_law_one", "_law_two"] (spSame K k)
  | 0 => by
    obtain ⟨f, fd, F, g, b⟩ := d.ex
    exact ⟨f, fd, g, F.kp, b, ⟨fun vs H Q E h => by obtain ⟨v, _, d, _, _, _, _, h, _⟩ := h; exact h.elim, fun A outer s H args us vs Q E _ _ _ _ h => by obtain ⟨v, _, d, _, _, _, _, h, _⟩ := h; exact h.elim⟩⟩
  | k + 1 => by
    have c__law_same := ok_law_same B d k
    refine d.cal fun f fd F => ?_
    refine F.ok sc__law_same (fun vs H Q E h => ?_) (fun cdv A outer s H vs Q E hr h => ?_)
    · obtain ⟨v1, v2, d1, d2, rfl, _⟩ := h; rfl
    · obtain ⟨v1, v2, d1, d2, rfl, h1, h2, hk, q⟩ := h
      refine ⟨_, (pss_cons (ps_if (PW.pt (pw_or (pt_val (pe_callB call_isi rfl B.isinstance hb_isinstance (pa_cons (pv 0) (pa_cons (pe_bltn (v := .ty "bool") rfl B.bool_ hb_bool rfl) pa_nil)))) (pw_or1 (pt_val (pe_callB call_isi rfl B.isinstance hb_isinstance (pa_cons (pv 1) (pa_cons (pe_bltn (v := .ty "bool") rfl B.bool_ hb_bool rfl) pa_nil))))))) (pss_one (ps_ret (pe_and (pe_callB call_isi rfl B.isinstance hb_isinstance (pa_cons (pv 0) (pa_cons (pe_bltn (v := .ty "bool") rfl B.bool_ hb_bool rfl) pa_nil))) (pe_and (pe_callB call_isi rfl B.isinstance hb_isinstance (pa_cons (pv 1) (pa_cons (pe_bltn (v := .ty "bool") rfl B.bool_ hb_bool rfl) pa_nil))) (pe_one (pe_cmpR op_eq (pv 0) (pv 1) (nomark _))))))) pss_nil)
      (pss_cons (ps_if (pt_cmp (pc_isN (pv 1))) (pss_one (ps_ret (pe_cmp (pc_isN (pv 0))))) pss_nil)
      (pss_cons (ps_if (pt_val (pe_callB call_isi rfl B.isinstance hb_isinstance (pa_cons (pv 1) (pa_cons (pe_bltn (v := .ty "int") rfl B.int_ hb_int rfl) pa_nil)))) (pss_one (ps_ret (pe_and (pe_callB call_isi rfl B.isinstance hb_isinstance (pa_cons (pv 0) (pa_cons (pe_bltn (v := .ty "int") rfl B.int_ hb_int rfl) pa_nil))) (pe_one (pe_cmpR op_eq (pv 0) (pv 1) (nomark _)))))) pss_nil)
      (pss_cons (ps_if (pt_val (pe_callB call_isi rfl B.isinstance hb_isinstance (pa_cons (pv 1) (pa_cons (pe_bltn (v := .ty "str") rfl B.str_ hb_str rfl) pa_nil)))) (pss_one (ps_ret (pe_and (pe_callB call_isi rfl B.isinstance hb_isinstance (pa_cons (pv 0) (pa_cons (pe_bltn (v := .ty "str") rfl B.str_ hb_str rfl) pa_nil))) (pe_one (pe_cmpR op_eq (pv 0) (pv 1) (nomark _)))))) pss_nil)
      (pss_cons (ps_if (PW.pt (pw_and (pt_val (pe_callB call_isi rfl B.isinstance hb_isinstance (pa_cons (pv 1) (pa_cons (pe_bltn (v := .ty "list") rfl B.list_ hb_list rfl) pa_nil)))) (pw_and1 (pt_not (pt_val (pe_callB call_isi rfl B.isinstance hb_isinstance (pa_cons (pv 0) (pa_cons (pe_bltn (v := .ty "list") rfl B.list_ hb_list rfl) pa_nil)))))))) (pss_one (ps_ret pe_bl)) pss_nil)
      (pss_cons (ps_if (PW.pt (pw_and (pt_val (pe_callB call_isi rfl B.isinstance hb_isinstance (pa_cons (pv 1) (pa_cons (pe_bltn (v := .ty "tuple") rfl B.tuple_ hb_tuple rfl) pa_nil)))) (pw_and1 (pt_not (pt_val (pe_callB call_isi rfl B.isinstance hb_isinstance (pa_cons (pv 0) (pa_cons (pe_bltn (v := .ty "tuple") rfl B.tuple_ hb_tuple rfl) pa_nil)))))))) (pss_one (ps_ret pe_bl)) pss_nil)
      (pss_cons (ps_if (pt_cmpR op_ne (pe_callB call_len_seq rfl B.len hb_len (pa_cons (pv 0) pa_nil)) (pe_callB call_len_seq rfl B.len hb_len (pa_cons (pv 1) pa_nil)) (nomark _)) (pss_one (ps_ret pe_bl)) pss_nil)
      (pss_cons (ps_for PassesOwn.never rfl (pi_range1 rfl B.range (pa_cons (pe_callB call_len_seq rfl B.len hb_len (pa_cons (pv 1) pa_nil)) pa_nil)) (pg_name (i := 2) sc__law_same.nd rfl (Or.inl rfl)) (pss_one (ps_if (pt_not (pt_val (pe_cal c__law_same (hr.mono (by omega)) rfl (pa_cons (pe_ix ix_any (pv 0) (pv 2) (fun _ _ => rfl)) (pa_cons (pe_ix ix_any (pv 1) (pv 2) (fun _ _ => rfl)) pa_nil))))) (pss_one (ps_ret pe_bl)) pss_nil)))
      (pss_one (ps_ret pe_bl)))))))))), ?_⟩
      walk_at "st0"
      have a1 := h1
      have a2 := h2
      cases h2 with
      | non => cases h1 <;> (walk_at "sm"; exact q _ (by simp))
      | bl b => cases h1 <;> (walk_at "sm"; exact q _ (by simp))
      | int b => cases h1 <;> (walk_at "sm"; exact q _ (by simp))
      | str b => cases h1 <;> (walk_at "sm"; exact q _ (by simp))
      | @lst p ys es hs2 ha2 =>
        cases h1 with
        | @lst r xs ds hs1 ha1 =>
          walk_at "sm"
          have la := ha1.length
          have lb := ha2.length
          have few : es.length ≤ 1000 ∧ ∀ e ∈ es, depN k e := by
            rcases hk with h | ⟨ds', e, l, hall⟩
            · exact h.elim
            · rcases e with e | e
              all_goals first | (cases e; done) | (cases e; exact ⟨l, hall⟩)
          obtain ⟨l1000, hall⟩ := few
          refine q_lenR (.inl hs1) ?_
          walk_at "st"
          refine q_lenR (.inl hs2) ?_
          walk_at "st"
          refine q_ne rfl ?_
          walk_at "st"
          by_cases hc : xs.length = ys.length
          · have e0 : (V.int (xs.length : Int)) = V.int (ys.length : Int) := by rw [hc]
            rw [decide_eq_true e0]
            refine iteF ?_
            walk_at "st"
            refine q_forRA ?_
            walk_at "st"
            refine q_lenR (.inl hs2) ?_
            walk_at "st"
            refine ⟨_, rfl, by omega, by omega, forR (fun i σ H2 => ∃ o, σ = [some (.ref r), some (.ref p), o] ∧ H2 = H ∧ ∀ j, j < i → ds[j]? = es[j]?) ⟨_, rfl, rfl, fun j h => absurd h (Nat.not_lt_zero j)⟩ (fun i σ H2 lt hI => ?_) (fun σ H2 hI => ?_)⟩
            · obtain ⟨o, rfl, rfl, hj⟩ := hI
              replace lt : i < ys.length := by simpa using lt
              have ex : xs[i]? = some (xs[i]'(by omega)) := List.getElem?_eq_getElem (by omega)
              have ey : ys[i]? = some (ys[i]'(by omega)) := List.getElem?_eq_getElem (by omega)
              generalize xs[i]'(by omega) = x at ex
              generalize ys[i]'(by omega) = y at ey
              obtain ⟨dx, edx, hx⟩ := ha1.get' ex
              obtain ⟨dy, edy, hy⟩ := ha2.get' ey
              have ax : atI xs ((0 : Int) + (i : Int)) = some x := by rw [Int.zero_add]; exact atI_nat ex
              have ay : atI ys ((0 : Int) + (i : Int)) = some y := by rw [Int.zero_add]; exact atI_nat ey
              refine q_gname ?_
              walk_at "st"
              refine q_ixA (xs := xs) ⟨r, rfl, .inl hs1⟩ ax ?_
              walk_at "st"
              refine q_ixA (xs := ys) ⟨p, rfl, .inl hs2⟩ ay ?_
              walk_at "st"
              refine ⟨x, y, dx, dy, rfl, hx, hy, hall dy (List.mem_of_getElem? edy), fun b hb => ?_⟩
              walk_at "st"
              cases b with
              | true =>
                refine iteF ?_
                walk_at "st"
                refine ⟨_, rfl, rfl, fun j hj2 => ?_⟩
                rcases Nat.lt_or_ge j i with h | h
                · exact hj j h
                · have : j = i := by omega
                  subst this
                  rw [edx, edy, hb.mp rfl]
              | false =>
                refine iteT ?_
                walk_at "st"
                refine q _ ⟨(fun z => Bool.noConfusion z), fun z => ?_⟩
                cases z
                rw [edx] at edy
                cases edy
                exact absurd (hb.mpr rfl) (by simp)
            · obtain ⟨o, rfl, rfl, hj⟩ := hI
              walk_at "st"
              refine q _ ⟨fun _ => ?_, fun _ => rfl⟩
              have : ds = es := (take_eq (by omega)).mpr fun i hi => hj i (by simp; omega)
              rw [this]
          · have e0 : ¬ (V.int (xs.length : Int)) = V.int (ys.length : Int) := fun z => hc (by have := V.int.inj z; omega)
            rw [decide_eq_false e0]
            refine iteT ?_
            walk_at "st"
            exact q _ ⟨(fun z => Bool.noConfusion z), fun z => by cases z; omega⟩
        | _ => walk_at "sm"; exact q _ (by simp)
      | @tup p ys es hs2 ha2 =>
        cases h1 with
        | @tup r xs ds hs1 ha1 =>
          walk_at "sm"
          have la := ha1.length
          have lb := ha2.length
          have few : es.length ≤ 1000 ∧ ∀ e ∈ es, depN k e := by
            rcases hk with h | ⟨ds', e, l, hall⟩
            · exact h.elim
            · rcases e with e | e
              all_goals first | (cases e; done) | (cases e; exact ⟨l, hall⟩)
          obtain ⟨l1000, hall⟩ := few
          refine q_lenR (.inr hs1) ?_
          walk_at "st"
          refine q_lenR (.inr hs2) ?_
          walk_at "st"
          refine q_ne rfl ?_
          walk_at "st"
          by_cases hc : xs.length = ys.length
          · have e0 : (V.int (xs.length : Int)) = V.int (ys.length : Int) := by rw [hc]
            rw [decide_eq_true e0]
            refine iteF ?_
            walk_at "st"
            refine q_forRA ?_
            walk_at "st"
            refine q_lenR (.inr hs2) ?_
            walk_at "st"
            refine ⟨_, rfl, by omega, by omega, forR (fun i σ H2 => ∃ o, σ = [some (.ref r), some (.ref p), o] ∧ H2 = H ∧ ∀ j, j < i → ds[j]? = es[j]?) ⟨_, rfl, rfl, fun j h => absurd h (Nat.not_lt_zero j)⟩ (fun i σ H2 lt hI => ?_) (fun σ H2 hI => ?_)⟩
            · obtain ⟨o, rfl, rfl, hj⟩ := hI
              replace lt : i < ys.length := by simpa using lt
              have ex : xs[i]? = some (xs[i]'(by omega)) := List.getElem?_eq_getElem (by omega)
              have ey : ys[i]? = some (ys[i]'(by omega)) := List.getElem?_eq_getElem (by omega)
              generalize xs[i]'(by omega) = x at ex
              generalize ys[i]'(by omega) = y at ey
              obtain ⟨dx, edx, hx⟩ := ha1.get' ex
              obtain ⟨dy, edy, hy⟩ := ha2.get' ey
              have ax : atI xs ((0 : Int) + (i : Int)) = some x := by rw [Int.zero_add]; exact atI_nat ex
              have ay : atI ys ((0 : Int) + (i : Int)) = some y := by rw [Int.zero_add]; exact atI_nat ey
              refine q_gname ?_
              walk_at "st"
              refine q_ixA (xs := xs) ⟨r, rfl, .inr hs1⟩ ax ?_
              walk_at "st"
              refine q_ixA (xs := ys) ⟨p, rfl, .inr hs2⟩ ay ?_
              walk_at "st"
              refine ⟨x, y, dx, dy, rfl, hx, hy, hall dy (List.mem_of_getElem? edy), fun b hb => ?_⟩
              walk_at "st"
              cases b with
              | true =>
                refine iteF ?_
                walk_at "st"
                refine ⟨_, rfl, rfl, fun j hj2 => ?_⟩
                rcases Nat.lt_or_ge j i with h | h
                · exact hj j h
                · have : j = i := by omega
                  subst this
                  rw [edx, edy, hb.mp rfl]
              | false =>
                refine iteT ?_
                walk_at "st"
                refine q _ ⟨(fun z => Bool.noConfusion z), fun z => ?_⟩
                cases z
                rw [edx] at edy
                cases edy
                exact absurd (hb.mpr rfl) (by simp)
            · obtain ⟨o, rfl, rfl, hj⟩ := hI
              walk_at "st"
              refine q _ ⟨fun _ => ?_, fun _ => rfl⟩
              have : ds = es := (take_eq (by omega)).mpr fun i hi => hj i (by simp; omega)
              rw [this]
          · have e0 : ¬ (V.int (xs.length : Int)) = V.int (ys.length : Int) := fun z => hc (by have := V.int.inj z; omega)
            rw [decide_eq_false e0]
            refine iteT ?_
            walk_at "st"
            exact q _ ⟨(fun z => Bool.noConfusion z), fun z => by cases z; omega⟩
        | _ => walk_at "sm"; exact q _ (by simp)
end
end T



namespace T
section
variable {P : Program} {w : World} {K : PySem.W.Frag} {mg : Str → Option Value} {base : Heap}
def spWorth (K : PySem.W.Frag) : Sp := fun vs H Q _ => ∃ (p g : Addr) (n : Nat), vs = [.ref p] ∧ SrcAt H p g n ∧ n ≤ 90000 ∧ ∀ v d H', Off p g H H' → SrcAt H' p g (n + 2) → Dp K (offH p g H') v d → depN 4 d → Q v H'
theorem q_eqI {i j : Int} {Q : VK} {H : Hp} (q : Q (.bl (decide (i = j))) H) : rEq (.int i) (.int j) H Q := ⟨rfl, by
  have e : decide (V.int i = V.int j) = decide (i = j) := decide_eq_decide.mpr ⟨fun h => V.int.inj h, fun h => by rw [h]⟩
  rw [e]; exact q⟩
theorem ok_law_worth (B : Bl mg) (d : DefAt K mg "_law_worth" s__law_worth ["_law_source_here"]) (c__law_draw : Cal P w K mg base 1 "_law_draw" ["_law_source_here", "_law_many"] (spDraw K)) : Cal P w K mg base 2 "_law_worth" ["_law_source_here"] (spWorth K) := d.cal fun f fd F => by
  refine F.ok sc__law_worth (fun vs H Q E h => ?_) (fun cdv A outer s H vs Q E hr h => ?_)
  · obtain ⟨p, g, n, rfl, _⟩ := h; rfl
  · obtain ⟨p, g, n, rfl, S, hn, q⟩ := h
    refine ⟨_, (pss_cons (ps_set (i := 1) sc__law_worth.nd rfl (Or.inl rfl) (pe_op op_sub (pe_cal c__law_draw (hr.mono (by omega)) rfl (pa_cons (pv 0) (pa_cons (pe_op op_add (pe_op op_mulW pe_int (pe_op op_pow pe_int pe_int)) pe_int) pa_nil))) (pe_op op_pow pe_int pe_int)))
      (pss_cons (ps_set (i := 2) sc__law_worth.nd rfl (Or.inl rfl) (pe_cal c__law_draw (hr.mono (by omega)) rfl (pa_cons (pv 0) (pa_cons pe_int pa_nil))))
      (pss_cons (ps_if (pt_cmpR op_eq (pv 2) pe_int (nomark _)) (pss_one (ps_ret (pe_callTy call_str_int rfl B.str_ hb_str (pa_cons (pv 1) pa_nil)))) pss_nil)
      (pss_cons (ps_if (pt_cmpR op_eq (pv 2) pe_int (nomark _)) (pss_one (ps_ret pe_non)) pss_nil)
      (pss_cons (ps_if (pt_cmpR op_eq (pv 2) pe_int (nomark _)) (pss_one (ps_ret pe_bl)) pss_nil)
      (pss_cons (ps_if (pt_cmpR op_eq (pv 2) pe_int (nomark _)) (pss_one (ps_ret (pe_lst (pa_cons (pv 1) (pa_cons (pe_lst (pa_cons (pe_op op_add (pv 1) pe_int) pa_nil)) pa_nil))))) pss_nil)
      (pss_cons (ps_if (pt_cmpR op_eq (pv 2) pe_int (nomark _)) (pss_one (ps_ret (pe_tup (pa_cons (pv 1) (pa_cons pe_str pa_nil))))) pss_nil)
      (pss_one (ps_ret (pv 1)))))))))), ?_⟩
    walk_at "st0"
    refine ⟨10, 40, rfl, rfl, ⟨by decide, by decide, by decide⟩, ?_⟩
    have e40 : (10 : Int) ^ (Int.toNat 40) = 10000000000000000000000000000000000000000 := by decide +kernel
    dsimp only
    rw [e40]
    refine ⟨_, _, rfl, rfl, wide_mul (a := 4) (b := 160) (by omega) (by omega) (by omega) (by omega) (by omega), ?_⟩
    walk_at "st"
    refine ⟨p, g, n, _, rfl, S, by omega, by omega, by omega, fun r H1 r0 r1 S1 o1 => ?_⟩
    walk_at "st"
    refine ⟨10, 40, rfl, rfl, ⟨by decide, by decide, by decide⟩, ?_⟩
    dsimp only
    rw [e40]
    walk_at "st"
    refine ⟨p, g, n + 1, _, rfl, S1, by omega, by omega, by omega, fun k H2 k0 k1 S2 o2 => ?_⟩
    have o12 := o1.trans o2
    have lb : (r - 10000000000000000000000000000000000000000).natAbs.log2 < 1920 := by
      have : (r - 10000000000000000000000000000000000000000).natAbs < 2 ^ 160 := by omega
      by_cases z : (r - 10000000000000000000000000000000000000000).natAbs = 0
      · rw [z]; decide
      · have := (Nat.log2_lt z).mpr this
        omega
    generalize r - 10000000000000000000000000000000000000000 = m at *
    have leafD : ∀ d, leaf d → depN 4 d := fun d h => .inl h
    walk_at "st"
    refine q_eqI ?_
    walk_at "st"
    refine q_if (fun hc => ?_) (fun hc => ?_)
    · walk_at "st"
      exact ⟨_, rfl, lb, q _ _ _ o12 S2 (.str _) (leafD _ trivial)⟩
    walk_at "st"
    refine q_eqI ?_
    walk_at "st"
    refine q_if (fun hc => ?_) (fun hc => ?_)
    · walk_at "st"
      exact q _ _ _ o12 S2 .non (leafD _ trivial)
    walk_at "st"
    refine q_eqI ?_
    walk_at "st"
    refine q_if (fun hc => ?_) (fun hc => ?_)
    · walk_at "st"
      exact q _ _ _ o12 S2 (.bl _) (leafD _ trivial)
    walk_at "st"
    refine q_eqI ?_
    walk_at "st"
    refine q_if (fun hc => ?_) (fun hc => ?_)
    · walk_at "st"
      refine ⟨by show 1 ≤ sizeLine; decide, fun a na => ?_⟩
      walk_at "st"
      refine ⟨by show 2 ≤ sizeLine; decide, fun b nb => ?_⟩
      obtain ⟨a1, a2⟩ := off_new S2 na
      have S3 := S2.upd (o := .lst [.int (m + 1)]) a1 a2
      obtain ⟨b1, b2⟩ := off_new S3 nb
      refine q _ (.list [.int m, .list [.int (m + 1)]]) _ (o12.trans (Off.same ((same_new na).trans (same_new nb)))) (S3.upd b1 b2) ?_ ?_
      · have ab : a ≠ b := ne_of_none upd_same nb
        exact .lst (SqL.of (offH_of upd_same b1 b2)) (.cons (.int _) (.cons (.lst (SqL.of (offH_of (by rw [upd_ne ab]; exact upd_same) a1 a2)) (.cons (.int _) .nil)) .nil))
      · exact .inr ⟨_, .inl rfl, by simp, by
          intro e he
          simp only [List.mem_cons, List.not_mem_nil, or_false] at he
          rcases he with rfl | rfl
          · exact .inl trivial
          · exact .inr ⟨_, .inl rfl, by simp, by intro e he; simp only [List.mem_cons, List.not_mem_nil, or_false] at he; subst he; exact .inl trivial⟩⟩
    walk_at "st"
    refine q_eqI ?_
    walk_at "st"
    refine q_if (fun hc => ?_) (fun hc => ?_)
    · walk_at "st"
      refine ⟨by show 2 ≤ sizeLine; decide, fun b nb => ?_⟩
      obtain ⟨b1, b2⟩ := off_new S2 nb
      refine q _ (.tuple [.int m, .str "tasks"]) _ (o12.trans (Off.same (same_new nb))) (S2.upd b1 b2) ?_ ?_
      · exact .tup (SqT.of (offH_of upd_same b1 b2)) (.cons (.int _) (.cons (.str _) .nil))
      · exact .inr ⟨_, .inr rfl, by simp, by
          intro e he
          simp only [List.mem_cons, List.not_mem_nil, or_false] at he
          rcases he with rfl | rfl <;> exact .inl trivial⟩
    walk_at "st"
    exact q _ _ _ o12 S2 (.int _) (leafD _ trivial)
end
end T



namespace T
section
variable {P : Program} {w : World} {K : PySem.W.Frag} {mg : Str → Option Value} {base : Heap}
abbrev veB : List Value := [.type "ValueError", .type "Exception", .type "BaseException", .type "object"]
/-- the error classes, c i the one of the number i -/
structure ES (K : PySem.W.Frag) (mg : Str → Option Value) (KE : Addr) (c : Nat → Addr) : Prop where
  e0 : ECls K mg KE "NoTask" (c 0)
  e1 : ECls K mg KE "NoTasks" (c 1)
  e2 : ECls K mg KE "NoLetter" (c 2)
  e3 : ECls K mg KE "NoCall" (c 3)
  e4 : ECls K mg KE "NoMost" (c 4)
  e5 : ECls K mg KE "NoWatch" (c 5)
  e6 : ECls K mg KE "NoOnes" (c 6)
  e7 : ECls K mg KE "NoEyes" (c 7)
  e8 : ECls K mg KE "NoCures" (c 8)
  e9 : ECls K mg KE "NoBack" (c 9)
  e10 : ECls K mg KE "NoTick" (c 10)
  e11 : ECls K mg KE "NoLetters" (c 11)
  e12 : ECls K mg KE "NoTicks" (c 12)
  e13 : ECls K mg KE "NoWhich" (c 13)
  e14 : ECls K mg KE "NoLong" (c 14)
  e15 : ECls K mg KE "NoImage" (c 15)
  e16 : ECls K mg KE "NoDoors" (c 16)
  e17 : ECls K mg KE "NoBuild" (c 17)
  e18 : ECls K mg KE "NoActs" (c 18)
  e19 : ECls K mg KE "NoRows" (c 19)
  e20 : ECls K mg KE "NoProgram" (c 20)
  e21 : ECls K mg KE "TooMany" (c 21)
  e22 : ECls K mg KE "NoText" (c 22)
  inj : ∀ i j, i < 23 → j < 23 → c i = c j → i = j
  ne : ∀ i, i < 23 → c i ≠ KE
  hn : PySem.W.specialIn K (.builtin "object.__class__") "__get__" = some (some (.builtin "getset_descriptor.__get__"))
  ht : PySem.W.takesIn K (.builtin "object.__class__") = some true
  kg : mg "KernelError" = some (.ref KE)
  ks : PySem.W.subIn K (.ref KE) (.type "BaseException") = some true
  kd : PySem.W.hasDictIn K KE = true
  kt : PySem.W.typeIn K (.ref KE) = some (.type "type")
  ve : mg "ValueError" = none
  x0 : PySem.W.excIn K (c 0) veB "ValueError.__new__" = true
  x1 : PySem.W.excIn K (c 1) veB "ValueError.__new__" = true
  x2 : PySem.W.excIn K (c 2) veB "ValueError.__new__" = true
  x3 : PySem.W.excIn K (c 3) veB "ValueError.__new__" = true
  x4 : PySem.W.excIn K (c 4) veB "ValueError.__new__" = true
  x5 : PySem.W.excIn K (c 5) veB "ValueError.__new__" = true
  x6 : PySem.W.excIn K (c 6) veB "ValueError.__new__" = true
  x7 : PySem.W.excIn K (c 7) veB "ValueError.__new__" = true
  x8 : PySem.W.excIn K (c 8) veB "ValueError.__new__" = true
  x9 : PySem.W.excIn K (c 9) veB "ValueError.__new__" = true
  x10 : PySem.W.excIn K (c 10) veB "ValueError.__new__" = true
  x11 : PySem.W.excIn K (c 11) veB "ValueError.__new__" = true
  x12 : PySem.W.excIn K (c 12) veB "ValueError.__new__" = true
  x13 : PySem.W.excIn K (c 13) veB "ValueError.__new__" = true
  x14 : PySem.W.excIn K (c 14) veB "ValueError.__new__" = true
  x15 : PySem.W.excIn K (c 15) veB "ValueError.__new__" = true
  x16 : PySem.W.excIn K (c 16) veB "ValueError.__new__" = true
theorem ES.all {KE : Addr} {c : Nat → Addr} (S : ES K mg KE c) : ∀ i, i < 23 → ∃ x, ECls K mg KE x (c i)
  | 0, _ => ⟨_, S.e0⟩
  | 1, _ => ⟨_, S.e1⟩
  | 2, _ => ⟨_, S.e2⟩
  | 3, _ => ⟨_, S.e3⟩
  | 4, _ => ⟨_, S.e4⟩
  | 5, _ => ⟨_, S.e5⟩
  | 6, _ => ⟨_, S.e6⟩
  | 7, _ => ⟨_, S.e7⟩
  | 8, _ => ⟨_, S.e8⟩
  | 9, _ => ⟨_, S.e9⟩
  | 10, _ => ⟨_, S.e10⟩
  | 11, _ => ⟨_, S.e11⟩
  | 12, _ => ⟨_, S.e12⟩
  | 13, _ => ⟨_, S.e13⟩
  | 14, _ => ⟨_, S.e14⟩
  | 15, _ => ⟨_, S.e15⟩
  | 16, _ => ⟨_, S.e16⟩
  | 17, _ => ⟨_, S.e17⟩
  | 18, _ => ⟨_, S.e18⟩
  | 19, _ => ⟨_, S.e19⟩
  | 20, _ => ⟨_, S.e20⟩
  | 21, _ => ⟨_, S.e21⟩
  | 22, _ => ⟨_, S.e22⟩
  | i + 23, h => absurd h (by omega)
theorem ES.kit {KE : Addr} {c : Nat → Addr} (S : ES K mg KE c) {i j : Nat} (hi : i < 23) (hj : j < 23) : PySem.W.kitOne K (.ref (c i)) (.ref (c j)) = some (decide (j = i)) := by
  obtain ⟨x, E⟩ := S.all i hi
  obtain ⟨y, E2⟩ := S.all j hj
  rw [E.kit E2 (S.ne j hj)]
  congr 1
  exact decide_eq_decide.mpr ⟨fun h => (S.inj _ _ hi hj h).symm, fun h => by rw [h]⟩
theorem ES.kitV {KE : Addr} {c : Nat → Addr} (S : ES K mg KE c) {i : Nat} (hi : i < 23) : PySem.W.kitOne K (.ref (c i)) (.type "ValueError") = some true := by
  obtain ⟨x, E⟩ := S.all i hi
  exact E.kitVE
theorem ES.exc {KE : Addr} {c : Nat → Addr} (S : ES K mg KE c) {i : Nat} (hi : i < 23) : L2.ExcC K (c i) := by
  obtain ⟨x, E⟩ := S.all i hi
  exact E.exc S.hn S.ht
theorem ES.exm {KE : Addr} {c : Nat → Addr} (S : ES K mg KE c) {i : Nat} (hi : i < 23) : PySem.W.exmOne K (.ref (c i)) (.ref KE) = some true := by
  obtain ⟨x, E⟩ := S.all i hi
  exact E.exm S.ks S.kd S.kt
theorem _root_.Hk.XdAt.mono {H H' : Hp} {d : Option Addr} {fs : List (Str × V)} (s : Same H H') (x : XdAt H d fs) : XdAt H' d fs := by
  cases d with
  | none => exact x
  | some a => exact s _ _ x
theorem q_isX {H : Hp} {Q : VK} {p : Addr × Obj} {D : Addr} {d : Option Addr} {fs : List (Str × V)} {c : V} {cv : Value} {b : Bool} (EA : ExA K p D d) (xd : XdAt H d fs) (hc : ∀ u, RelV c u → u = cv) (k : PySem.W.kitOne K (.ref D) cv = some b) (q : Q (.bl b) H) : rIsX K p [.ref p.1, c] H Q :=
  ⟨D, d, fs, c, cv, b, EA, xd, rfl, hc, k, q⟩
theorem q_kind {KE : Addr} {c : Nat → Addr} {H : Hp} {Q : VK} {p : Addr × Obj} {d : Option Addr} {fs : List (Str × V)} {i j : Nat} (S : ES K mg KE c) (hi : i < 23) (EA : ExA K p (c i) d) (xd : XdAt H d fs) (hj : j < 23) (q : Q (.bl (decide (j = i))) H) : rIsX K p [.ref p.1, .ref (c j)] H Q :=
  q_isX EA xd (fun _ r => r) (S.kit hi hj) q
def kinds (i : Nat) : List V := (List.range 23).map fun j => V.bl (decide (j = i))
def spKinds (K : PySem.W.Frag) (c : Nat → Addr) (p : Addr × Obj) : Sp := fun vs H Q _ => ∃ (i : Nat) (d : Option Addr) (fs : List (Str × V)), vs = [.ref p.1] ∧ i < 23 ∧ ExA K p (c i) d ∧ XdAt H d fs ∧ ∀ q H', Same H H' → H q = none → H' q = some (.lst (kinds i)) → Q (.ref q) H'

theorem ok_law_kinds {KE : Addr} {c : Nat → Addr} (B : Bl mg) (S : ES K mg KE c) (d : DefAt K mg "_law_kinds" s__law_kinds ["_law_e"]) : CalE P w K mg base 1 "_law_kinds" ["_law_e"] (spKinds K c) := by
  obtain ⟨f, fd, F, g, b⟩ := d.ex
  refine ⟨f, fd, g, F.kp, b, F.okE sc__law_kinds (fun p vs H Q E h => ?_) (fun cdv A outer s H vs Q p hr h => ?_)⟩
  · obtain ⟨i, d, fs, rfl, _⟩ := h; rfl
  · obtain ⟨i, d, fs, rfl, hi, EA, xd, q⟩ := h
    refine ⟨_, (pss_cons (ps_set (i := 1) sc__law_kinds.nd rfl (Or.inl rfl) (pe_lst (pa_cons (pe_callB (call_isX (p := p) (by exact List.mem_cons_self)) rfl B.isinstance hb_isinstance (pa_cons (pv 0) (pa_cons (pe_glob (v := .ref (c 0)) rfl S.e0.g rfl) pa_nil))) (pa_cons (pe_callB (call_isX (p := p) (by exact List.mem_cons_self)) rfl B.isinstance hb_isinstance (pa_cons (pv 0) (pa_cons (pe_glob (v := .ref (c 1)) rfl S.e1.g rfl) pa_nil))) (pa_cons (pe_callB (call_isX (p := p) (by exact List.mem_cons_self)) rfl B.isinstance hb_isinstance (pa_cons (pv 0) (pa_cons (pe_glob (v := .ref (c 2)) rfl S.e2.g rfl) pa_nil))) (pa_cons (pe_callB (call_isX (p := p) (by exact List.mem_cons_self)) rfl B.isinstance hb_isinstance (pa_cons (pv 0) (pa_cons (pe_glob (v := .ref (c 3)) rfl S.e3.g rfl) pa_nil))) pa_nil))))))
      (pss_cons (ps_set (i := 1) sc__law_kinds.nd rfl (Or.inl rfl) (pe_op op_cat (pv 1) (pe_lst (pa_cons (pe_callB (call_isX (p := p) (by exact List.mem_cons_self)) rfl B.isinstance hb_isinstance (pa_cons (pv 0) (pa_cons (pe_glob (v := .ref (c 4)) rfl S.e4.g rfl) pa_nil))) (pa_cons (pe_callB (call_isX (p := p) (by exact List.mem_cons_self)) rfl B.isinstance hb_isinstance (pa_cons (pv 0) (pa_cons (pe_glob (v := .ref (c 5)) rfl S.e5.g rfl) pa_nil))) (pa_cons (pe_callB (call_isX (p := p) (by exact List.mem_cons_self)) rfl B.isinstance hb_isinstance (pa_cons (pv 0) (pa_cons (pe_glob (v := .ref (c 6)) rfl S.e6.g rfl) pa_nil))) (pa_cons (pe_callB (call_isX (p := p) (by exact List.mem_cons_self)) rfl B.isinstance hb_isinstance (pa_cons (pv 0) (pa_cons (pe_glob (v := .ref (c 7)) rfl S.e7.g rfl) pa_nil))) pa_nil)))))))
      (pss_cons (ps_set (i := 1) sc__law_kinds.nd rfl (Or.inl rfl) (pe_op op_cat (pv 1) (pe_lst (pa_cons (pe_callB (call_isX (p := p) (by exact List.mem_cons_self)) rfl B.isinstance hb_isinstance (pa_cons (pv 0) (pa_cons (pe_glob (v := .ref (c 8)) rfl S.e8.g rfl) pa_nil))) (pa_cons (pe_callB (call_isX (p := p) (by exact List.mem_cons_self)) rfl B.isinstance hb_isinstance (pa_cons (pv 0) (pa_cons (pe_glob (v := .ref (c 9)) rfl S.e9.g rfl) pa_nil))) (pa_cons (pe_callB (call_isX (p := p) (by exact List.mem_cons_self)) rfl B.isinstance hb_isinstance (pa_cons (pv 0) (pa_cons (pe_glob (v := .ref (c 10)) rfl S.e10.g rfl) pa_nil))) (pa_cons (pe_callB (call_isX (p := p) (by exact List.mem_cons_self)) rfl B.isinstance hb_isinstance (pa_cons (pv 0) (pa_cons (pe_glob (v := .ref (c 11)) rfl S.e11.g rfl) pa_nil))) pa_nil)))))))
      (pss_cons (ps_set (i := 1) sc__law_kinds.nd rfl (Or.inl rfl) (pe_op op_cat (pv 1) (pe_lst (pa_cons (pe_callB (call_isX (p := p) (by exact List.mem_cons_self)) rfl B.isinstance hb_isinstance (pa_cons (pv 0) (pa_cons (pe_glob (v := .ref (c 12)) rfl S.e12.g rfl) pa_nil))) (pa_cons (pe_callB (call_isX (p := p) (by exact List.mem_cons_self)) rfl B.isinstance hb_isinstance (pa_cons (pv 0) (pa_cons (pe_glob (v := .ref (c 13)) rfl S.e13.g rfl) pa_nil))) (pa_cons (pe_callB (call_isX (p := p) (by exact List.mem_cons_self)) rfl B.isinstance hb_isinstance (pa_cons (pv 0) (pa_cons (pe_glob (v := .ref (c 14)) rfl S.e14.g rfl) pa_nil))) (pa_cons (pe_callB (call_isX (p := p) (by exact List.mem_cons_self)) rfl B.isinstance hb_isinstance (pa_cons (pv 0) (pa_cons (pe_glob (v := .ref (c 15)) rfl S.e15.g rfl) pa_nil))) pa_nil)))))))
      (pss_cons (ps_expr (pe_bm PySem.F.plainAttrs_list PySem.F.slot_list_append PySem.F.type_list_append mt_append (pv 1) (pa_cons (pe_callB (call_isX (p := p) (by exact List.mem_cons_self)) rfl B.isinstance hb_isinstance (pa_cons (pv 0) (pa_cons (pe_glob (v := .ref (c 16)) rfl S.e16.g rfl) pa_nil))) pa_nil)))
      (pss_cons (ps_set (i := 1) sc__law_kinds.nd rfl (Or.inl rfl) (pe_op op_cat (pv 1) (pe_lst (pa_cons (pe_callB (call_isX (p := p) (by exact List.mem_cons_self)) rfl B.isinstance hb_isinstance (pa_cons (pv 0) (pa_cons (pe_glob (v := .ref (c 17)) rfl S.e17.g rfl) pa_nil))) (pa_cons (pe_callB (call_isX (p := p) (by exact List.mem_cons_self)) rfl B.isinstance hb_isinstance (pa_cons (pv 0) (pa_cons (pe_glob (v := .ref (c 18)) rfl S.e18.g rfl) pa_nil))) (pa_cons (pe_callB (call_isX (p := p) (by exact List.mem_cons_self)) rfl B.isinstance hb_isinstance (pa_cons (pv 0) (pa_cons (pe_glob (v := .ref (c 19)) rfl S.e19.g rfl) pa_nil))) (pa_cons (pe_callB (call_isX (p := p) (by exact List.mem_cons_self)) rfl B.isinstance hb_isinstance (pa_cons (pv 0) (pa_cons (pe_glob (v := .ref (c 20)) rfl S.e20.g rfl) pa_nil))) pa_nil)))))))
      (pss_one (ps_ret (pe_op op_cat (pv 1) (pe_lst (pa_cons (pe_callB (call_isX (p := p) (by exact List.mem_cons_self)) rfl B.isinstance hb_isinstance (pa_cons (pv 0) (pa_cons (pe_glob (v := .ref (c 21)) rfl S.e21.g rfl) pa_nil))) (pa_cons (pe_callB (call_isX (p := p) (by exact List.mem_cons_self)) rfl B.isinstance hb_isinstance (pa_cons (pv 0) (pa_cons (pe_glob (v := .ref (c 22)) rfl S.e22.g rfl) pa_nil))) pa_nil)))))))))))), ?_⟩
    walk_at "st0"
    refine q_kind S hi EA xd (j := 0) (by decide) ?_
    walk_at "st"
    refine q_kind S hi EA xd (j := 1) (by decide) ?_
    walk_at "st"
    refine q_kind S hi EA xd (j := 2) (by decide) ?_
    walk_at "st"
    refine q_kind S hi EA xd (j := 3) (by decide) ?_
    walk_at "st"
    refine ⟨by show 4 ≤ sizeLine; decide, fun L1 nL1 => ?_⟩
    have sH := same_new (o := .lst [V.bl (decide (0 = i)), V.bl (decide (1 = i)), V.bl (decide (2 = i)), V.bl (decide (3 = i))]) nL1
    replace xd := xd.mono sH
    have eA : upd H L1 (.lst [V.bl (decide (0 = i)), V.bl (decide (1 = i)), V.bl (decide (2 = i)), V.bl (decide (3 = i))]) L1 = some (.lst [V.bl (decide (0 = i)), V.bl (decide (1 = i)), V.bl (decide (2 = i)), V.bl (decide (3 = i))]) := upd_same
    generalize upd H L1 (.lst [V.bl (decide (0 = i)), V.bl (decide (1 = i)), V.bl (decide (2 = i)), V.bl (decide (3 = i))]) = H1 at *
    walk_at "st"
    refine q_kind S hi EA xd (j := 4) (by decide) ?_
    walk_at "st"
    refine q_kind S hi EA xd (j := 5) (by decide) ?_
    walk_at "st"
    refine q_kind S hi EA xd (j := 6) (by decide) ?_
    walk_at "st"
    refine q_kind S hi EA xd (j := 7) (by decide) ?_
    walk_at "st"
    refine ⟨by show 4 ≤ sizeLine; decide, fun L2 nL2 => ?_⟩
    have s2 := same_new (o := .lst [V.bl (decide (4 = i)), V.bl (decide (5 = i)), V.bl (decide (6 = i)), V.bl (decide (7 = i))]) nL2
    refine ⟨_, L2, _, _, rfl, rfl, s2 _ _ eA, upd_same, by show 8 ≤ sizeLine; decide, fun L3 nL3 => ?_⟩
    dsimp only [List.cons_append, List.nil_append]
    have nH := (sH.trans s2).free nL3
    have s3 := s2.trans (same_new (o := .lst [V.bl (decide (0 = i)), V.bl (decide (1 = i)), V.bl (decide (2 = i)), V.bl (decide (3 = i)), V.bl (decide (4 = i)), V.bl (decide (5 = i)), V.bl (decide (6 = i)), V.bl (decide (7 = i))]) nL3)
    replace sH := sH.trans s3
    replace xd := xd.mono s3
    have eC : (upd (upd H1 L2 (.lst [V.bl (decide (4 = i)), V.bl (decide (5 = i)), V.bl (decide (6 = i)), V.bl (decide (7 = i))])) L3 (.lst [V.bl (decide (0 = i)), V.bl (decide (1 = i)), V.bl (decide (2 = i)), V.bl (decide (3 = i)), V.bl (decide (4 = i)), V.bl (decide (5 = i)), V.bl (decide (6 = i)), V.bl (decide (7 = i))])) L3 = some (.lst [V.bl (decide (0 = i)), V.bl (decide (1 = i)), V.bl (decide (2 = i)), V.bl (decide (3 = i)), V.bl (decide (4 = i)), V.bl (decide (5 = i)), V.bl (decide (6 = i)), V.bl (decide (7 = i))]) := upd_same
    clear eA s2 s3 nL2 nL3
    have eA := eC
    clear eC
    generalize upd (upd H1 L2 (.lst [V.bl (decide (4 = i)), V.bl (decide (5 = i)), V.bl (decide (6 = i)), V.bl (decide (7 = i))])) L3 (.lst [V.bl (decide (0 = i)), V.bl (decide (1 = i)), V.bl (decide (2 = i)), V.bl (decide (3 = i)), V.bl (decide (4 = i)), V.bl (decide (5 = i)), V.bl (decide (6 = i)), V.bl (decide (7 = i))]) = H3 at *
    walk_at "st"
    refine q_kind S hi EA xd (j := 8) (by decide) ?_
    walk_at "st"
    refine q_kind S hi EA xd (j := 9) (by decide) ?_
    walk_at "st"
    refine q_kind S hi EA xd (j := 10) (by decide) ?_
    walk_at "st"
    refine q_kind S hi EA xd (j := 11) (by decide) ?_
    walk_at "st"
    refine ⟨by show 4 ≤ sizeLine; decide, fun L4 nL4 => ?_⟩
    have s2 := same_new (o := .lst [V.bl (decide (8 = i)), V.bl (decide (9 = i)), V.bl (decide (10 = i)), V.bl (decide (11 = i))]) nL4
    refine ⟨_, L4, _, _, rfl, rfl, s2 _ _ eA, upd_same, by show 12 ≤ sizeLine; decide, fun L5 nL5 => ?_⟩
    dsimp only [List.cons_append, List.nil_append]
    have nH := (sH.trans s2).free nL5
    have s3 := s2.trans (same_new (o := .lst [V.bl (decide (0 = i)), V.bl (decide (1 = i)), V.bl (decide (2 = i)), V.bl (decide (3 = i)), V.bl (decide (4 = i)), V.bl (decide (5 = i)), V.bl (decide (6 = i)), V.bl (decide (7 = i)), V.bl (decide (8 = i)), V.bl (decide (9 = i)), V.bl (decide (10 = i)), V.bl (decide (11 = i))]) nL5)
    replace sH := sH.trans s3
    replace xd := xd.mono s3
    have eC : (upd (upd H3 L4 (.lst [V.bl (decide (8 = i)), V.bl (decide (9 = i)), V.bl (decide (10 = i)), V.bl (decide (11 = i))])) L5 (.lst [V.bl (decide (0 = i)), V.bl (decide (1 = i)), V.bl (decide (2 = i)), V.bl (decide (3 = i)), V.bl (decide (4 = i)), V.bl (decide (5 = i)), V.bl (decide (6 = i)), V.bl (decide (7 = i)), V.bl (decide (8 = i)), V.bl (decide (9 = i)), V.bl (decide (10 = i)), V.bl (decide (11 = i))])) L5 = some (.lst [V.bl (decide (0 = i)), V.bl (decide (1 = i)), V.bl (decide (2 = i)), V.bl (decide (3 = i)), V.bl (decide (4 = i)), V.bl (decide (5 = i)), V.bl (decide (6 = i)), V.bl (decide (7 = i)), V.bl (decide (8 = i)), V.bl (decide (9 = i)), V.bl (decide (10 = i)), V.bl (decide (11 = i))]) := upd_same
    clear eA s2 s3 nL4 nL5
    have eA := eC
    clear eC
    generalize upd (upd H3 L4 (.lst [V.bl (decide (8 = i)), V.bl (decide (9 = i)), V.bl (decide (10 = i)), V.bl (decide (11 = i))])) L5 (.lst [V.bl (decide (0 = i)), V.bl (decide (1 = i)), V.bl (decide (2 = i)), V.bl (decide (3 = i)), V.bl (decide (4 = i)), V.bl (decide (5 = i)), V.bl (decide (6 = i)), V.bl (decide (7 = i)), V.bl (decide (8 = i)), V.bl (decide (9 = i)), V.bl (decide (10 = i)), V.bl (decide (11 = i))]) = H5 at *
    walk_at "st"
    refine q_kind S hi EA xd (j := 12) (by decide) ?_
    walk_at "st"
    refine q_kind S hi EA xd (j := 13) (by decide) ?_
    walk_at "st"
    refine q_kind S hi EA xd (j := 14) (by decide) ?_
    walk_at "st"
    refine q_kind S hi EA xd (j := 15) (by decide) ?_
    walk_at "st"
    refine ⟨by show 4 ≤ sizeLine; decide, fun L6 nL6 => ?_⟩
    have s2 := same_new (o := .lst [V.bl (decide (12 = i)), V.bl (decide (13 = i)), V.bl (decide (14 = i)), V.bl (decide (15 = i))]) nL6
    refine ⟨_, L6, _, _, rfl, rfl, s2 _ _ eA, upd_same, by show 16 ≤ sizeLine; decide, fun L7 nL7 => ?_⟩
    dsimp only [List.cons_append, List.nil_append]
    have nH := (sH.trans s2).free nL7
    have s3 := s2.trans (same_new (o := .lst [V.bl (decide (0 = i)), V.bl (decide (1 = i)), V.bl (decide (2 = i)), V.bl (decide (3 = i)), V.bl (decide (4 = i)), V.bl (decide (5 = i)), V.bl (decide (6 = i)), V.bl (decide (7 = i)), V.bl (decide (8 = i)), V.bl (decide (9 = i)), V.bl (decide (10 = i)), V.bl (decide (11 = i)), V.bl (decide (12 = i)), V.bl (decide (13 = i)), V.bl (decide (14 = i)), V.bl (decide (15 = i))]) nL7)
    replace sH := sH.trans s3
    replace xd := xd.mono s3
    have eC : (upd (upd H5 L6 (.lst [V.bl (decide (12 = i)), V.bl (decide (13 = i)), V.bl (decide (14 = i)), V.bl (decide (15 = i))])) L7 (.lst [V.bl (decide (0 = i)), V.bl (decide (1 = i)), V.bl (decide (2 = i)), V.bl (decide (3 = i)), V.bl (decide (4 = i)), V.bl (decide (5 = i)), V.bl (decide (6 = i)), V.bl (decide (7 = i)), V.bl (decide (8 = i)), V.bl (decide (9 = i)), V.bl (decide (10 = i)), V.bl (decide (11 = i)), V.bl (decide (12 = i)), V.bl (decide (13 = i)), V.bl (decide (14 = i)), V.bl (decide (15 = i))])) L7 = some (.lst [V.bl (decide (0 = i)), V.bl (decide (1 = i)), V.bl (decide (2 = i)), V.bl (decide (3 = i)), V.bl (decide (4 = i)), V.bl (decide (5 = i)), V.bl (decide (6 = i)), V.bl (decide (7 = i)), V.bl (decide (8 = i)), V.bl (decide (9 = i)), V.bl (decide (10 = i)), V.bl (decide (11 = i)), V.bl (decide (12 = i)), V.bl (decide (13 = i)), V.bl (decide (14 = i)), V.bl (decide (15 = i))]) := upd_same
    clear eA s2 s3 nL6 nL7
    have eA := eC
    clear eC
    generalize upd (upd H5 L6 (.lst [V.bl (decide (12 = i)), V.bl (decide (13 = i)), V.bl (decide (14 = i)), V.bl (decide (15 = i))])) L7 (.lst [V.bl (decide (0 = i)), V.bl (decide (1 = i)), V.bl (decide (2 = i)), V.bl (decide (3 = i)), V.bl (decide (4 = i)), V.bl (decide (5 = i)), V.bl (decide (6 = i)), V.bl (decide (7 = i)), V.bl (decide (8 = i)), V.bl (decide (9 = i)), V.bl (decide (10 = i)), V.bl (decide (11 = i)), V.bl (decide (12 = i)), V.bl (decide (13 = i)), V.bl (decide (14 = i)), V.bl (decide (15 = i))]) = H7 at *
    walk_at "st"
    refine ⟨.inl ⟨rfl, _, SqL.of eA⟩, ?_⟩
    walk_at "st"
    refine q_kind S hi EA xd (j := 16) (by decide) ?_
    walk_at "st"
    refine ⟨L7, _, _, rfl, rfl, eA, by show 16 < sizeLine; decide, ?_⟩
    dsimp only [List.cons_append, List.nil_append]
    have xd2 : XdAt (upd H7 L7 (.lst [V.bl (decide (0 = i)), V.bl (decide (1 = i)), V.bl (decide (2 = i)), V.bl (decide (3 = i)), V.bl (decide (4 = i)), V.bl (decide (5 = i)), V.bl (decide (6 = i)), V.bl (decide (7 = i)), V.bl (decide (8 = i)), V.bl (decide (9 = i)), V.bl (decide (10 = i)), V.bl (decide (11 = i)), V.bl (decide (12 = i)), V.bl (decide (13 = i)), V.bl (decide (14 = i)), V.bl (decide (15 = i)), V.bl (decide (16 = i))])) d fs := by
      cases d with
      | none => exact xd
      | some a => exact (upd_ne (ne_of xd eA (by intro z; cases z))).trans xd
    have sH2 : Same H (upd H7 L7 (.lst [V.bl (decide (0 = i)), V.bl (decide (1 = i)), V.bl (decide (2 = i)), V.bl (decide (3 = i)), V.bl (decide (4 = i)), V.bl (decide (5 = i)), V.bl (decide (6 = i)), V.bl (decide (7 = i)), V.bl (decide (8 = i)), V.bl (decide (9 = i)), V.bl (decide (10 = i)), V.bl (decide (11 = i)), V.bl (decide (12 = i)), V.bl (decide (13 = i)), V.bl (decide (14 = i)), V.bl (decide (15 = i)), V.bl (decide (16 = i))])) := fun b o hb => by
      have z := sH b o hb
      by_cases e : b = L7
      · subst e; exact absurd hb (by rw [nH]; simp)
      · rw [upd_ne e]; exact z
    have eB : upd H7 L7 (.lst [V.bl (decide (0 = i)), V.bl (decide (1 = i)), V.bl (decide (2 = i)), V.bl (decide (3 = i)), V.bl (decide (4 = i)), V.bl (decide (5 = i)), V.bl (decide (6 = i)), V.bl (decide (7 = i)), V.bl (decide (8 = i)), V.bl (decide (9 = i)), V.bl (decide (10 = i)), V.bl (decide (11 = i)), V.bl (decide (12 = i)), V.bl (decide (13 = i)), V.bl (decide (14 = i)), V.bl (decide (15 = i)), V.bl (decide (16 = i))]) L7 = some (.lst [V.bl (decide (0 = i)), V.bl (decide (1 = i)), V.bl (decide (2 = i)), V.bl (decide (3 = i)), V.bl (decide (4 = i)), V.bl (decide (5 = i)), V.bl (decide (6 = i)), V.bl (decide (7 = i)), V.bl (decide (8 = i)), V.bl (decide (9 = i)), V.bl (decide (10 = i)), V.bl (decide (11 = i)), V.bl (decide (12 = i)), V.bl (decide (13 = i)), V.bl (decide (14 = i)), V.bl (decide (15 = i)), V.bl (decide (16 = i))]) := upd_same
    have eA := eB
    have xd := xd2
    have sH := sH2
    clear xd2 sH2 eB
    generalize upd H7 L7 (.lst [V.bl (decide (0 = i)), V.bl (decide (1 = i)), V.bl (decide (2 = i)), V.bl (decide (3 = i)), V.bl (decide (4 = i)), V.bl (decide (5 = i)), V.bl (decide (6 = i)), V.bl (decide (7 = i)), V.bl (decide (8 = i)), V.bl (decide (9 = i)), V.bl (decide (10 = i)), V.bl (decide (11 = i)), V.bl (decide (12 = i)), V.bl (decide (13 = i)), V.bl (decide (14 = i)), V.bl (decide (15 = i)), V.bl (decide (16 = i))]) = H8 at *
    walk_at "st"
    refine q_kind S hi EA xd (j := 17) (by decide) ?_
    walk_at "st"
    refine q_kind S hi EA xd (j := 18) (by decide) ?_
    walk_at "st"
    refine q_kind S hi EA xd (j := 19) (by decide) ?_
    walk_at "st"
    refine q_kind S hi EA xd (j := 20) (by decide) ?_
    walk_at "st"
    refine ⟨by show 4 ≤ sizeLine; decide, fun M9 nM9 => ?_⟩
    have s2 := same_new (o := .lst [V.bl (decide (17 = i)), V.bl (decide (18 = i)), V.bl (decide (19 = i)), V.bl (decide (20 = i))]) nM9
    refine ⟨_, M9, _, _, rfl, rfl, s2 _ _ eA, upd_same, by show 21 ≤ sizeLine; decide, fun M10 nM10 => ?_⟩
    dsimp only [List.cons_append, List.nil_append]
    have nH := (sH.trans s2).free nM10
    have s3 := s2.trans (same_new (o := .lst [V.bl (decide (0 = i)), V.bl (decide (1 = i)), V.bl (decide (2 = i)), V.bl (decide (3 = i)), V.bl (decide (4 = i)), V.bl (decide (5 = i)), V.bl (decide (6 = i)), V.bl (decide (7 = i)), V.bl (decide (8 = i)), V.bl (decide (9 = i)), V.bl (decide (10 = i)), V.bl (decide (11 = i)), V.bl (decide (12 = i)), V.bl (decide (13 = i)), V.bl (decide (14 = i)), V.bl (decide (15 = i)), V.bl (decide (16 = i)), V.bl (decide (17 = i)), V.bl (decide (18 = i)), V.bl (decide (19 = i)), V.bl (decide (20 = i))]) nM10)
    replace sH := sH.trans s3
    replace xd := xd.mono s3
    have eC : (upd (upd H8 M9 (.lst [V.bl (decide (17 = i)), V.bl (decide (18 = i)), V.bl (decide (19 = i)), V.bl (decide (20 = i))])) M10 (.lst [V.bl (decide (0 = i)), V.bl (decide (1 = i)), V.bl (decide (2 = i)), V.bl (decide (3 = i)), V.bl (decide (4 = i)), V.bl (decide (5 = i)), V.bl (decide (6 = i)), V.bl (decide (7 = i)), V.bl (decide (8 = i)), V.bl (decide (9 = i)), V.bl (decide (10 = i)), V.bl (decide (11 = i)), V.bl (decide (12 = i)), V.bl (decide (13 = i)), V.bl (decide (14 = i)), V.bl (decide (15 = i)), V.bl (decide (16 = i)), V.bl (decide (17 = i)), V.bl (decide (18 = i)), V.bl (decide (19 = i)), V.bl (decide (20 = i))])) M10 = some (.lst [V.bl (decide (0 = i)), V.bl (decide (1 = i)), V.bl (decide (2 = i)), V.bl (decide (3 = i)), V.bl (decide (4 = i)), V.bl (decide (5 = i)), V.bl (decide (6 = i)), V.bl (decide (7 = i)), V.bl (decide (8 = i)), V.bl (decide (9 = i)), V.bl (decide (10 = i)), V.bl (decide (11 = i)), V.bl (decide (12 = i)), V.bl (decide (13 = i)), V.bl (decide (14 = i)), V.bl (decide (15 = i)), V.bl (decide (16 = i)), V.bl (decide (17 = i)), V.bl (decide (18 = i)), V.bl (decide (19 = i)), V.bl (decide (20 = i))]) := upd_same
    clear eA s2 s3
    have eA := eC
    clear eC
    clear nM9 nM10
    generalize upd (upd H8 M9 (.lst [V.bl (decide (17 = i)), V.bl (decide (18 = i)), V.bl (decide (19 = i)), V.bl (decide (20 = i))])) M10 (.lst [V.bl (decide (0 = i)), V.bl (decide (1 = i)), V.bl (decide (2 = i)), V.bl (decide (3 = i)), V.bl (decide (4 = i)), V.bl (decide (5 = i)), V.bl (decide (6 = i)), V.bl (decide (7 = i)), V.bl (decide (8 = i)), V.bl (decide (9 = i)), V.bl (decide (10 = i)), V.bl (decide (11 = i)), V.bl (decide (12 = i)), V.bl (decide (13 = i)), V.bl (decide (14 = i)), V.bl (decide (15 = i)), V.bl (decide (16 = i)), V.bl (decide (17 = i)), V.bl (decide (18 = i)), V.bl (decide (19 = i)), V.bl (decide (20 = i))]) = H10 at *
    walk_at "st"
    refine q_kind S hi EA xd (j := 21) (by decide) ?_
    walk_at "st"
    refine q_kind S hi EA xd (j := 22) (by decide) ?_
    walk_at "st"
    refine ⟨by show 2 ≤ sizeLine; decide, fun M11 nM11 => ?_⟩
    have s2 := same_new (o := .lst [V.bl (decide (21 = i)), V.bl (decide (22 = i))]) nM11
    refine ⟨_, M11, _, _, rfl, rfl, s2 _ _ eA, upd_same, by show 23 ≤ sizeLine; decide, fun M12 nM12 => ?_⟩
    dsimp only [List.cons_append, List.nil_append]
    have nH := (sH.trans s2).free nM12
    have s3 := s2.trans (same_new (o := .lst [V.bl (decide (0 = i)), V.bl (decide (1 = i)), V.bl (decide (2 = i)), V.bl (decide (3 = i)), V.bl (decide (4 = i)), V.bl (decide (5 = i)), V.bl (decide (6 = i)), V.bl (decide (7 = i)), V.bl (decide (8 = i)), V.bl (decide (9 = i)), V.bl (decide (10 = i)), V.bl (decide (11 = i)), V.bl (decide (12 = i)), V.bl (decide (13 = i)), V.bl (decide (14 = i)), V.bl (decide (15 = i)), V.bl (decide (16 = i)), V.bl (decide (17 = i)), V.bl (decide (18 = i)), V.bl (decide (19 = i)), V.bl (decide (20 = i)), V.bl (decide (21 = i)), V.bl (decide (22 = i))]) nM12)
    replace sH := sH.trans s3
    replace xd := xd.mono s3
    have eC : (upd (upd H10 M11 (.lst [V.bl (decide (21 = i)), V.bl (decide (22 = i))])) M12 (.lst [V.bl (decide (0 = i)), V.bl (decide (1 = i)), V.bl (decide (2 = i)), V.bl (decide (3 = i)), V.bl (decide (4 = i)), V.bl (decide (5 = i)), V.bl (decide (6 = i)), V.bl (decide (7 = i)), V.bl (decide (8 = i)), V.bl (decide (9 = i)), V.bl (decide (10 = i)), V.bl (decide (11 = i)), V.bl (decide (12 = i)), V.bl (decide (13 = i)), V.bl (decide (14 = i)), V.bl (decide (15 = i)), V.bl (decide (16 = i)), V.bl (decide (17 = i)), V.bl (decide (18 = i)), V.bl (decide (19 = i)), V.bl (decide (20 = i)), V.bl (decide (21 = i)), V.bl (decide (22 = i))])) M12 = some (.lst [V.bl (decide (0 = i)), V.bl (decide (1 = i)), V.bl (decide (2 = i)), V.bl (decide (3 = i)), V.bl (decide (4 = i)), V.bl (decide (5 = i)), V.bl (decide (6 = i)), V.bl (decide (7 = i)), V.bl (decide (8 = i)), V.bl (decide (9 = i)), V.bl (decide (10 = i)), V.bl (decide (11 = i)), V.bl (decide (12 = i)), V.bl (decide (13 = i)), V.bl (decide (14 = i)), V.bl (decide (15 = i)), V.bl (decide (16 = i)), V.bl (decide (17 = i)), V.bl (decide (18 = i)), V.bl (decide (19 = i)), V.bl (decide (20 = i)), V.bl (decide (21 = i)), V.bl (decide (22 = i))]) := upd_same
    clear eA s2 s3
    have eA := eC
    clear eC
    exact q _ _ sH nH eA

end
end T



namespace T
section
variable {P : Program} {w : World} {K : PySem.W.Frag} {mg : Str → Option Value} {base : Heap}
def fsOf (i : Nat) (v1 v2 : V) : List (Str × V) := if i = 17 then [("part", v1)] else if i = 18 then [("index", v1)] else if i = 19 then [("index", v1)] else if i = 20 then [("index", v2), ("task", v1)] else if i = 21 then [("most", v1)] else if i = 22 then [("line", v1)] else []
def outOf (i : Nat) (v1 v2 : V) : List V := if i < 17 then [] else if i = 20 then [v1, v2] else [v1]
/-- no class hides the fields of its errors -/
structure EF (K : PySem.W.Frag) (c : Nat → Addr) : Prop where
  f17 : PySem.W.findIn K (.ref (c 17)) "part" = some none
  f18 : PySem.W.findIn K (.ref (c 18)) "index" = some none
  f19 : PySem.W.findIn K (.ref (c 19)) "index" = some none
  f20t : PySem.W.findIn K (.ref (c 20)) "task" = some none
  f20i : PySem.W.findIn K (.ref (c 20)) "index" = some none
  f21 : PySem.W.findIn K (.ref (c 21)) "most" = some none
  f22 : PySem.W.findIn K (.ref (c 22)) "line" = some none
/-- the error of the number i, its fields v1, v2 -/
def ExI (K : PySem.W.Frag) (c : Nat → Addr) (H : Hp) (p : Addr × Obj) (i : Nat) (v1 v2 : V) : Prop := ∃ d, ExA K p (c i) d ∧ XdAt H d (fsOf i v1 v2) ∧ (17 ≤ i → d.isSome = true)
def spRead (K : PySem.W.Frag) (c : Nat → Addr) (p : Addr × Obj) : Sp := fun vs H Q _ => ∃ (i : Nat) (v1 v2 : V), vs = [.int i, .ref p.1] ∧ i < 23 ∧ ExI K c H p i v1 v2 ∧ ∀ q H', Same H H' → H q = none → H' q = some (.lst (outOf i v1 v2)) → Q (.ref q) H'
theorem q_xf {c : Nat → Addr} {H : Hp} {p : Addr × Obj} {i k : Nat} {v1 v2 v : V} {n : Str} {Q : VK} {σ : L2.St} (hs : σ[k]? = some (some (.ref p.1))) (x : ExI K c H p i v1 v2) (h17 : 17 ≤ i) (hno : PySem.W.findIn K (.ref (c i)) n = some none) (hl : (fsOf i v1 v2).lookup n = some v) (q : Q v H) :
    tXfX K p n (tVar k) σ H Q := by
  obtain ⟨d, EA, xd, hd⟩ := x
  cases d with
  | none => exact absurd (hd h17) (by simp)
  | some dd => exact ⟨_, hs, rfl, c i, dd, _, v, EA, hno, xd, hl, q⟩
theorem ok_law_read {c : Nat → Addr} (B : Bl mg) (S : EF K c) (d : DefAt K mg "_law_read_fields" s__law_read_fields ["_law_which", "_law_e"]) : CalE P w K mg base 1 "_law_read_fields" ["_law_which", "_law_e"] (spRead K c) := by
  obtain ⟨f, fd, F, g, b⟩ := d.ex
  refine ⟨f, fd, g, F.kp, b, F.okE sc__law_read_fields (fun p vs H Q E h => ?_) (fun cdv A outer s H vs Q p hr h => ?_)⟩
  · obtain ⟨i, v1, v2, rfl, _⟩ := h; rfl
  · obtain ⟨i, v1, v2, rfl, hi, EI, q⟩ := h
    refine ⟨_, (pss_cons (ps_if (pt_cmpR op_eq (pv 0) pe_int (nomark _)) (pss_one (ps_ret (pe_lst (pa_cons (pe_xfX (p := p) (by exact List.mem_cons_self) (pv 1)) pa_nil)))) pss_nil)
      (pss_cons (ps_if (pt_cmpR op_in_seq (pv 0) (pe_lst (pa_cons pe_int (pa_cons pe_int pa_nil))) (by with_unfolding_all rfl)) (pss_one (ps_ret (pe_lst (pa_cons (pe_xfX (p := p) (by exact List.mem_cons_self) (pv 1)) pa_nil)))) pss_nil)
      (pss_cons (ps_if (pt_cmpR op_eq (pv 0) pe_int (nomark _)) (pss_one (ps_ret (pe_lst (pa_cons (pe_xfX (p := p) (by exact List.mem_cons_self) (pv 1)) (pa_cons (pe_xfX (p := p) (by exact List.mem_cons_self) (pv 1)) pa_nil))))) pss_nil)
      (pss_cons (ps_if (pt_cmpR op_eq (pv 0) pe_int (nomark _)) (pss_one (ps_ret (pe_lst (pa_cons (pe_xfX (p := p) (by exact List.mem_cons_self) (pv 1)) pa_nil)))) pss_nil)
      (pss_cons (ps_if (pt_cmpR op_eq (pv 0) pe_int (nomark _)) (pss_one (ps_ret (pe_lst (pa_cons (pe_xfX (p := p) (by exact List.mem_cons_self) (pv 1)) pa_nil)))) pss_nil)
      (pss_one (ps_ret (pe_lst pa_nil)))))))), ?_⟩
    walk_at "st0"
    refine q_eqI ?_
    walk_at "st"
    refine q_if (fun hc => ?_) (fun hc => ?_)
    · have e : i = 17 := by have := of_decide_eq_true hc; omega
      subst e
      walk_at "st"
      refine q_xf rfl EI (by decide) S.f17 (v := v1) rfl ?_
      walk_at "st"
      exact ⟨by show 1 ≤ sizeLine; decide, fun L nL => q _ _ (same_new nL) nL upd_same⟩
    have n17 : i ≠ 17 := by have := of_decide_eq_false hc; omega
    walk_at "st"
    refine ⟨by show 2 ≤ sizeLine; decide, fun L nL => ?_⟩
    have sL := same_new (o := .lst [.int 18, .int 19]) nL
    have EI2 : ExI K c (upd H L (.lst [.int 18, .int 19])) p i v1 v2 := by
      obtain ⟨d, a1, a2, a3⟩ := EI
      exact ⟨d, a1, a2.mono sL, a3⟩
    refine ⟨L, _, rfl, .inl (SqL.of upd_same), rfl, rfl, ?_⟩
    walk_at "st"
    by_cases h1 : i = 18 ∨ i = 19
    · have e1 : (if false = true then !inV (V.int ↑i) [V.int 18, V.int 19] else inV (V.int ↑i) [V.int 18, V.int 19]) = true := by
        rcases h1 with rfl | rfl <;> rfl
      rw [e1]
      refine iteT ?_
      walk_at "st"
      have hno : PySem.W.findIn K (.ref (c i)) "index" = some none := by
        rcases h1 with rfl | rfl
        · exact S.f18
        · exact S.f19
      have ho : outOf i v1 v2 = [v1] := by rcases h1 with rfl | rfl <;> rfl
      have hl : (fsOf i v1 v2).lookup ("index" : Str) = some v1 := by rcases h1 with rfl | rfl <;> rfl
      refine q_xf rfl EI2 (by omega) hno (v := v1) hl ?_
      walk_at "st"
      exact ⟨by show 1 ≤ sizeLine; decide, fun M nM => q _ _ (sL.trans (same_new nM)) (sL.free nM) (by rw [ho]; exact upd_same)⟩
    have e1 : (if false = true then !inV (V.int ↑i) [V.int 18, V.int 19] else inV (V.int ↑i) [V.int 18, V.int 19]) = false := by
      have z : inV (V.int (i : Int)) [V.int 18, V.int 19] = false := by
        simp [inV, eqV]
        omega
      rw [if_neg (by decide), z]
    rw [e1]
    refine iteF ?_
    walk_at "st"
    refine q_eqI ?_
    walk_at "st"
    refine q_if (fun hc => ?_) (fun hc => ?_)
    · have e : i = 20 := by have := of_decide_eq_true hc; omega
      subst e
      walk_at "st"
      refine q_xf rfl EI2 (by decide) S.f20t (v := v1) rfl ?_
      walk_at "st"
      refine q_xf rfl EI2 (by decide) S.f20i (v := v2) rfl ?_
      walk_at "st"
      exact ⟨by show 2 ≤ sizeLine; decide, fun M nM => q _ _ (sL.trans (same_new nM)) (sL.free nM) upd_same⟩
    have n20 : i ≠ 20 := by have := of_decide_eq_false hc; omega
    walk_at "st"
    refine q_eqI ?_
    walk_at "st"
    refine q_if (fun hc => ?_) (fun hc => ?_)
    · have e : i = 21 := by have := of_decide_eq_true hc; omega
      subst e
      walk_at "st"
      refine q_xf rfl EI2 (by decide) S.f21 (v := v1) rfl ?_
      walk_at "st"
      exact ⟨by show 1 ≤ sizeLine; decide, fun M nM => q _ _ (sL.trans (same_new nM)) (sL.free nM) upd_same⟩
    have n21 : i ≠ 21 := by have := of_decide_eq_false hc; omega
    walk_at "st"
    refine q_eqI ?_
    walk_at "st"
    refine q_if (fun hc => ?_) (fun hc => ?_)
    · have e : i = 22 := by have := of_decide_eq_true hc; omega
      subst e
      walk_at "st"
      refine q_xf rfl EI2 (by decide) S.f22 (v := v1) rfl ?_
      walk_at "st"
      exact ⟨by show 1 ≤ sizeLine; decide, fun M nM => q _ _ (sL.trans (same_new nM)) (sL.free nM) upd_same⟩
    have n22 : i ≠ 22 := by have := of_decide_eq_false hc; omega
    walk_at "st"
    have ho : outOf i v1 v2 = [] := by unfold outOf; rw [if_pos (by omega)]
    exact ⟨by show 0 ≤ sizeLine; decide, fun M nM => q _ _ (sL.trans (same_new nM)) (sL.free nM) (by rw [ho]; exact upd_same)⟩
end
end T



namespace T

section
variable {P : Program} {w : World} {K : PySem.W.Frag} {mg : Str → Option Value} {base : Heap}
/-- self.f = v, and no more -/
def spIni1 (K : PySem.W.Frag) (C : Addr) (f : Str) : Sp := fun vs H Q _ => ∃ (a : Addr) (v : V), vs = [.ref a, v] ∧ H a = some (exo a C none) ∧ ∀ dx, H dx = none → dx ≠ a → Q .non (upd (upd H dx (exd dx [(f, v)])) a (exo a C (some dx)))
def spIni2 (K : PySem.W.Frag) (C : Addr) (f g : Str) : Sp := fun vs H Q _ => ∃ (a : Addr) (v u : V), vs = [.ref a, v, u] ∧ H a = some (exo a C none) ∧ ∀ dx H', H dx = none → dx ≠ a → H' a = some (exo a C (some dx)) → H' dx = some (exd dx [(g, u), (f, v)]) → (∀ b o, H b = some o → b ≠ a → H' b = some o) → Q .non H'

theorem ok_ini17 {C : Addr} (O : OexC K C) (hno : PySem.W.findIn K (.ref C) "part" = some none) {f : Addr} {fd : FuncData} (F : Fun K "__init__" "NoBuild.__init__" s_NoBuild___init__ f fd) : FnOk P w K mg base CX0 1 f fd ["self", "part"] (spIni1 K C "part") := by
  refine F.ok sc_NoBuild___init__ (fun vs H Q E h => ?_) (fun cdv A outer s H vs Q E hr h => ?_)
  · obtain ⟨a, v, rfl, _⟩ := h; rfl
  · obtain ⟨a, v, rfl, ha, q⟩ := h
    refine ⟨_, (pss_one (ps_ost (pv 0) (pv 1))), ?_⟩
    walk_at "st0"
    exact ⟨_, rfl, _, rfl, a, C, rfl, O, hno, .inl ⟨ha, fun dx n1 n2 => q dx n1 n2⟩⟩
theorem ok_ini18 {C : Addr} (O : OexC K C) (hno : PySem.W.findIn K (.ref C) "index" = some none) {f : Addr} {fd : FuncData} (F : Fun K "__init__" "NoActs.__init__" s_NoActs___init__ f fd) : FnOk P w K mg base CX0 1 f fd ["self", "index"] (spIni1 K C "index") := by
  refine F.ok sc_NoActs___init__ (fun vs H Q E h => ?_) (fun cdv A outer s H vs Q E hr h => ?_)
  · obtain ⟨a, v, rfl, _⟩ := h; rfl
  · obtain ⟨a, v, rfl, ha, q⟩ := h
    refine ⟨_, (pss_one (ps_ost (pv 0) (pv 1))), ?_⟩
    walk_at "st0"
    exact ⟨_, rfl, _, rfl, a, C, rfl, O, hno, .inl ⟨ha, fun dx n1 n2 => q dx n1 n2⟩⟩
theorem ok_ini19 {C : Addr} (O : OexC K C) (hno : PySem.W.findIn K (.ref C) "index" = some none) {f : Addr} {fd : FuncData} (F : Fun K "__init__" "NoRows.__init__" s_NoRows___init__ f fd) : FnOk P w K mg base CX0 1 f fd ["self", "index"] (spIni1 K C "index") := by
  refine F.ok sc_NoRows___init__ (fun vs H Q E h => ?_) (fun cdv A outer s H vs Q E hr h => ?_)
  · obtain ⟨a, v, rfl, _⟩ := h; rfl
  · obtain ⟨a, v, rfl, ha, q⟩ := h
    refine ⟨_, (pss_one (ps_ost (pv 0) (pv 1))), ?_⟩
    walk_at "st0"
    exact ⟨_, rfl, _, rfl, a, C, rfl, O, hno, .inl ⟨ha, fun dx n1 n2 => q dx n1 n2⟩⟩
theorem ok_ini20 {C : Addr} (O : OexC K C) (hno : PySem.W.findIn K (.ref C) "task" = some none) (hno2 : PySem.W.findIn K (.ref C) "index" = some none) {f : Addr} {fd : FuncData} (F : Fun K "__init__" "NoProgram.__init__" s_NoProgram___init__ f fd) : FnOk P w K mg base CX0 1 f fd ["self", "task", "index"] (spIni2 K C "task" "index") := by
  refine F.ok sc_NoProgram___init__ (fun vs H Q E h => ?_) (fun cdv A outer s H vs Q E hr h => ?_)
  · obtain ⟨a, v, u, rfl, _⟩ := h; rfl
  · obtain ⟨a, v, u, rfl, ha, q⟩ := h
    refine ⟨_, (pss_cons (ps_ost (pv 0) (pv 1))
      (pss_one (ps_ost (pv 0) (pv 2)))), ?_⟩
    walk_at "st0"
    refine ⟨_, rfl, _, rfl, a, C, rfl, O, hno, .inl ⟨ha, fun dx n1 n2 => ?_⟩⟩
    refine ⟨_, rfl, _, rfl, a, C, rfl, O, hno2, .inr ⟨dx, _, upd_same, by rw [upd_ne n2]; exact upd_same, by simp, ?_⟩⟩
    refine q dx _ n1 n2 (by rw [upd_ne n2.symm]; exact upd_same) upd_same fun b o hb nb => ?_
    have nd : b ≠ dx := ne_of_none hb n1
    rw [upd_ne nd, upd_ne nb, upd_ne nd]
    exact hb
theorem ok_ini21 {C : Addr} (O : OexC K C) (hno : PySem.W.findIn K (.ref C) "most" = some none) {f : Addr} {fd : FuncData} (F : Fun K "__init__" "TooMany.__init__" s_TooMany___init__ f fd) : FnOk P w K mg base CX0 1 f fd ["self", "most"] (spIni1 K C "most") := by
  refine F.ok sc_TooMany___init__ (fun vs H Q E h => ?_) (fun cdv A outer s H vs Q E hr h => ?_)
  · obtain ⟨a, v, rfl, _⟩ := h; rfl
  · obtain ⟨a, v, rfl, ha, q⟩ := h
    refine ⟨_, (pss_one (ps_ost (pv 0) (pv 1))), ?_⟩
    walk_at "st0"
    exact ⟨_, rfl, _, rfl, a, C, rfl, O, hno, .inl ⟨ha, fun dx n1 n2 => q dx n1 n2⟩⟩
theorem ok_ini22 {C : Addr} (O : OexC K C) (hno : PySem.W.findIn K (.ref C) "line" = some none) {f : Addr} {fd : FuncData} (F : Fun K "__init__" "NoText.__init__" s_NoText___init__ f fd) : FnOk P w K mg base CX0 1 f fd ["self", "line"] (spIni1 K C "line") := by
  refine F.ok sc_NoText___init__ (fun vs H Q E h => ?_) (fun cdv A outer s H vs Q E hr h => ?_)
  · obtain ⟨a, v, rfl, _⟩ := h; rfl
  · obtain ⟨a, v, rfl, ha, q⟩ := h
    refine ⟨_, (pss_one (ps_ost (pv 0) (pv 1))), ?_⟩
    walk_at "st0"
    exact ⟨_, rfl, _, rfl, a, C, rfl, O, hno, .inl ⟨ha, fun dx n1 n2 => q dx n1 n2⟩⟩
/-- an error class with an __init__ of its own -/
structure Ini (P : Program) (w : World) (K : PySem.W.Frag) (mg : Str → Option Value) (base : Heap) (C : Addr) (ps : List Str) (sp : Sp) : Prop where
  O : OexC K C
  ex : ∃ fI fd, PySem.W.findIn K (.ref C) "__init__" = some (some (.ref fI)) ∧ PySem.W.typeIn K (.ref fI) = some (.type "function") ∧ Binds K fd ps [] ∧ FnOk P w K mg base CX0 1 fI fd ps sp
theorem pmk_ini {X : Cx} {C : Addr} {ps : List Str} {sp : Sp} {x : Str} {e : Expr} {es : List Expr} {ta : TA} {p pos : Pos} (I : Ini X.prog X.w X.K X.mg X.base C ps sp) (hr : Room 2 X.A) (hg : Gl X x) (hm : X.mg x = some (.ref C)) (ha : PA X (e :: es) ta)
    (hdb : (x == ("__debug__" : Str)) = false := by decide) (he : starEach (e :: es) X.env = (false, eval e X.env) :: starEach es X.env := by rfl) (hpl : (backTo pos (starEach es X.env)).any (·.1) = false := by rfl) :
    PMk X (.Call (.Name x p) (e :: es) [] pos) (tMkO C sp [] ta) := by
  obtain ⟨fI, fd, h1, h2, h3, h4⟩ := I.ex
  exact pmk_oex I.O h1 h2 h4 hr h3 .nil pass0 hg hm ha hdb he hpl
structure IS (P : Program) (w : World) (K : PySem.W.Frag) (mg : Str → Option Value) (base : Heap) (c : Nat → Addr) : Prop where
  i17 : Ini P w K mg base (c 17) ["self", "part"] (spIni1 K (c 17) "part")
  i18 : Ini P w K mg base (c 18) ["self", "index"] (spIni1 K (c 18) "index")
  i19 : Ini P w K mg base (c 19) ["self", "index"] (spIni1 K (c 19) "index")
  i20 : Ini P w K mg base (c 20) ["self", "task", "index"] (spIni2 K (c 20) "task" "index")
  i21 : Ini P w K mg base (c 21) ["self", "most"] (spIni1 K (c 21) "most")
  i22 : Ini P w K mg base (c 22) ["self", "line"] (spIni1 K (c 22) "line")
def spPlain (c : Nat → Addr) : Sp := fun vs H Q E => ∃ i : Nat, vs = [.int i] ∧ i < 17 ∧ E (.ref (c i)) none H
theorem ok_law_plain {KE : Addr} {c : Nat → Addr} (B : Bl mg) (S : ES K mg KE c) (d : DefAt K mg "_law_plain" s__law_plain ["_law_which"]) : CalX P w K mg base 1 "_law_plain" ["_law_which"] (spPlain c) := d.calX fun f fd F => by
  refine F.okX sc__law_plain (fun vs H Q E h => ?_) (fun cdv A outer s H vs Q E hr h => ?_)
  · obtain ⟨i, rfl, _⟩ := h; rfl
  · obtain ⟨i, rfl, hi, q⟩ := h
    refine ⟨_, (pss_cons (ps_if (pt_cmpR op_eq (pv 0) pe_int (nomark _)) (pss_one (ps_raise rfl (takes_of rfl rfl rfl rfl) (pmk_own0 PySem.F.excBase_ValueError S.x0 S.e0.g S.e0.kp (raises_own S.e0.exC S.e0.ty) rfl))) pss_nil)
      (pss_cons (ps_if (pt_cmpR op_eq (pv 0) pe_int (nomark _)) (pss_one (ps_raise rfl (takes_of rfl rfl rfl rfl) (pmk_own0 PySem.F.excBase_ValueError S.x1 S.e1.g S.e1.kp (raises_own S.e1.exC S.e1.ty) rfl))) pss_nil)
      (pss_cons (ps_if (pt_cmpR op_eq (pv 0) pe_int (nomark _)) (pss_one (ps_raise rfl (takes_of rfl rfl rfl rfl) (pmk_own0 PySem.F.excBase_ValueError S.x2 S.e2.g S.e2.kp (raises_own S.e2.exC S.e2.ty) rfl))) pss_nil)
      (pss_cons (ps_if (pt_cmpR op_eq (pv 0) pe_int (nomark _)) (pss_one (ps_raise rfl (takes_of rfl rfl rfl rfl) (pmk_own0 PySem.F.excBase_ValueError S.x3 S.e3.g S.e3.kp (raises_own S.e3.exC S.e3.ty) rfl))) pss_nil)
      (pss_cons (ps_if (pt_cmpR op_eq (pv 0) pe_int (nomark _)) (pss_one (ps_raise rfl (takes_of rfl rfl rfl rfl) (pmk_own0 PySem.F.excBase_ValueError S.x4 S.e4.g S.e4.kp (raises_own S.e4.exC S.e4.ty) rfl))) pss_nil)
      (pss_cons (ps_if (pt_cmpR op_eq (pv 0) pe_int (nomark _)) (pss_one (ps_raise rfl (takes_of rfl rfl rfl rfl) (pmk_own0 PySem.F.excBase_ValueError S.x5 S.e5.g S.e5.kp (raises_own S.e5.exC S.e5.ty) rfl))) pss_nil)
      (pss_cons (ps_if (pt_cmpR op_eq (pv 0) pe_int (nomark _)) (pss_one (ps_raise rfl (takes_of rfl rfl rfl rfl) (pmk_own0 PySem.F.excBase_ValueError S.x6 S.e6.g S.e6.kp (raises_own S.e6.exC S.e6.ty) rfl))) pss_nil)
      (pss_cons (ps_if (pt_cmpR op_eq (pv 0) pe_int (nomark _)) (pss_one (ps_raise rfl (takes_of rfl rfl rfl rfl) (pmk_own0 PySem.F.excBase_ValueError S.x7 S.e7.g S.e7.kp (raises_own S.e7.exC S.e7.ty) rfl))) pss_nil)
      (pss_cons (ps_if (pt_cmpR op_eq (pv 0) pe_int (nomark _)) (pss_one (ps_raise rfl (takes_of rfl rfl rfl rfl) (pmk_own0 PySem.F.excBase_ValueError S.x8 S.e8.g S.e8.kp (raises_own S.e8.exC S.e8.ty) rfl))) pss_nil)
      (pss_cons (ps_if (pt_cmpR op_eq (pv 0) pe_int (nomark _)) (pss_one (ps_raise rfl (takes_of rfl rfl rfl rfl) (pmk_own0 PySem.F.excBase_ValueError S.x9 S.e9.g S.e9.kp (raises_own S.e9.exC S.e9.ty) rfl))) pss_nil)
      (pss_cons (ps_if (pt_cmpR op_eq (pv 0) pe_int (nomark _)) (pss_one (ps_raise rfl (takes_of rfl rfl rfl rfl) (pmk_own0 PySem.F.excBase_ValueError S.x10 S.e10.g S.e10.kp (raises_own S.e10.exC S.e10.ty) rfl))) pss_nil)
      (pss_cons (ps_if (pt_cmpR op_eq (pv 0) pe_int (nomark _)) (pss_one (ps_raise rfl (takes_of rfl rfl rfl rfl) (pmk_own0 PySem.F.excBase_ValueError S.x11 S.e11.g S.e11.kp (raises_own S.e11.exC S.e11.ty) rfl))) pss_nil)
      (pss_cons (ps_if (pt_cmpR op_eq (pv 0) pe_int (nomark _)) (pss_one (ps_raise rfl (takes_of rfl rfl rfl rfl) (pmk_own0 PySem.F.excBase_ValueError S.x12 S.e12.g S.e12.kp (raises_own S.e12.exC S.e12.ty) rfl))) pss_nil)
      (pss_cons (ps_if (pt_cmpR op_eq (pv 0) pe_int (nomark _)) (pss_one (ps_raise rfl (takes_of rfl rfl rfl rfl) (pmk_own0 PySem.F.excBase_ValueError S.x13 S.e13.g S.e13.kp (raises_own S.e13.exC S.e13.ty) rfl))) pss_nil)
      (pss_cons (ps_if (pt_cmpR op_eq (pv 0) pe_int (nomark _)) (pss_one (ps_raise rfl (takes_of rfl rfl rfl rfl) (pmk_own0 PySem.F.excBase_ValueError S.x14 S.e14.g S.e14.kp (raises_own S.e14.exC S.e14.ty) rfl))) pss_nil)
      (pss_cons (ps_if (pt_cmpR op_eq (pv 0) pe_int (nomark _)) (pss_one (ps_raise rfl (takes_of rfl rfl rfl rfl) (pmk_own0 PySem.F.excBase_ValueError S.x15 S.e15.g S.e15.kp (raises_own S.e15.exC S.e15.ty) rfl))) pss_nil)
      (pss_one (ps_raise rfl (takes_of rfl rfl rfl rfl) (pmk_own0 PySem.F.excBase_ValueError S.x16 S.e16.g S.e16.kp (raises_own S.e16.exC S.e16.ty) rfl))))))))))))))))))), ?_⟩
    walk_at "st0"
    refine q_eqI ?_
    walk_at "st"
    refine q_if (fun hc => ?_) (fun hc => ?_)
    · have e : i = 0 := by have := of_decide_eq_true hc; omega
      subst e
      exact q
    have n0 : i ≠ 0 := by have := of_decide_eq_false hc; omega
    walk_at "st"
    refine q_eqI ?_
    walk_at "st"
    refine q_if (fun hc => ?_) (fun hc => ?_)
    · have e : i = 1 := by have := of_decide_eq_true hc; omega
      subst e
      exact q
    have n1 : i ≠ 1 := by have := of_decide_eq_false hc; omega
    walk_at "st"
    refine q_eqI ?_
    walk_at "st"
    refine q_if (fun hc => ?_) (fun hc => ?_)
    · have e : i = 2 := by have := of_decide_eq_true hc; omega
      subst e
      exact q
    have n2 : i ≠ 2 := by have := of_decide_eq_false hc; omega
    walk_at "st"
    refine q_eqI ?_
    walk_at "st"
    refine q_if (fun hc => ?_) (fun hc => ?_)
    · have e : i = 3 := by have := of_decide_eq_true hc; omega
      subst e
      exact q
    have n3 : i ≠ 3 := by have := of_decide_eq_false hc; omega
    walk_at "st"
    refine q_eqI ?_
    walk_at "st"
    refine q_if (fun hc => ?_) (fun hc => ?_)
    · have e : i = 4 := by have := of_decide_eq_true hc; omega
      subst e
      exact q
    have n4 : i ≠ 4 := by have := of_decide_eq_false hc; omega
    walk_at "st"
    refine q_eqI ?_
    walk_at "st"
    refine q_if (fun hc => ?_) (fun hc => ?_)
    · have e : i = 5 := by have := of_decide_eq_true hc; omega
      subst e
      exact q
    have n5 : i ≠ 5 := by have := of_decide_eq_false hc; omega
    walk_at "st"
    refine q_eqI ?_
    walk_at "st"
    refine q_if (fun hc => ?_) (fun hc => ?_)
    · have e : i = 6 := by have := of_decide_eq_true hc; omega
      subst e
      exact q
    have n6 : i ≠ 6 := by have := of_decide_eq_false hc; omega
    walk_at "st"
    refine q_eqI ?_
    walk_at "st"
    refine q_if (fun hc => ?_) (fun hc => ?_)
    · have e : i = 7 := by have := of_decide_eq_true hc; omega
      subst e
      exact q
    have n7 : i ≠ 7 := by have := of_decide_eq_false hc; omega
    walk_at "st"
    refine q_eqI ?_
    walk_at "st"
    refine q_if (fun hc => ?_) (fun hc => ?_)
    · have e : i = 8 := by have := of_decide_eq_true hc; omega
      subst e
      exact q
    have n8 : i ≠ 8 := by have := of_decide_eq_false hc; omega
    walk_at "st"
    refine q_eqI ?_
    walk_at "st"
    refine q_if (fun hc => ?_) (fun hc => ?_)
    · have e : i = 9 := by have := of_decide_eq_true hc; omega
      subst e
      exact q
    have n9 : i ≠ 9 := by have := of_decide_eq_false hc; omega
    walk_at "st"
    refine q_eqI ?_
    walk_at "st"
    refine q_if (fun hc => ?_) (fun hc => ?_)
    · have e : i = 10 := by have := of_decide_eq_true hc; omega
      subst e
      exact q
    have n10 : i ≠ 10 := by have := of_decide_eq_false hc; omega
    walk_at "st"
    refine q_eqI ?_
    walk_at "st"
    refine q_if (fun hc => ?_) (fun hc => ?_)
    · have e : i = 11 := by have := of_decide_eq_true hc; omega
      subst e
      exact q
    have n11 : i ≠ 11 := by have := of_decide_eq_false hc; omega
    walk_at "st"
    refine q_eqI ?_
    walk_at "st"
    refine q_if (fun hc => ?_) (fun hc => ?_)
    · have e : i = 12 := by have := of_decide_eq_true hc; omega
      subst e
      exact q
    have n12 : i ≠ 12 := by have := of_decide_eq_false hc; omega
    walk_at "st"
    refine q_eqI ?_
    walk_at "st"
    refine q_if (fun hc => ?_) (fun hc => ?_)
    · have e : i = 13 := by have := of_decide_eq_true hc; omega
      subst e
      exact q
    have n13 : i ≠ 13 := by have := of_decide_eq_false hc; omega
    walk_at "st"
    refine q_eqI ?_
    walk_at "st"
    refine q_if (fun hc => ?_) (fun hc => ?_)
    · have e : i = 14 := by have := of_decide_eq_true hc; omega
      subst e
      exact q
    have n14 : i ≠ 14 := by have := of_decide_eq_false hc; omega
    walk_at "st"
    refine q_eqI ?_
    walk_at "st"
    refine q_if (fun hc => ?_) (fun hc => ?_)
    · have e : i = 15 := by have := of_decide_eq_true hc; omega
      subst e
      exact q
    have n15 : i ≠ 15 := by have := of_decide_eq_false hc; omega
    walk_at "st"
    have e : i = 16 := by omega
    subst e
    exact q
end
end T



namespace T
section
variable {P : Program} {w : World} {K : PySem.W.Frag} {mg : Str → Option Value} {base : Heap}
def spRaise (c : Nat → Addr) : Sp := fun vs H Q E => ∃ (i : Nat) (v1 v2 : V), vs = [.int i, v1, v2] ∧ i < 23 ∧ (i < 17 → E (.ref (c i)) none H) ∧ (17 ≤ i → ∀ d H', H d = none → Same H H' → H' d = some (.xd (fsOf i v1 v2)) → E (.ref (c i)) (some d) H')
/-- behind an __init__: the error is let go -/
theorem ini_end {H : Hp} {a dx : Addr} {fs : List (Str × V)} (na : H a = none) (nd : H dx = none) {H2 : Hp} (s2 : ∀ b o, H b = some o → b ≠ a → H2 b = some o) : Same H (upd (del H2 a) dx (.xd fs)) := fun b o hb => by
  have n1 : b ≠ dx := ne_of_none hb nd
  have n2 : b ≠ a := ne_of_none hb na
  rw [upd_ne n1, del_ne n2]
  exact s2 b o hb n2
theorem q_callS {sp : Sp} {E : L2.St → XK} {t : TA} {σ : L2.St} {H : Hp} {Q : VK} (h : t σ H fun vs H1 => sp vs H1 Q (E σ)) : tCallS sp E t σ H Q := h
theorem q_mk1 {C : Addr} {f : Str} {H : Hp} {Q : XK} {v : V} {k : Nat} {σ : L2.St} (hs : σ[k]? = some (some v)) (q : ∀ d H', H d = none → Same H H' → H' d = some (.xd [(f, v)]) → Q (.ref C) (some d) H') : tMkO C (spIni1 K C f) [] (tCons (tVar k) tNil) σ H Q := by
  refine ⟨v, hs, by simp, fun a na => ⟨a, v, rfl, upd_same, fun dx n1 n2 => ?_⟩⟩
  have nd : H dx = none := by rw [upd_ne n2] at n1; exact n1
  refine ⟨rfl, dx, [(f, v)], upd_same, by rw [upd_ne n2]; exact upd_same, nd, q dx _ nd (ini_end na nd fun b o hb nb => ?_) upd_same⟩
  rw [upd_ne nb, upd_ne (ne_of_none hb nd), upd_ne nb]
  exact hb
theorem q_mk2 {C : Addr} {f g : Str} {H : Hp} {Q : XK} {v u : V} {k m : Nat} {σ : L2.St} (hs : σ[k]? = some (some v)) (hu : σ[m]? = some (some u)) (q : ∀ d H', H d = none → Same H H' → H' d = some (.xd [(g, u), (f, v)]) → Q (.ref C) (some d) H') : tMkO C (spIni2 K C f g) [] (tCons (tVar k) (tCons (tVar m) tNil)) σ H Q := by
  refine ⟨v, hs, u, hu, by simp, fun a na => ⟨a, v, u, rfl, upd_same, fun dx H2 n1 n2 e1 e2 k2 => ?_⟩⟩
  have nd : H dx = none := by rw [upd_ne n2] at n1; exact n1
  refine ⟨rfl, dx, _, e1, e2, nd, q dx _ nd (ini_end na nd fun b o hb nb => ?_) upd_same⟩
  exact k2 b o (by rw [upd_ne nb]; exact hb) nb
theorem ok_law_raise {KE : Addr} {c : Nat → Addr} (B : Bl mg) (S : ES K mg KE c) (I : IS P w K mg base c) (d : DefAt K mg "_law_raise" s__law_raise ["_law_which", "_law_one", "_law_two"]) (c__law_plain : CalX P w K mg base 1 "_law_plain" ["_law_which"] (spPlain c)) : CalX P w K mg base 3 "_law_raise" ["_law_which", "_law_one", "_law_two"] (spRaise c) := d.calX fun f fd F => by
  refine F.okX sc__law_raise (fun vs H Q E h => ?_) (fun cdv A outer s H vs Q E hr h => ?_)
  · obtain ⟨i, v1, v2, rfl, _⟩ := h; rfl
  · obtain ⟨i, v1, v2, rfl, hi, q1, q2⟩ := h
    refine ⟨_, (pss_cons (ps_if (pt_cmpR op_lt (pv 0) pe_int (nomark _)) (pss_one (ps_expr (by exact (pe_calX c__law_plain (hr.mono (by omega)) rfl (takes_of (E := E) rfl rfl rfl rfl) (by exact (pa_cons (pv 0) pa_nil)))))) pss_nil)
      (pss_cons (ps_if (pt_cmpR op_eq (pv 0) pe_int (nomark _)) (pss_one (ps_raise rfl (takes_of rfl rfl rfl rfl) (pmk_ini I.i17 (hr.mono (by omega)) rfl S.e17.g (pa_cons (pv 1) pa_nil)))) pss_nil)
      (pss_cons (ps_if (pt_cmpR op_eq (pv 0) pe_int (nomark _)) (pss_one (ps_raise rfl (takes_of rfl rfl rfl rfl) (pmk_ini I.i18 (hr.mono (by omega)) rfl S.e18.g (pa_cons (pv 1) pa_nil)))) pss_nil)
      (pss_cons (ps_if (pt_cmpR op_eq (pv 0) pe_int (nomark _)) (pss_one (ps_raise rfl (takes_of rfl rfl rfl rfl) (pmk_ini I.i19 (hr.mono (by omega)) rfl S.e19.g (pa_cons (pv 1) pa_nil)))) pss_nil)
      (pss_cons (ps_if (pt_cmpR op_eq (pv 0) pe_int (nomark _)) (pss_one (ps_raise rfl (takes_of rfl rfl rfl rfl) (pmk_ini I.i20 (hr.mono (by omega)) rfl S.e20.g (pa_cons (pv 1) (pa_cons (pv 2) pa_nil))))) pss_nil)
      (pss_cons (ps_if (pt_cmpR op_eq (pv 0) pe_int (nomark _)) (pss_one (ps_raise rfl (takes_of rfl rfl rfl rfl) (pmk_ini I.i21 (hr.mono (by omega)) rfl S.e21.g (pa_cons (pv 1) pa_nil)))) pss_nil)
      (pss_one (ps_raise rfl (takes_of rfl rfl rfl rfl) (pmk_ini I.i22 (hr.mono (by omega)) rfl S.e22.g (pa_cons (pv 1) pa_nil)))))))))), ?_⟩
    walk_at "st0"
    refine q_if (fun hc => ?_) (fun hc => ?_)
    · refine q_drop (q_callS ?_)
      walk_at "st"
      exact ⟨i, rfl, by have := of_decide_eq_true hc; omega, q1 (by have := of_decide_eq_true hc; omega)⟩
    have n17 : 17 ≤ i := by have := of_decide_eq_false hc; omega
    replace q2 := q2 n17
    walk_at "st"
    refine q_eqI ?_
    walk_at "st"
    refine q_if (fun hc => ?_) (fun hc => ?_)
    · have e : i = 17 := by have := of_decide_eq_true hc; omega
      subst e
      exact q_mk1 rfl q2
    have n17 : i ≠ 17 := by have := of_decide_eq_false hc; omega
    walk_at "st"
    refine q_eqI ?_
    walk_at "st"
    refine q_if (fun hc => ?_) (fun hc => ?_)
    · have e : i = 18 := by have := of_decide_eq_true hc; omega
      subst e
      exact q_mk1 rfl q2
    have n18 : i ≠ 18 := by have := of_decide_eq_false hc; omega
    walk_at "st"
    refine q_eqI ?_
    walk_at "st"
    refine q_if (fun hc => ?_) (fun hc => ?_)
    · have e : i = 19 := by have := of_decide_eq_true hc; omega
      subst e
      exact q_mk1 rfl q2
    have n19 : i ≠ 19 := by have := of_decide_eq_false hc; omega
    walk_at "st"
    refine q_eqI ?_
    walk_at "st"
    refine q_if (fun hc => ?_) (fun hc => ?_)
    · have e : i = 20 := by have := of_decide_eq_true hc; omega
      subst e
      exact q_mk2 rfl rfl q2
    have n20 : i ≠ 20 := by have := of_decide_eq_false hc; omega
    walk_at "st"
    refine q_eqI ?_
    walk_at "st"
    refine q_if (fun hc => ?_) (fun hc => ?_)
    · have e : i = 21 := by have := of_decide_eq_true hc; omega
      subst e
      exact q_mk1 rfl q2
    have n21 : i ≠ 21 := by have := of_decide_eq_false hc; omega
    walk_at "st"
    have e : i = 22 := by omega
    subst e
    exact q_mk1 rfl q2
end
end T



namespace T
section
variable {P : Program} {w : World} {K : PySem.W.Frag} {mg : Str → Option Value} {base : Heap}
/-- what the except suite does, the error at p -/
def tSuiteO (K : PySem.W.Frag) (c : Nat → Addr) (p : Addr × Obj) : TS :=
  tAsg (tLst (tCons (tCB (rIsX K p) (tCons (tVar 4) (tCons (tC (.ty "ValueError")) tNil))) (tCons (tCallE (spKinds K c) p (tCons (tVar 4) tNil)) (tCons (tCallE (spRead K c) p (tCons (tVar 0) (tCons (tVar 4) tNil))) tNil)))) (gName 3)
def tSuite (K : PySem.W.Frag) (c : Nat → Addr) (a : Addr) (cls : Value) (d : Option Addr) : TS := fun D σ H => ∀ oe, Zc cls d oe → (∃ vs, oe.data = .fields vs) → tSuiteO K c (a, oe) D σ H
theorem pss_all {X : Cx} {st : List Stmt} {t : Obj → TS} {cls : Value} {d : Option Addr} {oe : Obj} (hz : Zc cls d oe) (hf : ∃ vs, oe.data = .fields vs) (h : PSs X st (t oe)) : PSs X st (fun D σ H => ∀ oe, Zc cls d oe → (∃ vs, oe.data = .fields vs) → t oe D σ H) :=
  ⟨fun pins s σ H D I q => h.run pins s σ H D I (q oe hz hf)⟩
theorem hb_VE : bootBuiltins "ValueError" = some (.type "ValueError") := PyProof.Rows.Boot.«ValueError»
def spFields (K : PySem.W.Frag) : Sp := fun vs H Q _ => ∃ (i : Nat) (v1 v2 : V), vs = [.int i, v1, v2] ∧ i < 23 ∧ ∀ q k o H', Same H H' → H' q = some (.lst [.bl true, .ref k, .ref o]) → H' k = some (.lst (kinds i)) → H' o = some (.lst (outOf i v1 v2)) → Q (.ref q) H'
theorem ok_law_fields {KE : Addr} {c : Nat → Addr} (B : Bl mg) (S : ES K mg KE c) (d : DefAt K mg "_law_fields" s__law_fields ["_law_which", "_law_one", "_law_two"]) (c__law_raise : CalX P w K mg base 3 "_law_raise" ["_law_which", "_law_one", "_law_two"] (spRaise c))
    (c__law_kinds : CalE P w K mg base 1 "_law_kinds" ["_law_e"] (spKinds K c)) (c__law_read : CalE P w K mg base 1 "_law_read_fields" ["_law_which", "_law_e"] (spRead K c)) : Cal P w K mg base 4 "_law_fields" ["_law_which", "_law_one", "_law_two"] (spFields K) := d.cal fun f fd F => by
  refine F.ok sc__law_fields (fun vs H Q E h => ?_) (fun cdv A outer s H vs Q E hr h => ?_)
  · obtain ⟨i, v1, v2, rfl, _⟩ := h; rfl
  · obtain ⟨i, v1, v2, rfl, hi, q⟩ := h
    have rh : L2H.RoomH 1 (A.deeper (envOfC "_law_fields" (defScope s__law_fields) s.heap.objs.size f cdv)) := L2H.roomH_of (hr.mono (by omega))
    refine ⟨_, pss_cons (ps_set (i := 3) sc__law_fields.nd rfl (Or.inl rfl) pe_non)
      (pss_cons (ps_try_as (i := 4) (tb := fun W => tDrop (tCallS (spRaise c) (WE W) (tCons (tVar 0) (tCons (tVar 1) (tCons (tVar 2) tNil))))) (ts := tSuite K c) (Wout := fun _ _ _ _ => False) rfl rfl sc__law_fields.nd rfl rfl ⟨rfl, by decide, Or.inl S.kg⟩ takes0
          (fun W pn xe tk _ => pss_one (ps_expr (by exact (pe_calX c__law_raise hr rfl tk (by exact (pa_cons (pv 0) (pa_cons (pv 1) (pa_cons (pv 2) pa_nil))))))))
          (fun a oe cls d pn hz hf => pss_all (t := fun oe => tSuiteO K c (a, oe)) hz hf (pss_one (ps_set (i := 3) sc__law_fields.nd rfl (Or.inl rfl) (pe_lst
            (pa_cons (pe_callB (call_isX (p := (a, oe)) (by exact List.mem_cons_self)) rfl B.isinstance hb_isinstance (pa_cons (pv 4) (pa_cons (pe_bltn (v := .ty "ValueError") rfl S.ve hb_VE rfl) pa_nil)))
            (pa_cons (by exact (pe_calE (pp := (a, oe)) c__law_kinds ⟨rh.dp, rh.un⟩ (by exact List.mem_cons_self) rfl (by exact (pa_cons (pv 4) pa_nil))))
            (pa_cons (by exact (pe_calE (pp := (a, oe)) c__law_read ⟨rh.dp, rh.un⟩ (by exact List.mem_cons_self) rfl (by exact (pa_cons (pv 0) (pa_cons (pv 4) pa_nil))))) pa_nil))))))))
      (pss_one (ps_ret (pv 3)))), ?_⟩
    walk_at "st0"
    have suite : ∀ d H', XdAt H' d (fsOf i v1 v2) → (17 ≤ i → d.isSome = true) → Same H H' → ∀ a, H' a = none → tSuite K c a (.ref (c i)) d { nx := fun σ' H' => tRet (tVar 3) { nx := fun x H' => Q V.non H', rt := Q } (σ'.set 4 none) H', rt := Q } [some (V.int ↑i), some v1, some v2, some V.non, some (.ref a)] H' := by
      intro d H' xd hd s1 a na oe hz hf
      have EA : ExA K (a, oe) (c i) d := ⟨hz, hf, S.exc hi⟩
      show tAsg _ _ _ _ _
      refine q_set ?_
      walk_at "st"
      refine q_isX EA xd (fun _ r => r) (S.kitV hi) ?_
      walk_at "st"
      refine ⟨_, rfl, i, d, _, rfl, hi, EA, xd, fun k H2 s2 nk ek => ?_⟩
      refine q_cons ⟨_, rfl, _, rfl, i, v1, v2, rfl, hi, ⟨d, EA, xd.mono s2, hd⟩, fun o H3 s3 no eo => ?_⟩
      refine q_nil ⟨by show 3 ≤ sizeLine; decide, fun L nL => ?_⟩
      walk_at "st"
      have s4 := same_new (o := .lst [.bl true, .ref k, .ref o]) nL
      exact q L k o _ (s1.trans (s2.trans (s3.trans s4))) upd_same (s4 _ _ (s3 _ _ ek)) (s4 _ _ eo)
    refine q_callS ?_
    walk_at "st"
    refine ⟨i, v1, v2, rfl, hi, fun h => ?_, fun h d H' nd s1 ed => ?_⟩
    · refine ⟨true, S.exm hi, fun _ a na => ?_, fun z => by cases z⟩
      refine suite none H ?_ (fun z => absurd z (by omega)) (Same.refl _) a na
      show fsOf i v1 v2 = []
      unfold fsOf
      rw [if_neg (by omega), if_neg (by omega), if_neg (by omega), if_neg (by omega), if_neg (by omega), if_neg (by omega)]
    · exact ⟨true, S.exm hi, fun _ a na => suite (some d) H' ed (fun _ => rfl) s1 a na, fun z => by cases z⟩
end
end T



namespace T
section
variable {P : Program} {w : World} {K : PySem.W.Frag} {mg : Str → Option Value} {base : Heap}
theorem q_lcR {ta : TA} {g : TG} {tt : TT} {te : TE} {vs : List Nat} {σ : L2.St} {H : Hp} {Q : VK} (h : ta σ H fun us H1 => ∃ j : Int, us = [.int j] ∧ -(2 ^ 62) ≤ j ∧ j < 2 ^ 62 ∧ ∀ D, H1 D = none → ∃ W : Nat → Nat → Hp → Prop, (∃ m, W 0 m (upd H1 D (.lst []))) ∧ ∀ i m H, W i m H →
    ((Itr 0 j.toNat).stop i H ∧ Q (.ref D) H) ∨ ((Itr 0 j.toNat).go i H ∧ ∃ Nx : Hp → Prop, (∀ H', Nx H' → ∃ m', m' < m ∧ W (i + 1) m' H') ∧ ∀ x H', (Itr 0 j.toNat).yld i H x H' → g x (wipe σ vs) H' fun σ2 H2 => wipe σ2 vs = wipe σ vs ∧ tt σ2 H2 fun b H3 =>
      if b = true then te σ2 H3 fun y H4 => ∃ acc, H4 D = some (.lst acc) ∧ acc.length < sizeLine ∧ Nx (upd H4 D (.lst (acc ++ [y]))) else Nx H3)) : tLc (iRng1 ta) g tt te vs σ H Q := h
def outD (i : Nat) (d1 d2 : PyData) : List PyData := if i < 17 then [] else if i = 20 then [d1, d2] else [d1]
theorem outD_ok {H : Hp} {i : Nat} {v1 v2 : V} {d1 d2 : PyData} (h1 : Dp K H v1 d1) (h2 : Dp K H v2 d2) : DpAll K H (outOf i v1 v2) (outD i d1 d2) := by
  unfold outOf outD
  split
  · exact .nil
  · split
    · exact .cons h1 (.cons h2 .nil)
    · exact .cons h1 .nil
def kindD (i : Nat) : List PyData := (List.range 23).map fun j => .bool (decide (j = i))
theorem kindD_ok {H : Hp} {i : Nat} : DpAll K H (kinds i) (kindD i) := by
  unfold kinds kindD
  generalize List.range 23 = l
  induction l with
  | nil => exact .nil
  | cons a r ih => exact .cons (.bl _) ih
theorem kindD_eq : ∀ i, i < 23 → PyData.eqv (.list (kindD i)) (.list (kindD i)) = true ∧ SeqAt.shaped (.list (kindD i)) = true := by decide +kernel
def spHolds (K : PySem.W.Frag) : Sp := fun vs H Q _ => ∃ (i : Nat) (v1 v2 : V) (d1 d2 : PyData), vs = [.int i, v1, v2] ∧ i < 23 ∧ Dp K H v1 d1 ∧ Dp K H v2 d2 ∧ depN 4 d1 ∧ depN 4 d2 ∧ ∀ H', Same H H' → Q (.bl true) H'
theorem ok_law_holds (B : Bl mg) (d : DefAt K mg "_law_holds" s__law_holds ["_law_which", "_law_one", "_law_two"]) (c__law_fields : Cal P w K mg base 4 "_law_fields" ["_law_which", "_law_one", "_law_two"] (spFields K))
    (c__law_same : Cal P w K mg base 5 "_law_same" ["_law_one", "_law_two"] (spSame K 5)) : Cal P w K mg base 6 "_law_holds" ["_law_which", "_law_one", "_law_two"] (spHolds K) := d.cal fun f fd F => by
  refine F.ok sc__law_holds (fun vs H Q E h => ?_) (fun cdv A outer s H vs Q E hr h => ?_)
  · obtain ⟨i, v1, v2, d1, d2, rfl, _⟩ := h; rfl
  · obtain ⟨i, v1, v2, d1, d2, rfl, hi, h1, h2, dep1, dep2, q⟩ := h
    refine ⟨_, (pss_cons (ps_set (i := 3) sc__law_holds.nd rfl (Or.inl rfl) (pe_cal c__law_fields (hr.mono (by omega)) rfl (pa_cons (pv 0) (pa_cons (pv 1) (pa_cons (pv 2) pa_nil)))))
      (pss_cons (ps_if (PW.pt (pw_or (pt_cmp (pc_isN (pv 3))) (pw_or1 (pt_not (pt_val (pe_ix ix_list (pv 3) pe_int (fun _ _ => rfl))))))) (pss_one (ps_ret pe_bl)) pss_nil)
      (pss_cons (ps_if (pt_cmpR (op_neD hr.units) (pe_ix ix_list (pv 3) pe_int (fun _ _ => rfl)) (pe_lc (own := [("_law_k", 5)]) (tt := tYes) rfl sc__law_holds.nd (pi_range1 rfl B.range (pa_cons pe_int pa_nil)) (blkOk_by (N := ["_law_which", "_law_one", "_law_two", "_law_caught", "_law_fields_here", "_law_k"]) (sc := defScope s__law_holds) (by decide +kernel)) (fun _ _ _ _ _ => (pg_name (i := 5) sc__law_holds.nd rfl (Or.inl rfl))) (fun _ _ _ _ _ => pts_nil) (fun _ _ _ _ _ => (pe_cmpR op_eq (pv 5) (pv 0) (nomark _)))) (nomark _)) (pss_one (ps_ret pe_bl)) pss_nil)
      (pss_cons (ps_set (i := 4) sc__law_holds.nd rfl (Or.inl rfl) (pe_lst pa_nil))
      (pss_cons (ps_if (pt_cmpR op_gt (pv 0) pe_int (nomark _)) (pss_one (ps_set (i := 4) sc__law_holds.nd rfl (Or.inl rfl) (pe_lst (pa_cons (pv 1) pa_nil)))) pss_nil)
      (pss_cons (ps_if (pt_cmpR op_eq (pv 0) pe_int (nomark _)) (pss_one (ps_set (i := 4) sc__law_holds.nd rfl (Or.inl rfl) (pe_lst (pa_cons (pv 1) (pa_cons (pv 2) pa_nil))))) pss_nil)
      (pss_one (ps_ret (pe_cal c__law_same (hr.mono (by omega)) rfl (pa_cons (pe_ix ix_list (pv 3) pe_int (fun _ _ => rfl)) (pa_cons (pv 4) pa_nil))))))))))), ?_⟩
    walk_at "st0"
    refine ⟨i, v1, v2, rfl, hi, fun a k o H1 s1 ea ek eo => ?_⟩
    walk_at "st"
    refine iteF' rfl ?_
    walk_at "st"
    refine q_ixL (SqL.of ea) (atI0 rfl) ?_
    walk_at "st"
    refine iteF' rfl ?_
    walk_at "st"
    refine q_ixL (SqL.of ea) (atI1 rfl) ?_
    walk_at "st"
    refine q_lcR ?_
    walk_at "st"
    refine ⟨23, rfl, by omega, by omega, fun D nD => lc_val walk_range (fun (j : Nat) => V.bl (decide ((0 : Int) + (j : Int) = (i : Int)))) nD (by decide) (fun _ _ => trivial) yfn_same ?_ ?_⟩
    · rintro j x H' H2 lt s ⟨rfl, rfl⟩ Q' k
      refine q_gname ⟨rfl, ?_⟩
      walk_at "st"
      refine q_eqI ?_
      exact k _ (Same.refl _)
    intro H2 s2 e2
    have ef : ((List.range (Int.toNat 23)).map fun (j : Nat) => V.bl (decide ((0 : Int) + (j : Int) = (i : Int)))) = kinds i := by
      unfold kinds
      refine List.map_congr_left fun j _ => ?_
      congr 1
      exact decide_eq_decide.mpr ⟨fun h => by omega, fun h => by omega⟩
    rw [ef] at e2
    have ek2 := s2 _ _ ek
    obtain ⟨ke, ks⟩ := kindD_eq i hi
    refine ⟨.list (kindD i), .list (kindD i), .lst (SqL.of ek2) kindD_ok, .lst (SqL.of e2) kindD_ok, ks, ks, ?_⟩
    rw [ke]
    walk_at "st"
    refine iteF' rfl ?_
    have s12 := s1.trans s2
    have ea2 := s2 _ _ ea
    have eo2 := s2 _ _ eo
    clear ke ks ek2 e2 ef nD ek ea eo s1 s2
    refine q_next ?_
    dsimp only
    refine q_seq ?_
    walk_at "st"
    refine ⟨by show 0 ≤ sizeLine; decide, fun L0 nL0 => ?_⟩
    have s3 := s12.trans (same_new (o := .lst []) nL0)
    have ea3 := (same_new (o := .lst []) nL0) _ _ ea2
    have eo3 := (same_new (o := .lst []) nL0) _ _ eo2
    have e0 : upd H2 L0 (.lst []) L0 = some (.lst []) := upd_same
    generalize upd H2 L0 (.lst []) = H3 at *
    -- behind the two ifs: the fields as they are due
    have fin : ∀ L H4, Same H3 H4 → H4 L = some (.lst (outOf i v1 v2)) → tRet (tCall (spSame K 5) [] E0 (tCons (tOp (rIxL K) (tVar 3) (tC (V.int 2))) (tCons (tVar 4) tNil))) { nx := fun x H' => Q V.non H', rt := Q } [some (V.int ↑i), some v1, some v2, some (V.ref a), some (V.ref L), none] H4 := by
      intro L H4 s4 eL
      walk_at "st"
      refine q_ixL (SqL.of (s4 _ _ ea3)) (i := 2) rfl ?_
      walk_at "st"
      have t4 := s3.trans s4
      have dd : DpAll K H4 (outOf i v1 v2) (outD i d1 d2) := outD_ok (L2.Dp.mono t4 h1) (L2.Dp.mono t4 h2)
      refine ⟨.ref o, .ref L, .list (outD i d1 d2), .list (outD i d1 d2), rfl, .lst (SqL.of (s4 _ _ eo3)) dd, .lst (SqL.of eL) dd, ?_, fun b hb => ?_⟩
      · refine .inr ⟨_, .inl rfl, ?_, ?_⟩
        · unfold outD; split
          · simp
          · split <;> simp
        · unfold outD
          intro e he
          split at he
          · simp at he
          · split at he
            · simp only [List.mem_cons, List.not_mem_nil, or_false] at he
              rcases he with rfl | rfl
              · exact dep1
              · exact dep2
            · simp only [List.mem_cons, List.not_mem_nil, or_false] at he
              subst he
              exact dep1
      · have e : b = true := hb.mpr rfl
        subst e
        exact q _ t4
    walk_at "st"
    refine q_if (fun hc => ?_) (fun hc => ?_)
    · have n17 : ¬ i < 17 := by have := of_decide_eq_true hc; omega
      walk_at "st"
      refine ⟨by show 1 ≤ sizeLine; decide, fun L1 nL1 => ?_⟩
      walk_at "st"
      refine q_eqI ?_
      walk_at "st"
      refine q_if (fun hd => ?_) (fun hd => ?_)
      · have e : i = 20 := by have := of_decide_eq_true hd; omega
        walk_at "st"
        refine ⟨by show 2 ≤ sizeLine; decide, fun L2 nL2 => ?_⟩
        refine fin L2 _ ((same_new nL1).trans (same_new nL2)) ?_
        unfold outOf
        rw [if_neg n17, if_pos e]
        exact upd_same
      · have e : ¬ i = 20 := by have := of_decide_eq_false hd; omega
        refine q_next (fin L1 _ (same_new nL1) ?_)
        unfold outOf
        rw [if_neg n17, if_neg e]
        exact upd_same
    · have n17 : i < 17 := by have := of_decide_eq_false hc; omega
      walk_at "st"
      refine q_eqI ?_
      walk_at "st"
      refine q_if (fun hd => ?_) (fun hd => ?_)
      · exact absurd (of_decide_eq_true hd) (by omega)
      · refine q_next (fin L0 _ (Same.refl _) ?_)
        unfold outOf
        rw [if_pos n17]
        exact e0
def spLaw (K : PySem.W.Frag) : Sp := fun vs H Q _ => ∃ (a : Addr) (ns : List Int), vs = [.ref a] ∧ SqL K H a (ns.map V.int) ∧ ns.length ≤ 63 ∧ ∀ H', Q (.bl true) H'
theorem ok_law (B : Bl mg) (c__law_source : Cal P w K mg base 1 "_law_source" ["_law_script"] (spSource K)) (c__law_draw : Cal P w K mg base 1 "_law_draw" ["_law_source_here", "_law_many"] (spDraw K)) (c__law_worth : Cal P w K mg base 2 "_law_worth" ["_law_source_here"] (spWorth K))
    (c__law_holds : Cal P w K mg base 6 "_law_holds" ["_law_which", "_law_one", "_law_two"] (spHolds K)) : ∀ f fd, Fun K "law" "law" s_law f fd → FnOk P w K mg base CX0 7 f fd ["_law_script"] (spLaw K) := fun f fd F => by
  refine F.ok sc_law (fun vs H Q E h => ?_) (fun cdv A outer s H vs Q E hr h => ?_)
  · obtain ⟨a, ns, rfl, _⟩ := h; rfl
  · obtain ⟨a, ns, rfl, hs, l63, q⟩ := h
    refine ⟨_, (pss_cons (ps_set (i := 1) sc_law.nd rfl (Or.inl rfl) (pe_cal c__law_source (hr.mono (by omega)) rfl (pa_cons (pv 0) pa_nil)))
      (pss_cons (ps_set (i := 2) sc_law.nd rfl (Or.inl rfl) (pe_cal c__law_draw (hr.mono (by omega)) rfl (pa_cons (pv 1) (pa_cons pe_int pa_nil))))
      (pss_cons (ps_set (i := 3) sc_law.nd rfl (Or.inl rfl) (pe_cal c__law_draw (hr.mono (by omega)) rfl (pa_cons (pv 1) (pa_cons pe_int pa_nil))))
      (pss_cons (ps_set (i := 4) sc_law.nd rfl (Or.inl rfl) (pe_cal c__law_worth (hr.mono (by omega)) rfl (pa_cons (pv 1) pa_nil)))
      (pss_cons (ps_set (i := 5) sc_law.nd rfl (Or.inl rfl) (pe_cal c__law_worth (hr.mono (by omega)) rfl (pa_cons (pv 1) pa_nil)))
      (pss_cons (ps_if (PW.pt (pw_or (pt_not (pt_val (pe_cal c__law_holds (hr.mono (by omega)) rfl (pa_cons (pv 2) (pa_cons (pv 4) (pa_cons (pv 5) pa_nil)))))) (pw_or1 (pt_not (pt_val (pe_cal c__law_holds (hr.mono (by omega)) rfl (pa_cons (pv 3) (pa_cons (pv 5) (pa_cons (pv 4) pa_nil))))))))) (pss_one (ps_ret pe_bl)) pss_nil)
      (pss_one (ps_ret (pe_cal c__law_holds (hr.mono (by omega)) rfl (pa_cons (pv 2) (pa_cons (pv 5) (pa_cons (pv 4) pa_nil)))))))))))), ?_⟩
    walk_at "st0"
    refine ⟨a, ns, rfl, hs, l63, fun p g H1 s1 np ng S1 => ?_⟩
    walk_at "st"
    refine ⟨p, g, 0, 23, rfl, S1, by omega, by omega, by omega, fun r1 H2 a1 b1 S2 o2 => ?_⟩
    walk_at "st"
    refine ⟨p, g, 1, 23, rfl, S2, by omega, by omega, by omega, fun r2 H3 a2 b2 S3 o3 => ?_⟩
    walk_at "st"
    refine ⟨p, g, 2, rfl, S3, by omega, fun v1 d1 H4 o4 S4 D1 dep1 => ?_⟩
    walk_at "st"
    refine ⟨p, g, 4, rfl, S4, by omega, fun v2 d2 H5 o5 S5 D2 dep2 => ?_⟩
    replace D1 := L2.Dp.mono (offH_to (p := p) (g := g)) (L2.Dp.mono o5.sameH D1)
    replace D2 := L2.Dp.mono (offH_to (p := p) (g := g)) D2
    obtain ⟨i, rfl⟩ : ∃ i : Nat, r1 = i := ⟨r1.toNat, by omega⟩
    obtain ⟨j, rfl⟩ : ∃ j : Nat, r2 = j := ⟨r2.toNat, by omega⟩
    walk_at "st"
    refine ⟨i, v1, v2, d1, d2, rfl, by omega, D1, D2, dep1, dep2, fun H6 s6 => ?_⟩
    walk_at "st"
    refine iteF ?_
    walk_at "st"
    refine ⟨j, v2, v1, d2, d1, rfl, by omega, L2.Dp.mono s6 D2, L2.Dp.mono s6 D1, dep2, dep1, fun H7 s7 => ?_⟩
    walk_at "st"
    refine iteF ?_
    walk_at "st"
    have s67 := s6.trans s7
    exact ⟨i, v2, v1, d2, d1, rfl, by omega, L2.Dp.mono s67 D2, L2.Dp.mono s67 D1, dep2, dep1, fun H8 _ => q H8⟩
end
end T



namespace T
/-- an error class as the top wrote it -/
def IsErr (K : PySem.W.Frag) (KE C : Addr) : Prop := ∃ (nm q : Str) (N : Addr) (bs : List Value) (sn : List Str) (sub : List Value) (ab : Bool) (col : Option Bool) (dd : Option Addr) (k0 k1 k2 k3 k5 : Option Value), K.lookup C = some (excClassObj nm q C N bs (.ref KE :: PySem.HandSPX.veTail) true sn sub ab col dd k0 k1 k2 k3 k5 "ValueError.__new__")
theorem IsErr.mk' {K : PySem.W.Frag} {KE C : Addr} {nm q : Str} {N : Addr} {bs : List Value} {sn : List Str} {sub : List Value} {ab : Bool} {col : Option Bool} {dd : Option Addr} {k0 k1 k2 k3 k5 : Option Value}
    (h : K.lookup C = some (excClassObj nm q C N bs [.ref KE, .type "ValueError", .type "Exception", .type "BaseException", .type "object"] true sn sub ab col dd k0 k1 k2 k3 k5 "ValueError.__new__")) : IsErr K KE C := ⟨nm, q, N, bs, sn, sub, ab, col, dd, k0, k1, k2, k3, k5, h⟩
theorem IsErr.oex {K : PySem.W.Frag} {mg : Str → Option Value} {KE C : Addr} {x : Str} (h : IsErr K KE C) (E : ECls K mg KE x C) (sa : PySem.W.findIn K (.ref C) "__setattr__" = some (some (.builtin "object.__setattr__"))) : OexC K C := by
  obtain ⟨nm, q, N, bs, sn, sub, ab, col, dd, k0, k1, k2, k3, k5, h⟩ := h
  exact ⟨⟨nm, q, N, bs, _, sn, sub, ab, col, dd, k0, k1, k2, k3, k5, h, rfl⟩, sa, E.exC, E.ty, E.kp⟩
theorem all_ok {P : Program} {w : World} {K : PySem.W.Frag} {mg : Str → Option Value} {base : Heap} {KE : Addr} {c : Nat → Addr}
    (B : Bl mg) (S : ES K mg KE c) (I : IS P w K mg base c) (EFs : EF K c)
    (d__law_source : DefAt K mg "_law_source" s__law_source ["_law_script"])
    (d__law_draw : DefAt K mg "_law_draw" s__law_draw ["_law_source_here", "_law_many"])
    (d__law_same : DefAt K mg "_law_same" s__law_same ["_law_one", "_law_two"])
    (d__law_kinds : DefAt K mg "_law_kinds" s__law_kinds ["_law_e"])
    (d__law_plain : DefAt K mg "_law_plain" s__law_plain ["_law_which"])
    (d__law_raise : DefAt K mg "_law_raise" s__law_raise ["_law_which", "_law_one", "_law_two"])
    (d__law_worth : DefAt K mg "_law_worth" s__law_worth ["_law_source_here"])
    (d__law_fields : DefAt K mg "_law_fields" s__law_fields ["_law_which", "_law_one", "_law_two"])
    (d__law_read_fields : DefAt K mg "_law_read_fields" s__law_read_fields ["_law_which", "_law_e"])
    (d__law_holds : DefAt K mg "_law_holds" s__law_holds ["_law_which", "_law_one", "_law_two"]) :
    ∀ f fd, Fun K "law" "law" s_law f fd → FnOk P w K mg base CX0 7 f fd ["_law_script"] (spLaw K) := by
  have c_source := ok_law_source (P := P) (w := w) (base := base) B d__law_source
  have c_draw := ok_law_draw (P := P) (w := w) (base := base) B d__law_draw
  have c_same := ok_law_same (P := P) (w := w) (base := base) B d__law_same 5
  have c_kinds := ok_law_kinds (P := P) (w := w) (base := base) B S d__law_kinds
  have c_plain := ok_law_plain (P := P) (w := w) (base := base) B S d__law_plain
  have c_raise := ok_law_raise (P := P) (w := w) (base := base) B S I d__law_raise c_plain
  have c_worth := ok_law_worth (P := P) (w := w) (base := base) B d__law_worth c_draw
  have c_read := ok_law_read (P := P) (w := w) (base := base) B EFs d__law_read_fields
  have c_fields := ok_law_fields (P := P) (w := w) (base := base) B S d__law_fields c_raise c_kinds c_read
  have c_holds := ok_law_holds (P := P) (w := w) (base := base) B d__law_holds c_fields c_same
  exact ok_law B c_source c_draw c_worth c_holds
def cOf (l : List Addr) (i : Nat) : Addr := l.getD i 0
theorem cOf_inj {l : List Addr} (h : l.Nodup) {i j : Nat} (hi : i < l.length) (hj : j < l.length) (e : cOf l i = cOf l j) : i = j := by
  unfold cOf at e
  rw [List.getD_eq_getElem?_getD, List.getD_eq_getElem?_getD, List.getElem?_eq_getElem hi, List.getElem?_eq_getElem hj] at e
  have e2 : l[i] = l[j] := e
  rcases Nat.lt_trichotomy i j with z | z | z
  · exact absurd e2 (List.pairwise_iff_getElem.mp h i j hi hj z)
  · exact z
  · exact absurd e2.symm (List.pairwise_iff_getElem.mp h j i hj hi z)
theorem all_mk {l : PySem.W.OpenLaw} {w : World} {K : PySem.W.Frag} {h : Heap} {mg : Str → Option Value} {fa KE C0 C1 C2 C3 C4 C5 C6 C7 C8 C9 C10 C11 C12 C13 C14 C15 C16 C17 C18 C19 C20 C21 C22 f_17 f_18 f_19 f_20 f_21 f_22 f__law_source f__law_draw f__law_same f__law_kinds f__law_plain f__law_raise f__law_worth f__law_fields f__law_read_fields f__law_holds f_law : Addr} (X : K.In h) (G : h.Ns mainGlobals mg) (hfa : mg "law" = some (.ref fa))
    (z_int : PySem.W.nsIn K mainGlobals "int" = some none)
    (z_str : PySem.W.nsIn K mainGlobals "str" = some none)
    (z_bool : PySem.W.nsIn K mainGlobals "bool" = some none)
    (z_list : PySem.W.nsIn K mainGlobals "list" = some none)
    (z_tuple : PySem.W.nsIn K mainGlobals "tuple" = some none)
    (z_dict : PySem.W.nsIn K mainGlobals "dict" = some none)
    (z_set : PySem.W.nsIn K mainGlobals "set" = some none)
    (z_len : PySem.W.nsIn K mainGlobals "len" = some none)
    (z_isinstance : PySem.W.nsIn K mainGlobals "isinstance" = some none)
    (z_all : PySem.W.nsIn K mainGlobals "all" = some none)
    (z_any : PySem.W.nsIn K mainGlobals "any" = some none)
    (z_min : PySem.W.nsIn K mainGlobals "min" = some none)
    (z_max : PySem.W.nsIn K mainGlobals "max" = some none)
    (z_sorted : PySem.W.nsIn K mainGlobals "sorted" = some none)
    (z_range : PySem.W.nsIn K mainGlobals "range" = some none)
    (z_zip : PySem.W.nsIn K mainGlobals "zip" = some none)
    (z_ValueError : PySem.W.nsIn K mainGlobals "ValueError" = some none)
    (a_KE : PySem.W.nsIn K mainGlobals "KernelError" = some (some (.ref KE)))
    (ks : PySem.W.subIn K (.ref KE) (.type "BaseException") = some true)
    (kd : PySem.W.hasDictIn K KE = true)
    (kt : PySem.W.typeIn K (.ref KE) = some (.type "type"))
    (a_0 : PySem.W.nsIn K mainGlobals "NoTask" = some (some (.ref C0)))
    (L_0 : IsErr K KE C0)
    (ga_0 : PySem.W.findIn K (.ref C0) "__getattribute__" = some (some (.builtin "BaseException.__getattribute__")))
    (gg_0 : PySem.W.findIn K (.ref C0) "__getattr__" = some none)
    (gc_0 : PySem.W.findIn K (.ref C0) "__class__" = some (some (.builtin "object.__class__")))
    (kp_0 : PySem.W.keepIn K (.ref C0) = true)
    (x_0 : PySem.W.excIn K C0 veB "ValueError.__new__" = true)
    (a_1 : PySem.W.nsIn K mainGlobals "NoTasks" = some (some (.ref C1)))
    (L_1 : IsErr K KE C1)
    (ga_1 : PySem.W.findIn K (.ref C1) "__getattribute__" = some (some (.builtin "BaseException.__getattribute__")))
    (gg_1 : PySem.W.findIn K (.ref C1) "__getattr__" = some none)
    (gc_1 : PySem.W.findIn K (.ref C1) "__class__" = some (some (.builtin "object.__class__")))
    (kp_1 : PySem.W.keepIn K (.ref C1) = true)
    (x_1 : PySem.W.excIn K C1 veB "ValueError.__new__" = true)
    (a_2 : PySem.W.nsIn K mainGlobals "NoLetter" = some (some (.ref C2)))
    (L_2 : IsErr K KE C2)
    (ga_2 : PySem.W.findIn K (.ref C2) "__getattribute__" = some (some (.builtin "BaseException.__getattribute__")))
    (gg_2 : PySem.W.findIn K (.ref C2) "__getattr__" = some none)
    (gc_2 : PySem.W.findIn K (.ref C2) "__class__" = some (some (.builtin "object.__class__")))
    (kp_2 : PySem.W.keepIn K (.ref C2) = true)
    (x_2 : PySem.W.excIn K C2 veB "ValueError.__new__" = true)
    (a_3 : PySem.W.nsIn K mainGlobals "NoCall" = some (some (.ref C3)))
    (L_3 : IsErr K KE C3)
    (ga_3 : PySem.W.findIn K (.ref C3) "__getattribute__" = some (some (.builtin "BaseException.__getattribute__")))
    (gg_3 : PySem.W.findIn K (.ref C3) "__getattr__" = some none)
    (gc_3 : PySem.W.findIn K (.ref C3) "__class__" = some (some (.builtin "object.__class__")))
    (kp_3 : PySem.W.keepIn K (.ref C3) = true)
    (x_3 : PySem.W.excIn K C3 veB "ValueError.__new__" = true)
    (a_4 : PySem.W.nsIn K mainGlobals "NoMost" = some (some (.ref C4)))
    (L_4 : IsErr K KE C4)
    (ga_4 : PySem.W.findIn K (.ref C4) "__getattribute__" = some (some (.builtin "BaseException.__getattribute__")))
    (gg_4 : PySem.W.findIn K (.ref C4) "__getattr__" = some none)
    (gc_4 : PySem.W.findIn K (.ref C4) "__class__" = some (some (.builtin "object.__class__")))
    (kp_4 : PySem.W.keepIn K (.ref C4) = true)
    (x_4 : PySem.W.excIn K C4 veB "ValueError.__new__" = true)
    (a_5 : PySem.W.nsIn K mainGlobals "NoWatch" = some (some (.ref C5)))
    (L_5 : IsErr K KE C5)
    (ga_5 : PySem.W.findIn K (.ref C5) "__getattribute__" = some (some (.builtin "BaseException.__getattribute__")))
    (gg_5 : PySem.W.findIn K (.ref C5) "__getattr__" = some none)
    (gc_5 : PySem.W.findIn K (.ref C5) "__class__" = some (some (.builtin "object.__class__")))
    (kp_5 : PySem.W.keepIn K (.ref C5) = true)
    (x_5 : PySem.W.excIn K C5 veB "ValueError.__new__" = true)
    (a_6 : PySem.W.nsIn K mainGlobals "NoOnes" = some (some (.ref C6)))
    (L_6 : IsErr K KE C6)
    (ga_6 : PySem.W.findIn K (.ref C6) "__getattribute__" = some (some (.builtin "BaseException.__getattribute__")))
    (gg_6 : PySem.W.findIn K (.ref C6) "__getattr__" = some none)
    (gc_6 : PySem.W.findIn K (.ref C6) "__class__" = some (some (.builtin "object.__class__")))
    (kp_6 : PySem.W.keepIn K (.ref C6) = true)
    (x_6 : PySem.W.excIn K C6 veB "ValueError.__new__" = true)
    (a_7 : PySem.W.nsIn K mainGlobals "NoEyes" = some (some (.ref C7)))
    (L_7 : IsErr K KE C7)
    (ga_7 : PySem.W.findIn K (.ref C7) "__getattribute__" = some (some (.builtin "BaseException.__getattribute__")))
    (gg_7 : PySem.W.findIn K (.ref C7) "__getattr__" = some none)
    (gc_7 : PySem.W.findIn K (.ref C7) "__class__" = some (some (.builtin "object.__class__")))
    (kp_7 : PySem.W.keepIn K (.ref C7) = true)
    (x_7 : PySem.W.excIn K C7 veB "ValueError.__new__" = true)
    (a_8 : PySem.W.nsIn K mainGlobals "NoCures" = some (some (.ref C8)))
    (L_8 : IsErr K KE C8)
    (ga_8 : PySem.W.findIn K (.ref C8) "__getattribute__" = some (some (.builtin "BaseException.__getattribute__")))
    (gg_8 : PySem.W.findIn K (.ref C8) "__getattr__" = some none)
    (gc_8 : PySem.W.findIn K (.ref C8) "__class__" = some (some (.builtin "object.__class__")))
    (kp_8 : PySem.W.keepIn K (.ref C8) = true)
    (x_8 : PySem.W.excIn K C8 veB "ValueError.__new__" = true)
    (a_9 : PySem.W.nsIn K mainGlobals "NoBack" = some (some (.ref C9)))
    (L_9 : IsErr K KE C9)
    (ga_9 : PySem.W.findIn K (.ref C9) "__getattribute__" = some (some (.builtin "BaseException.__getattribute__")))
    (gg_9 : PySem.W.findIn K (.ref C9) "__getattr__" = some none)
    (gc_9 : PySem.W.findIn K (.ref C9) "__class__" = some (some (.builtin "object.__class__")))
    (kp_9 : PySem.W.keepIn K (.ref C9) = true)
    (x_9 : PySem.W.excIn K C9 veB "ValueError.__new__" = true)
    (a_10 : PySem.W.nsIn K mainGlobals "NoTick" = some (some (.ref C10)))
    (L_10 : IsErr K KE C10)
    (ga_10 : PySem.W.findIn K (.ref C10) "__getattribute__" = some (some (.builtin "BaseException.__getattribute__")))
    (gg_10 : PySem.W.findIn K (.ref C10) "__getattr__" = some none)
    (gc_10 : PySem.W.findIn K (.ref C10) "__class__" = some (some (.builtin "object.__class__")))
    (kp_10 : PySem.W.keepIn K (.ref C10) = true)
    (x_10 : PySem.W.excIn K C10 veB "ValueError.__new__" = true)
    (a_11 : PySem.W.nsIn K mainGlobals "NoLetters" = some (some (.ref C11)))
    (L_11 : IsErr K KE C11)
    (ga_11 : PySem.W.findIn K (.ref C11) "__getattribute__" = some (some (.builtin "BaseException.__getattribute__")))
    (gg_11 : PySem.W.findIn K (.ref C11) "__getattr__" = some none)
    (gc_11 : PySem.W.findIn K (.ref C11) "__class__" = some (some (.builtin "object.__class__")))
    (kp_11 : PySem.W.keepIn K (.ref C11) = true)
    (x_11 : PySem.W.excIn K C11 veB "ValueError.__new__" = true)
    (a_12 : PySem.W.nsIn K mainGlobals "NoTicks" = some (some (.ref C12)))
    (L_12 : IsErr K KE C12)
    (ga_12 : PySem.W.findIn K (.ref C12) "__getattribute__" = some (some (.builtin "BaseException.__getattribute__")))
    (gg_12 : PySem.W.findIn K (.ref C12) "__getattr__" = some none)
    (gc_12 : PySem.W.findIn K (.ref C12) "__class__" = some (some (.builtin "object.__class__")))
    (kp_12 : PySem.W.keepIn K (.ref C12) = true)
    (x_12 : PySem.W.excIn K C12 veB "ValueError.__new__" = true)
    (a_13 : PySem.W.nsIn K mainGlobals "NoWhich" = some (some (.ref C13)))
    (L_13 : IsErr K KE C13)
    (ga_13 : PySem.W.findIn K (.ref C13) "__getattribute__" = some (some (.builtin "BaseException.__getattribute__")))
    (gg_13 : PySem.W.findIn K (.ref C13) "__getattr__" = some none)
    (gc_13 : PySem.W.findIn K (.ref C13) "__class__" = some (some (.builtin "object.__class__")))
    (kp_13 : PySem.W.keepIn K (.ref C13) = true)
    (x_13 : PySem.W.excIn K C13 veB "ValueError.__new__" = true)
    (a_14 : PySem.W.nsIn K mainGlobals "NoLong" = some (some (.ref C14)))
    (L_14 : IsErr K KE C14)
    (ga_14 : PySem.W.findIn K (.ref C14) "__getattribute__" = some (some (.builtin "BaseException.__getattribute__")))
    (gg_14 : PySem.W.findIn K (.ref C14) "__getattr__" = some none)
    (gc_14 : PySem.W.findIn K (.ref C14) "__class__" = some (some (.builtin "object.__class__")))
    (kp_14 : PySem.W.keepIn K (.ref C14) = true)
    (x_14 : PySem.W.excIn K C14 veB "ValueError.__new__" = true)
    (a_15 : PySem.W.nsIn K mainGlobals "NoImage" = some (some (.ref C15)))
    (L_15 : IsErr K KE C15)
    (ga_15 : PySem.W.findIn K (.ref C15) "__getattribute__" = some (some (.builtin "BaseException.__getattribute__")))
    (gg_15 : PySem.W.findIn K (.ref C15) "__getattr__" = some none)
    (gc_15 : PySem.W.findIn K (.ref C15) "__class__" = some (some (.builtin "object.__class__")))
    (kp_15 : PySem.W.keepIn K (.ref C15) = true)
    (x_15 : PySem.W.excIn K C15 veB "ValueError.__new__" = true)
    (a_16 : PySem.W.nsIn K mainGlobals "NoDoors" = some (some (.ref C16)))
    (L_16 : IsErr K KE C16)
    (ga_16 : PySem.W.findIn K (.ref C16) "__getattribute__" = some (some (.builtin "BaseException.__getattribute__")))
    (gg_16 : PySem.W.findIn K (.ref C16) "__getattr__" = some none)
    (gc_16 : PySem.W.findIn K (.ref C16) "__class__" = some (some (.builtin "object.__class__")))
    (kp_16 : PySem.W.keepIn K (.ref C16) = true)
    (x_16 : PySem.W.excIn K C16 veB "ValueError.__new__" = true)
    (a_17 : PySem.W.nsIn K mainGlobals "NoBuild" = some (some (.ref C17)))
    (L_17 : IsErr K KE C17)
    (ga_17 : PySem.W.findIn K (.ref C17) "__getattribute__" = some (some (.builtin "BaseException.__getattribute__")))
    (gg_17 : PySem.W.findIn K (.ref C17) "__getattr__" = some none)
    (gc_17 : PySem.W.findIn K (.ref C17) "__class__" = some (some (.builtin "object.__class__")))
    (kp_17 : PySem.W.keepIn K (.ref C17) = true)
    (a_18 : PySem.W.nsIn K mainGlobals "NoActs" = some (some (.ref C18)))
    (L_18 : IsErr K KE C18)
    (ga_18 : PySem.W.findIn K (.ref C18) "__getattribute__" = some (some (.builtin "BaseException.__getattribute__")))
    (gg_18 : PySem.W.findIn K (.ref C18) "__getattr__" = some none)
    (gc_18 : PySem.W.findIn K (.ref C18) "__class__" = some (some (.builtin "object.__class__")))
    (kp_18 : PySem.W.keepIn K (.ref C18) = true)
    (a_19 : PySem.W.nsIn K mainGlobals "NoRows" = some (some (.ref C19)))
    (L_19 : IsErr K KE C19)
    (ga_19 : PySem.W.findIn K (.ref C19) "__getattribute__" = some (some (.builtin "BaseException.__getattribute__")))
    (gg_19 : PySem.W.findIn K (.ref C19) "__getattr__" = some none)
    (gc_19 : PySem.W.findIn K (.ref C19) "__class__" = some (some (.builtin "object.__class__")))
    (kp_19 : PySem.W.keepIn K (.ref C19) = true)
    (a_20 : PySem.W.nsIn K mainGlobals "NoProgram" = some (some (.ref C20)))
    (L_20 : IsErr K KE C20)
    (ga_20 : PySem.W.findIn K (.ref C20) "__getattribute__" = some (some (.builtin "BaseException.__getattribute__")))
    (gg_20 : PySem.W.findIn K (.ref C20) "__getattr__" = some none)
    (gc_20 : PySem.W.findIn K (.ref C20) "__class__" = some (some (.builtin "object.__class__")))
    (kp_20 : PySem.W.keepIn K (.ref C20) = true)
    (a_21 : PySem.W.nsIn K mainGlobals "TooMany" = some (some (.ref C21)))
    (L_21 : IsErr K KE C21)
    (ga_21 : PySem.W.findIn K (.ref C21) "__getattribute__" = some (some (.builtin "BaseException.__getattribute__")))
    (gg_21 : PySem.W.findIn K (.ref C21) "__getattr__" = some none)
    (gc_21 : PySem.W.findIn K (.ref C21) "__class__" = some (some (.builtin "object.__class__")))
    (kp_21 : PySem.W.keepIn K (.ref C21) = true)
    (a_22 : PySem.W.nsIn K mainGlobals "NoText" = some (some (.ref C22)))
    (L_22 : IsErr K KE C22)
    (ga_22 : PySem.W.findIn K (.ref C22) "__getattribute__" = some (some (.builtin "BaseException.__getattribute__")))
    (gg_22 : PySem.W.findIn K (.ref C22) "__getattr__" = some none)
    (gc_22 : PySem.W.findIn K (.ref C22) "__class__" = some (some (.builtin "object.__class__")))
    (kp_22 : PySem.W.keepIn K (.ref C22) = true)
    (hn : PySem.W.specialIn K (.builtin "object.__class__") "__get__" = some (some (.builtin "getset_descriptor.__get__")))
    (ht : PySem.W.takesIn K (.builtin "object.__class__") = some true)
    (no_17_part : PySem.W.findIn K (.ref C17) "part" = some none)
    (sa_17 : PySem.W.findIn K (.ref C17) "__setattr__" = some (some (.builtin "object.__setattr__")))
    (in_17 : PySem.W.findIn K (.ref C17) "__init__" = some (some (.ref f_17)))
    (ty_17 : PySem.W.typeIn K (.ref f_17) = some (.type "function"))
    (di_17 : DefF K "__init__" "NoBuild.__init__" s_NoBuild___init__ f_17)
    (no_18_index : PySem.W.findIn K (.ref C18) "index" = some none)
    (sa_18 : PySem.W.findIn K (.ref C18) "__setattr__" = some (some (.builtin "object.__setattr__")))
    (in_18 : PySem.W.findIn K (.ref C18) "__init__" = some (some (.ref f_18)))
    (ty_18 : PySem.W.typeIn K (.ref f_18) = some (.type "function"))
    (di_18 : DefF K "__init__" "NoActs.__init__" s_NoActs___init__ f_18)
    (no_19_index : PySem.W.findIn K (.ref C19) "index" = some none)
    (sa_19 : PySem.W.findIn K (.ref C19) "__setattr__" = some (some (.builtin "object.__setattr__")))
    (in_19 : PySem.W.findIn K (.ref C19) "__init__" = some (some (.ref f_19)))
    (ty_19 : PySem.W.typeIn K (.ref f_19) = some (.type "function"))
    (di_19 : DefF K "__init__" "NoRows.__init__" s_NoRows___init__ f_19)
    (no_20_task : PySem.W.findIn K (.ref C20) "task" = some none)
    (no_20_index : PySem.W.findIn K (.ref C20) "index" = some none)
    (sa_20 : PySem.W.findIn K (.ref C20) "__setattr__" = some (some (.builtin "object.__setattr__")))
    (in_20 : PySem.W.findIn K (.ref C20) "__init__" = some (some (.ref f_20)))
    (ty_20 : PySem.W.typeIn K (.ref f_20) = some (.type "function"))
    (di_20 : DefF K "__init__" "NoProgram.__init__" s_NoProgram___init__ f_20)
    (no_21_most : PySem.W.findIn K (.ref C21) "most" = some none)
    (sa_21 : PySem.W.findIn K (.ref C21) "__setattr__" = some (some (.builtin "object.__setattr__")))
    (in_21 : PySem.W.findIn K (.ref C21) "__init__" = some (some (.ref f_21)))
    (ty_21 : PySem.W.typeIn K (.ref f_21) = some (.type "function"))
    (di_21 : DefF K "__init__" "TooMany.__init__" s_TooMany___init__ f_21)
    (no_22_line : PySem.W.findIn K (.ref C22) "line" = some none)
    (sa_22 : PySem.W.findIn K (.ref C22) "__setattr__" = some (some (.builtin "object.__setattr__")))
    (in_22 : PySem.W.findIn K (.ref C22) "__init__" = some (some (.ref f_22)))
    (ty_22 : PySem.W.typeIn K (.ref f_22) = some (.type "function"))
    (di_22 : DefF K "__init__" "NoText.__init__" s_NoText___init__ f_22)
    (a__law_source : PySem.W.nsIn K mainGlobals "_law_source" = some (some (.ref f__law_source)))
    (d__law_source : DefF K "_law_source" "_law_source" s__law_source f__law_source)
    (a__law_draw : PySem.W.nsIn K mainGlobals "_law_draw" = some (some (.ref f__law_draw)))
    (d__law_draw : DefF K "_law_draw" "_law_draw" s__law_draw f__law_draw)
    (a__law_same : PySem.W.nsIn K mainGlobals "_law_same" = some (some (.ref f__law_same)))
    (d__law_same : DefF K "_law_same" "_law_same" s__law_same f__law_same)
    (a__law_kinds : PySem.W.nsIn K mainGlobals "_law_kinds" = some (some (.ref f__law_kinds)))
    (d__law_kinds : DefF K "_law_kinds" "_law_kinds" s__law_kinds f__law_kinds)
    (a__law_plain : PySem.W.nsIn K mainGlobals "_law_plain" = some (some (.ref f__law_plain)))
    (d__law_plain : DefF K "_law_plain" "_law_plain" s__law_plain f__law_plain)
    (a__law_raise : PySem.W.nsIn K mainGlobals "_law_raise" = some (some (.ref f__law_raise)))
    (d__law_raise : DefF K "_law_raise" "_law_raise" s__law_raise f__law_raise)
    (a__law_worth : PySem.W.nsIn K mainGlobals "_law_worth" = some (some (.ref f__law_worth)))
    (d__law_worth : DefF K "_law_worth" "_law_worth" s__law_worth f__law_worth)
    (a__law_fields : PySem.W.nsIn K mainGlobals "_law_fields" = some (some (.ref f__law_fields)))
    (d__law_fields : DefF K "_law_fields" "_law_fields" s__law_fields f__law_fields)
    (a__law_read_fields : PySem.W.nsIn K mainGlobals "_law_read_fields" = some (some (.ref f__law_read_fields)))
    (d__law_read_fields : DefF K "_law_read_fields" "_law_read_fields" s__law_read_fields f__law_read_fields)
    (a__law_holds : PySem.W.nsIn K mainGlobals "_law_holds" = some (some (.ref f__law_holds)))
    (d__law_holds : DefF K "_law_holds" "_law_holds" s__law_holds f__law_holds)
    (a_law : PySem.W.nsIn K mainGlobals "law" = some (some (.ref f_law)))
    (d_law : DefF K "law" "law" s_law f_law)
    (nd : [C0, C1, C2, C3, C4, C5, C6, C7, C8, C9, C10, C11, C12, C13, C14, C15, C16, C17, C18, C19, C20, C21, C22, KE].Nodup) :
    ∃ fd : FuncData, (∀ (s : Shared) (v : Value), BindsTo s fd ⟨[v], []⟩ [("_law_script", v)]) ∧ ∀ base : Heap, K.In base → base.Ns mainGlobals mg → FnOk l.prog w K mg base CX0 7 fa fd ["_law_script"] (spLaw K) := by
  have e := hfa.symm.trans (PySem.W.mg_of X G a_law)
  cases e
  have B : Bl mg := ⟨PySem.W.mg_none_of X G z_int, PySem.W.mg_none_of X G z_str, PySem.W.mg_none_of X G z_bool, PySem.W.mg_none_of X G z_list, PySem.W.mg_none_of X G z_tuple, PySem.W.mg_none_of X G z_dict, PySem.W.mg_none_of X G z_set, PySem.W.mg_none_of X G z_len, PySem.W.mg_none_of X G z_isinstance, PySem.W.mg_none_of X G z_all, PySem.W.mg_none_of X G z_any, PySem.W.mg_none_of X G z_min, PySem.W.mg_none_of X G z_max, PySem.W.mg_none_of X G z_sorted, PySem.W.mg_none_of X G z_range, PySem.W.mg_none_of X G z_zip⟩
  have E0 : ECls K mg KE "NoTask" C0 := ⟨PySem.W.mg_of X G a_0, L_0, ga_0, gg_0, gc_0, kp_0⟩
  have E1 : ECls K mg KE "NoTasks" C1 := ⟨PySem.W.mg_of X G a_1, L_1, ga_1, gg_1, gc_1, kp_1⟩
  have E2 : ECls K mg KE "NoLetter" C2 := ⟨PySem.W.mg_of X G a_2, L_2, ga_2, gg_2, gc_2, kp_2⟩
  have E3 : ECls K mg KE "NoCall" C3 := ⟨PySem.W.mg_of X G a_3, L_3, ga_3, gg_3, gc_3, kp_3⟩
  have E4 : ECls K mg KE "NoMost" C4 := ⟨PySem.W.mg_of X G a_4, L_4, ga_4, gg_4, gc_4, kp_4⟩
  have E5 : ECls K mg KE "NoWatch" C5 := ⟨PySem.W.mg_of X G a_5, L_5, ga_5, gg_5, gc_5, kp_5⟩
  have E6 : ECls K mg KE "NoOnes" C6 := ⟨PySem.W.mg_of X G a_6, L_6, ga_6, gg_6, gc_6, kp_6⟩
  have E7 : ECls K mg KE "NoEyes" C7 := ⟨PySem.W.mg_of X G a_7, L_7, ga_7, gg_7, gc_7, kp_7⟩
  have E8 : ECls K mg KE "NoCures" C8 := ⟨PySem.W.mg_of X G a_8, L_8, ga_8, gg_8, gc_8, kp_8⟩
  have E9 : ECls K mg KE "NoBack" C9 := ⟨PySem.W.mg_of X G a_9, L_9, ga_9, gg_9, gc_9, kp_9⟩
  have E10 : ECls K mg KE "NoTick" C10 := ⟨PySem.W.mg_of X G a_10, L_10, ga_10, gg_10, gc_10, kp_10⟩
  have E11 : ECls K mg KE "NoLetters" C11 := ⟨PySem.W.mg_of X G a_11, L_11, ga_11, gg_11, gc_11, kp_11⟩
  have E12 : ECls K mg KE "NoTicks" C12 := ⟨PySem.W.mg_of X G a_12, L_12, ga_12, gg_12, gc_12, kp_12⟩
  have E13 : ECls K mg KE "NoWhich" C13 := ⟨PySem.W.mg_of X G a_13, L_13, ga_13, gg_13, gc_13, kp_13⟩
  have E14 : ECls K mg KE "NoLong" C14 := ⟨PySem.W.mg_of X G a_14, L_14, ga_14, gg_14, gc_14, kp_14⟩
  have E15 : ECls K mg KE "NoImage" C15 := ⟨PySem.W.mg_of X G a_15, L_15, ga_15, gg_15, gc_15, kp_15⟩
  have E16 : ECls K mg KE "NoDoors" C16 := ⟨PySem.W.mg_of X G a_16, L_16, ga_16, gg_16, gc_16, kp_16⟩
  have E17 : ECls K mg KE "NoBuild" C17 := ⟨PySem.W.mg_of X G a_17, L_17, ga_17, gg_17, gc_17, kp_17⟩
  have E18 : ECls K mg KE "NoActs" C18 := ⟨PySem.W.mg_of X G a_18, L_18, ga_18, gg_18, gc_18, kp_18⟩
  have E19 : ECls K mg KE "NoRows" C19 := ⟨PySem.W.mg_of X G a_19, L_19, ga_19, gg_19, gc_19, kp_19⟩
  have E20 : ECls K mg KE "NoProgram" C20 := ⟨PySem.W.mg_of X G a_20, L_20, ga_20, gg_20, gc_20, kp_20⟩
  have E21 : ECls K mg KE "TooMany" C21 := ⟨PySem.W.mg_of X G a_21, L_21, ga_21, gg_21, gc_21, kp_21⟩
  have E22 : ECls K mg KE "NoText" C22 := ⟨PySem.W.mg_of X G a_22, L_22, ga_22, gg_22, gc_22, kp_22⟩
  have S : ES K mg KE (cOf [C0, C1, C2, C3, C4, C5, C6, C7, C8, C9, C10, C11, C12, C13, C14, C15, C16, C17, C18, C19, C20, C21, C22, KE]) := ⟨E0, E1, E2, E3, E4, E5, E6, E7, E8, E9, E10, E11, E12, E13, E14, E15, E16, E17, E18, E19, E20, E21, E22, fun i j hi hj e => cOf_inj nd (by simp; omega) (by simp; omega) e, fun i hi e => absurd (cOf_inj nd (j := 23) (by simp; omega) (by simp) e) (by omega), hn, ht, PySem.W.mg_of X G a_KE, ks, kd, kt, PySem.W.mg_none_of X G z_ValueError, x_0, x_1, x_2, x_3, x_4, x_5, x_6, x_7, x_8, x_9, x_10, x_11, x_12, x_13, x_14, x_15, x_16⟩
  have EFs : EF K (cOf [C0, C1, C2, C3, C4, C5, C6, C7, C8, C9, C10, C11, C12, C13, C14, C15, C16, C17, C18, C19, C20, C21, C22, KE]) := ⟨no_17_part, no_18_index, no_19_index, no_20_task, no_20_index, no_21_most, no_22_line⟩
  obtain ⟨⟨oc, od, kV, doc, pm, an, cd, ct, sl, ll, lc⟩, lk⟩ := d_law
  have D__law_source : DefAt K mg "_law_source" s__law_source ["_law_script"] := d__law_source.at X G a__law_source (fun fd F => F.binds fun _ _ _ _ _ _ us hl => match us, hl with | [_], _ => rfl)
  have D__law_draw : DefAt K mg "_law_draw" s__law_draw ["_law_source_here", "_law_many"] := d__law_draw.at X G a__law_draw (fun fd F => F.binds fun _ _ _ _ _ _ us hl => match us, hl with | [_, _], _ => rfl)
  have D__law_same : DefAt K mg "_law_same" s__law_same ["_law_one", "_law_two"] := d__law_same.at X G a__law_same (fun fd F => F.binds fun _ _ _ _ _ _ us hl => match us, hl with | [_, _], _ => rfl)
  have D__law_kinds : DefAt K mg "_law_kinds" s__law_kinds ["_law_e"] := d__law_kinds.at X G a__law_kinds (fun fd F => F.binds fun _ _ _ _ _ _ us hl => match us, hl with | [_], _ => rfl)
  have D__law_plain : DefAt K mg "_law_plain" s__law_plain ["_law_which"] := d__law_plain.at X G a__law_plain (fun fd F => F.binds fun _ _ _ _ _ _ us hl => match us, hl with | [_], _ => rfl)
  have D__law_raise : DefAt K mg "_law_raise" s__law_raise ["_law_which", "_law_one", "_law_two"] := d__law_raise.at X G a__law_raise (fun fd F => F.binds fun _ _ _ _ _ _ us hl => match us, hl with | [_, _, _], _ => rfl)
  have D__law_worth : DefAt K mg "_law_worth" s__law_worth ["_law_source_here"] := d__law_worth.at X G a__law_worth (fun fd F => F.binds fun _ _ _ _ _ _ us hl => match us, hl with | [_], _ => rfl)
  have D__law_fields : DefAt K mg "_law_fields" s__law_fields ["_law_which", "_law_one", "_law_two"] := d__law_fields.at X G a__law_fields (fun fd F => F.binds fun _ _ _ _ _ _ us hl => match us, hl with | [_, _, _], _ => rfl)
  have D__law_read_fields : DefAt K mg "_law_read_fields" s__law_read_fields ["_law_which", "_law_e"] := d__law_read_fields.at X G a__law_read_fields (fun fd F => F.binds fun _ _ _ _ _ _ us hl => match us, hl with | [_, _], _ => rfl)
  have D__law_holds : DefAt K mg "_law_holds" s__law_holds ["_law_which", "_law_one", "_law_two"] := d__law_holds.at X G a__law_holds (fun fd F => F.binds fun _ _ _ _ _ _ us hl => match us, hl with | [_, _, _], _ => rfl)
  have O17 := IsErr.oex L_17 E17 sa_17
  obtain ⟨g17, F17⟩ := di_17.fn
  have b17 : Binds K g17 ["self", "part"] [] := F17.binds fun _ _ _ _ _ _ us hl => match us, hl with | [_, _], _ => rfl
  have O18 := IsErr.oex L_18 E18 sa_18
  obtain ⟨g18, F18⟩ := di_18.fn
  have b18 : Binds K g18 ["self", "index"] [] := F18.binds fun _ _ _ _ _ _ us hl => match us, hl with | [_, _], _ => rfl
  have O19 := IsErr.oex L_19 E19 sa_19
  obtain ⟨g19, F19⟩ := di_19.fn
  have b19 : Binds K g19 ["self", "index"] [] := F19.binds fun _ _ _ _ _ _ us hl => match us, hl with | [_, _], _ => rfl
  have O20 := IsErr.oex L_20 E20 sa_20
  obtain ⟨g20, F20⟩ := di_20.fn
  have b20 : Binds K g20 ["self", "task", "index"] [] := F20.binds fun _ _ _ _ _ _ us hl => match us, hl with | [_, _, _], _ => rfl
  have O21 := IsErr.oex L_21 E21 sa_21
  obtain ⟨g21, F21⟩ := di_21.fn
  have b21 : Binds K g21 ["self", "most"] [] := F21.binds fun _ _ _ _ _ _ us hl => match us, hl with | [_, _], _ => rfl
  have O22 := IsErr.oex L_22 E22 sa_22
  obtain ⟨g22, F22⟩ := di_22.fn
  have b22 : Binds K g22 ["self", "line"] [] := F22.binds fun _ _ _ _ _ _ us hl => match us, hl with | [_, _], _ => rfl
  refine ⟨PySem.W.fnOf "law" "law" (defArgs s_law) (defBody s_law) (defScope s_law) .none kV doc pm an cd ct, fun s v => .of_eq rfl, fun base _ _ => ?_⟩
  have I : IS l.prog w K mg base (cOf [C0, C1, C2, C3, C4, C5, C6, C7, C8, C9, C10, C11, C12, C13, C14, C15, C16, C17, C18, C19, C20, C21, C22, KE]) := ⟨⟨O17, f_17, g17, in_17, ty_17, b17, ok_ini17 O17 no_17_part F17⟩, ⟨O18, f_18, g18, in_18, ty_18, b18, ok_ini18 O18 no_18_index F18⟩, ⟨O19, f_19, g19, in_19, ty_19, b19, ok_ini19 O19 no_19_index F19⟩, ⟨O20, f_20, g20, in_20, ty_20, b20, ok_ini20 O20 no_20_task no_20_index F20⟩, ⟨O21, f_21, g21, in_21, ty_21, b21, ok_ini21 O21 no_21_most F21⟩, ⟨O22, f_22, g22, in_22, ty_22, b22, ok_ini22 O22 no_22_line F22⟩⟩
  exact all_ok B S I EFs D__law_source D__law_draw D__law_same D__law_kinds D__law_plain D__law_raise D__law_worth D__law_fields D__law_read_fields D__law_holds _ _ (fun_mk (st := s_law) ll lc lk)
theorem walk {l : PySem.W.OpenLaw} {q : Program} {loose : List Str} {XP : (Str → Option Value) → Heap → Prop} {YP : World → Heap → Prop} {d : DefRec} {K : Params → PySem.W.Frag} (hn : l.most = some 63) (hdf : d.params.defaults = [])
    (hY : ∀ (w : World) (h : Heap), YP w h → (K w.params).In h)
    (F : ∀ (w : World) (mg : Str → Option Value) (fa : Addr) (h : Heap), (K w.params).In h → h.Ns mainGlobals mg → mg d.name = some (.ref fa) →
      ∃ fd : FuncData, (∀ (s : Shared) (u : Value), BindsTo s fd ⟨[u], []⟩ [("_law_script", u)]) ∧ ∀ base : Heap, (K w.params).In base → base.Ns mainGlobals mg → FnOk l.prog w (K w.params) mg base CX0 7 fa fd ["_law_script"] (spLaw (K w.params))) :
    PySem.W.WalkO q loose XP YP l.row.toRowW d [] (fun f vs => PySem.call f vs) :=
  L2.walk_of (n := 63) (k := 7) (x := "_law_script") (CX := fun _ => CX0) (sp := fun w => spLaw (K w.params)) hn (by decide) hdf ⟨rfl, by decide, by decide⟩ hY F (fun _ _ a ns hl _ hS => ⟨a, ns, rfl, hS, hl, fun _ => rfl⟩) fun _ _ _ _ _ z => z
end T



open PySem PySem.W PyProof.Rows
set_option maxRecDepth 100000 in
set_option maxHeartbeats 0 in
theorem PySem.Challenge.cw_hushkernel_k00_errors_holds : PySem.Challenge.rw_hushkernel_k00_errors.Holds := by
  w_on; o_law; k_head; (case hw => w_witness2)
  k_fill
  refine T.walk (l := PySem.Challenge.rw_hushkernel_k00_errors) rfl rfl (fun w h Y => PySem.W.kIn_of Y) ?F
  case F =>
    intro w mg fa h KX G hmg
    refine' T.all_mk KX G hmg ?z_int ?z_str ?z_bool ?z_list ?z_tuple ?z_dict ?z_set ?z_len ?z_isinstance ?z_all ?z_any ?z_min ?z_max ?z_sorted ?z_range ?z_zip ?z_ValueError ?a_KE ?ks ?kd ?kt ?a_0 ?L_0 ?ga_0 ?gg_0 ?gc_0 ?kp_0 ?x_0 ?a_1 ?L_1 ?ga_1 ?gg_1 ?gc_1 ?kp_1 ?x_1 ?a_2 ?L_2 ?ga_2 ?gg_2 ?gc_2 ?kp_2 ?x_2 ?a_3 ?L_3 ?ga_3 ?gg_3 ?gc_3 ?kp_3 ?x_3 ?a_4 ?L_4 ?ga_4 ?gg_4 ?gc_4 ?kp_4 ?x_4 ?a_5 ?L_5 ?ga_5 ?gg_5 ?gc_5 ?kp_5 ?x_5 ?a_6 ?L_6 ?ga_6 ?gg_6 ?gc_6 ?kp_6 ?x_6 ?a_7 ?L_7 ?ga_7 ?gg_7 ?gc_7 ?kp_7 ?x_7 ?a_8 ?L_8 ?ga_8 ?gg_8 ?gc_8 ?kp_8 ?x_8 ?a_9 ?L_9 ?ga_9 ?gg_9 ?gc_9 ?kp_9 ?x_9 ?a_10 ?L_10 ?ga_10 ?gg_10 ?gc_10 ?kp_10 ?x_10 ?a_11 ?L_11 ?ga_11 ?gg_11 ?gc_11 ?kp_11 ?x_11 ?a_12 ?L_12 ?ga_12 ?gg_12 ?gc_12 ?kp_12 ?x_12 ?a_13 ?L_13 ?ga_13 ?gg_13 ?gc_13 ?kp_13 ?x_13 ?a_14 ?L_14 ?ga_14 ?gg_14 ?gc_14 ?kp_14 ?x_14 ?a_15 ?L_15 ?ga_15 ?gg_15 ?gc_15 ?kp_15 ?x_15 ?a_16 ?L_16 ?ga_16 ?gg_16 ?gc_16 ?kp_16 ?x_16 ?a_17 ?L_17 ?ga_17 ?gg_17 ?gc_17 ?kp_17 ?a_18 ?L_18 ?ga_18 ?gg_18 ?gc_18 ?kp_18 ?a_19 ?L_19 ?ga_19 ?gg_19 ?gc_19 ?kp_19 ?a_20 ?L_20 ?ga_20 ?gg_20 ?gc_20 ?kp_20 ?a_21 ?L_21 ?ga_21 ?gg_21 ?gc_21 ?kp_21 ?a_22 ?L_22 ?ga_22 ?gg_22 ?gc_22 ?kp_22 ?hn ?ht ?no_17_part ?sa_17 ?in_17 ?ty_17 ?di_17 ?no_18_index ?sa_18 ?in_18 ?ty_18 ?di_18 ?no_19_index ?sa_19 ?in_19 ?ty_19 ?di_19 ?no_20_task ?no_20_index ?sa_20 ?in_20 ?ty_20 ?di_20 ?no_21_most ?sa_21 ?in_21 ?ty_21 ?di_21 ?no_22_line ?sa_22 ?in_22 ?ty_22 ?di_22 ?a__law_source ?d__law_source ?a__law_draw ?d__law_draw ?a__law_same ?d__law_same ?a__law_kinds ?d__law_kinds ?a__law_plain ?d__law_plain ?a__law_raise ?d__law_raise ?a__law_worth ?d__law_worth ?a__law_fields ?d__law_fields ?a__law_read_fields ?d__law_read_fields ?a__law_holds ?d__law_holds ?a_law ?d_law ?nd
    (case z_int => k_is)
    (case z_str => k_is)
    (case z_bool => k_is)
    (case z_list => k_is)
    (case z_tuple => k_is)
    (case z_dict => k_is)
    (case z_set => k_is)
    (case z_len => k_is)
    (case z_isinstance => k_is)
    (case z_all => k_is)
    (case z_any => k_is)
    (case z_min => k_is)
    (case z_max => k_is)
    (case z_sorted => k_is)
    (case z_range => k_is)
    (case z_zip => k_is)
    (case z_ValueError => k_is)
    (case a_KE => k_is)
    (case ks => k_is)
    (case kd => k_is)
    (case kt => k_is)
    (case a_0 => k_is)
    (case L_0 => refine' T.IsErr.mk' ?l; (case l => k_is))
    (case ga_0 => k_is)
    (case gg_0 => k_is)
    (case gc_0 => k_is)
    (case kp_0 => k_is)
    (case x_0 => first | k_exc | k_is)
    (case a_1 => k_is)
    (case L_1 => refine' T.IsErr.mk' ?l; (case l => k_is))
    (case ga_1 => k_is)
    (case gg_1 => k_is)
    (case gc_1 => k_is)
    (case kp_1 => k_is)
    (case x_1 => first | k_exc | k_is)
    (case a_2 => k_is)
    (case L_2 => refine' T.IsErr.mk' ?l; (case l => k_is))
    (case ga_2 => k_is)
    (case gg_2 => k_is)
    (case gc_2 => k_is)
    (case kp_2 => k_is)
    (case x_2 => first | k_exc | k_is)
    (case a_3 => k_is)
    (case L_3 => refine' T.IsErr.mk' ?l; (case l => k_is))
    (case ga_3 => k_is)
    (case gg_3 => k_is)
    (case gc_3 => k_is)
    (case kp_3 => k_is)
    (case x_3 => first | k_exc | k_is)
    (case a_4 => k_is)
    (case L_4 => refine' T.IsErr.mk' ?l; (case l => k_is))
    (case ga_4 => k_is)
    (case gg_4 => k_is)
    (case gc_4 => k_is)
    (case kp_4 => k_is)
    (case x_4 => first | k_exc | k_is)
    (case a_5 => k_is)
    (case L_5 => refine' T.IsErr.mk' ?l; (case l => k_is))
    (case ga_5 => k_is)
    (case gg_5 => k_is)
    (case gc_5 => k_is)
    (case kp_5 => k_is)
    (case x_5 => first | k_exc | k_is)
    (case a_6 => k_is)
    (case L_6 => refine' T.IsErr.mk' ?l; (case l => k_is))
    (case ga_6 => k_is)
    (case gg_6 => k_is)
    (case gc_6 => k_is)
    (case kp_6 => k_is)
    (case x_6 => first | k_exc | k_is)
    (case a_7 => k_is)
    (case L_7 => refine' T.IsErr.mk' ?l; (case l => k_is))
    (case ga_7 => k_is)
    (case gg_7 => k_is)
    (case gc_7 => k_is)
    (case kp_7 => k_is)
    (case x_7 => first | k_exc | k_is)
    (case a_8 => k_is)
    (case L_8 => refine' T.IsErr.mk' ?l; (case l => k_is))
    (case ga_8 => k_is)
    (case gg_8 => k_is)
    (case gc_8 => k_is)
    (case kp_8 => k_is)
    (case x_8 => first | k_exc | k_is)
    (case a_9 => k_is)
    (case L_9 => refine' T.IsErr.mk' ?l; (case l => k_is))
    (case ga_9 => k_is)
    (case gg_9 => k_is)
    (case gc_9 => k_is)
    (case kp_9 => k_is)
    (case x_9 => first | k_exc | k_is)
    (case a_10 => k_is)
    (case L_10 => refine' T.IsErr.mk' ?l; (case l => k_is))
    (case ga_10 => k_is)
    (case gg_10 => k_is)
    (case gc_10 => k_is)
    (case kp_10 => k_is)
    (case x_10 => first | k_exc | k_is)
    (case a_11 => k_is)
    (case L_11 => refine' T.IsErr.mk' ?l; (case l => k_is))
    (case ga_11 => k_is)
    (case gg_11 => k_is)
    (case gc_11 => k_is)
    (case kp_11 => k_is)
    (case x_11 => first | k_exc | k_is)
    (case a_12 => k_is)
    (case L_12 => refine' T.IsErr.mk' ?l; (case l => k_is))
    (case ga_12 => k_is)
    (case gg_12 => k_is)
    (case gc_12 => k_is)
    (case kp_12 => k_is)
    (case x_12 => first | k_exc | k_is)
    (case a_13 => k_is)
    (case L_13 => refine' T.IsErr.mk' ?l; (case l => k_is))
    (case ga_13 => k_is)
    (case gg_13 => k_is)
    (case gc_13 => k_is)
    (case kp_13 => k_is)
    (case x_13 => first | k_exc | k_is)
    (case a_14 => k_is)
    (case L_14 => refine' T.IsErr.mk' ?l; (case l => k_is))
    (case ga_14 => k_is)
    (case gg_14 => k_is)
    (case gc_14 => k_is)
    (case kp_14 => k_is)
    (case x_14 => first | k_exc | k_is)
    (case a_15 => k_is)
    (case L_15 => refine' T.IsErr.mk' ?l; (case l => k_is))
    (case ga_15 => k_is)
    (case gg_15 => k_is)
    (case gc_15 => k_is)
    (case kp_15 => k_is)
    (case x_15 => first | k_exc | k_is)
    (case a_16 => k_is)
    (case L_16 => refine' T.IsErr.mk' ?l; (case l => k_is))
    (case ga_16 => k_is)
    (case gg_16 => k_is)
    (case gc_16 => k_is)
    (case kp_16 => k_is)
    (case x_16 => first | k_exc | k_is)
    (case a_17 => k_is)
    (case L_17 => refine' T.IsErr.mk' ?l; (case l => k_is))
    (case ga_17 => k_is)
    (case gg_17 => k_is)
    (case gc_17 => k_is)
    (case kp_17 => k_is)
    (case a_18 => k_is)
    (case L_18 => refine' T.IsErr.mk' ?l; (case l => k_is))
    (case ga_18 => k_is)
    (case gg_18 => k_is)
    (case gc_18 => k_is)
    (case kp_18 => k_is)
    (case a_19 => k_is)
    (case L_19 => refine' T.IsErr.mk' ?l; (case l => k_is))
    (case ga_19 => k_is)
    (case gg_19 => k_is)
    (case gc_19 => k_is)
    (case kp_19 => k_is)
    (case a_20 => k_is)
    (case L_20 => refine' T.IsErr.mk' ?l; (case l => k_is))
    (case ga_20 => k_is)
    (case gg_20 => k_is)
    (case gc_20 => k_is)
    (case kp_20 => k_is)
    (case a_21 => k_is)
    (case L_21 => refine' T.IsErr.mk' ?l; (case l => k_is))
    (case ga_21 => k_is)
    (case gg_21 => k_is)
    (case gc_21 => k_is)
    (case kp_21 => k_is)
    (case a_22 => k_is)
    (case L_22 => refine' T.IsErr.mk' ?l; (case l => k_is))
    (case ga_22 => k_is)
    (case gg_22 => k_is)
    (case gc_22 => k_is)
    (case kp_22 => k_is)
    (case hn => k_is)
    (case ht => k_is)
    (case no_17_part => k_is)
    (case sa_17 => k_is)
    (case in_17 => k_is)
    (case ty_17 => k_is)
    (case di_17 => refine' T.DefF.mk' ?l ?c ?k; (case l => k_is); (case c => k_is); (case k => k_is))
    (case no_18_index => k_is)
    (case sa_18 => k_is)
    (case in_18 => k_is)
    (case ty_18 => k_is)
    (case di_18 => refine' T.DefF.mk' ?l ?c ?k; (case l => k_is); (case c => k_is); (case k => k_is))
    (case no_19_index => k_is)
    (case sa_19 => k_is)
    (case in_19 => k_is)
    (case ty_19 => k_is)
    (case di_19 => refine' T.DefF.mk' ?l ?c ?k; (case l => k_is); (case c => k_is); (case k => k_is))
    (case no_20_task => k_is)
    (case no_20_index => k_is)
    (case sa_20 => k_is)
    (case in_20 => k_is)
    (case ty_20 => k_is)
    (case di_20 => refine' T.DefF.mk' ?l ?c ?k; (case l => k_is); (case c => k_is); (case k => k_is))
    (case no_21_most => k_is)
    (case sa_21 => k_is)
    (case in_21 => k_is)
    (case ty_21 => k_is)
    (case di_21 => refine' T.DefF.mk' ?l ?c ?k; (case l => k_is); (case c => k_is); (case k => k_is))
    (case no_22_line => k_is)
    (case sa_22 => k_is)
    (case in_22 => k_is)
    (case ty_22 => k_is)
    (case di_22 => refine' T.DefF.mk' ?l ?c ?k; (case l => k_is); (case c => k_is); (case k => k_is))
    (case a__law_source => k_is)
    (case d__law_source => refine' T.DefF.mk' ?l ?c ?k; (case l => k_is); (case c => k_is); (case k => k_is))
    (case a__law_draw => k_is)
    (case d__law_draw => refine' T.DefF.mk' ?l ?c ?k; (case l => k_is); (case c => k_is); (case k => k_is))
    (case a__law_same => k_is)
    (case d__law_same => refine' T.DefF.mk' ?l ?c ?k; (case l => k_is); (case c => k_is); (case k => k_is))
    (case a__law_kinds => k_is)
    (case d__law_kinds => refine' T.DefF.mk' ?l ?c ?k; (case l => k_is); (case c => k_is); (case k => k_is))
    (case a__law_plain => k_is)
    (case d__law_plain => refine' T.DefF.mk' ?l ?c ?k; (case l => k_is); (case c => k_is); (case k => k_is))
    (case a__law_raise => k_is)
    (case d__law_raise => refine' T.DefF.mk' ?l ?c ?k; (case l => k_is); (case c => k_is); (case k => k_is))
    (case a__law_worth => k_is)
    (case d__law_worth => refine' T.DefF.mk' ?l ?c ?k; (case l => k_is); (case c => k_is); (case k => k_is))
    (case a__law_fields => k_is)
    (case d__law_fields => refine' T.DefF.mk' ?l ?c ?k; (case l => k_is); (case c => k_is); (case k => k_is))
    (case a__law_read_fields => k_is)
    (case d__law_read_fields => refine' T.DefF.mk' ?l ?c ?k; (case l => k_is); (case c => k_is); (case k => k_is))
    (case a__law_holds => k_is)
    (case d__law_holds => refine' T.DefF.mk' ?l ?c ?k; (case l => k_is); (case c => k_is); (case k => k_is))
    (case a_law => k_is)
    (case d_law => refine' T.DefF.mk' ?l ?c ?k; (case l => k_is); (case c => k_is); (case k => k_is))
    (case nd => decide)

