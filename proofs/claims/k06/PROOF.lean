import PyProof.Rows.All
import Wide.All
import OpenK.AllK
import Wide.FinOn
import PyProof.EqAt
import PyProof.EqKinds
import PyProof.TupleCall
import HandS.Base
import HandS.Call
import HandS.List
import HandS.Dict
import HandS.Set
import HandS.SetFor
import HandS.TupLe
import HandS.Words
import HandS.Strs
import KE.KMathG
import PyProof.Rows.SetFrom
import HandS.Comp
import HandS.Iter
import HandS.Zip
import HandS.Wide
import HandS.Conv
import HandS.IsInst
import HandS.Ends
import HandS.Walk
import HandS.Evl
import HandS.WordsList
import HandS.WordsDict
import HandS.Gcd
import HandS.MakeKwOnly
import HandS.TupAny
import HandS.More
import PySem.Challenge.RW_hushkernel_k06_text_of_a_build
import HandS.HotCalls
import HandS.ExcInit
import HandS.ExcIs
import HandS.ExcField
import HandS.Exc
import KE.KExcIs
import HandS.ExcOwn
import HandS.WordsExc
import PyProof.FString5
import HandS.DeepEq
import HandS.OwnEq
import KE.DataEq
import HandS.NoneIn
import HandS.FStr
import HandS.Text
import HandS.Star
import HandS.RaiseMore
set_option Elab.async false
set_option linter.all false
set_option maxRecDepth 100000
set_option maxHeartbeats 4000000
namespace Hk
open PySem PySem.Spec PyProof.Rows L2
section
variable {X : Cx}
/-! ## math.lcm -/
def rLcm : List V → Hp → VK → Prop := fun vs H Q => ∃ a b : Int, vs = [.int a, .int b] ∧ 0 < a ∧ a < 1000 ∧ 0 < b ∧ b < 1000 ∧ Q (.int ((Nat.lcm a.natAbs b.natAbs : Nat) : Int)) H
theorem lcm_small {n : Nat} (h : n < 1000000) : ((n : Nat) : Int).natAbs.log2 < bitsLine := by
  show n.log2 < bitsLine
  by_cases h0 : n = 0
  · subst h0; decide
  · have : n.log2 < 20 := (Nat.log2_lt h0).2 (by omega)
    exact Nat.lt_trans this (by decide)
theorem cr_lcm : CallR X (.builtin "math.lcm") rLcm := by
  rintro pins s σ H vs us Q I r ⟨a, b, rfl, a0, a1, b0, b1, q⟩
  obtain ⟨t, u, rfl⟩ := Vals.int2 r
  have e : (Nat.lcm 1 a.natAbs).lcm b.natAbs = a.natAbs.lcm b.natAbs := by rw [Nat.lcm_one_left]
  have hb : a.natAbs.lcm b.natAbs < 1000000 := by
    have h1 : a.natAbs.lcm b.natAbs ≤ a.natAbs * b.natAbs := by
      unfold Nat.lcm; exact Nat.div_le_self _ _
    have h2 : a.natAbs * b.natAbs ≤ 999 * 999 := Nat.mul_le_mul (by omega) (by omega)
    omega
  refine PySem.W.mg_lcm_v (c := ((Nat.lcm a.natAbs b.natAbs : Nat) : Int)) (by omega) (by omega) (by rw [e]) (lcm_small hb) ⟨.int _, H, I.tok _, ⟨_, rfl⟩, q⟩
/-! ## a target o.f -/
def gFld (K : PySem.W.Frag) (ta : TE) (f : Str) : TG := fun v σ H Q => ta σ H fun x H2 => ∃ a C dx fs, x = .ref a ∧ H2 a = some (.ins C dx fs) ∧ Cls K C ∧ NoAttr K C f ∧ fs.length < 1000 ∧ Q σ (upd H2 a (.ins C dx (putF f v fs)))

theorem pg_fld {o : Expr} {f : Str} {pos : Pos} {ta : TE} (ho : PE X o ta) : PG X (.Attribute o f pos) (gFld X.K ta f) := by
  refine ⟨fun pins s σ H v u Q I r h => ?_⟩
  rw [arm_assign_Attribute]
  refine wpAny_bind (wpAny_holding (thn (ho.run pins s σ H _ I h) fun ov s1 hh => ?_))
  obtain ⟨x, H1, I1, rx, a, C, dx, fs, ex, ea, c, n, l, q⟩ := hh
  subst ex
  obtain rfl : ov = Value.ref a := rx
  refine wpAny_bind (wpAny_standAt (wpAny_bind (wpAny_holding ?_)))
  exact setattr_ok I1 ea c n l r fun s3 I3 => wpAny_release ⟨σ, _, I3, q⟩
/-! ## tuples of a text and an int, by < -/
def ltWI (a b : Str × Int) : Bool := if a.1 = b.1 then decide (a.2 < b.2) else decide (a.1.cps.toList < b.1.cps.toList)
def rLtWI (K : PySem.W.Frag) : R2 := fun x y H Q => ∃ (a b : Addr) (p q : Str × Int), x = .ref a ∧ y = .ref b ∧ SqT K H a [.str p.1, .int p.2] ∧ SqT K H b [.str q.1, .int q.2] ∧ Q (.bl (ltWI p q)) H
theorem op_ltWI (hu : X.A.units < cLine) : OpR X (compareOp .Lt) (rLtWI X.K) := by
  intro pins s σ H x y v u Q I rx ry h
  obtain ⟨a, b, ⟨w1, i1⟩, ⟨w2, i2⟩, rfl, rfl, ha, hb, q⟩ := h
  cases rx
  cases ry
  obtain ⟨its, r1, p1, _⟩ := I.tuple ha
  obtain ⟨its2, r2, p2, _⟩ := I.tuple hb
  cases r1 with
  | cons c1 r1 => cases r1 with
    | cons c2 r1 => cases r1; cases r2 with
      | cons c3 r2 => cases r2 with
        | cons c4 r2 =>
          cases r2
          obtain ⟨t1, rfl⟩ := c1
          obtain ⟨t2, rfl⟩ := c2
          obtain ⟨t3, rfl⟩ := c3
          obtain ⟨t4, rfl⟩ := c4
          have key := Ob.RcOp.tuples_lt (A := X.A) (s := s) (e := fun j => if j = 0 then (w1 == w2) else (i1 == i2))
            (r := fun j => if j = 0 then decide (w1.cps.toList < w2.cps.toList) else decide (i1 < i2)) p1 p2 hu ?_ ?_
          · have e : Ob.lexAt (fun j => if j = 0 then (w1 == w2) else (i1 == i2)) (fun j => if j = 0 then decide (w1.cps.toList < w2.cps.toList) else decide (i1 < i2)) (decide (2 < 2)) 0 2 = ltWI (w1, i1) (w2, i2) := by
              unfold ltWI
              rw [Ob.lexAt_succ, Ob.lexAt_succ, Ob.lexAt_zero]
              by_cases e1 : w1 = w2
              · subst e1
                by_cases e2 : i1 = i2
                · subst e2; simp
                · simp [e2]
              · simp [e1]
            exact key X.prog X.w _ _ ⟨.bl (ltWI (w1, i1) (w2, i2)), H, I, by rw [← e]; rfl, q⟩
          · intro j h1 h2
            match j, h1 with
            | 0, _ => exact SeqAt.EqAt.str_str w1 t1 w2 t3
            | 1, _ => exact SeqAt.EqAt.int_int i1 t2 i2 t4
          · intro j h1 h2 _
            match j, h1 with
            | 0, _ => exact fun _ _ _ _ z => PyProof.Rows.lt_str z
            | 1, _ => exact fun _ _ _ _ z => PyProof.Rows.lt_int z
/-! ## set(xs) of a list of ints -/
def rSetOfL (K : PySem.W.Frag) (w : World) : List V → Hp → VK → Prop := fun xs H Q => ∃ (l : Addr) (ns : List Int), xs = [.ref l] ∧ SqL K H l (ns.map V.int) ∧ ns.length < 60 ∧
  ∀ a n, H a = none → n ≤ ns.length → Q (.ref a) (upd H a (SetO w a (fun j => decide (j ∈ ns)) n))
end
end Hk

set_option Elab.async false
set_option linter.all false
set_option maxRecDepth 100000
set_option maxHeartbeats 4000000
namespace PySem
open PyProof.Rows L2
/-- a set that stands empty and new -/
abbrev hkFresh (w : World) : Obj := { cls := .type "set", dict := none, data := .set #[] 0 (.fresh 0 0 (!w.params.followText "set-order")) }
section
variable {P : Program} {w : World} {A : Around} {E : Value → Shared → Prop} {s : Shared}
set_option maxRecDepth 100000 in
set_option maxHeartbeats 3200000 in
/-- set(xs), xs a list of ints, as a set whose order is known -/
theorem hk_set_list {l : Addr} {xs : Array Value} (ns : List Int) {Q : Value → Shared → Prop} (hnd : A.handled = none) (isl : s.heap.IsList l xs) (hin : IntsAre xs.toList ns) (few : ns.length + 1 < scanBound)
    (k : ∀ (h2 : Heap) (tk c : Nat), SetR w h2 s.heap.objs.size (fun j => decide (j ∈ ns)) c → c ≤ ns.length → (∀ b o, s.heap.get? b = some o → h2.get? b = some o) → Q (.ref s.heap.objs.size) { s with heap := h2, toks := tk }) :
    wpAny (model P w) A (call (.type "set") [.ref l]) Q E s := by
  have nsz : xs.size = ns.length := by have z := IntsAre.length hin; rwa [Array.length_toList] at z
  obtain ⟨_, _, hm0⟩ := F.called_set.mro
  have hm1 := F.called_set.made
  have hm2 := F.called_set.sub
  refine wpAny_call (codeAny_of_tree ?_)
  show wpAny _ _ (callAny (.type "set") _) _ _ _
  refine wpAny_pure ⟨Code.quiet_builtin _ (by decide +kernel), codeAny_builtin F.entry_type_call ?_⟩
  rw [Around.under_plain (weight_type_call_type "set" [.ref l] []) rfl]
  have a1 := F.called_set.notType
  have a2 := F.called_set.canCreate
  have a3 := F.typeCall_set_1 (.ref l)
  repeat any_goals (first | assumption | wp_step)
  refine codeAny_mono (code_set_led1 (.ref l) (E := E) (Q₁ := fun v s1 => v = .ref s.heap.objs.size ∧ s1 = { s with heap := s.heap.push (hkFresh w) }) ⟨rfl, rfl⟩) fun r1 s1 h1 => ?_
  match r1, h1 with
  | .error _, h1 => exact h1
  | .ok .next, h1 | .ok .brk, h1 | .ok .cont, h1 => exact h1.elim
  | .ok (.ret v), h1 =>
    obtain ⟨rfl, rfl⟩ := h1
    have fr : (s.heap.push (hkFresh w)).get? s.heap.objs.size = some (hkFresh w) := Heap.get?_push_size _ rfl
    have ty : Shared.TypeIs { s with heap := s.heap.push (hkFresh w) } (.ref s.heap.objs.size) "set" := ⟨_, fr, rfl⟩
    have b1 := F.called_set.init.lookup
    have b2 := F.called_set.init.bind (.ref s.heap.objs.size)
    repeat any_goals (first | assumption | wp_step)
    refine codeAny_mono (codeAny_call_builtin (R := wants (fun r s2 => r = .none ∧ ∃ h2 tk c, s2 = { s with heap := h2, toks := tk } ∧ SetR w h2 s.heap.objs.size (fun j => decide (j ∈ ns)) c ∧ c ≤ ns.length ∧
      (∀ b o, s.heap.get? b = some o → h2.get? b = some o)) E) F.called_set.init.plain F.entry_set_init (check_set_init_1 ty ?_)) fun r2 s2 h2 => ?_
    · obtain ⟨⟨oc, od, oda, osl⟩, hol, hcl, nl, hdl⟩ := isl
      dsimp only at hcl hdl
      subst hcl hdl
      have hol2 : (s.heap.push (hkFresh w)).get? l = some { cls := .type "list", dict := od, data := .seq xs nl, slots := osl } := Heap.get?_push_of_some _ hol
      have c1 := F.sub_list_set
      have c2 := F.sub_list_frozenset
      have c3 : (Value.type "list" == Value.type "dict") = false := by decide
      have il : (s.heap.push (hkFresh w)).IsList l xs := ⟨_, hol2, rfl, nl, rfl⟩
      unfold Builtin.«set.__init__» noKeywords Builtin.Frozenset.updateFrom
      generalize hpi : pyIter = pin
      wp_walk
      subst hpi
      refine wpAny_pyIter_list il (wpAny_bind (wpAny_runValue ?_))
      have lS : l < s.heap.objs.size := Heap.lt_size hol
      have sz1 : (s.heap.push (hkFresh w)).objs.size = s.heap.objs.size + 1 := Heap.size_push ..
      have d1 : l ≠ (s.heap.push (hkFresh w)).objs.size := by rw [sz1]; exact Nat.ne_of_lt (Nat.lt_succ_of_lt lS)
      have d2 : s.heap.objs.size ∉ [(s.heap.push (hkFresh w)).objs.size, l] := by
        rw [sz1]
        intro hm
        rcases List.mem_cons.mp hm with z | z
        · exact Nat.ne_of_lt (Nat.lt_succ_self _) z
        · exact Nat.ne_of_gt lS (List.mem_singleton.mp z)
      have vals : ∀ (i : Nat) (v : Value), xs[i]? = some v → ∃ k t, ns[i]? = some k ∧ v = .int k t := fun i v hv => by
        have lt : i < ns.length := by rw [← nsz]; exact (Array.getElem?_eq_some_iff.mp hv).1
        obtain ⟨t, z⟩ := IntsAre.int_at hin i v (by rw [Array.getElem?_toList]; exact hv)
        refine ⟨ns[i], t, List.getElem?_eq_getElem lt, z.trans ?_⟩
        rw [List.getD_eq_getElem?_getD, List.getElem?_eq_getElem lt]; rfl
      refine set_update_ints ((Walks.list (by simp [hnd]) _ l d1 xs).toS) s.heap.objs.size d2 ns nsz few vals (xs.size - 0) 0 _ (by omega) (Nat.zero_le _) ⟨⟨_, Heap.get?_push_size _ rfl, rfl, rfl⟩, il.push _⟩
        ⟨0, Nat.le_refl 0, setR_new_at (Heap.get?_push_of_some _ fr)⟩ fun s3 c3 mv cle hS => ?_
      obtain ⟨h3, g3, d3, t3, o3⟩ := s3
      cases (show g3 = s.gens from mv.gens)
      cases (show d3 = s.drawn from mv.drawn)
      cases (show o3 = s.os from mv.os)
      show wpAny _ _ _ _ _ _
      refine wpAny_pure ?_
      show wpAny _ _ (ret Value.none) _ _ _
      rw [nsz] at cle
      refine wpAny_pure ⟨rfl, h3, t3, c3, rfl, hS, cle, fun b o e => ?_⟩
      have lt := Heap.lt_size e
      refine mv.heap b o (fun hm => ?_) (Heap.get?_push_of_some _ (Heap.get?_push_of_some _ e))
      rcases List.mem_cons.mp hm with z | z
      · exact Nat.ne_of_lt lt z
      · exact Nat.ne_of_lt (Nat.lt_succ_of_lt lt) ((List.mem_singleton.mp z).trans sz1)
    · match r2, h2 with
      | .error _, h2 => exact h2
      | .ok .next, h2 | .ok .brk, h2 | .ok .cont, h2 => exact h2.elim
      | .ok (.ret _), h2 =>
        obtain ⟨rfl, h3, tk, c, rfl, hS, cle, keep⟩ := h2
        repeat any_goals (first | assumption | wp_step)
        exact k _ _ _ hS cle keep
end
end PySem
namespace Hk
open PySem PySem.Spec PyProof.Rows L2
section
variable {X : Cx}
theorem cr_setL (hc : X.calm = true) : CallR X (.type "set") (rSetOfL X.K X.w) := by
  rintro pins s σ H xs us Q I r ⟨l, ns, rfl, hl, few, q⟩
  rw [Vals.ref1 r]
  obtain ⟨its, rv, pl, hz⟩ := I.list hl
  have hn : H s.heap.objs.size = none := I.hok.fresh (Nat.le_refl _)
  refine hk_set_list ns (I.ok.hd hc) pl.isList (by simpa using rv.ints) (by unfold scanBound; omega) fun h2 tk c hS cle keep => ?_
  exact ⟨.ref s.heap.objs.size, upd H s.heap.objs.size (SetO X.w s.heap.objs.size (fun j => decide (j ∈ ns)) c), I.laid (t' := tk) keep (Nat.le_refl _) (setO_new hS), rfl, q _ c hn cle⟩
end
end Hk

set_option Elab.async false
set_option linter.all false
set_option maxRecDepth 100000
set_option maxHeartbeats 4000000
namespace PySem
section
variable {prog : Program} {w : World} {T : Type} [DecidableEq T] {knd : KeyKind prog w T} {A : Around} {E : Value → Shared → Prop} {s : Shared}
theorem hk_any_no {kvs : List (T × Value)} {k : T} (h : k ∉ kvs.map (·.1)) : ¬ (kvs.any fun p => decide (p.1 = k)) = true := fun z => by
  obtain ⟨p, m, e⟩ := List.any_eq_true.mp z
  exact h (of_decide_eq_true e ▸ List.mem_map_of_mem m)
theorem hk_put {d : Addr} {kvs : List (T × Value)} {k : T} {key v : Value} {Q : Unit → Shared → Prop} (isk : knd.is k key = true) (hm : s.heap.DictOf knd d kvs) (sz : kvs.length ≤ sizeLine)
    (q : ∀ h2, h2.DictOf knd d (stored kvs k v) → Heap.SameBut d s.heap h2 → Q () { s with heap := h2 }) : wpAny (model prog w) A (dictPut d (knd.hash k) key v) Q E s := by
  obtain ⟨o, ⟨l⟩, ep, ho, hc, hd, hk, hp, nd⟩ := hm
  have ll : l.length = kvs.length := hp.length
  have ix : ((⟨l⟩ : Array DictEntry).findIdx? fun e => knd.is k e.key) = kvs.findIdx? fun p => decide (p.1 = k) := by
    rw [← hp.findIdx k]; simp
  unfold dictPut
  refine wpAny_bind (wpAny_dictFind_of isk ho hd hk ?_)
  cases hi : (⟨l⟩ : Array DictEntry).findIdx? fun e => knd.is k e.key with
  | none =>
    have no : k ∉ kvs.map (·.1) := not_mem_of_findIdx_none (ix ▸ hi)
    have st : stored kvs k v = kvs ++ [(k, v)] := by rw [stored, if_neg (hk_any_no no)]
    refine wpAny_updateDictKeys (hz := by show l.length ≤ _; omega) ho hd (q _ ⟨_, _, ep + 1, Heap.get?_update_self _ ho (Obj.isFreed_of_dict (Obj.data_mapDictKeys hd _)), hc.mapDictKeys _, Obj.data_mapDictKeys hd _, hk.push isk _, ?_, ?_⟩ (Heap.SameBut.update ..))
    · rw [st]; simpa using hp.append isk (knd.hash k) v
    · rw [st, List.map_append, List.nodup_append]
      exact ⟨nd, by simp, fun a ha b hb e => no (by rw [List.map_singleton, List.mem_singleton] at hb; have e2 : a = k := e.trans hb; rw [← e2]; exact ha)⟩
  | some i =>
    have st : stored kvs k v = kvs.map fun p => if p.1 = k then (p.1, v) else p := by rw [stored, if_pos (any_of_findIdx_some (ix ▸ hi))]
    refine wpAny_updateDict ho hd (q _ ⟨_, _, ep, Heap.get?_update_self _ ho (Obj.isFreed_of_dict (Obj.data_mapDict hd _)), hc.mapDict _, Obj.data_mapDict hd _, hk.modify _ _, ?_, ?_⟩ (Heap.SameBut.update ..))
    · rw [st]
      simpa using hp.modify nd (i := i) (by rw [← hi]; simp) v
    · rw [st, keys_map_store]; exact nd
/-- what ** of a dict does in a display that holds something already -/
theorem hk_merge {d o : Addr} {kvs more : List (T × Value)} {Q : Unit → Shared → Prop} (ne : d ≠ o) (oS : (o == sysModules) = false) (some0 : kvs ≠ [])
    (hd : s.heap.DictOf knd d kvs) (ho : s.heap.DictOf knd o more) (sz : kvs.length + more.length ≤ sizeLine)
    (q : ∀ h2, h2.DictOf knd d (merged kvs more) → Heap.SameBut d s.heap h2 → Q () { s with heap := h2 }) : wpAny (model prog w) A (mergeMapping d (.ref o) false) Q E s := by
  obtain ⟨ob, ⟨es⟩, ep, e1, e2, e3, e4, e5, e6⟩ := id ho
  obtain ⟨db, ⟨ds⟩, dp, f1, f2, f3, f4, f5, f6⟩ := id hd
  have hl : es.length = more.length := e5.length
  have hne : (⟨ds⟩ : Array DictEntry).isEmpty = false := by
    have z : ds.length = kvs.length := f5.length
    cases ds with
    | nil => cases kvs with
      | nil => exact absurd rfl some0
      | cons a r => simp at z
    | cons a r => rfl
  unfold mergeMapping
  refine wpAny_bind (wpAny_isInstance ho.typeIs (T := "dict") (U := "dict") (b := true) (by rw [isSubtype_type]; kernel_rfl) ?_)
  rw [if_pos rfl]
  refine wpAny_bind (wpAny_specialOf ho.typeIs F.slot_dict_iter.lookup (wpAny_bind (wpAny_pure ?_)))
  show wpAny _ _ (if (o == sysModules) = true then _ else _) _ _ _
  rw [oS, if_neg Bool.false_ne_true]
  refine wpAny_bind (wpAny_dictEntries f1 f3 ?_)
  rw [hne, if_neg Bool.false_ne_true]
  refine wpAny_bind (wpAny_dictEntries e1 e3 (wpAny_bind (wpAny_dictEpoch e1 e3 ?_)))
  refine wpAny_bind ?_
  refine wpAny_forIn_list _ (fun rest _ s2 => ∃ h2 i, s2 = { s with heap := h2 } ∧ rest = List.range' i (es.length - i) ∧ i ≤ es.length ∧ h2.DictOf knd d (merged kvs (more.take i)) ∧ h2.get? o = some ob ∧ Heap.SameBut d s.heap h2)
    _ ?_ ?_ _ _ ⟨s.heap, 0, rfl, by simp [List.range_eq_range'], Nat.zero_le _, by simpa [merged] using hd, e1, Heap.SameBut.refl _ _⟩
  · rintro x rest b s2 ⟨h2, i, rfl, er, le, g1, g2, g3⟩
    have lt : i < es.length := by
      rcases Nat.lt_or_ge i es.length with z | z
      · exact z
      · rw [Nat.sub_eq_zero_of_le z] at er; simp at er
    rw [show es.length - i = (es.length - (i + 1)) + 1 by omega, List.range'_succ] at er
    injection er with ex er
    subst ex
    refine wpAny_bind (wpAny_dictEntries g2 e3 ?_)
    rw [show (⟨es⟩ : Array DictEntry)[x]? = some es[x] by simp [lt]]
    have lm : x < more.length := by omega
    obtain ⟨hkey, hval⟩ := e5.get? (e := es[x]) (i := x) (by simp [lt]) (List.getElem?_eq_getElem lm)
    obtain ⟨k2, hk2, hh⟩ := e4 es[x] (by simp)
    obtain rfl : k2 = more[x].1 := knd.inj _ _ _ hk2 hkey
    have lz : (merged kvs (more.take x)).length ≤ sizeLine := by
      have a1 := merged_length_le kvs (more.take x)
      have a2 : (more.take x).length ≤ more.length := by rw [List.length_take]; omega
      omega
    refine wpAny_bind (wpAny_holding ?_)
    show wpAny _ _ (dictPut d es[x].hash es[x].key es[x].val) _ _ _
    rw [hh, hval]
    refine hk_put hkey g1 lz fun h3 i1 i2 => ?_
    have i3 : h3.get? o = some ob := (i2.2 o (Ne.symm ne)).trans g2
    refine wpAny_bind (wpAny_dictEpoch i3 e3 ?_)
    rw [if_neg (by simp)]
    refine wpAny_pure ⟨h3, x + 1, rfl, er, lt, ?_, i3, g3.trans i2⟩
    rw [merged_take_succ kvs more x more[x] (List.getElem?_eq_getElem lm)]
    exact i1
  · rintro b s2 ⟨h2, i, rfl, er, le, g1, g2, g3⟩
    have en : i = es.length := by
      rcases Nat.lt_or_ge i es.length with z | z
      · rw [show es.length - i = (es.length - (i + 1)) + 1 by omega, List.range'_succ] at er
        cases er
      · omega
    rw [en, hl, List.take_length] at g1
    exact wpAny_pure (q h2 g1 g3)
end
end PySem

set_option Elab.async false
set_option linter.all false
set_option maxRecDepth 100000
set_option maxHeartbeats 4000000
namespace PySem
abbrev HkIt := Option (Sem Value) × Sem Value
abbrev HkSt := Option Addr × List (Sem Value × Sem Value)
theorem hk_gather (f : HkIt → HkSt → Sem (ForInStep HkSt)) (hf : ∀ (p : Sem Value × Sem Value) (run : List (Sem Value × Sem Value)), run.length + 1 < 17 → f (some p.1, p.2) (none, run) = pure (.yield (none, run ++ [p]))) (tail : List HkIt) :
    ∀ (l run : List (Sem Value × Sem Value)), run.length + l.length < 17 → forIn ((l.map fun p => (some p.1, p.2)) ++ tail) ((none, run) : HkSt) f = forIn tail ((none, run ++ l) : HkSt) f
  | [], run, _ => by simp
  | p :: r, run, h => by
    rw [List.length_cons] at h
    rw [List.map_cons, List.cons_append, List.forIn_cons, hf p run (by omega), pure_bind]
    have z := hk_gather f hf tail r (run ++ [p]) (by simp; omega)
    simpa using z
section
variable {prog : Program} {w : World} {T : Type} [DecidableEq T] {knd : KeyKind prog w T} {A : Around} {E : Value → Shared → Prop} {s : Shared}
theorem hk_display {pairs : List (Sem Value × Sem Value)} {v : Sem Value} {Q : Value → Shared → Prop} (h0 : pairs ≠ []) (h16 : pairs.length < 16)
    (h : wpAny (model prog w) A (subDict pairs) (fun d s1 => wpAny (model prog w) A v (fun m s2 => wpAny (model prog w) A (mergeMapping d m false) (fun _ s3 => Q (.ref d) s3) (fun _ _ => False) s2) E s1) E s) :
    wpAny (model prog w) A (dictDisplay ((pairs.map fun p => (some p.1, p.2)) ++ [(none, v)])) Q E s := by
  unfold dictDisplay
  dsimp only
  rw [hk_gather _ (fun p run hr => by
    have z : ((run ++ [(p.1, p.2)]).length == 17) = false := by simp; omega
    simp only [z, Bool.false_eq_true, if_false]) _ pairs [] (by simp; omega)]
  have ne : pairs.isEmpty = false := by cases pairs <;> first | exact absurd rfl h0 | rfl
  simp only [List.nil_append, List.forIn_cons, List.forIn_nil, ne]
  refine wpAny_bind (wpAny_bind (wpAny_bind ?_))
  rw [if_neg Bool.false_ne_true]
  refine wpAny_bind (wpAny_mono h (fun d s1 h1 => wpAny_pure ?_) fun _ _ e => e)
  dsimp only
  refine wpAny_bind (wpAny_pure (wpAny_bind (wpAny_holding (wpAny_mono h1 (fun m s2 h2 => ?_) fun _ _ e => e))))
  refine wpAny_bind (wpAny_onRaise (wpAny_tryCatch (wpAny_onRaise (wpAny_holding (wpAny_mono h2 (fun _ s3 h3 => ?_) fun _ _ e => e.elim)))))
  refine wpAny_pure (wpAny_pure ?_)
  dsimp only
  refine wpAny_bind ?_
  rw [if_pos (show ([] : List (Sem Value × Sem Value)).isEmpty = true from rfl)]
  exact wpAny_pure (wpAny_pure h3)
theorem hk_zip {env : Env} {pos : Pos} {v : Expr} : ∀ (keys : List (Option Expr)) (values : List Expr), keys.all (·.isSome) = true → keys.length = values.length →
    (evalEachOpt (keys ++ [none]) env).zip ((evalEach (values ++ [v]) env).map fun v => do let x ← v; standAt pos; pure x) = ((pairTrees keys values env pos).map fun p => (some p.1, p.2)) ++ [(none, do let x ← eval v env; standAt pos; pure x)]
  | [], [], _, _ => rfl
  | [], _ :: _, _, h => by simp at h
  | _ :: _, [], _, h => by simp at h
  | none :: _, _ :: _, h, _ => by simp at h
  | some k :: ks, u :: us, h, hl => by
    have z := hk_zip (v := v) (pos := pos) (env := env) ks us (by simpa using h) (by simpa using hl)
    show (some (eval k env), (do let x ← eval u env; standAt pos; pure x)) :: (evalEachOpt (ks ++ [none]) env).zip ((evalEach (us ++ [v]) env).map fun v => do let x ← v; standAt pos; pure x) = _
    rw [z]; rfl
end
end PySem
namespace Hk
open PySem PySem.Spec PyProof.Rows L2
/-- {k: v, .., **d}: pairs first, then the dict -/
def tDispS (trs : List (TE × TE)) (tv : TE) : TE := fun σ H Q => ∀ p, H p = none → tPairs trs σ (upd H p (.dK [])) fun ps H2 => H2 p = some (.dK []) ∧ ∃ kvs : List (Key × V), ps = kvs.map (fun kv => (kV kv.1, kv.2)) ∧ kvs.length ≤ 15 ∧
  tv σ (upd H2 p (.dK (mergeK [] kvs))) fun x H3 => ∃ (a : Addr) (more : List (Key × V)), x = .ref a ∧ a ≠ p ∧ Rd H3 a (.dK more) ∧ H3 p = some (.dK (mergeK [] kvs)) ∧ mergeK [] kvs ≠ [] ∧ (mergeK [] kvs).length + more.length ≤ 1000 ∧ Q (.ref p) (upd H3 p (.dK (mergeK (mergeK [] kvs) more)))
section
variable {X : Cx} {pos : Pos}
theorem kv_nonempty {κ : Type} {a : List (κ × V)} {b : List (κ × Value)} (r : KV a b) (h : a ≠ []) : b ≠ [] := by
  cases r with
  | nil => exact absurd rfl h
  | cons _ _ => simp
theorem pe_dispS {keys : List (Option Expr)} {values : List Expr} {d0 : Expr} {trs : List (TE × TE)} {tv : TE} (h : PPs X pos keys.dropLast values.dropLast trs) (hv : PE X (values.getLastD d0) tv)
    (hk : keys = keys.dropLast ++ [none] := by rfl) (hvl : values = values.dropLast ++ [values.getLastD d0] := by rfl) (hall : keys.dropLast.all (·.isSome) = true := by rfl) (hl : keys.dropLast.length = values.dropLast.length := by rfl)
    (h0 : (0 < keys.dropLast.length) = True := by simp) (h15 : keys.dropLast.length ≤ 15 := by decide) : PE X (.Dict keys values pos) (tDispS trs tv) := by
  refine ⟨fun pins s σ H Q I q => ?_⟩
  have hn := I.hok.fresh (Nat.le_refl s.heap.objs.size)
  have I1 := I.laid (a := s.heap.objs.size) (o := .dK []) (h' := s.heap.push { cls := .type "dict", data := .dict #[] }) (t' := s.toks) (fun _ _ z => Heap.get?_push_of_some _ z) (Nat.le_refl _) (dk_empty s.heap I.big)
  have len := pairTrees_length keys.dropLast values.dropLast X.env pos hall hl
  have h00 : 0 < keys.dropLast.length := by rw [h0]; exact True.intro
  rw [hk, hvl, arm_eval_Dict, hk_zip _ _ hall hl]
  refine wpAny_bind (wpAny_standAt (hk_display (fun z => by rw [z] at len; have l2 : 0 = keys.dropLast.length := len; omega) (by omega) ?_))
  refine wpAny_subDict (knd := mixKind X.prog X.w) (by omega) (thn (h.run pins _ σ _ _ I1 (q _ hn)) fun ws s2 hh => ?_)
  obtain ⟨ps, H2, I2, rel, e, kvs, ep, lk, q2⟩ := hh
  subst ep
  obtain ⟨rs, c, rk⟩ := carries_of (P := X.prog) (w := X.w) rel
  obtain ⟨z, hd, vs0, r0, dd⟩ := dk_of I2.hok e
  cases r0
  refine ⟨rs, c, dd, fun h2 d2 sb => ?_⟩
  have rm := rk.merge .nil
  have lm := length_mergeK kvs []
  rw [List.length_nil] at lm
  have I3 := d_write (t' := s2.toks + ws.length) I2 (by rw [e]; exact True.intro) sb (let ⟨o, _, _, ho, _⟩ := d2; ⟨o, ho⟩) (dk_new (by rw [sizeLine_eq]; omega) hd rm d2)
  refine wpAny_bind (thn (hv.run pins _ σ _ _ I3 q2) fun u s3 hh => wpAny_bind (wpAny_standAt (wpAny_pure ?_)))
  obtain ⟨x, H3, I4, rx, a, more, ex, nap, ra, hp, ne, l15, q3⟩ := hh
  subst ex
  obtain rfl : u = Value.ref a := rx
  obtain ⟨_, ha, ms, rmore, da⟩ := dk_rd I4.hok ra
  obtain ⟨_, _, cs, rc, dp⟩ := dk_of I4.hok hp
  have lcs : cs.length = (mergeK [] kvs).length := (Paired.length rc).symm
  have lms : ms.length = more.length := (Paired.length rmore).symm
  refine hk_merge (knd := mixKind X.prog X.w) (Ne.symm nap) ha (kv_nonempty rc ne) dp da (by rw [sizeLine_eq, lcs, lms]; omega) fun h3 d3 sb3 => ?_
  have l4 := length_mergeK more (mergeK [] kvs)
  exact ⟨.ref s.heap.objs.size, _, d_write (t' := s3.toks) I4 (by rw [hp]; exact True.intro) sb3 (let ⟨o, _, _, ho, _⟩ := d3; ⟨o, ho⟩) (dk_new (by rw [sizeLine_eq]; omega) hd (rmore.merge rc) d3), rfl, q3⟩
end
end Hk

set_option Elab.async false
set_option linter.all false
set_option maxRecDepth 100000
set_option maxHeartbeats 4000000
namespace Hk
open PySem PySem.Spec PyProof.Rows L2
/-- how many unlike ints there are -/
def distinct (ns : List Int) : Nat := (firstMet (fun i => ns.getD i 0) ns.length).length
theorem step_nodup {l : List Int} (v : Int) (h : l.Nodup) : (step_dedup l v).Nodup := by
  unfold step_dedup
  by_cases e : l.any (· == v) = true
  · rw [if_pos e]; exact h
  · rw [if_neg e]
    refine List.nodup_append.mpr ⟨h, by simp, fun a ha b hb z => ?_⟩
    rw [List.mem_singleton] at hb
    subst hb
    subst z
    exact e (List.any_eq_true.mpr ⟨a, ha, by simp⟩)
theorem firstMet_nd (val : Nat → Int) : ∀ i, (firstMet val i).Nodup
  | 0 => by rw [firstMet_zero]; exact List.nodup_nil
  | i + 1 => by rw [firstMet_succ]; exact step_nodup _ (firstMet_nd val i)
theorem firstMet_mem {ns : List Int} {k : Int} : k ∈ firstMet (fun i => ns.getD i 0) ns.length ↔ k ∈ ns := by
  have z := firstMet_any (fun i => ns.getD i 0) ns.length k
  have e : (List.range ns.length).map (fun i => ns.getD i 0) = ns := by
    refine List.ext_getElem (by simp) fun i h1 h2 => ?_
    simp [List.getD_eq_getElem?_getD, List.getElem?_eq_getElem h2]
  rw [e] at z
  have a : ∀ l : List Int, l.any (· == k) = true ↔ k ∈ l := fun l => by simp
  rw [← a, ← a, z]
theorem distinct_gt {ns : List Int} : 1 < distinct ns ↔ ∃ a ∈ ns, ∃ b ∈ ns, a ≠ b := by
  unfold distinct
  have nd := firstMet_nd (fun i => ns.getD i 0) ns.length
  have mm : ∀ k, k ∈ firstMet (fun i => ns.getD i 0) ns.length ↔ k ∈ ns := fun _ => firstMet_mem
  generalize firstMet (fun i => ns.getD i 0) ns.length = l at nd mm
  constructor
  · intro h
    match l, h, nd, mm with
    | a :: b :: r, _, nd, mm =>
      refine ⟨a, (mm a).mp (by simp), b, (mm b).mp (by simp), fun e => ?_⟩
      subst e
      simp at nd
  · rintro ⟨a, ha, b, hb, ne⟩
    have h1 := (mm a).mpr ha
    have h2 := (mm b).mpr hb
    match l, h1, h2 with
    | [x], h1, h2 =>
      rw [List.mem_singleton] at h1 h2
      exact absurd (h1.trans h2.symm) ne
    | x :: y :: r, _, _ => simp
section
variable {X : Cx}
def tLenSetD (K : PySem.W.Frag) (ta : TE) : TE := fun σ H Q => ta σ H fun x H1 => ∃ (l : Addr) (ns : List Int), x = V.ref l ∧ SqL K H1 l (ns.map V.int) ∧ ns.length < 60 ∧ Q (.int (distinct ns)) H1
theorem pe_lenSetD {a : Expr} {ta : TE} {p p2 q pos : Pos} (hc : X.calm = true) (hg : Gl X "len") (hm : X.mg "len" = none) (hg2 : Gl X "set") (hm2 : X.mg "set" = none) (ha : PE X a ta)
    (na : starEach [a] X.env = (false, eval a X.env) :: starEach [] X.env := by rfl) : PE X (.Call (.Name "len" p) [.Call (.Name "set" p2) [a] [] q] [] pos) (tLenSetD X.K ta) := by
  refine ⟨fun pins s σ H Q I h => Call_ (ld_blt I hg hm PySem.boot_len (PyProof.Rows.callWith_builtin1 (PyProof.Rows.args_cons (Call_ (ld_blt I hg2 hm2 PyProof.Rows.boot_set ?_)) rfl) rfl rfl))⟩
  refine PyProof.Rows.callWith_type1 (PyProof.Rows.args_cons (thn (ha.run pins s σ H _ I h) fun v s1 hh => PyProof.Rows.args_nil ?_) na) na rfl
  obtain ⟨x, H1, I1, r1, l, ns, ex, hq, few, q1⟩ := hh
  subst ex
  cases r1
  obtain ⟨its, r, pl, hz⟩ := I1.list hq
  have hl : its.toArray.size = ns.length := by rw [List.size_toArray, ← r.length, List.length_map]
  refine call_set_list (I1.ok.hd hc) pl.isList (ns := ns) (by simpa using r.ints) (by unfold scanBound; omega) fun h2 tk hS keep => PyProof.Rows.args_nil ?_
  rw [hl] at hS
  obtain ⟨o, es, ep, t, ho, hex, hd, _, _, _, hf, hn⟩ := hS
  have I2 : Inv X pins σ H1 { s1 with heap := h2, toks := tk } := I1.kept fun b o e => keep b o (Heap.lt_size e) e
  have le : distinct ns ≤ ns.length := firstMet_length_le _ _
  have hn2 : es.size = distinct ns := hn
  refine call_len_set ho hex hd hf (by rw [hn2]; omega) ⟨.int (distinct ns), H1, I2.tok _, ⟨_, by rw [hn2]⟩, q1⟩
end
end Hk

set_option Elab.async false
set_option linter.all false
set_option maxRecDepth 100000
set_option maxHeartbeats 4000000
namespace Hk
open PySem PySem.Spec PyProof.Rows L2
theorem hb_int : bootBuiltins "int" = some (.type "int") := PyProof.Rows.boot_int
theorem hb_str : bootBuiltins "str" = some (.type "str") := PyProof.Rows.boot_str
theorem hb_bool : bootBuiltins "bool" = some (.type "bool") := PyProof.Rows.boot_bool
theorem hb_list : bootBuiltins "list" = some (.type "list") := PyProof.Rows.boot_list
theorem hb_tuple : bootBuiltins "tuple" = some (.type "tuple") := PyProof.Rows.boot_tuple
theorem hb_dict : bootBuiltins "dict" = some (.type "dict") := PyProof.Rows.boot_dict
theorem hb_set : bootBuiltins "set" = some (.type "set") := PyProof.Rows.boot_set
theorem hb_len : bootBuiltins "len" = some (.builtin "len") := PySem.boot_len
theorem hb_isinstance : bootBuiltins "isinstance" = some (.builtin "isinstance") := PyProof.Rows.boot_isinstance
theorem hb_all : bootBuiltins "all" = some (.builtin "all") := PyProof.Rows.boot_all
theorem hb_any : bootBuiltins "any" = some (.builtin "any") := PyProof.Rows.boot_any
theorem hb_min : bootBuiltins "min" = some (.builtin "min") := PyProof.Rows.boot_min
theorem hb_max : bootBuiltins "max" = some (.builtin "max") := PyProof.Rows.boot_max
theorem hb_sorted : bootBuiltins "sorted" = some (.builtin "sorted") := PyProof.Rows.boot_sorted
/-- no name of the module hides these -/
structure Bl (mg : Str → Option Value) : Prop where
  int_ : mg "int" = none
  str_ : mg "str" = none
  bool_ : mg "bool" = none
  list_ : mg "list" = none
  tuple_ : mg "tuple" = none
  dict_ : mg "dict" = none
  set_ : mg "set" = none
  len : mg "len" = none
  isinstance : mg "isinstance" = none
  all : mg "all" = none
  any : mg "any" = none
  min : mg "min" = none
  max : mg "max" = none
  sorted : mg "sorted" = none
  range : mg "range" = none
  zip : mg "zip" = none
/-- a def of the module as it stands behind the top -/
structure DefAt (K : PySem.W.Frag) (mg : Str → Option Value) (x : Str) (st : Stmt) (ps : List Str) : Prop where
  ex : ∃ f fd, Fun K x x st f fd ∧ mg x = some (.ref f) ∧ Binds K fd ps []
/-- a def that can be called: its promise -/
structure Cal (P : Program) (w : World) (K : PySem.W.Frag) (mg : Str → Option Value) (base : Heap) (k : Nat) (x : Str) (ps : List Str) (sp : Sp) : Prop where
  ex : ∃ f fd, mg x = some (.ref f) ∧ PySem.W.keepIn K (.ref f) = true ∧ Binds K fd ps [] ∧ FnOk P w K mg base CX0 k f fd ps sp
theorem DefAt.cal {P : Program} {w : World} {K : PySem.W.Frag} {mg : Str → Option Value} {base : Heap} {k : Nat} {x : Str} {st : Stmt} {ps : List Str} {sp : Sp} (d : DefAt K mg x st ps)
    (h : ∀ f fd, Fun K x x st f fd → FnOk P w K mg base CX0 k f fd ps sp) : Cal P w K mg base k x ps sp := by
  obtain ⟨f, fd, F, g, b⟩ := d.ex
  exact ⟨f, fd, g, F.kp, b, h f fd F⟩
section
variable {X : Cx} {k : Nat} {x : Str} {ps : List Str} {sp : Sp} {p pos : Pos} {e : Expr} {es : List Expr} {t : TA}
theorem pe_cal (c : Cal X.prog X.w X.K X.mg X.base k x ps sp) (hr : Room k X.A) (hg : Gl X x) (ha : PA X (e :: es) t) (hdb : (x == ("__debug__" : Str)) = false := by decide)
    (he : starEach (e :: es) X.env = (false, eval e X.env) :: starEach es X.env := by rfl) (hpl : (backTo pos (starEach es X.env)).any (·.1) = false := by rfl) : PE X (.Call (.Name x p) (e :: es) [] pos) (tCall sp [] E0 t) := by
  obtain ⟨f, fd, g, kp, b, F⟩ := c.ex
  exact pe_call F hr hg g kp b .nil pass0 ha hdb he hpl
end
/-! ## readings -/
section
variable {σ : L2.St} {H : Hp} {D : Ends} {Q : VK} {ta tb te : TE} {t u : TS} {K : PySem.W.Frag} {v : V}
theorem q_seq (h : t { D with nx := u D } σ H) : tSeq t u D σ H := h
theorem q_next (h : D.nx σ H) : tNext D σ H := h
theorem q_set {i : Nat} (h : te σ H fun x H1 => D.nx (σ.set i (some x)) H1) : tAsg te (gName i) D σ H := h
theorem q_asg {g : TG} (h : te σ H fun x H1 => g x σ H1 D.nx) : tAsg te g D σ H := h
theorem q_ret (h : te σ H D.rt) : tRet te D σ H := h
theorem q_drop (h : te σ H fun _ H1 => D.nx σ H1) : tDrop te D σ H := h
theorem q_ifs {c : TT} (h : c σ H fun b H1 => if b = true then t D σ H1 else u D σ H1) : tIfS c t u D σ H := h
theorem q_ife {c : TT} (h : c σ H fun b H1 => if b = true then ta σ H1 Q else tb σ H1 Q) : tIf c ta tb σ H Q := h
theorem q_var {i : Nat} (h : σ[i]? = some (some v)) (q : Q v H) : tVar i σ H Q := ⟨v, h, q⟩
theorem q_c (q : Q v H) : tC v σ H Q := q
theorem q_op {r : R2} (h : ta σ H fun x H1 => tb σ H1 fun y H2 => r x y H2 Q) : tOp r ta tb σ H Q := h
theorem q_un {r : V → Hp → VK → Prop} (h : ta σ H fun x H1 => r x H1 Q) : tUn r ta σ H Q := h
theorem q_chain {r r' : R2} {tc : TE} (h : ta σ H fun x H1 => tb σ H1 fun y H2 => r x y H2 fun z H3 => ∃ k, z = .bl k ∧ (if k = true then tc σ H3 fun w' H4 => r' y w' H4 Q else Q (.bl false) H3)) : tChain r r' ta tb tc σ H Q := h
theorem q_rI0 {g : Int → Int → V} {i j : Int} (q : Q (g i j) H) : rI0 g (.int i) (.int j) H Q := ⟨i, j, rfl, rfl, q⟩
theorem q_rI {C : Int → Int → Prop} {g : Int → Int → V} {i j : Int} (c : C i j) (q : Q (g i j) H) : rI C g (.int i) (.int j) H Q := ⟨i, j, rfl, rfl, c, q⟩
theorem q_rU {g : Int → V} {i : Int} (q : Q (g i) H) : rU g (.int i) H Q := ⟨i, rfl, q⟩
theorem q_eq {x y : V} (h : scal x y = true) (q : Q (.bl (decide (x = y))) H) : rEq x y H Q := ⟨h, q⟩
theorem q_ne {x y : V} (h : scal x y = true) (q : Q (.bl (!decide (x = y))) H) : rNe x y H Q := ⟨h, q⟩
theorem q_test {q : Bool → Hp → Prop} (h : te σ H fun x H1 => ∃ k, x = .bl k ∧ q k H1) : tTest te σ H q := h
theorem q_tB {q : Bool → Hp → Prop} (h : te σ H fun x H1 => ∃ k, x = .bl k ∧ q k H1) : tB te σ H q := h
theorem q_bl {b : Bool} {q : Bool → Prop} (h : q b) : ∃ k, V.bl b = .bl k ∧ q k := ⟨b, rfl, h⟩
theorem q_and {c d : TT} {q : Bool → Hp → Prop} (h : c σ H fun b H1 => if b = true then d σ H1 q else q false H1) : tAnd c d σ H q := h
theorem q_or {c d : TT} {q : Bool → Hp → Prop} (h : c σ H fun b H1 => if b = true then q true H1 else d σ H1 q) : tOr c d σ H q := h
theorem q_not {c : TT} {q : Bool → Hp → Prop} (h : c σ H fun b H1 => q (!b) H1) : tNot c σ H q := h
theorem q_andV (h : ta σ H fun x H1 => ∃ c, x = .bl c ∧ if c = true then tb σ H1 Q else Q (.bl false) H1) : tAndV ta tb σ H Q := h
theorem q_orV (h : ta σ H fun x H1 => ∃ c, x = .bl c ∧ if c = true then Q (.bl true) H1 else tb σ H1 Q) : tOrV ta tb σ H Q := h
theorem q_notV (h : ta σ H fun x H1 => ∃ c, x = .bl c ∧ Q (.bl (!c)) H1) : tNotV ta σ H Q := h
theorem q_isN (h : ta σ H fun x H1 => Q (.bl (decide (x = .non))) H1) : tIsN ta σ H Q := h
theorem q_notN (h : ta σ H fun x H1 => Q (.bl (!decide (x = .non))) H1) : tNotN ta σ H Q := h
theorem q_nil {q : List V → Hp → Prop} (h : q [] H) : tNil σ H q := h
theorem q_cons {tr : TA} {q : List V → Hp → Prop} (h : ta σ H fun x H1 => tr σ H1 fun xs H2 => q (x :: xs) H2) : tCons ta tr σ H q := h
theorem q_tup {tr : TA} (h : tr σ H fun xs H1 => xs.length ≤ sizeLine ∧ ∀ p, H1 p = none → Q (.ref p) (upd H1 p (.tup xs))) : tTup tr σ H Q := h
theorem q_lst {tr : TA} (h : tr σ H fun xs H1 => xs.length ≤ sizeLine ∧ ∀ p, H1 p = none → Q (.ref p) (upd H1 p (.lst xs))) : tLst tr σ H Q := h
theorem q_cb {r : List V → Hp → VK → Prop} {tr : TA} (h : tr σ H fun vs H1 => r vs H1 Q) : tCB r tr σ H Q := h
theorem q_call {sp : Sp} {E : XK} {tr : TA} (h : tr σ H fun vs H1 => sp (vs ++ []) H1 Q E) : tCall sp [] E tr σ H Q := h
theorem q_fld {f : Str} (h : ta σ H fun x H1 => ∃ a C dx fs v, x = .ref a ∧ H1 a = some (.ins C dx fs) ∧ Cls K C ∧ NoAttr K C f ∧ fs.lookup f = some v ∧ Q v H1) : tFld K ta f σ H Q := h
theorem q_bm {T : String} {r : V → List V → Hp → VK → Prop} {tr : TA} (h : ta σ H fun x H1 => tyV K T x H1 ∧ tr σ H1 fun xs H2 => r x xs H2 Q) : tBM K T r ta tr σ H Q := h
theorem q_dget (h : ta σ H fun x H1 => tb σ H1 fun y H2 => ∃ a v, x = .ref a ∧ DGet H2 a y (some v) ∧ Q v H2) : tDGet ta tb σ H Q := h
theorem q_ixL {a : Addr} {xs : List V} {i : Int} {z : V} (h : SqL K H a xs) (hi : atI xs i = some z) (q : Q z H) : rIxL K (.ref a) (.int i) H Q := ⟨a, xs, i, z, rfl, rfl, h, hi, q⟩
theorem q_ixT {a : Addr} {xs : List V} {i : Int} {z : V} (h : SqT K H a xs) (hi : atI xs i = some z) (q : Q z H) : rIxT K (.ref a) (.int i) H Q := ⟨a, xs, i, z, rfl, rfl, h, hi, q⟩
theorem q_setL {a : Addr} {xs : List V} {i : Int} {j : Nat} {z : V} {q : Hp → Prop} (h : H a = some (.lst xs)) (hi : ixN xs.length i = some j) (k : q (upd H a (.lst (xs.set j z)))) : rSetL (.ref a) (.int i) z H q := ⟨a, xs, i, j, rfl, rfl, h, hi, k⟩
theorem q_sub {ti : TE} {r : TSet} {q : L2.St → Hp → Prop} (h : ta σ H fun o H1 => ti σ H1 fun i H2 => r o i v H2 fun H3 => q σ H3) : gSub ta ti r v σ H q := h
theorem q_for {wi : TI} {g : TG} (h : wi σ H fun J H1 => ∃ W : Nat → Nat → L2.St → Hp → Prop, (∃ m, W 0 m σ H1) ∧ ∀ i m σ H, W i m σ H →
    (J.stop i H ∧ D.nx σ H) ∨ (J.go i H ∧ ∃ N : L2.St → Hp → Prop, (∀ σ' H', N σ' H' → ∃ m', m' < m ∧ W (i + 1) m' σ' H') ∧ ∀ x H', J.yld i H x H' → g x σ H' fun σ2 H2 => t { D with nx := N, ct := N, bk := D.nx } σ2 H2)) : tFor wi g t D σ H := h
end
/-! ## data -/
mutual
theorem _root_.L2.Dp.mono {K : PySem.W.Frag} {H H' : Hp} (s : Same H H') : ∀ {v : V} {d : PyData}, Dp K H v d → Dp K H' v d
  | _, _, .non => .non
  | _, _, .bl b => .bl b
  | _, _, .int i => .int i
  | _, _, .str x => .str x
  | _, _, .lst h a => .lst (s.seq h) (L2.DpAll.mono s a)
  | _, _, .tup h a => .tup (Evl.ex_t s h) (L2.DpAll.mono s a)
theorem _root_.L2.DpAll.mono {K : PySem.W.Frag} {H H' : Hp} (s : Same H H') : ∀ {vs : List V} {ds : List PyData}, DpAll K H vs ds → DpAll K H' vs ds
  | _, _, .nil => .nil
  | _, _, .cons h t => .cons (L2.Dp.mono s h) (L2.DpAll.mono s t)
end
theorem same_new {H : Hp} {p : Addr} {o : HO} (h : H p = none) : Same H (upd H p o) := fun b u e => by
  rw [upd_ne (ne_of_none e h)]; exact e
end Hk

set_option Elab.async false
set_option linter.all false
set_option maxRecDepth 100000
set_option maxHeartbeats 4000000
namespace Hk
open PySem PySem.Spec PyProof.Rows L2
/-! ## isinstance of data -/
def dTy : PyData → String
  | .none => "NoneType" | .bool _ => "bool" | .int _ => "int" | .str _ => "str" | .list _ => "list" | .tuple _ => "tuple" | .dict _ => "dict"
theorem _root_.L2.Dp.ty {K : PySem.W.Frag} {H : Hp} {x : V} {d : PyData} (h : Dp K H x d) : TyX K H x (.type (dTy d)) := by
  cases h with
  | non => exact .base .non
  | bl b => exact .base (.bl b)
  | int i => exact .base (.int i)
  | str z => exact .base (.str z)
  | lst h _ => rcases h with (h | ⟨o, h⟩) | ⟨o, its, n, l, c, _⟩
               · exact .base (.lst h)
               · exact .base (.frz h)
               · exact .kList l c
  | tup h _ => rcases h with (h | ⟨o, h⟩) | ⟨o, its, n, l, c, _⟩
               · exact .base (.tup h)
               · exact .fTuple h
               · exact .kTuple l c
def isInt : PyData → Bool | .int _ => true | .bool _ => true | _ => false
def isBool : PyData → Bool | .bool _ => true | _ => false
def isStr : PyData → Bool | .str _ => true | _ => false
def isList : PyData → Bool | .list _ => true | _ => false
def isTuple : PyData → Bool | .tuple _ => true | _ => false
theorem kb_NoneType_int : kitB "NoneType" "int" = some false := by decide +kernel
theorem kb_bool_int : kitB "bool" "int" = some true := by decide +kernel
theorem kb_int_int : kitB "int" "int" = some true := by decide +kernel
theorem kb_str_int : kitB "str" "int" = some false := by decide +kernel
theorem kb_list_int : kitB "list" "int" = some false := by decide +kernel
theorem kb_tuple_int : kitB "tuple" "int" = some false := by decide +kernel
theorem kb_int (d : PyData) (h : ∀ kvs, d ≠ .dict kvs) : kitB (dTy d) "int" = some (isInt d) := by
  cases d with
  | none => exact kb_NoneType_int
  | bool _ => exact kb_bool_int
  | int _ => exact kb_int_int
  | str _ => exact kb_str_int
  | list _ => exact kb_list_int
  | tuple _ => exact kb_tuple_int
  | dict kvs => exact absurd rfl (h kvs)
theorem kb_NoneType_bool : kitB "NoneType" "bool" = some false := by decide +kernel
theorem kb_bool_bool : kitB "bool" "bool" = some true := by decide +kernel
theorem kb_int_bool : kitB "int" "bool" = some false := by decide +kernel
theorem kb_str_bool : kitB "str" "bool" = some false := by decide +kernel
theorem kb_list_bool : kitB "list" "bool" = some false := by decide +kernel
theorem kb_tuple_bool : kitB "tuple" "bool" = some false := by decide +kernel
theorem kb_bool (d : PyData) (h : ∀ kvs, d ≠ .dict kvs) : kitB (dTy d) "bool" = some (isBool d) := by
  cases d with
  | none => exact kb_NoneType_bool
  | bool _ => exact kb_bool_bool
  | int _ => exact kb_int_bool
  | str _ => exact kb_str_bool
  | list _ => exact kb_list_bool
  | tuple _ => exact kb_tuple_bool
  | dict kvs => exact absurd rfl (h kvs)
theorem kb_NoneType_str : kitB "NoneType" "str" = some false := by decide +kernel
theorem kb_bool_str : kitB "bool" "str" = some false := by decide +kernel
theorem kb_int_str : kitB "int" "str" = some false := by decide +kernel
theorem kb_str_str : kitB "str" "str" = some true := by decide +kernel
theorem kb_list_str : kitB "list" "str" = some false := by decide +kernel
theorem kb_tuple_str : kitB "tuple" "str" = some false := by decide +kernel
theorem kb_str (d : PyData) (h : ∀ kvs, d ≠ .dict kvs) : kitB (dTy d) "str" = some (isStr d) := by
  cases d with
  | none => exact kb_NoneType_str
  | bool _ => exact kb_bool_str
  | int _ => exact kb_int_str
  | str _ => exact kb_str_str
  | list _ => exact kb_list_str
  | tuple _ => exact kb_tuple_str
  | dict kvs => exact absurd rfl (h kvs)
theorem kb_NoneType_list : kitB "NoneType" "list" = some false := by decide +kernel
theorem kb_bool_list : kitB "bool" "list" = some false := by decide +kernel
theorem kb_int_list : kitB "int" "list" = some false := by decide +kernel
theorem kb_str_list : kitB "str" "list" = some false := by decide +kernel
theorem kb_list_list : kitB "list" "list" = some true := by decide +kernel
theorem kb_tuple_list : kitB "tuple" "list" = some false := by decide +kernel
theorem kb_list (d : PyData) (h : ∀ kvs, d ≠ .dict kvs) : kitB (dTy d) "list" = some (isList d) := by
  cases d with
  | none => exact kb_NoneType_list
  | bool _ => exact kb_bool_list
  | int _ => exact kb_int_list
  | str _ => exact kb_str_list
  | list _ => exact kb_list_list
  | tuple _ => exact kb_tuple_list
  | dict kvs => exact absurd rfl (h kvs)
theorem kb_NoneType_tuple : kitB "NoneType" "tuple" = some false := by decide +kernel
theorem kb_bool_tuple : kitB "bool" "tuple" = some false := by decide +kernel
theorem kb_int_tuple : kitB "int" "tuple" = some false := by decide +kernel
theorem kb_str_tuple : kitB "str" "tuple" = some false := by decide +kernel
theorem kb_list_tuple : kitB "list" "tuple" = some false := by decide +kernel
theorem kb_tuple_tuple : kitB "tuple" "tuple" = some true := by decide +kernel
theorem kb_tuple (d : PyData) (h : ∀ kvs, d ≠ .dict kvs) : kitB (dTy d) "tuple" = some (isTuple d) := by
  cases d with
  | none => exact kb_NoneType_tuple
  | bool _ => exact kb_bool_tuple
  | int _ => exact kb_int_tuple
  | str _ => exact kb_str_tuple
  | list _ => exact kb_list_tuple
  | tuple _ => exact kb_tuple_tuple
  | dict kvs => exact absurd rfl (h kvs)
theorem _root_.L2.Dp.nodict {K : PySem.W.Frag} {H : Hp} {x : V} {d : PyData} (h : Dp K H x d) : ∀ kvs, d ≠ .dict kvs := by
  intro kvs e; subst e; cases h
section
variable {K : PySem.W.Frag} {H : Hp} {x : V} {d : PyData} {Q : VK}
theorem q_isi {T : String} {b : Bool} (h : Dp K H x d) (k : kitB (dTy d) T = some b) (q : Q (.bl b) H) : rIsi K [x, .ty T] H Q := ⟨x, .ty T, _, _, b, rfl, .ty T, h.ty, kit_ty k, q⟩
theorem q_isi_int (h : Dp K H x d) (q : Q (.bl (isInt d)) H) : rIsi K [x, .ty "int"] H Q := q_isi h (kb_int d h.nodict) q
theorem q_isi_bool (h : Dp K H x d) (q : Q (.bl (isBool d)) H) : rIsi K [x, .ty "bool"] H Q := q_isi h (kb_bool d h.nodict) q
theorem q_isi_str (h : Dp K H x d) (q : Q (.bl (isStr d)) H) : rIsi K [x, .ty "str"] H Q := q_isi h (kb_str d h.nodict) q
theorem q_isi_list (h : Dp K H x d) (q : Q (.bl (isList d)) H) : rIsi K [x, .ty "list"] H Q := q_isi h (kb_list d h.nodict) q
theorem q_isi_tuple (h : Dp K H x d) (q : Q (.bl (isTuple d)) H) : rIsi K [x, .ty "tuple"] H Q := q_isi h (kb_tuple d h.nodict) q
theorem q_if {c : Bool} {A B : Prop} (h1 : c = true → A) (h2 : c = false → B) : if c = true then A else B := by
  cases c with
  | true => exact iteT (h1 rfl)
  | false => exact iteF (h2 rfl)
theorem _root_.L2.DpAll.length {xs : List V} {ds : List PyData} (h : DpAll K H xs ds) : xs.length = ds.length := by
  induction ds generalizing xs with
  | nil => cases h; rfl
  | cons d ds ih => cases h with
    | cons a t => simp [ih t]
theorem _root_.L2.DpAll.get {xs : List V} {ds : List PyData} (h : DpAll K H xs ds) : ∀ {i : Nat} {d : PyData}, ds[i]? = some d → ∃ x, xs[i]? = some x ∧ Dp K H x d := by
  induction ds generalizing xs with
  | nil => intro i d e; simp at e
  | cons d ds ih => cases h with
    | cons a t =>
      intro i d2 e
      cases i with
      | zero => simp at e; subst e; exact ⟨_, rfl, a⟩
      | succ i => simpa using ih t (by simpa using e)
theorem _root_.L2.DpAll.get' {xs : List V} {ds : List PyData} (h : DpAll K H xs ds) {i : Nat} {x : V} (e : xs[i]? = some x) : ∃ d, ds[i]? = some d ∧ Dp K H x d := by
  have hl := h.length
  have lt : i < ds.length := by rw [← hl]; exact (List.getElem?_eq_some_iff.mp e).1
  obtain ⟨y, ey, hy⟩ := h.get (List.getElem?_eq_getElem lt)
  rw [e] at ey; cases ey
  exact ⟨_, List.getElem?_eq_getElem lt, hy⟩
theorem q_lenL {a : Addr} {xs : List V} (h : SqL K H a xs) (q : Q (.int xs.length) H) : ∃ p ys, [V.ref a] = [.ref p] ∧ (SqL K H p ys ∨ SqT K H p ys) ∧ Q (.int ys.length) H := ⟨a, xs, rfl, .inl h, q⟩
theorem q_lenT {a : Addr} {xs : List V} (h : SqT K H a xs) (q : Q (.int xs.length) H) : ∃ p ys, [V.ref a] = [.ref p] ∧ (SqL K H p ys ∨ SqT K H p ys) ∧ Q (.int ys.length) H := ⟨a, xs, rfl, .inr h, q⟩
end
end Hk

set_option Elab.async false
set_option linter.all false
set_option maxRecDepth 100000
set_option maxHeartbeats 4000000
namespace Hk
open PySem PySem.Spec PyProof.Rows L2
/-- all but what stands at D is as it was -/
def But (D : Addr) (H H' : Hp) : Prop := ∀ b o, H b = some o → b ≠ D → H' b = some o
theorem But.seqT {K : PySem.W.Frag} {D : Addr} {H H' : Hp} {acc : List V} (e : H D = some (.lst acc)) (s : But D H H') {t : Addr} {xs : List V} (h : SqT K H t xs) : SqT K H' t xs := by
  rcases h with (h | ⟨o, h⟩) | h
  · exact .inl (.inl (s _ _ h (fun z => by subst z; rw [h] at e; cases e)))
  · exact .inl (.inr ⟨o, s _ _ h (fun z => by subst z; rw [h] at e; cases e)⟩)
  · exact .inr h
section
variable {J : It} {n : Nat} {G : Hp → Prop} {Y : Nat → Hp → V → Hp → Prop} {g : TG} {te : TE} {vs : List Nat} {σ : L2.St} {H1 : Hp} {D : Addr} {Qd : Hp → Prop}
/-- what a comprehension without a test makes, each item told by R -/
theorem lc_rel (w : L2.Walk J n G Y) (R : Nat → V → Hp → Prop) (hD : H1 D = none) (few : n < sizeLine) (hG : ∀ H', Same H1 H' → G H') (hY : ∀ i H x H', Y i H x H' → Same H H')
    (hR : ∀ i y H H' acc, H D = some (.lst acc) → But D H H' → R i y H → R i y H')
    (body : ∀ i x H' H2, i < n → Same H1 H' → Y i H' x H2 → ∀ Q' : VK, (∀ y H3, Same H2 H3 → R i y H3 → Q' y H3) → g x (wipe σ vs) H2 fun σ2 H3 => wipe σ2 vs = wipe σ vs ∧ te σ2 H3 Q')
    (done : ∀ ys H', Same H1 H' → H' D = some (.lst ys) → ys.length = n → (∀ i y, ys[i]? = some y → R i y H') → Qd H') :
    ∃ W : Nat → Nat → Hp → Prop, (∃ m, W 0 m (upd H1 D (.lst []))) ∧ ∀ i m H, W i m H →
      (J.stop i H ∧ Qd H) ∨ (J.go i H ∧ ∃ Nx : Hp → Prop, (∀ H', Nx H' → ∃ m', m' < m ∧ W (i + 1) m' H') ∧ ∀ x H', J.yld i H x H' → g x (wipe σ vs) H' fun σ2 H2 => wipe σ2 vs = wipe σ vs ∧ tYes σ2 H2 fun b H3 =>
        if b = true then te σ2 H3 fun y H4 => ∃ acc, H4 D = some (.lst acc) ∧ acc.length < sizeLine ∧ Nx (upd H4 D (.lst (acc ++ [y]))) else Nx H3) := by
  refine lc_it w (fun i H => Same H1 H ∧ ∃ ys, H D = some (.lst ys) ∧ ys.length = i ∧ ∀ j y, ys[j]? = some y → R j y H) ⟨same_new hD, [], upd_same, rfl, fun j y e => by simp at e⟩ (fun i H _ h => hG H h.1) ?_ ?_
  · rintro i x H H2 lt ⟨s1, ys, e, l, r⟩ y
    have s2 := hY i H x H2 y
    have z := body i x H H2 lt s1 y (fun y H4 => ∃ acc, H4 D = some (.lst acc) ∧ acc.length < sizeLine ∧ (Same H1 (upd H4 D (.lst (acc ++ [y]))) ∧ ∃ ys, upd H4 D (.lst (acc ++ [y])) D = some (.lst ys) ∧ ys.length = i + 1 ∧ ∀ j y', ys[j]? = some y' → R j y' (upd H4 D (.lst (acc ++ [y]))))) ?_
    · exact z
    · intro y H4 s4 ry
      have e4 : H4 D = some (.lst ys) := s4 _ _ (s2 _ _ e)
      have bt : ∀ o, But D H4 (upd H4 D o) := fun o b u h hb => by rw [upd_ne hb]; exact h
      refine ⟨ys, e4, by omega, fun b o h => ?_, ys ++ [y], upd_same, by simp [l], fun j y' hj => ?_⟩
      · have hb : b ≠ D := ne_of_none h hD
        rw [upd_ne hb]
        exact s4 _ _ (s2 _ _ (s1 _ _ h))
      · refine hR j y' H4 _ ys e4 (bt _) ?_
        rw [List.getElem?_append] at hj
        split at hj
        · refine hR j y' H H4 ys e (fun b o h hb => s4 _ _ (s2 _ _ h)) (r j y' hj)
        · rename_i hge
          have : j = i := by
            rcases Nat.lt_trichotomy j i with z | z | z
            · omega
            · exact z
            · rw [List.getElem?_eq_none (by simp; omega)] at hj; cases hj
          subst this
          simp [l] at hj
          subst hj
          exact ry
  · rintro H ⟨s1, ys, e, l, r⟩
    exact done ys H s1 e l r
/-- .. each item a value that the heap plays no part in -/
theorem lc_val (w : L2.Walk J n G Y) (f : Nat → V) (hD : H1 D = none) (few : n < sizeLine) (hG : ∀ H', Same H1 H' → G H') (hY : ∀ i H x H', Y i H x H' → Same H H')
    (body : ∀ i x H' H2, i < n → Same H1 H' → Y i H' x H2 → ∀ Q' : VK, (∀ H3, Same H2 H3 → Q' (f i) H3) → g x (wipe σ vs) H2 fun σ2 H3 => wipe σ2 vs = wipe σ vs ∧ te σ2 H3 Q')
    (done : ∀ H', Same H1 H' → H' D = some (.lst ((List.range n).map f)) → Qd H') :
    ∃ W : Nat → Nat → Hp → Prop, (∃ m, W 0 m (upd H1 D (.lst []))) ∧ ∀ i m H, W i m H →
      (J.stop i H ∧ Qd H) ∨ (J.go i H ∧ ∃ Nx : Hp → Prop, (∀ H', Nx H' → ∃ m', m' < m ∧ W (i + 1) m' H') ∧ ∀ x H', J.yld i H x H' → g x (wipe σ vs) H' fun σ2 H2 => wipe σ2 vs = wipe σ vs ∧ tYes σ2 H2 fun b H3 =>
        if b = true then te σ2 H3 fun y H4 => ∃ acc, H4 D = some (.lst acc) ∧ acc.length < sizeLine ∧ Nx (upd H4 D (.lst (acc ++ [y]))) else Nx H3) := by
  refine lc_rel w (fun i y _ => y = f i) hD few hG hY (fun _ _ _ _ _ _ _ h => h) (fun i x H' H2 lt s y Q' k => body i x H' H2 lt s y Q' fun H3 s3 => k _ H3 s3 rfl) fun ys H' s e l r => done H' s ?_
  have : ys = (List.range n).map f := by
    refine List.ext_getElem (by simp [l]) fun i h1 h2 => ?_
    simpa using r i _ (List.getElem?_eq_getElem h1)
  rw [← this]; exact e
end
theorem yat_same {xs : List V} : ∀ i H x H', YAt xs i H x H' → Same H H' := fun i H x H' y => by
  obtain ⟨rfl, _⟩ := y; exact Same.refl _
theorem yfn_same {f : Nat → V} : ∀ i H x H', YFn f i H x H' → Same H H' := fun i H x H' y => by
  obtain ⟨rfl, _⟩ := y; exact Same.refl _
theorem ypair_same {f g : Nat → Option V} : ∀ i H x H', YPair f g i H x H' → Same H H' := fun i H x H' y => by
  obtain ⟨t, a, b, rfl, n, rfl, _⟩ := y; exact same_new n
theorem Same.sqT {K : PySem.W.Frag} {H H' : Hp} {a : Addr} {xs : List V} (s : Same H H') (h : SqT K H a xs) : SqT K H' a xs := Evl.ex_t s h
theorem sz1000 {n : Nat} (h : n < 100000) : n < sizeLine := Evl.sz_lt h
/-- the last sizes -/
theorem hk_all_range (n : Nat) (p : Nat → Bool) : ((List.range n).map p).all id = true ↔ ∀ i, i < n → p i = true := by simp
end Hk

set_option Elab.async false
set_option linter.all false
set_option maxRecDepth 100000
set_option maxHeartbeats 4000000
namespace Hk
open PySem PySem.Spec PyProof.Rows L2
/-- a dict of the module: texts, and tuples of texts -/
structure FormsAt (K : PySem.W.Frag) (w : World) (d : Addr) (tab : List (Str × List Str)) : Prop where
  at_ : ∃ es n, K.lookup d = some ⟨.type "dict", none, .dict es n, #[]⟩ ∧ PySem.W.KeysLit w.params es.toList
  low : (d == sysModules) = false
  get : ∀ z, (∃ ks t, tab.lookup z = some ks ∧ PySem.W.nsIn K d z = some (some (.ref t)) ∧ ∀ H, SqT K H t (ks.map V.str)) ∨ (tab.lookup z = none ∧ PySem.W.nsIn K d z = some none)
def tKGet (K : PySem.W.Frag) (d : Addr) (tab : List (Str × List Str)) (to te : TE) : TE := fun σ H Q => to σ H fun x H1 => x = .ref d ∧ te σ H1 fun y H2 => ∃ z, y = .str z ∧
  (∀ t ks, tab.lookup z = some ks → (∀ H, SqT K H t (ks.map V.str)) → Q (.ref t) H2) ∧ (tab.lookup z = none → Q .non H2)
section
variable {X : Cx} {o e : Expr} {apos cpos : Pos} {to te : TE} {d : Addr} {tab : List (Str × List Str)}
theorem pe_kget (F : FormsAt X.K X.w d tab) (ho : PE X o to) (he : PE X e te) (m : M1 X o "get" apos e cpos) : PE X (.Call (.Attribute o "get" apos) [e] [] cpos) (tKGet X.K d tab to te) := by
  refine ⟨fun pins s σ H Q I h => ?_⟩
  obtain ⟨es, n, hl, hk⟩ := F.at_
  refine wpAny_Call_method m.base m.few m.line PySem.F.plainAttrs_dict PySem.F.slot_dict_get PySem.F.type_dict_get (thn (ho.run pins s σ H _ I h) fun u s1 hh => ?_)
  obtain ⟨x, H1, I1, rx, ex, q1⟩ := hh
  subst ex
  obtain rfl : u = Value.ref d := rx
  have hm := PySem.W.mapOf_K (prog := X.prog) (w := X.w) I1.kIn hl hk
  refine ⟨hm.typeIs, hm.noDict, ?_⟩
  rw [m.trees]
  refine Calls.callWith_builtin rfl (Calls.evalArgs_plain (Calls.spliced_cons (thn (he.run pins s1 σ H1 _ I1 q1) fun iv s2 hh => Calls.spliced_nil ?_)))
  obtain ⟨y, H2, I2, ry, z, ey, q2, q3⟩ := hh
  subst ey
  obtain ⟨tk, rfl⟩ := ry
  have hm2 := PySem.W.mapOf_K (prog := X.prog) (w := X.w) I2.kIn hl hk
  refine call_meetsIn PySem.F.slot_dict_get hm2.typeIs PySem.F.entry_dict_get (PySem.F.args_dict_get_2 _ _) (meets_dict_get (strKind X.prog X.w) d (PySem.strKind_is X.prog X.w z tk) F.low) ⟨_, hm2, ?_⟩
  rcases F.get z with ⟨ks, t, e1, e2, e3⟩ | ⟨e1, e2⟩
  · rw [PySem.W.find_K hl e2]
    exact ⟨.ref t, H2, I2.tok _, rfl, q2 t ks e1 e3⟩
  · rw [PySem.W.find_K hl e2]
    exact ⟨.non, H2, I2.tok _, rfl, q3 e1⟩
end
end Hk

set_option Elab.async false
set_option linter.all false
set_option maxRecDepth 100000
set_option maxHeartbeats 4000000
namespace Hk
open PySem PySem.Spec PyProof.Rows L2
theorem walk_zipT {K : PySem.W.Frag} {a b : Addr} {xs ys : List V} {n : Nat} (hn : n = min xs.length ys.length) : L2.Walk (RZ.ItzT K a b) n (fun H => SqT K H a xs ∧ SqT K H b ys) (YPair (fun i => xs[i]?) (fun i => ys[i]?)) := by
  subst hn
  refine ⟨fun i H hi q => ⟨xs, ys, xs[i]'(by omega), ys[i]'(by omega), q.1, q.2, by simp, by simp⟩, fun H q => ⟨xs, ys, q.1, q.2, by omega⟩, fun i H v H' _ q y => ?_⟩
  obtain ⟨t, x, z, e1, e2, e3, e4, e5⟩ := y
  exact ⟨t, x, z, e1, e2, e3, e4 xs q.1, e5 ys q.2⟩
/-- so many of each kind -/
abbrev Cnt := List (Str × Int)
def countKV (c : Cnt) : List (Key × V) := c.map fun p => (Sum.inr p.1, V.int p.2)
theorem countKV_get : ∀ {c : Cnt} {z : Str} {n : Int}, c.lookup z = some n → valV (countKV c) (Sum.inr z) = some (.int n)
  | (a, m) :: r, z, n, h => by
    unfold countKV
    rw [List.map_cons]
    by_cases e : a = z
    · subst e
      rw [valV_pos rfl]
      simp at h
      rw [h]
    · rw [valV_neg (fun q => e (by simpa using q))]
      have h2 : r.lookup z = some n := by
        rw [List.lookup_cons] at h
        have e2 : (z == a) = false := by simpa using fun q => e q.symm
        rwa [e2] at h
      exact countKV_get h2
theorem dgetC {H : Hp} {a : Addr} {c : Cnt} {z : Str} {n : Int} (h : H a = some (.dK (countKV c))) (e : c.lookup z = some n) : DGet H a (.str z) (some (.int n)) := by
  rw [← countKV_get e]
  exact DGet.k (k := Sum.inr z) h
theorem lookup_mem {α : Type} : ∀ {T : List (Str × α)} {z : Str} {v : α}, T.lookup z = some v → (z, v) ∈ T
  | (a, u) :: r, z, v, h => by
    rw [List.lookup_cons] at h
    split at h
    · rename_i e
      cases h
      rw [eq_of_beq e]
      exact List.mem_cons_self
    · exact List.mem_cons_of_mem _ (lookup_mem h)
theorem dpAll_of {K : PySem.W.Frag} {H : Hp} {xs : List V} {ds : List PyData} (l : xs.length = ds.length) (h : ∀ (i : Nat) (x : V) (d : PyData), xs[i]? = some x → ds[i]? = some d → Dp K H x d) : DpAll K H xs ds := by
  induction ds generalizing xs with
  | nil => cases xs with
    | nil => exact .nil
    | cons a r => simp at l
  | cons d ds ih => cases xs with
    | nil => simp at l
    | cons a r => exact .cons (h 0 a d rfl rfl) (ih (by simpa using l) fun i x e h1 h2 => h (i + 1) x e (by simpa using h1) (by simpa using h2))
theorem _root_.L2.DpAll.drop {K : PySem.W.Frag} {H : Hp} {xs : List V} {ds : List PyData} (h : DpAll K H xs ds) (n : Nat) : DpAll K H (xs.drop n) (ds.drop n) := by
  induction n generalizing xs ds with
  | zero => exact h
  | succ n ih => cases h with
    | nil => exact .nil
    | cons a t => exact ih t
theorem atI0 {α : Type} {xs : List α} {x : α} (h : xs[0]? = some x) : atI xs 0 = some x := atI_nat (j := 0) h
theorem atI1 {α : Type} {xs : List α} {x : α} (h : xs[1]? = some x) : atI xs 1 = some x := atI_nat (j := 1) h
end Hk
namespace Hk
open PySem PySem.Spec PyProof.Rows L2
/-- [p(x) for x in xs], xs a list of data, p a test -/
theorem lc_test {K : PySem.W.Frag} {a : Addr} {xs : List V} {ds : List PyData} {g : TG} {te : TE} {vs : List Nat} {σ : L2.St} {H1 : Hp} {D : Addr} {Qd : Hp → Prop} (p : PyData → Bool) (hx : SqL K H1 a xs) (hd : DpAll K H1 xs ds) (few : ds.length < 100000) (hD : H1 D = none)
    (body : ∀ x d H2, Dp K H2 x d → d ∈ ds → Same H1 H2 → ∀ Q' : VK, (∀ H3, Same H2 H3 → Q' (.bl (p d)) H3) → g x (wipe σ vs) H2 fun σ2 H3 => wipe σ2 vs = wipe σ vs ∧ te σ2 H3 Q')
    (done : ∀ H', Same H1 H' → SqL K H' D ((ds.map p).map V.bl) → Qd H') :
    ∃ W : Nat → Nat → Hp → Prop, (∃ m, W 0 m (upd H1 D (.lst []))) ∧ ∀ i m H, W i m H →
      ((Itl K a).stop i H ∧ Qd H) ∨ ((Itl K a).go i H ∧ ∃ Nx : Hp → Prop, (∀ H', Nx H' → ∃ m', m' < m ∧ W (i + 1) m' H') ∧ ∀ x H', (Itl K a).yld i H x H' → g x (wipe σ vs) H' fun σ2 H2 => wipe σ2 vs = wipe σ vs ∧ tYes σ2 H2 fun b H3 =>
        if b = true then te σ2 H3 fun y H4 => ∃ acc, H4 D = some (.lst acc) ∧ acc.length < sizeLine ∧ Nx (upd H4 D (.lst (acc ++ [y]))) else Nx H3) := by
  have l := hd.length
  refine lc_val (n := xs.length) walk_list (fun i => .bl (p (ds.getD i .none))) hD (sz1000 (by omega)) (fun H2 s => s.seq hx) yat_same ?_ ?_
  · rintro i x H2 H3 lt s ⟨rfl, e⟩ Q2 k
    obtain ⟨d, e2, hd2⟩ := hd.get' e
    refine body x d H3 (Dp.mono s hd2) (List.mem_of_getElem? e2) s Q2 fun H4 s4 => ?_
    have z := k H4 s4
    rw [List.getD_eq_getElem?_getD, e2] at z
    exact z
  · intro H2 s e
    refine done H2 s (SqL.of ?_)
    rw [e]
    congr 2
    refine List.ext_getElem (by simp [l]) fun i h1 h2 => ?_
    have lt : i < ds.length := by simpa using h2
    simp [List.getD_eq_getElem?_getD, List.getElem?_eq_getElem lt]
theorem all_map_id {α : Type} (l : List α) (p : α → Bool) : (l.map p).all id = l.all p := by rw [List.all_map]; rfl
end Hk

set_option Elab.async false
set_option linter.all false
set_option maxRecDepth 100000
set_option maxHeartbeats 4000000
namespace Hk
open PySem PySem.Spec PyProof.Rows L2
section
variable {K : PySem.W.Frag} {a : Addr} {xs : List V} {g : TG} {tb : TS} {D : Ends} {σ : L2.St} {H : Hp}
theorem q_forV {k : Nat} (xs : List V) (Pv : Nat → L2.St → Hp → Prop) (hv : σ[k]? = some (some (.ref a))) (hx : SqL K H a xs) (h0 : Pv 0 σ H) (hl : ∀ i σ H, i ≤ xs.length → Pv i σ H → SqL K H a xs)
    (hs : ∀ i x σ H, xs[i]? = some x → Pv i σ H → g x σ H fun σ2 H2 => tb { D with nx := Pv (i + 1), ct := Pv (i + 1), bk := D.nx } σ2 H2) (hd : ∀ σ H, Pv xs.length σ H → D.nx σ H) : tFor (iList K (tVar k)) g tb D σ H :=
  q_for ⟨_, hv, a, rfl, ⟨xs, hx⟩, for_list Pv h0 hl hs hd⟩
theorem q_forR {k : Nat} {n : Int} (Pv : Nat → L2.St → Hp → Prop) (hv : σ[k]? = some (some (.int n))) (h1 : n < 1000000) (h2 : -1000000 < n) (h0 : Pv 0 σ H)
    (hs : ∀ i σ H, i < n.toNat → Pv i σ H → g (.int (0 + i)) σ H fun σ2 H2 => tb { D with nx := Pv (i + 1), ct := Pv (i + 1), bk := D.nx } σ2 H2) (hd : ∀ σ H, Pv n.toNat σ H → D.nx σ H) : tFor (iRng1 (tCons (tVar k) tNil)) g tb D σ H :=
  q_for ⟨_, hv, n, rfl, by omega, by omega, for_range Pv h0 hs hd⟩
theorem q_forL (xs : List V) (Pv : Nat → L2.St → Hp → Prop) (h0 : Pv 0 σ H) (hl : ∀ i σ H, i ≤ xs.length → Pv i σ H → SqL K H a xs)
    (hs : ∀ i x σ H, xs[i]? = some x → Pv i σ H → g x σ H fun σ2 H2 => tb { D with nx := Pv (i + 1), ct := Pv (i + 1), bk := D.nx } σ2 H2) (hd : ∀ σ H, Pv xs.length σ H → D.nx σ H) (hx : SqL K H a xs) (te : TE) (he : ∀ Q : VK, Q (.ref a) H → te σ H Q) : tFor (iList K te) g tb D σ H :=
  q_for (he _ ⟨a, rfl, ⟨xs, hx⟩, for_list Pv h0 hl hs hd⟩)
end
/-- [f(x) for x in xs], each a value that the heap plays no part in, xs a list of data -/
theorem lc_map {K : PySem.W.Frag} {a : Addr} {xs : List V} {ds : List PyData} {g : TG} {te : TE} {vs : List Nat} {σ : L2.St} {H1 : Hp} {D : Addr} {Qd : Hp → Prop} (f : PyData → V) (hx : SqL K H1 a xs) (hd : DpAll K H1 xs ds) (few : ds.length < 100000) (hD : H1 D = none)
    (body : ∀ x d H2, Dp K H2 x d → d ∈ ds → Same H1 H2 → ∀ Q' : VK, (∀ H3, Same H2 H3 → Q' (f d) H3) → g x (wipe σ vs) H2 fun σ2 H3 => wipe σ2 vs = wipe σ vs ∧ te σ2 H3 Q')
    (done : ∀ H', Same H1 H' → H' D = some (.lst (ds.map f)) → Qd H') :
    ∃ W : Nat → Nat → Hp → Prop, (∃ m, W 0 m (upd H1 D (.lst []))) ∧ ∀ i m H, W i m H →
      ((Itl K a).stop i H ∧ Qd H) ∨ ((Itl K a).go i H ∧ ∃ Nx : Hp → Prop, (∀ H', Nx H' → ∃ m', m' < m ∧ W (i + 1) m' H') ∧ ∀ x H', (Itl K a).yld i H x H' → g x (wipe σ vs) H' fun σ2 H2 => wipe σ2 vs = wipe σ vs ∧ tYes σ2 H2 fun b H3 =>
        if b = true then te σ2 H3 fun y H4 => ∃ acc, H4 D = some (.lst acc) ∧ acc.length < sizeLine ∧ Nx (upd H4 D (.lst (acc ++ [y]))) else Nx H3) := by
  have l := hd.length
  refine lc_val (n := xs.length) walk_list (fun i => f (ds.getD i .none)) hD (sz1000 (by omega)) (fun H2 s => s.seq hx) yat_same ?_ ?_
  · rintro i x H2 H3 lt s ⟨rfl, e⟩ Q2 k
    obtain ⟨d, e2, hd2⟩ := hd.get' e
    refine body x d H3 (L2.Dp.mono s hd2) (List.mem_of_getElem? e2) s Q2 fun H4 s4 => ?_
    have z := k H4 s4
    rw [List.getD_eq_getElem?_getD, e2] at z
    exact z
  · intro H2 s e
    refine done H2 s ?_
    rw [e]
    congr 2
    refine List.ext_getElem (by simp [l]) fun i h1 h2 => ?_
    have lt : i < ds.length := by simpa using h2
    simp [List.getD_eq_getElem?_getD, List.getElem?_eq_getElem lt]
theorem ty_but {K : PySem.W.Frag} {H H2 : Hp} {a : Addr} {kvs : List (Key × V)} {x : V} {d : PyData} (hd : Dp K H x d) (ha : H a = some (.dK kvs)) (k : ∀ b o, H b = some o → b ≠ a → H2 b = some o) : TyX K H2 x (.type (dTy d)) := by
  cases hd with
  | non => exact .base .non
  | bl b => exact .base (.bl b)
  | int b => exact .base (.int b)
  | str b => exact .base (.str b)
  | @lst c xs ds hs _ => rcases hs with (hs | ⟨o, hs⟩) | ⟨o, its, n, l0, c0, _⟩
                         · exact .base (.lst (k _ _ hs (ne_of hs ha (by simp))))
                         · exact .base (.frz (k _ _ hs (ne_of hs ha (by simp))))
                         · exact .kList l0 c0
  | @tup c xs ds hs _ => rcases hs with (hs | ⟨o, hs⟩) | ⟨o, its, n, l0, c0, _⟩
                         · exact .base (.tup (k _ _ hs (ne_of hs ha (by simp))))
                         · exact .fTuple (k _ _ hs (ne_of hs ha (by simp)))
                         · exact .kTuple l0 c0
end Hk

set_option Elab.async false
set_option linter.all false
set_option maxRecDepth 100000
set_option maxHeartbeats 4000000
namespace Hk
open PySem PySem.Spec PyProof.Rows L2
/-- a method as it stands behind the top -/
structure MethAt (K : PySem.W.Frag) (C : Addr) (m qual : Str) (st : Stmt) (ps : List Str) : Prop where
  cls : Cls K C
  ex : ∃ f fd, Fun K m qual st f fd ∧ Meth K C m f ∧ Binds K fd ps []
structure MCal (P : Program) (w : World) (K : PySem.W.Frag) (mg : Str → Option Value) (base : Heap) (k : Nat) (C : Addr) (m : Str) (ps : List Str) (sp : Sp) : Prop where
  cls : Cls K C
  ex : ∃ f fd, Meth K C m f ∧ Binds K fd ps [] ∧ FnOk P w K mg base CX0 k f fd ps sp
theorem MethAt.cal {P : Program} {w : World} {K : PySem.W.Frag} {mg : Str → Option Value} {base : Heap} {k : Nat} {C : Addr} {m qual : Str} {st : Stmt} {ps : List Str} {sp : Sp} (d : MethAt K C m qual st ps)
    (h : ∀ f fd, Fun K m qual st f fd → FnOk P w K mg base CX0 k f fd ps sp) : MCal P w K mg base k C m ps sp := by
  obtain ⟨f, fd, F, g, b⟩ := d.ex
  exact ⟨d.cls, f, fd, g, b, h f fd F⟩
/-- a class that can be called: its __init__'s promise -/
structure MkCal (P : Program) (w : World) (K : PySem.W.Frag) (mg : Str → Option Value) (base : Heap) (k : Nat) (C : Addr) (x : Str) (ps : List Str) (sp : Sp) : Prop where
  g : mg x = some (.ref C)
  ex : ∃ f fd, Mk K C f ∧ Binds K fd ps [] ∧ FnOk P w K mg base CX0 k f fd ps sp
structure MkKCal (P : Program) (w : World) (K : PySem.W.Frag) (mg : Str → Option Value) (base : Heap) (k : Nat) (C : Addr) (x : Str) (ps : List Str) (n : Nat) (ks : List Str) (sp : Sp) : Prop where
  g : mg x = some (.ref C)
  ex : ∃ f fd, Mk K C f ∧ KBn K fd ps (n + 1) ks (fun us ws => us ++ ws) (fun vs zs => vs ++ zs) ∧ FnOk P w K mg base CX0 k f fd ps sp
section
variable {X : Cx} {k n : Nat} {x m : Str} {ps ks : List Str} {sp : Sp} {p pos apos : Pos} {o e : Expr} {es : List Expr} {kws : List Keyword} {ta : TE} {t tk : TA} {C : Addr}
theorem pe_mcal {pl : Sem Bool} (c : MCal X.prog X.w X.K X.mg X.base k C m ps sp) (hr : Room k X.A) (ho : PE X o ta) (ha : PA X (e :: es) t)
    (hst : starEach (e :: es) X.env = (false, eval e X.env) :: starEach es X.env := by rfl) (hpl : (backTo pos (starEach es X.env)).any (·.1) = false := by rfl)
    (ht : eval (.Call (.Attribute o m apos) (e :: es) [] pos) X.env = (do
      let ov ← eval o X.env; standAt apos.atName
      let (f, first) ← holding [ov] (getMethod ov m pl); callWith pos f first (backTo pos (starEach (e :: es) X.env)) (backToKw pos (keywordEach [] X.env))) := by rfl) : PE X (.Call (.Attribute o m apos) (e :: es) [] pos) (tMeth C m sp [] E0 ta t) := by
  obtain ⟨cl, f, fd, mt, b, F⟩ := c
  exact pe_meth ho cl mt F hr b .nil pass0 ha hst hpl ht
theorem pe_mcal0 {pl : Sem Bool} (c : MCal X.prog X.w X.K X.mg X.base k C m ps sp) (hr : Room k X.A) (ho : PE X o ta)
    (ht : eval (.Call (.Attribute o m apos) [] [] pos) X.env = (do
      let ov ← eval o X.env; standAt apos.atName
      let (f, first) ← holding [ov] (getMethod ov m pl); callWith pos f first (backTo pos (starEach [] X.env)) (backToKw pos (keywordEach [] X.env))) := by rfl) : PE X (.Call (.Attribute o m apos) [] [] pos) (tMeth C m sp [] E0 ta tNil) := by
  obtain ⟨cl, f, fd, mt, b, F⟩ := c
  exact pe_meth0 ho cl mt F hr b .nil pass0 ht
theorem pe_mk (c : MkCal X.prog X.w X.K X.mg X.base k C x ps sp) (hr : Room (k + 1) X.A) (hg : Gl X x) (ha : PA X (e :: es) t) (hdb : (x == ("__debug__" : Str)) = false := by decide)
    (he : starEach (e :: es) X.env = (false, eval e X.env) :: starEach es X.env := by rfl) (hpl : (backTo pos (starEach es X.env)).any (·.1) = false := by rfl) : PE X (.Call (.Name x p) (e :: es) [] pos) (tMake C sp [] E0 t) := by
  obtain ⟨g, f, fd, M, b, F⟩ := c
  exact pe_make M F hr hg g b .nil pass0 ha hdb he hpl
theorem pe_mkk (c : MkKCal X.prog X.w X.K X.mg X.base k C x ps n ks sp) (hr : Room (k + 1) X.A) (hg : Gl X x) (ha : PA X (e :: es) t) (hkw : PK X kws tk)
    (hall : (backToKw pos (keywordEach kws X.env)).all (·.1.isSome) = true := by rfl) (hks : (backToKw pos (keywordEach kws X.env)).filterMap (·.1) = ks := by rfl) (hdb : (x == ("__debug__" : Str)) = false := by decide)
    (he : starEach (e :: es) X.env = (false, eval e X.env) :: starEach es X.env := by rfl) (hpl : ((backTo pos (starEach (e :: es) X.env)).any (·.1) || (backToKw pos (keywordEach kws X.env)).any (·.1.isNone)) = false := by rfl) :
    PE X (.Call (.Name x p) (e :: es) kws pos) (tMakeK C n ks.length sp (fun vs zs => vs ++ zs) E0 t tk) := by
  obtain ⟨g, f, fd, M, b, F⟩ := c
  exact pe_makeK M F hr hg g b pass0 ha hkw hall hks hdb he hpl
end
section
variable {K : PySem.W.Frag} {σ : L2.St} {H : Hp} {Q : VK} {D : Ends} {ta tv te : TE} {t : TA} {C : Addr} {m f : Str} {sp : Sp}
theorem q_meth (h : ta σ H fun x H1 => ∃ a dx fs, x = .ref a ∧ H1 a = some (.ins C dx fs) ∧ fs.lookup m = none ∧ t σ H1 fun vs H2 => sp (x :: (vs ++ [])) H2 Q E0) : tMeth C m sp [] E0 ta t σ H Q := h
theorem q_make (h : t σ H fun vs H1 => ∀ x dx, H1 x = none → H1 dx = none → dx ≠ x → sp (.ref x :: (vs ++ [])) (upd (upd H1 dx (.own x)) x (.ins C dx [])) (fun v H2 => v = .non ∧ Q (.ref x) H2) E0) : tMake C sp [] E0 t σ H Q := h
theorem q_sfld (h : tv σ H fun y H1 => ta σ H1 fun x H2 => ∃ a C dx fs, x = .ref a ∧ H2 a = some (.ins C dx fs) ∧ Cls K C ∧ NoAttr K C f ∧ fs.length < 1000 ∧ D.nx σ (upd H2 a (.ins C dx (putF f y fs)))) : sFld K ta tv f D σ H := h
end
/-- fields that are there -/
theorem put_same (f : Str) (v : V) (fs : List (Str × V)) : (putF f v fs).lookup f = some v := by rw [lookup_putF, if_pos rfl]
theorem put_ne {f g : Str} (v : V) (fs : List (Str × V)) (h : g ≠ f) : (putF f v fs).lookup g = fs.lookup g := by rw [lookup_putF, if_neg h]
/-- the parts of a build -/
structure BD where
  tasks : PyData
  pages : PyData
  ports : PyData
  locks : PyData
  frames : PyData
  disk : PyData
  rights : PyData
  lines : PyData
  costs : PyData
  plan : PyData
  outside : PyData
  wipe : PyData
  pad : PyData
  lend : PyData
  share : PyData
def tupOf : PyData → PyData | .list l => .tuple l | d => d
def rowsT : PyData → PyData | .list l => .tuple (l.map tupOf) | d => d
def planT : PyData → PyData | .tuple [.str z, e] => .tuple [.str z, if z = "slots" then tupOf e else e] | d => d
def BD.parts (b : BD) : List (Str × PyData) := [("tasks", tupOf b.tasks), ("pages", tupOf b.pages), ("ports", tupOf b.ports), ("locks", b.locks), ("frames", b.frames), ("disk", b.disk), ("rights", rowsT b.rights), ("lines", tupOf b.lines), ("costs", b.costs),
  ("plan", planT b.plan), ("outside", b.outside), ("wipe", b.wipe), ("pad", b.pad), ("lend", b.lend), ("share", b.share)]
theorem pairedKV_get {K : PySem.W.Frag} {H : Hp} : ∀ {kvs : List (Key × V)} {l : List (Str × PyData)} {z : Str} {d : PyData}, Paired (fun p q => p.1 = Sum.inr q.1 ∧ Dp K H p.2 q.2) kvs l → l.lookup z = some d → ∃ v, valV kvs (Sum.inr z) = some v ∧ Dp K H v d
  | [], [], z, d, .nil, e => by simp at e
  | p :: kvs, q :: l, z, d, .cons h t, e => by
    rw [List.lookup_cons] at e
    by_cases hz : z = q.1
    · subst hz
      rw [beq_self_eq_true] at e
      cases e
      exact ⟨p.2, valV_pos h.1, h.2⟩
    · have hb : (z == q.1) = false := by simpa using hz
      rw [hb] at e
      obtain ⟨v, e1, e2⟩ := pairedKV_get t e
      refine ⟨v, ?_, e2⟩
      rw [valV_neg (fun y => hz (by rw [h.1] at y; exact (Sum.inr.inj y).symm))]
      exact e1
end Hk
namespace Hk
open PySem PySem.Spec PyProof.Rows L2
/-- [f(x) for x in xs], xs a tuple of data -/
theorem lc_mapT {K : PySem.W.Frag} {a : Addr} {xs : List V} {ds : List PyData} {g : TG} {te : TE} {vs : List Nat} {σ : L2.St} {H1 : Hp} {D : Addr} {Qd : Hp → Prop} (f : PyData → V) (hx : SqT K H1 a xs) (hd : DpAll K H1 xs ds) (few : ds.length < 100000) (hD : H1 D = none)
    (body : ∀ x d H2, Dp K H2 x d → d ∈ ds → Same H1 H2 → ∀ Q' : VK, (∀ H3, Same H2 H3 → Q' (f d) H3) → g x (wipe σ vs) H2 fun σ2 H3 => wipe σ2 vs = wipe σ vs ∧ te σ2 H3 Q')
    (done : ∀ H', Same H1 H' → H' D = some (.lst (ds.map f)) → Qd H') :
    ∃ W : Nat → Nat → Hp → Prop, (∃ m, W 0 m (upd H1 D (.lst []))) ∧ ∀ i m H, W i m H →
      ((Itt K a).stop i H ∧ Qd H) ∨ ((Itt K a).go i H ∧ ∃ Nx : Hp → Prop, (∀ H', Nx H' → ∃ m', m' < m ∧ W (i + 1) m' H') ∧ ∀ x H', (Itt K a).yld i H x H' → g x (wipe σ vs) H' fun σ2 H2 => wipe σ2 vs = wipe σ vs ∧ tYes σ2 H2 fun b H3 =>
        if b = true then te σ2 H3 fun y H4 => ∃ acc, H4 D = some (.lst acc) ∧ acc.length < sizeLine ∧ Nx (upd H4 D (.lst (acc ++ [y]))) else Nx H3) := by
  have l := hd.length
  refine lc_val (n := xs.length) walk_tup (fun i => f (ds.getD i .none)) hD (sz1000 (by omega)) (fun H2 s => Same.sqT s hx) yat_same ?_ ?_
  · rintro i x H2 H3 lt s ⟨rfl, e⟩ Q2 k
    obtain ⟨d, e2, hd2⟩ := hd.get' e
    refine body x d H3 (L2.Dp.mono s hd2) (List.mem_of_getElem? e2) s Q2 fun H4 s4 => ?_
    have z := k H4 s4
    rw [List.getD_eq_getElem?_getD, e2] at z
    exact z
  · intro H2 s e
    refine done H2 s ?_
    rw [e]
    congr 2
    refine List.ext_getElem (by simp [l]) fun i h1 h2 => ?_
    have lt : i < ds.length := by simpa using h2
    simp [List.getD_eq_getElem?_getD, List.getElem?_eq_getElem lt]
/-- all but instances is as it was -/
def Keep (H H' : Hp) : Prop := ∀ b o, H b = some o → (∀ C dx fs, o ≠ .ins C dx fs) → H' b = some o
theorem But.keep {r C dx : Addr} {fs : List (Str × V)} {H H' : Hp} (e : H r = some (.ins C dx fs)) (s : But r H H') : Keep H H' := fun b o h n => s b o h fun z => by
  subst z; rw [e] at h; cases h; exact n C dx fs rfl
theorem Keep.sqL {K : PySem.W.Frag} {H H' : Hp} {a : Addr} {xs : List V} (s : Keep H H') (h : SqL K H a xs) : SqL K H' a xs := by
  rcases h with (h | ⟨o, h⟩) | h
  · exact .inl (.inl (s _ _ h (by simp)))
  · exact .inl (.inr ⟨o, s _ _ h (by simp)⟩)
  · exact .inr h
theorem Keep.sqT {K : PySem.W.Frag} {H H' : Hp} {a : Addr} {xs : List V} (s : Keep H H') (h : SqT K H a xs) : SqT K H' a xs := by
  rcases h with (h | ⟨o, h⟩) | h
  · exact .inl (.inl (s _ _ h (by simp)))
  · exact .inl (.inr ⟨o, s _ _ h (by simp)⟩)
  · exact .inr h
mutual
theorem dpKeep {K : PySem.W.Frag} {H H' : Hp} (s : Keep H H') : ∀ {v : V} {d : PyData}, Dp K H v d → Dp K H' v d
  | _, _, .non => .non
  | _, _, .bl b => .bl b
  | _, _, .int i => .int i
  | _, _, .str x => .str x
  | _, _, .lst h a => .lst (Keep.sqL s h) (dpAllKeep s a)
  | _, _, .tup h a => .tup (Keep.sqT s h) (dpAllKeep s a)
theorem dpAllKeep {K : PySem.W.Frag} {H H' : Hp} (s : Keep H H') : ∀ {vs : List V} {ds : List PyData}, DpAll K H vs ds → DpAll K H' vs ds
  | _, _, .nil => .nil
  | _, _, .cons h t => .cons (dpKeep s h) (dpAllKeep s t)
end
theorem But.refl {r : Addr} {H : Hp} : But r H H := fun _ _ h _ => h
theorem But.trans {r : Addr} {H H1 H2 : Hp} (a : But r H H1) (b : But r H1 H2) : But r H H2 := fun x o h n => b x o (a x o h n) n
theorem But.same {r : Addr} {H H1 : Hp} (a : Same H H1) : But r H H1 := fun x o h _ => a x o h
theorem But.put {r : Addr} {H : Hp} {o : HO} : But r H (upd H r o) := fun x u h n => by rw [upd_ne n]; exact h
/-- no other fields -/
def Only (fs : List (Str × V)) (L : List Str) : Prop := ∀ m, m ∉ L → fs.lookup m = none
theorem Only.put {fs : List (Str × V)} {L : List Str} (h : Only fs L) {f : Str} {v : V} (hf : f ∈ L) : Only (putF f v fs) L := fun m hm => by
  rw [put_ne v fs (fun e => hm (by rw [e]; exact hf))]; exact h m hm
end Hk

set_option Elab.async false
set_option linter.all false
set_option maxRecDepth 100000
set_option maxHeartbeats 4000000
open PySem PySem.Spec PyProof.Rows L2 Hk
local macro_rules | `(tactic| walk_at "s1") => `(tactic| first
  | with_reducible refine q_seq ?_ | with_reducible refine q_next ?_ | with_reducible refine q_set ?_ | with_reducible refine q_ret ?_ | with_reducible refine q_drop ?_ | with_reducible refine q_ifs ?_ | with_reducible refine q_ife ?_
  | ((with_reducible show tVar _ _ _ _); refine q_var (by exact rfl) ?_)
  | with_reducible refine q_c ?_ | with_reducible refine q_op ?_ | with_reducible refine q_un ?_ | with_reducible refine q_chain ?_
  | with_reducible refine q_rI0 ?_ | with_reducible refine q_rU ?_ | with_reducible refine q_test ?_ | with_reducible refine q_tB ?_ | with_reducible refine q_bl ?_
  | with_reducible refine q_and ?_ | with_reducible refine q_or ?_ | with_reducible refine q_not ?_ | with_reducible refine q_andV ?_ | with_reducible refine q_orV ?_ | with_reducible refine q_notV ?_
  | with_reducible refine q_isN ?_ | with_reducible refine q_notN ?_ | with_reducible refine q_nil ?_ | with_reducible refine q_cons ?_ | with_reducible refine q_tup ?_ | with_reducible refine q_lst ?_
  | with_reducible refine q_cb ?_ | with_reducible refine q_call ?_ | with_reducible refine q_fld ?_ | with_reducible refine q_bm ?_ | with_reducible refine q_dget ?_
  | (with_reducible refine q_isi_int (by assumption) ?_) | (with_reducible refine q_isi_bool (by assumption) ?_) | (with_reducible refine q_isi_str (by assumption) ?_) | (with_reducible refine q_isi_list (by assumption) ?_) | (with_reducible refine q_isi_tuple (by assumption) ?_)
  | with_reducible refine q_sub ?_ | with_reducible refine q_asg ?_)
local macro_rules | `(tactic| walk_at "st") => `(tactic| (repeat (walk_at "s1"; try dsimp only [List.set_cons_zero, List.set_cons_succ, List.append_nil, List.cons_append, List.nil_append, cxOf])))
local macro_rules | `(tactic| walk_at "st0") => `(tactic| (simp only [L2.start, List.map_cons, List.map_nil, List.length_cons, List.length_nil, Nat.reduceAdd, Nat.reduceSub, List.reduceReplicate, List.replicate_zero, List.cons_append, List.nil_append, List.append_nil]; walk_at "st"))
local macro_rules | `(tactic| walk_at "s1") => `(tactic| first | with_reducible refine q_meth ?_ | with_reducible refine q_sfld ?_ | with_reducible refine q_make ?_)
local macro_rules | `(tactic| walk_at "lk") => `(tactic| (repeat (first | exact put_same _ _ _ | assumption | rw [put_ne _ _ (by decide +kernel)])))



namespace T
def topS (i : Nat) : Stmt := PySem.Challenge.pw_hushkernel_k06_text_of_a_build.main.body.getD i (.Pass ⟨0, 0, 0, 0⟩)
abbrev s__wall : Stmt := topS 1
theorem sc__wall : FnScope ["k"] ["k"] (defScope s__wall) := ⟨rfl, rfl, rfl, by decide +kernel, rfl, by decide +kernel, by decide +kernel⟩
abbrev s_is_integer : Stmt := topS 3
theorem sc_is_integer : FnScope ["thing"] ["thing"] (defScope s_is_integer) := ⟨rfl, rfl, rfl, by decide +kernel, rfl, by decide +kernel, by decide +kernel⟩
abbrev s_is_between : Stmt := topS 4
theorem sc_is_between : FnScope ["thing", "low", "high"] ["thing", "low", "high"] (defScope s_is_between) := ⟨rfl, rfl, rfl, by decide +kernel, rfl, by decide +kernel, by decide +kernel⟩
abbrev s_is_index : Stmt := topS 5
theorem sc_is_index : FnScope ["thing", "many"] ["thing", "many"] (defScope s_is_index) := ⟨rfl, rfl, rfl, by decide +kernel, rfl, by decide +kernel, by decide +kernel⟩
abbrev s_is_tuple : Stmt := topS 6
theorem sc_is_tuple : FnScope ["thing", "many"] ["thing", "many"] (defScope s_is_tuple) := ⟨rfl, rfl, rfl, by decide +kernel, rfl, by decide +kernel, by decide +kernel⟩
abbrev s_is_list : Stmt := topS 7
theorem sc_is_list : FnScope ["thing", "low", "high"] ["thing", "low", "high"] (defScope s_is_list) := ⟨rfl, rfl, rfl, by decide +kernel, rfl, by decide +kernel, by decide +kernel⟩
abbrev s_is_ascending : Stmt := topS 8
theorem sc_is_ascending : FnScope ["items", "low", "high"] ["items"] (defScope s_is_ascending) := ⟨rfl, rfl, rfl, by decide +kernel, rfl, by decide +kernel, by decide +kernel⟩
abbrev s_NoBuild___init__ : Stmt := inClass (topS 11) 0
theorem sc_NoBuild___init__ : FnScope ["self", "part"] ["self", "part"] (defScope s_NoBuild___init__) := ⟨rfl, rfl, rfl, by decide +kernel, rfl, by decide +kernel, by decide +kernel⟩
abbrev s_counted : Stmt := topS 14
theorem sc_counted : FnScope ["tasks", "pages", "ports", "locks", "disk"] ["tasks", "pages", "ports", "locks", "disk"] (defScope s_counted) := ⟨rfl, rfl, rfl, by decide +kernel, rfl, by decide +kernel, by decide +kernel⟩
abbrev s_word_of : Stmt := topS 15
theorem sc_word_of : FnScope ["thing"] ["thing"] (defScope s_word_of) := ⟨rfl, rfl, rfl, by decide +kernel, rfl, by decide +kernel, by decide +kernel⟩
abbrev s_is_formed : Stmt := topS 16
theorem sc_is_formed : FnScope ["counts", "kinds", "thing", "kind", "item"] ["counts", "kinds", "thing"] (defScope s_is_formed) := ⟨rfl, rfl, rfl, by decide +kernel, rfl, by decide +kernel, by decide +kernel⟩
abbrev s_is_of_kind : Stmt := topS 17
theorem sc_is_of_kind : FnScope ["counts", "kind", "item"] ["counts", "kind", "item"] (defScope s_is_of_kind) := ⟨rfl, rfl, rfl, by decide +kernel, rfl, by decide +kernel, by decide +kernel⟩
abbrev s_is_right : Stmt := topS 18
theorem sc_is_right : FnScope ["counts", "thing"] ["counts", "thing"] (defScope s_is_right) := ⟨rfl, rfl, rfl, by decide +kernel, rfl, by decide +kernel, by decide +kernel⟩
abbrev s_Rules___init__ : Stmt := inClass (topS 20) 0
theorem sc_Rules___init__ : FnScope ["self", "build", "tasks", "side", "level"] ["self", "build"] (defScope s_Rules___init__) := ⟨rfl, rfl, rfl, by decide +kernel, rfl, by decide +kernel, by decide +kernel⟩
abbrev s_Rules_set_costs : Stmt := inClass (topS 20) 1
theorem sc_Rules_set_costs : FnScope ["self", "costs"] ["self", "costs"] (defScope s_Rules_set_costs) := ⟨rfl, rfl, rfl, by decide +kernel, rfl, by decide +kernel, by decide +kernel⟩
abbrev s_Rules_set_frames : Stmt := inClass (topS 20) 2
theorem sc_Rules_set_frames : FnScope ["self", "build"] ["self", "build"] (defScope s_Rules_set_frames) := ⟨rfl, rfl, rfl, by decide +kernel, rfl, by decide +kernel, by decide +kernel⟩
abbrev s_Rules_set_plan : Stmt := inClass (topS 20) 3
theorem sc_Rules_set_plan : FnScope ["self", "plan", "word", "how"] ["self", "plan"] (defScope s_Rules_set_plan) := ⟨rfl, rfl, rfl, by decide +kernel, rfl, by decide +kernel, by decide +kernel⟩
abbrev s_Rules_slot_ticks : Stmt := inClass (topS 20) 4
theorem sc_Rules_slot_ticks : FnScope ["self", "rows", "found", "task", "ticks", "gone", "fits"] ["self", "rows"] (defScope s_Rules_slot_ticks) := ⟨rfl, rfl, rfl, by decide +kernel, rfl, by decide +kernel, by decide +kernel⟩
abbrev s_Rules_set_letters : Stmt := inClass (topS 20) 5
theorem sc_Rules_set_letters : FnScope ["self", "outside"] ["self", "outside"] (defScope s_Rules_set_letters) := ⟨rfl, rfl, rfl, by decide +kernel, rfl, by decide +kernel, by decide +kernel⟩
abbrev s_Rules_may_come : Stmt := inClass (topS 20) 6
theorem sc_Rules_may_come : FnScope ["self", "phase"] ["self", "phase"] (defScope s_Rules_may_come) := ⟨rfl, rfl, rfl, by decide +kernel, rfl, by decide +kernel, by decide +kernel⟩
abbrev s_Build___init__ : Stmt := inClass (topS 22) 0
theorem sc_Build___init__ : FnScope ["self", "tasks", "pages", "ports", "locks", "frames", "disk", "rights", "lines", "costs", "plan", "outside", "wipe", "pad", "lend", "share", "part", "counts", "flags", "row"] ["self", "tasks", "pages", "ports", "locks", "frames", "disk", "rights", "lines", "costs", "plan", "outside", "wipe", "pad", "lend", "share"] (defScope s_Build___init__) := ⟨rfl, rfl, rfl, by decide +kernel, rfl, by decide +kernel, by decide +kernel⟩
abbrev s_Build_tasks : Stmt := inClass (topS 22) 1
theorem sc_Build_tasks : FnScope ["self"] ["self"] (defScope s_Build_tasks) := ⟨rfl, rfl, rfl, by decide +kernel, rfl, by decide +kernel, by decide +kernel⟩
abbrev s_Build_pages : Stmt := inClass (topS 22) 2
theorem sc_Build_pages : FnScope ["self"] ["self"] (defScope s_Build_pages) := ⟨rfl, rfl, rfl, by decide +kernel, rfl, by decide +kernel, by decide +kernel⟩
abbrev s_Build_ports : Stmt := inClass (topS 22) 3
theorem sc_Build_ports : FnScope ["self"] ["self"] (defScope s_Build_ports) := ⟨rfl, rfl, rfl, by decide +kernel, rfl, by decide +kernel, by decide +kernel⟩
abbrev s_Build_locks : Stmt := inClass (topS 22) 4
theorem sc_Build_locks : FnScope ["self"] ["self"] (defScope s_Build_locks) := ⟨rfl, rfl, rfl, by decide +kernel, rfl, by decide +kernel, by decide +kernel⟩
abbrev s_Build_frames : Stmt := inClass (topS 22) 5
theorem sc_Build_frames : FnScope ["self"] ["self"] (defScope s_Build_frames) := ⟨rfl, rfl, rfl, by decide +kernel, rfl, by decide +kernel, by decide +kernel⟩
abbrev s_Build_disk : Stmt := inClass (topS 22) 6
theorem sc_Build_disk : FnScope ["self"] ["self"] (defScope s_Build_disk) := ⟨rfl, rfl, rfl, by decide +kernel, rfl, by decide +kernel, by decide +kernel⟩
abbrev s_Build_rights : Stmt := inClass (topS 22) 7
theorem sc_Build_rights : FnScope ["self", "row"] ["self"] (defScope s_Build_rights) := ⟨rfl, rfl, rfl, by decide +kernel, rfl, by decide +kernel, by decide +kernel⟩
abbrev s_Build_lines : Stmt := inClass (topS 22) 8
theorem sc_Build_lines : FnScope ["self"] ["self"] (defScope s_Build_lines) := ⟨rfl, rfl, rfl, by decide +kernel, rfl, by decide +kernel, by decide +kernel⟩
abbrev s_Build_costs : Stmt := inClass (topS 22) 9
theorem sc_Build_costs : FnScope ["self"] ["self"] (defScope s_Build_costs) := ⟨rfl, rfl, rfl, by decide +kernel, rfl, by decide +kernel, by decide +kernel⟩
abbrev s_Build_plan : Stmt := inClass (topS 22) 10
theorem sc_Build_plan : FnScope ["self", "word", "how"] ["self"] (defScope s_Build_plan) := ⟨rfl, rfl, rfl, by decide +kernel, rfl, by decide +kernel, by decide +kernel⟩
abbrev s_Build_outside : Stmt := inClass (topS 22) 11
theorem sc_Build_outside : FnScope ["self"] ["self"] (defScope s_Build_outside) := ⟨rfl, rfl, rfl, by decide +kernel, rfl, by decide +kernel, by decide +kernel⟩
abbrev s_Build_wipe : Stmt := inClass (topS 22) 12
theorem sc_Build_wipe : FnScope ["self"] ["self"] (defScope s_Build_wipe) := ⟨rfl, rfl, rfl, by decide +kernel, rfl, by decide +kernel, by decide +kernel⟩
abbrev s_Build_pad : Stmt := inClass (topS 22) 13
theorem sc_Build_pad : FnScope ["self"] ["self"] (defScope s_Build_pad) := ⟨rfl, rfl, rfl, by decide +kernel, rfl, by decide +kernel, by decide +kernel⟩
abbrev s_Build_lend : Stmt := inClass (topS 22) 14
theorem sc_Build_lend : FnScope ["self"] ["self"] (defScope s_Build_lend) := ⟨rfl, rfl, rfl, by decide +kernel, rfl, by decide +kernel, by decide +kernel⟩
abbrev s_Build_share : Stmt := inClass (topS 22) 15
theorem sc_Build_share : FnScope ["self"] ["self"] (defScope s_Build_share) := ⟨rfl, rfl, rfl, by decide +kernel, rfl, by decide +kernel, by decide +kernel⟩
abbrev s_Build_sides : Stmt := inClass (topS 22) 16
theorem sc_Build_sides : FnScope ["self", "side", "level"] ["self"] (defScope s_Build_sides) := ⟨rfl, rfl, rfl, by decide +kernel, rfl, by decide +kernel, by decide +kernel⟩
abbrev s_Build___eq__ : Stmt := inClass (topS 22) 17
theorem sc_Build___eq__ : FnScope ["self", "other"] ["self", "other"] (defScope s_Build___eq__) := ⟨rfl, rfl, rfl, by decide +kernel, rfl, by decide +kernel, by decide +kernel⟩
abbrev s_things_fault : Stmt := topS 23
theorem sc_things_fault : FnScope ["tasks", "pages", "ports", "locks", "frames", "disk"] ["tasks", "pages", "ports", "locks", "frames", "disk"] (defScope s_things_fault) := ⟨rfl, rfl, rfl, by decide +kernel, rfl, by decide +kernel, by decide +kernel⟩
abbrev s_ways_fault : Stmt := topS 24
theorem sc_ways_fault : FnScope ["counts", "rights", "lines", "costs", "plan", "outside"] ["counts", "rights", "lines", "costs", "plan", "outside"] (defScope s_ways_fault) := ⟨rfl, rfl, rfl, by decide +kernel, rfl, by decide +kernel, by decide +kernel⟩
abbrev s_flags_fault : Stmt := topS 25
theorem sc_flags_fault : FnScope ["flags", "name", "flag"] ["flags"] (defScope s_flags_fault) := ⟨rfl, rfl, rfl, by decide +kernel, rfl, by decide +kernel, by decide +kernel⟩
abbrev s_fit_as_tasks : Stmt := topS 26
theorem sc_fit_as_tasks : FnScope ["tasks", "task", "side", "level"] ["tasks"] (defScope s_fit_as_tasks) := ⟨rfl, rfl, rfl, by decide +kernel, rfl, by decide +kernel, by decide +kernel⟩
abbrev s_fit_as_numbers : Stmt := topS 27
theorem sc_fit_as_numbers : FnScope ["numbers", "most", "low", "high", "number"] ["numbers", "most", "low", "high"] (defScope s_fit_as_numbers) := ⟨rfl, rfl, rfl, by decide +kernel, rfl, by decide +kernel, by decide +kernel⟩
abbrev s_fit_as_rights : Stmt := topS 28
theorem sc_fit_as_rights : FnScope ["counts", "rights", "many", "row"] ["counts", "rights"] (defScope s_fit_as_rights) := ⟨rfl, rfl, rfl, by decide +kernel, rfl, by decide +kernel, by decide +kernel⟩
abbrev s_fit_as_row : Stmt := topS 29
theorem sc_fit_as_row : FnScope ["counts", "row", "right"] ["counts", "row"] (defScope s_fit_as_row) := ⟨rfl, rfl, rfl, by decide +kernel, rfl, by decide +kernel, by decide +kernel⟩
abbrev s_fit_as_lines : Stmt := topS 30
theorem sc_fit_as_lines : FnScope ["counts", "lines", "many", "line"] ["counts", "lines"] (defScope s_fit_as_lines) := ⟨rfl, rfl, rfl, by decide +kernel, rfl, by decide +kernel, by decide +kernel⟩
abbrev s_fit_as_costs : Stmt := topS 31
theorem sc_fit_as_costs : FnScope ["costs"] ["costs"] (defScope s_fit_as_costs) := ⟨rfl, rfl, rfl, by decide +kernel, rfl, by decide +kernel, by decide +kernel⟩
abbrev s_fit_as_plan : Stmt := topS 32
theorem sc_fit_as_plan : FnScope ["counts", "plan", "row"] ["counts", "plan"] (defScope s_fit_as_plan) := ⟨rfl, rfl, rfl, by decide +kernel, rfl, by decide +kernel, by decide +kernel⟩
abbrev s_fits_as_slot : Stmt := topS 33
theorem sc_fits_as_slot : FnScope ["counts", "row"] ["counts", "row"] (defScope s_fits_as_slot) := ⟨rfl, rfl, rfl, by decide +kernel, rfl, by decide +kernel, by decide +kernel⟩
abbrev s_fits_as_outside : Stmt := topS 34
theorem sc_fits_as_outside : FnScope ["counts", "outside"] ["counts", "outside"] (defScope s_fits_as_outside) := ⟨rfl, rfl, rfl, by decide +kernel, rfl, by decide +kernel, by decide +kernel⟩
abbrev s_worded : Stmt := topS 36
theorem sc_worded : FnScope ["word", "items", "item"] ["word", "items"] (defScope s_worded) := ⟨rfl, rfl, rfl, by decide +kernel, rfl, by decide +kernel, by decide +kernel⟩
abbrev s_spelled : Stmt := topS 37
theorem sc_spelled : FnScope ["item"] ["item"] (defScope s_spelled) := ⟨rfl, rfl, rfl, by decide +kernel, rfl, by decide +kernel, by decide +kernel⟩
abbrev s_right_lines : Stmt := topS 38
theorem sc_right_lines : FnScope ["rows", "task", "row", "right"] ["rows"] (defScope s_right_lines) := ⟨rfl, rfl, rfl, by decide +kernel, rfl, by decide +kernel, by decide +kernel⟩
abbrev s_build_text : Stmt := topS 41
theorem sc_build_text : FnScope ["build", "lines", "flags", "task", "page", "line", "size", "name", "flag"] ["build"] (defScope s_build_text) := ⟨rfl, rfl, rfl, by decide +kernel, rfl, by decide +kernel, by decide +kernel⟩
abbrev s_page_line : Stmt := topS 42
theorem sc_page_line : FnScope ["page", "line"] ["page", "line"] (defScope s_page_line) := ⟨rfl, rfl, rfl, by decide +kernel, rfl, by decide +kernel, by decide +kernel⟩
abbrev s_plan_lines : Stmt := topS 43
theorem sc_plan_lines : FnScope ["plan", "word", "how", "row"] ["plan"] (defScope s_plan_lines) := ⟨rfl, rfl, rfl, by decide +kernel, rfl, by decide +kernel, by decide +kernel⟩
abbrev s_slot_line : Stmt := topS 44
theorem sc_slot_line : FnScope ["row"] ["row"] (defScope s_slot_line) := ⟨rfl, rfl, rfl, by decide +kernel, rfl, by decide +kernel, by decide +kernel⟩
abbrev s__law_source : Stmt := topS 46
theorem sc__law_source : FnScope ["_law_script", "_law_great", "_law_seed", "_law_cell"] ["_law_script"] (defScope s__law_source) := ⟨rfl, rfl, rfl, by decide +kernel, rfl, by decide +kernel, by decide +kernel⟩
abbrev s__law_draw : Stmt := topS 47
theorem sc__law_draw : FnScope ["_law_source_here", "_law_many", "_law_great", "_law_worth", "_law_number"] ["_law_source_here", "_law_many"] (defScope s__law_draw) := ⟨rfl, rfl, rfl, by decide +kernel, rfl, by decide +kernel, by decide +kernel⟩
abbrev s__law_pool : Stmt := topS 48
theorem sc__law_pool : FnScope ["_law_parts_here", "_law_pool_here", "_law_k"] ["_law_parts_here"] (defScope s__law_pool) := ⟨rfl, rfl, rfl, by decide +kernel, rfl, by decide +kernel, by decide +kernel⟩
abbrev s__law_rights : Stmt := topS 49
theorem sc__law_rights : FnScope ["_law_source_here", "_law_pool_here", "_law_row", "_law_right"] ["_law_source_here", "_law_pool_here"] (defScope s__law_rights) := ⟨rfl, rfl, rfl, by decide +kernel, rfl, by decide +kernel, by decide +kernel⟩
abbrev s__law_plan : Stmt := topS 50
theorem sc__law_plan : FnScope ["_law_source_here", "_law_many", "_law_rows_here", "_law_k"] ["_law_source_here", "_law_many"] (defScope s__law_plan) := ⟨rfl, rfl, rfl, by decide +kernel, rfl, by decide +kernel, by decide +kernel⟩
abbrev s__law_parts : Stmt := topS 51
theorem sc__law_parts : FnScope ["_law_source_here", "_law_tasks", "_law_k", "_law_pages", "_law_ports", "_law_disk", "_law_parts_here", "_law_pool_here", "_law_outside", "_law_row", "_law_page"] ["_law_source_here"] (defScope s__law_parts) := ⟨rfl, rfl, rfl, by decide +kernel, rfl, by decide +kernel, by decide +kernel⟩
abbrev s__law_copy : Stmt := topS 52
theorem sc__law_copy : FnScope ["_law_thing", "_law_part"] ["_law_thing"] (defScope s__law_copy) := ⟨rfl, rfl, rfl, by decide +kernel, rfl, by decide +kernel, by decide +kernel⟩
abbrev s__law_made : Stmt := topS 53
theorem sc__law_made : FnScope ["_law_parts_here"] ["_law_parts_here"] (defScope s__law_made) := ⟨rfl, rfl, rfl, by decide +kernel, rfl, by decide +kernel, by decide +kernel⟩
abbrev s__law_told : Stmt := topS 54
theorem sc__law_told : FnScope ["_law_build", "_law_told_here"] ["_law_build"] (defScope s__law_told) := ⟨rfl, rfl, rfl, by decide +kernel, rfl, by decide +kernel, by decide +kernel⟩
abbrev s__law_same : Stmt := topS 55
theorem sc__law_same : FnScope ["_law_one", "_law_two", "_law_k"] ["_law_one", "_law_two"] (defScope s__law_same) := ⟨rfl, rfl, rfl, by decide +kernel, rfl, by decide +kernel, by decide +kernel⟩
abbrev s__law_rows : Stmt := topS 56
theorem sc__law_rows : FnScope ["_law_parts_here", "_law_rows_here", "_law_k", "_law_row", "_law_size", "_law_task", "_law_right", "_law_ticks"] ["_law_parts_here"] (defScope s__law_rows) := ⟨rfl, rfl, rfl, by decide +kernel, rfl, by decide +kernel, by decide +kernel⟩
abbrev s_law : Stmt := topS 57
theorem sc_law : FnScope ["_law_script", "_law_source_here", "_law_dues", "_law_builds", "_law_k", "_law_text", "_law_due"] ["_law_script"] (defScope s_law) := ⟨rfl, rfl, rfl, by decide +kernel, rfl, by decide +kernel, by decide +kernel⟩
section
variable {P : Program} {w : World} {K : PySem.W.Frag} {mg : Str → Option Value} {base : Heap}
/-! checks -/
def dInt : PyData → Option Int | .int i => some i | _ => none
def dBetween (d : PyData) (lo hi : Int) : Bool := match d with | .int i => decide (lo ≤ i) && decide (i ≤ hi) | _ => false
def dTupleOf (d : PyData) (n : Nat) : Bool := match d with | .tuple ds => decide (ds.length = n) | _ => false
def dListOf (d : PyData) (lo hi : Int) : Bool := match d with | .list ds => decide (lo ≤ ds.length) && decide ((ds.length : Int) ≤ hi) | _ => false
def spInteger (K : PySem.W.Frag) : Sp := fun vs H Q _ => ∃ (x : V) (d : PyData), vs = [x] ∧ Dp K H x d ∧ Q (.bl (isInt d && !isBool d)) H
theorem ok_is_integer (B : Bl mg) (d : DefAt K mg "is_integer" s_is_integer ["thing"]) : Cal P w K mg base 1 "is_integer" ["thing"] (spInteger K) := d.cal fun f fd F => by
  refine F.ok sc_is_integer (fun vs H Q E h => ?_) (fun cdv A outer s H vs Q E hr h => ?_)
  · obtain ⟨x, d, rfl, _⟩ := h; rfl
  · obtain ⟨x, d, rfl, hd, q⟩ := h
    refine ⟨_, (pss_one (ps_ret (pe_and (pe_callB call_isi rfl B.isinstance hb_isinstance (pa_cons (pv 0) (pa_cons (pe_bltn (v := .ty "int") rfl B.int_ hb_int rfl) pa_nil))) (pe_one (pe_not (pe_callB call_isi rfl B.isinstance hb_isinstance (pa_cons (pv 0) (pa_cons (pe_bltn (v := .ty "bool") rfl B.bool_ hb_bool rfl) pa_nil)))))))), ?_⟩
    walk_at "st0"
    refine q_if (fun hc => ?_) (fun hc => ?_)
    · walk_at "st"
      rw [hc] at q; exact q
    · rw [hc] at q; exact q
def spBetween (K : PySem.W.Frag) : Sp := fun vs H Q _ => ∃ (x : V) (d : PyData) (lo hi : Int), vs = [x, .int lo, .int hi] ∧ Dp K H x d ∧ Q (.bl (dBetween d lo hi)) H
theorem ok_is_between (B : Bl mg) (d : DefAt K mg "is_between" s_is_between ["thing", "low", "high"]) (c_is_integer : Cal P w K mg base 1 "is_integer" ["thing"] (spInteger K)) : Cal P w K mg base 2 "is_between" ["thing", "low", "high"] (spBetween K) := d.cal fun f fd F => by
  refine F.ok sc_is_between (fun vs H Q E h => ?_) (fun cdv A outer s H vs Q E hr h => ?_)
  · obtain ⟨x, d, lo, hi, rfl, _⟩ := h; rfl
  · obtain ⟨x, d, lo, hi, rfl, hd, q⟩ := h
    refine ⟨_, (pss_one (ps_ret (pe_and (pe_cal c_is_integer (hr.mono (by omega)) rfl (pa_cons (pv 0) pa_nil)) (pe_one (pe_chain op_le op_le (pv 1) (pv 0) (pv 2)))))), ?_⟩
    walk_at "st0"
    refine ⟨_, _, rfl, hd, ?_⟩
    walk_at "st"
    cases d with
    | int i =>
      refine iteT ?_
      cases hd
      walk_at "st"
      refine q_if (fun hc => ?_) (fun hc => ?_)
      · walk_at "st"
        simpa [dBetween, hc] using q
      · simpa [dBetween, hc] using q
    | _ => exact iteF q
def spIndex (K : PySem.W.Frag) : Sp := fun vs H Q _ => ∃ (x : V) (d : PyData) (n : Int), vs = [x, .int n] ∧ Dp K H x d ∧ Q (.bl (dBetween d 0 (n - 1))) H
theorem ok_is_index (B : Bl mg) (d : DefAt K mg "is_index" s_is_index ["thing", "many"]) (c_is_between : Cal P w K mg base 2 "is_between" ["thing", "low", "high"] (spBetween K)) : Cal P w K mg base 3 "is_index" ["thing", "many"] (spIndex K) := d.cal fun f fd F => by
  refine F.ok sc_is_index (fun vs H Q E h => ?_) (fun cdv A outer s H vs Q E hr h => ?_)
  · obtain ⟨x, d, n, rfl, _⟩ := h; rfl
  · obtain ⟨x, d, n, rfl, hd, q⟩ := h
    refine ⟨_, (pss_one (ps_ret (pe_cal c_is_between (hr.mono (by omega)) rfl (pa_cons (pv 0) (pa_cons pe_int (pa_cons (pe_op op_sub (pv 1) pe_int) pa_nil)))))), ?_⟩
    walk_at "st0"
    exact ⟨_, _, _, _, rfl, hd, q⟩
def spTupleOf (K : PySem.W.Frag) : Sp := fun vs H Q _ => ∃ (x : V) (d : PyData) (n : Nat), vs = [x, .int n] ∧ Dp K H x d ∧ Q (.bl (dTupleOf d n)) H
theorem ok_is_tuple (B : Bl mg) (d : DefAt K mg "is_tuple" s_is_tuple ["thing", "many"]) : Cal P w K mg base 1 "is_tuple" ["thing", "many"] (spTupleOf K) := d.cal fun f fd F => by
  refine F.ok sc_is_tuple (fun vs H Q E h => ?_) (fun cdv A outer s H vs Q E hr h => ?_)
  · obtain ⟨x, d, n, rfl, _⟩ := h; rfl
  · obtain ⟨x, d, n, rfl, hd, q⟩ := h
    refine ⟨_, (pss_one (ps_ret (pe_and (pe_callB call_isi rfl B.isinstance hb_isinstance (pa_cons (pv 0) (pa_cons (pe_bltn (v := .ty "tuple") rfl B.tuple_ hb_tuple rfl) pa_nil))) (pe_one (pe_cmpR op_eq (pe_callB call_len_seq rfl B.len hb_len (pa_cons (pv 0) pa_nil)) (pv 1) (nomark _)))))), ?_⟩
    walk_at "st0"
    cases d with
    | tuple ds =>
      refine iteT ?_
      cases hd with
      | tup hs ha =>
        walk_at "st"
        refine ⟨_, _, rfl, .inr hs, ?_⟩
        walk_at "st"
        refine q_eq rfl ?_
        simp only [dTupleOf] at q
        have e : decide ((ds.length : Int) = (n : Int)) = decide (ds.length = n) := decide_eq_decide.mpr (by omega)
        simpa [ha.length, e] using q
    | _ => exact iteF q
def spListOf (K : PySem.W.Frag) : Sp := fun vs H Q _ => ∃ (x : V) (d : PyData) (lo hi : Int), vs = [x, .int lo, .int hi] ∧ Dp K H x d ∧ Q (.bl (dListOf d lo hi)) H
theorem ok_is_list (B : Bl mg) (d : DefAt K mg "is_list" s_is_list ["thing", "low", "high"]) : Cal P w K mg base 1 "is_list" ["thing", "low", "high"] (spListOf K) := d.cal fun f fd F => by
  refine F.ok sc_is_list (fun vs H Q E h => ?_) (fun cdv A outer s H vs Q E hr h => ?_)
  · obtain ⟨x, d, lo, hi, rfl, _⟩ := h; rfl
  · obtain ⟨x, d, lo, hi, rfl, hd, q⟩ := h
    refine ⟨_, (pss_one (ps_ret (pe_and (pe_callB call_isi rfl B.isinstance hb_isinstance (pa_cons (pv 0) (pa_cons (pe_bltn (v := .ty "list") rfl B.list_ hb_list rfl) pa_nil))) (pe_one (pe_chain op_le op_le (pv 1) (pe_callB call_len_seq rfl B.len hb_len (pa_cons (pv 0) pa_nil)) (pv 2)))))), ?_⟩
    walk_at "st0"
    cases d with
    | list ds =>
      refine iteT ?_
      cases hd with
      | lst hs ha =>
        walk_at "st"
        refine ⟨_, _, rfl, .inl hs, ?_⟩
        walk_at "st"
        rw [ha.length]
        refine q_if (fun hc => ?_) (fun hc => ?_)
        · walk_at "st"
          simpa [dListOf, hc] using q
        · simpa [dListOf, hc] using q
    | _ => exact iteF q
end
end T



namespace T
section
variable {P : Program} {w : World} {K : PySem.W.Frag} {mg : Str → Option Value} {base : Heap}
/-- rights as they are handed in: a list of tuples -/
def RtAt (K : PySem.W.Frag) (H : Hp) (x : V) (r : Str × Int) : Prop := ∃ t, x = .ref t ∧ SqT K H t [.str r.1, .int r.2]
def ascWI : List (Str × Int) → Bool
  | a :: b :: r => ltWI a b && ascWI (b :: r)
  | _ => true
theorem ascWI_iff : ∀ {l : List (Str × Int)}, ascWI l = true ↔ ∀ i a b, l[i]? = some a → l[i + 1]? = some b → ltWI a b = true
  | [] => by simp [ascWI]
  | [_] => by simp [ascWI]
  | a :: b :: r => by
    unfold ascWI
    rw [Bool.and_eq_true, ascWI_iff (l := b :: r)]
    constructor
    · rintro ⟨h, k⟩ i x y e1 e2
      cases i with
      | zero => simp at e1 e2; subst e1 e2; exact h
      | succ i => exact k i x y (by simpa using e1) (by simpa using e2)
    · intro h
      exact ⟨h 0 a b rfl rfl, fun i x y e1 e2 => h (i + 1) x y (by simpa using e1) (by simpa using e2)⟩
def spAsc (K : PySem.W.Frag) : Sp := fun vs H Q _ => ∃ (a : Addr) (xs : List V) (rs : List (Str × Int)), vs = [.ref a] ∧ SqL K H a xs ∧ Paired (RtAt K H) xs rs ∧ rs.length ≤ 1000 ∧ ∀ H', Same H H' → Q (.bl (ascWI rs)) H'
theorem hu0_of {A : Around} {k : Nat} (hr : Room k A) : A.units < cLine := Nat.lt_of_succ_lt (hu_of hr)
theorem paired_get {α β : Type} {R : α → β → Prop} : ∀ {xs : List α} {ys : List β}, Paired R xs ys → ∀ {i : Nat} {x : α}, xs[i]? = some x → ∃ y, ys[i]? = some y ∧ R x y
  | _, _, .nil, _, _, e => by simp at e
  | _, _, .cons r t, 0, _, e => by simp at e; subst e; exact ⟨_, rfl, r⟩
  | _, _, .cons r t, i + 1, _, e => by simpa using paired_get t (by simpa using e)
theorem cut1 (xs : List V) : cutV xs (some 1) none = xs.drop 1 := by
  unfold cutV
  rw [show HT.sIx xs.length 0 (some 1) = min 1 xs.length from HT.sIx_nat xs.length 0 1, HT.sIx_none]
  cases xs with
  | nil => rfl
  | cons x r =>
    have e : min 1 (x :: r).length = 1 := by simp
    rw [e]
    simp
theorem ok_is_ascending (B : Bl mg) (d : DefAt K mg "is_ascending" s_is_ascending ["items"]) : Cal P w K mg base 1 "is_ascending" ["items"] (spAsc K) := d.cal fun f fd F => by
  refine F.ok sc_is_ascending (fun vs H Q E h => ?_) (fun cdv A outer s H vs Q E hr h => ?_)
  · obtain ⟨a, xs, rs, rfl, _⟩ := h; rfl
  · obtain ⟨a, xs, rs, rfl, hl, hp, few, q⟩ := h
    have lx : xs.length = rs.length := Paired.length hp
    refine ⟨_, (pss_one (ps_ret (pe_callB (cr_all rfl) rfl B.all hb_all (pa_cons (pe_lc (own := [("low", 1), ("high", 2)]) (tt := tYes) rfl sc_is_ascending.nd (pi_zip rfl B.zip (pa_cons (pv 0) (pa_cons (pe_slice sl_list (pv 0) (po_some pe_int) po_none) pa_nil))) (blkOk_by (N := ["items", "low", "high"]) (sc := defScope s_is_ascending) (by decide +kernel)) (fun _ _ _ _ _ => (show PG _ _ (gTup K 2 _) from pg_tup rfl (pgs_cons (pg_name (i := 1) sc_is_ascending.nd rfl (Or.inl rfl)) (pgs_cons (pg_name (i := 2) sc_is_ascending.nd rfl (Or.inl rfl)) pgs_nil)))) (fun _ _ _ _ _ => pts_nil) (fun _ _ _ _ _ => (pe_cmpR (show OpR _ _ (rLtWI K) from op_ltWI (hu0_of hr)) (pv 1) (pv 2) (nomark _)))) pa_nil)))), ?_⟩
    walk_at "st0"
    refine ⟨.ref a, rfl, .ref a, rfl, 1, rfl, a, xs, rfl, hl, fun c nc => ?_⟩
    have s1 := same_new (o := .lst (cutV xs (some 1) none)) nc
    have h1 := s1.seq hl
    have h2 : SqL K (upd H c (.lst (cutV xs (some 1) none))) c (xs.drop 1) := by rw [cut1]; exact SqL.of upd_same
    refine ⟨a, c, _, _, rfl, h1, h2, fun D nD => ?_⟩
    have key : ∀ i, i < rs.length - 1 → ∃ x y a b, xs[i]? = some x ∧ (xs.drop 1)[i]? = some y ∧ rs[i]? = some a ∧ rs[i + 1]? = some b ∧ RtAt K H x a ∧ RtAt K H y b := fun i lt => by
      have e1 : xs[i]? = some (xs[i]'(by omega)) := List.getElem?_eq_getElem _
      have e2 : xs[i + 1]? = some (xs[i + 1]'(by omega)) := List.getElem?_eq_getElem _
      obtain ⟨b1, f1, g1⟩ := paired_get hp e1
      obtain ⟨b2, f2, g2⟩ := paired_get hp e2
      exact ⟨_, _, b1, b2, e1, by rw [List.getElem?_drop, Nat.add_comm 1 i]; exact e2, f1, f2, g1, g2⟩
    refine lc_val (n := rs.length - 1) (walk_zip (by rw [List.length_drop]; omega)) (fun i => .bl (ltWI (rs.getD i default) (rs.getD (i + 1) default))) nD (by exact sz1000 (by omega)) (fun H2 s => ⟨s.seq h1, s.seq h2⟩) ypair_same ?_ ?_
    · rintro i x H2 H3 lt s2 ⟨t, u, v, rfl, nt, rfl, e1, e2⟩ Q2 k
      obtain ⟨x', y', a', b', f1, f2, f3, f4, ⟨t1, rfl, g1⟩, ⟨t2, rfl, g2⟩⟩ := key i lt
      replace e1 := e1.symm.trans f1; cases e1
      replace e2 := e2.symm.trans f2; cases e2
      have s3 := same_new (o := .tup [V.ref t1, V.ref t2]) nt
      refine ⟨t, [.ref t1, .ref t2], rfl, SqT.of upd_same, rfl, .ref t1, [.ref t2], rfl, .ref t2, [], rfl, rfl, rfl, ?_⟩
      walk_at "st"
      refine ⟨t1, t2, a', b', rfl, rfl, Same.sqT s3 (Same.sqT s2 (Same.sqT s1 g1)), Same.sqT s3 (Same.sqT s2 (Same.sqT s1 g2)), ?_⟩
      have z := k _ (Same.refl _)
      simpa [List.getD_eq_getElem?_getD, f3, f4] using z
    · intro H2 s2 e
      refine ⟨_, (List.range (rs.length - 1)).map fun i => ltWI (rs.getD i default) (rs.getD (i + 1) default), rfl, SqL.of (by rw [e, List.map_map]; rfl), ?_⟩
      have z : (((List.range (rs.length - 1)).map fun i => ltWI (rs.getD i default) (rs.getD (i + 1) default)).all id) = ascWI rs := by
        rw [Bool.eq_iff_iff, hk_all_range, ascWI_iff]
        constructor
        · intro h i a b e1 e2
          have lt : i + 1 < rs.length := (List.getElem?_eq_some_iff.mp e2).1
          simpa [List.getD_eq_getElem?_getD, e1, e2] using h i (by omega)
        · intro h i lt
          exact h i _ _ (by simp [List.getD_eq_getElem?_getD, List.getElem?_eq_getElem (show i < rs.length by omega)]) (by simp [List.getD_eq_getElem?_getD, List.getElem?_eq_getElem (show i + 1 < rs.length by omega)])
      rw [z]
      exact q H2 (s1.trans s2)
end
end T



namespace T
section
variable {P : Program} {w : World} {K : PySem.W.Frag} {mg : Str → Option Value} {base : Heap}
/-! forms -/
def cntOf (t p q l d : Int) : Cnt := [("task", t), ("page", p), ("port", q), ("lock", l), ("value", 2), ("place", d), ("disk", if 1 < d then 1 else d)]
def spCounted : Sp := fun vs H Q _ => ∃ t p q l d : Int, vs = [.int t, .int p, .int q, .int l, .int d] ∧ ∀ c H', Same H H' → H c = none → H' c = some (.dK (countKV (cntOf t p q l d))) → Q (.ref c) H'
theorem ok_counted (B : Bl mg) (d : DefAt K mg "counted" s_counted ["tasks", "pages", "ports", "locks", "disk"]) : Cal P w K mg base 1 "counted" ["tasks", "pages", "ports", "locks", "disk"] spCounted := d.cal fun f fd F => by
  refine F.ok sc_counted (fun vs H Q E h => ?_) (fun cdv A outer s H vs Q E hr h => ?_)
  · obtain ⟨t, p, q, l, d, rfl, _⟩ := h; rfl
  · obtain ⟨t, p, q, l, d, rfl, k⟩ := h
    refine ⟨_, (pss_one (ps_ret (pe_disp (pps_cons pe_str (pv 0) (pps_cons pe_str (pv 1) (pps_cons pe_str (pv 2) (pps_cons pe_str (pv 3) (pps_cons pe_str pe_int (pps_cons pe_str (pv 4) (pps_cons pe_str (pe_callB (call_min2 rfl) rfl B.min hb_min (pa_cons (pv 4) (pa_cons pe_int pa_nil))) pps_nil))))))) rfl rfl (by simp) (by decide)))), ?_⟩
    walk_at "st0"
    intro c nc
    unfold tPairs; walk_at "st"; unfold tPairs; walk_at "st"; unfold tPairs; walk_at "st"; unfold tPairs; walk_at "st"; unfold tPairs; walk_at "st"; unfold tPairs; walk_at "st"; unfold tPairs; walk_at "st"
    refine ⟨_, _, rfl, ?_⟩
    unfold tPairs
    refine ⟨upd_same, [(Sum.inr "task", .int t), (Sum.inr "page", .int p), (Sum.inr "port", .int q), (Sum.inr "lock", .int l), (Sum.inr "value", .int 2), (Sum.inr "place", .int d), (Sum.inr "disk", .int (if 1 < d then 1 else d))], rfl, by simp, ?_⟩
    refine k c _ (fun b o e => ?_) nc ?_
    · have hb := ne_of_none e nc
      rw [upd_ne hb, upd_ne hb]; exact e
    · rw [upd_same]; rfl
def dWord (d : PyData) : Str := match d with | .tuple (.str z :: _) => z | _ => ""
def spWord (K : PySem.W.Frag) : Sp := fun vs H Q _ => ∃ (x : V) (d : PyData), vs = [x] ∧ Dp K H x d ∧ Q (.str (dWord d)) H
theorem ok_word_of (B : Bl mg) (d : DefAt K mg "word_of" s_word_of ["thing"]) : Cal P w K mg base 1 "word_of" ["thing"] (spWord K) := d.cal fun f fd F => by
  refine F.ok sc_word_of (fun vs H Q E h => ?_) (fun cdv A outer s H vs Q E hr h => ?_)
  · obtain ⟨x, d, rfl, _⟩ := h; rfl
  · obtain ⟨x, d, rfl, hd, q⟩ := h
    refine ⟨_, (pss_cons (ps_if (PW.pt (pw_and (pt_val (pe_callB call_isi rfl B.isinstance hb_isinstance (pa_cons (pv 0) (pa_cons (pe_bltn (v := .ty "tuple") rfl B.tuple_ hb_tuple rfl) pa_nil)))) (pw_and (pt_cmpR op_gt (pe_callB call_len_seq rfl B.len hb_len (pa_cons (pv 0) pa_nil)) pe_int (nomark _)) (pw_and1 (pt_val (pe_callB call_isi rfl B.isinstance hb_isinstance (pa_cons (pe_ix ix_tup (pv 0) pe_int (fun _ _ => rfl)) (pa_cons (pe_bltn (v := .ty "str") rfl B.str_ hb_str rfl) pa_nil)))))))) (pss_one (ps_ret (pe_ix ix_tup (pv 0) pe_int (fun _ _ => rfl)))) pss_nil)
      (pss_one (ps_ret pe_str))), ?_⟩
    walk_at "st0"
    cases d with
    | tuple ds =>
      refine iteT ?_
      cases hd with
      | @tup a xs _ hs ha =>
      walk_at "st"
      refine ⟨_, _, rfl, .inr hs, ?_⟩
      walk_at "st"
      cases ha with
      | nil => exact iteF (iteF q)
      | @cons y ys e es h1 h2 =>
        refine q_if (fun hc => ?_) (fun hc => by simp at hc)
        walk_at "st"
        refine q_ixT hs (atI0 rfl) ?_
        walk_at "st"
        cases e with
        | str z =>
          cases h1
          refine iteT ?_
          walk_at "st"
          exact q_ixT hs (atI0 rfl) q
        | _ => exact iteF q
    | _ => exact iteF (iteF q)
/-- each item of its kind -/
def dKinds (kf : Str → PyData → Bool) (ks : List Str) (ds : List PyData) : Bool := (List.range (min ks.length ds.length)).all fun i => kf (ks.getD i default) (ds.getD i .none)
def dFormed (kf : Str → PyData → Bool) (o : Option (List Str)) (d : PyData) : Bool := match o, d with
  | some ks, .tuple ds => decide (ds.length = ks.length + 1) && dKinds kf ks (ds.drop 1)
  | _, _ => false
def spKind (K : PySem.W.Frag) (good : Cnt → Str → Prop) (kf : Cnt → Str → PyData → Bool) : Sp := fun vs H Q _ => ∃ (a : Addr) (c : Cnt) (z : Str) (x : V) (d : PyData), vs = [.ref a, .str z, x] ∧ H a = some (.dK (countKV c)) ∧ good c z ∧ Dp K H x d ∧ ∀ H', Same H H' → Q (.bl (kf c z d)) H'
def spFormed (K : PySem.W.Frag) (good : Cnt → Str → Prop) (kf : Cnt → Str → PyData → Bool) : Sp := fun vs H Q _ => ∃ (a : Addr) (c : Cnt) (k : V) (o : Option (List Str)) (x : V) (d : PyData), vs = [.ref a, k, x] ∧ H a = some (.dK (countKV c)) ∧ Dp K H x d ∧
  (match o with | none => k = .non | some ks => (∃ t, k = .ref t ∧ SqT K H t (ks.map V.str)) ∧ (∃ ds, d = .tuple ds) ∧ ks.length ≤ 100 ∧ ∀ z ∈ ks, good c z) ∧ ∀ H', Same H H' → Q (.bl (dFormed (kf c) o d)) H'
theorem ok_is_formed {j : Nat} {good : Cnt → Str → Prop} {kf : Cnt → Str → PyData → Bool} (B : Bl mg) (d : DefAt K mg "is_formed" s_is_formed ["counts", "kinds", "thing"]) (c_is_of_kind : Cal P w K mg base j "is_of_kind" ["counts", "kind", "item"] (spKind K good kf)) :
    Cal P w K mg base (j + 1) "is_formed" ["counts", "kinds", "thing"] (spFormed K good kf) := d.cal fun f fd F => by
  refine F.ok sc_is_formed (fun vs H Q E h => ?_) (fun cdv A outer s H vs Q E hr h => ?_)
  · obtain ⟨a, c, k, o, x, d, rfl, _⟩ := h; rfl
  · obtain ⟨a, c, k, o, x, d, rfl, hc, hd, ho, q⟩ := h
    refine ⟨_, (pss_cons (ps_if (PW.pt (pw_or (pt_cmp (pc_isN (pv 1))) (pw_or1 (pt_cmpR op_ne (pe_callB call_len_seq rfl B.len hb_len (pa_cons (pv 2) pa_nil)) (pe_op op_add (pe_callB call_len_seq rfl B.len hb_len (pa_cons (pv 1) pa_nil)) pe_int) (nomark _))))) (pss_one (ps_ret pe_bl)) pss_nil)
      (pss_one (ps_ret (pe_callB (cr_all rfl) rfl B.all hb_all (pa_cons (pe_lc (own := [("kind", 3), ("item", 4)]) (tt := tYes) rfl sc_is_formed.nd (RZ.pi_zipA rfl B.zip (pa_cons (pv 1) (pa_cons (pe_slice sl_tup (pv 2) (po_some pe_int) po_none) pa_nil))) (blkOk_by (N := ["counts", "kinds", "thing", "kind", "item"]) (sc := defScope s_is_formed) (by decide +kernel)) (fun _ _ _ _ _ => (show PG _ _ (gTup K 2 _) from pg_tup rfl (pgs_cons (pg_name (i := 3) sc_is_formed.nd rfl (Or.inl rfl)) (pgs_cons (pg_name (i := 4) sc_is_formed.nd rfl (Or.inl rfl)) pgs_nil)))) (fun _ _ _ _ _ => pts_nil) (fun _ _ _ _ _ => (pe_cal c_is_of_kind (hr.mono (by omega)) rfl (pa_cons (pv 0) (pa_cons (pv 3) (pa_cons (pv 4) pa_nil)))))) pa_nil))))), ?_⟩
    walk_at "st0"
    match o, ho with
    | none, ho =>
      subst ho
      refine iteT (iteT ?_)
      walk_at "st"
      exact q H (Same.refl H)
    | some ks, ⟨⟨t, ek, ht⟩, ⟨ds, ed⟩, few, hg⟩ =>
      subst ek ed
      refine iteF ?_
      walk_at "st"
      cases hd with
      | @tup b xs _ hs ha =>
      refine ⟨_, _, rfl, .inr hs, ?_⟩
      walk_at "st"
      refine ⟨_, _, rfl, .inr ht, ?_⟩
      walk_at "st"
      refine q_ne rfl ?_
      walk_at "st"
      have lx := ha.length
      have e1 : (!decide (V.int (xs.length : Int) = V.int (((ks.map V.str).length : Int) + 1))) = !decide (ds.length = ks.length + 1) := by
        congr 1
        rw [decide_eq_decide, V.int.injEq, List.length_map]
        omega
      rw [e1]
      by_cases hl : ds.length = ks.length + 1
      · rw [decide_eq_true hl]
        refine iteF ?_
        walk_at "st"
        refine ⟨_, rfl, .ref b, rfl, 1, rfl, b, xs, rfl, hs, ?_, fun p np => ?_⟩
        · rw [show HT.sIx xs.length 0 (some 1) = min 1 xs.length from HT.sIx_nat xs.length 0 1]
          omega
        rw [cut1]
        have s1 := same_new (o := .tup (xs.drop 1)) np
        have h1 : SqT K (upd H p (.tup (xs.drop 1))) t (ks.map V.str) := Same.sqT s1 ht
        have h2 : SqT K (upd H p (.tup (xs.drop 1))) p (xs.drop 1) := SqT.of upd_same
        refine ⟨t, p, ks.map V.str, xs.drop 1, rfl, .inr ⟨h1, h2, fun D nD => ?_⟩⟩
        have ha2 := ha.drop 1
        refine lc_val (n := ks.length) (walk_zipT (by rw [List.length_drop, List.length_map]; omega)) (fun i => .bl (kf c (ks.getD i default) ((ds.drop 1).getD i .none))) nD (by exact sz1000 (by omega)) (fun H2 s => ⟨Same.sqT s h1, Same.sqT s h2⟩) ypair_same ?_ ?_
        · rintro i x2 H2 H3 lt s2 ⟨T2, u, v, rfl, nT, rfl, e1, e2⟩ Q2 k2
          replace e1 : (ks.map V.str)[i]? = some u := e1
          replace e2 : (xs.drop 1)[i]? = some v := e2
          rw [List.getElem?_map, List.getElem?_eq_getElem lt] at e1
          cases e1
          obtain ⟨d2, f2, g2⟩ := ha2.get' e2
          have s3 := same_new (o := .tup [V.str ks[i], v]) nT
          refine ⟨T2, [.str ks[i], v], rfl, SqT.of upd_same, rfl, .str ks[i], [v], rfl, v, [], rfl, rfl, rfl, ?_⟩
          walk_at "st"
          refine ⟨a, c, ks[i], v, d2, rfl, s3 _ _ (s2 _ _ (s1 _ _ hc)), hg _ (List.getElem_mem lt), Dp.mono (s1.trans (s2.trans s3)) g2, fun H4 s4 => ?_⟩
          have z := k2 H4 s4
          simp only [List.getD_eq_getElem?_getD, f2, List.getElem?_eq_getElem lt, Option.getD_some] at z
          exact z
        · intro H2 s2 e
          refine ⟨_, (List.range ks.length).map fun i => kf c (ks.getD i default) ((ds.drop 1).getD i .none), rfl, SqL.of (by rw [e, List.map_map]; rfl), ?_⟩
          have z : (((List.range ks.length).map fun i => kf c (ks.getD i default) ((ds.drop 1).getD i .none)).all id) = dFormed (kf c) (some ks) (.tuple ds) := by
            simp only [dFormed, dKinds]
            rw [decide_eq_true hl, Bool.true_and, List.length_drop, show min ks.length (ds.length - 1) = ks.length by omega, List.all_map]
            rfl
          rw [z]
          exact q H2 (s1.trans s2)
      · rw [decide_eq_false hl]
        refine iteT ?_
        walk_at "st"
        have z := q H (Same.refl H)
        simp only [dFormed] at z
        rw [decide_eq_false hl] at z
        exact z
/-! kinds, without rights -/
def good1 (c : Cnt) (z : Str) : Prop := z ≠ "right" ∧ (z = "ticks" ∨ ∃ n, c.lookup z = some n)
def kf1 (c : Cnt) (z : Str) (d : PyData) : Bool := if z = "ticks" then dBetween d 1 2 else dBetween d 0 ((c.lookup z).getD 0 - 1)
theorem ok_is_of_kind1 (B : Bl mg) (d : DefAt K mg "is_of_kind" s_is_of_kind ["counts", "kind", "item"]) (c_is_between : Cal P w K mg base 2 "is_between" ["thing", "low", "high"] (spBetween K)) (c_is_index : Cal P w K mg base 3 "is_index" ["thing", "many"] (spIndex K)) :
    Cal P w K mg base 4 "is_of_kind" ["counts", "kind", "item"] (spKind K good1 kf1) := d.cal fun f fd F => by
  refine F.ok sc_is_of_kind (fun vs H Q E h => ?_) (fun cdv A outer s H vs Q E hr h => ?_)
  · obtain ⟨a, c, z, x, d, rfl, _⟩ := h; rfl
  · obtain ⟨a, c, z, x, d, rfl, hc, ⟨g1, g2⟩, hd, q⟩ := h
    have hu := hu_of hr
    refine ⟨_, (pss_cons (ps_if (pt_cmpR op_eq (pv 1) pe_str (nomark _)) (pss_one (ps_never)) pss_nil)
      (pss_cons (ps_if (pt_cmpR op_eq (pv 1) pe_str (nomark _)) (pss_one (ps_ret (pe_cal c_is_between (hr.mono (by omega)) rfl (pa_cons (pv 2) (pa_cons pe_int (pa_cons pe_int pa_nil)))))) pss_nil)
      (pss_one (ps_ret (pe_cal c_is_index (hr.mono (by omega)) rfl (pa_cons (pv 2) (pa_cons (pe_dget hu (pv 0) (pv 1) (fun _ _ => rfl)) pa_nil))))))), ?_⟩
    walk_at "st0"
    refine q_eq rfl ?_
    walk_at "st"
    have e1 : decide (V.str z = V.str "right") = false := decide_eq_false fun q => g1 (V.str.inj q)
    rw [e1]
    refine iteF ?_
    walk_at "st"
    refine q_eq rfl ?_
    walk_at "st"
    have z0 := q H (Same.refl H)
    by_cases e2 : z = "ticks"
    · rw [decide_eq_true (by rw [e2])]
      refine iteT ?_
      walk_at "st"
      refine ⟨x, d, 1, 2, rfl, hd, ?_⟩
      simpa [kf1, e2] using z0
    · rw [decide_eq_false (fun q => e2 (V.str.inj q))]
      refine iteF ?_
      obtain ⟨n, hn⟩ := g2.resolve_left e2
      walk_at "st"
      refine ⟨a, .int n, rfl, dgetC hc hn, ?_⟩
      walk_at "st"
      refine ⟨x, d, n, rfl, hd, ?_⟩
      simpa [kf1, e2, hn] using z0
/-- the words of rights -/
def rTab : List (Str × List Str) := [("read", ["page"]), ("write", ["page"]), ("send", ["port"]), ("take", ["port"]), ("lock", ["lock"]), ("hand", ["task"]), ("strip", ["task"]), ("seek", ["disk"])]
structure RForms (K : PySem.W.Frag) (w : World) (mg : Str → Option Value) (d : Addr) : Prop where
  g_forms : mg "RIGHT_FORMS" = some (.ref d)
  forms : FormsAt K w d rTab
def dRight (c : Cnt) (d : PyData) : Bool := dFormed (kf1 c) (rTab.lookup (dWord d)) d
def cntGood (c : Cnt) : Prop := ∃ t p q l d, c = cntOf t p q l d
theorem rTab_good {c : Cnt} (h : cntGood c) {z : Str} {ks : List Str} (e : rTab.lookup z = some ks) : ks.length ≤ 100 ∧ ∀ k ∈ ks, good1 c k := by
  obtain ⟨t, p, q, l, d, rfl⟩ := h
  have m : ks ∈ rTab.map (·.2) := List.mem_map_of_mem (f := (·.2)) (lookup_mem e)
  simp only [rTab, List.map_cons, List.map_nil, List.mem_cons, List.not_mem_nil, or_false] at m
  rcases m with m | m | m | m | m | m | m | m <;> subst m <;> exact ⟨by simp, fun k hk => by
    rw [List.mem_singleton] at hk; subst hk; exact ⟨by decide +kernel, .inr ⟨_, rfl⟩⟩⟩
def spRight (K : PySem.W.Frag) : Sp := fun vs H Q _ => ∃ (a : Addr) (c : Cnt) (x : V) (d : PyData), vs = [.ref a, x] ∧ H a = some (.dK (countKV c)) ∧ cntGood c ∧ Dp K H x d ∧ ∀ H', Same H H' → Q (.bl (dRight c d)) H'
theorem dWord_tup {d : PyData} {ks : List Str} (e : rTab.lookup (dWord d) = some ks) : ∃ ds, d = .tuple ds := by
  cases d with
  | tuple ds => exact ⟨ds, rfl⟩
  | _ =>
    have z : rTab.lookup ("" : Str) = none := by decide +kernel
    have e2 : rTab.lookup ("" : Str) = some ks := e
    rw [z] at e2; cases e2
theorem ok_is_right {dF : Addr} (B : Bl mg) (T : RForms K w mg dF) (d : DefAt K mg "is_right" s_is_right ["counts", "thing"]) (c_word_of : Cal P w K mg base 1 "word_of" ["thing"] (spWord K)) (c_is_formed : Cal P w K mg base 5 "is_formed" ["counts", "kinds", "thing"] (spFormed K good1 kf1)) :
    Cal P w K mg base 6 "is_right" ["counts", "thing"] (spRight K) := d.cal fun f fd F => by
  refine F.ok sc_is_right (fun vs H Q E h => ?_) (fun cdv A outer s H vs Q E hr h => ?_)
  · obtain ⟨a, c, x, d, rfl, _⟩ := h; rfl
  · obtain ⟨a, c, x, d, rfl, hc, cg, hd, q⟩ := h
    refine ⟨_, (pss_one (ps_ret (pe_cal c_is_formed (hr.mono (by omega)) rfl (pa_cons (pv 0) (pa_cons (pe_kget T.forms (pe_glob (v := .ref dF) rfl T.g_forms rfl) (pe_cal c_word_of (hr.mono (by omega)) rfl (pa_cons (pv 1) pa_nil)) ⟨rfl, rfl, rfl, rfl⟩) (pa_cons (pv 1) pa_nil)))))), ?_⟩
    walk_at "st0"
    refine ⟨rfl, ?_⟩
    walk_at "st"
    refine ⟨x, d, rfl, hd, dWord d, rfl, fun t ks e ht => ?_, fun e => ?_⟩
    · walk_at "st"
      obtain ⟨ds, ed⟩ := dWord_tup e
      refine ⟨a, c, _, some ks, x, d, rfl, hc, hd, ⟨⟨t, rfl, ht H⟩, ⟨ds, ed⟩, rTab_good cg e⟩, fun H2 s2 => ?_⟩
      have z := q H2 s2
      simp only [dRight, e] at z
      exact z
    · walk_at "st"
      refine ⟨a, c, _, none, x, d, rfl, hc, hd, rfl, fun H2 s2 => ?_⟩
      have z := q H2 s2
      simp only [dRight, e] at z
      exact z
end
end T



namespace T
section
variable {P : Program} {w : World} {K : PySem.W.Frag} {mg : Str → Option Value} {base : Heap}
def okNumbers (d : PyData) (most lo hi : Int) : Bool := dListOf d 0 most && (match d with | .list ds => ds.all fun e => dBetween e lo hi | _ => false)
def spNumbers (K : PySem.W.Frag) : Sp := fun vs H Q _ => ∃ (x : V) (d : PyData) (m lo hi : Int), vs = [x, .int m, .int lo, .int hi] ∧ Dp K H x d ∧ m ≤ 100 ∧ ∀ H', Same H H' → Q (.bl (okNumbers d m lo hi)) H'
theorem dListOf_list {d : PyData} {lo hi : Int} (h : dListOf d lo hi = true) : ∃ ds, d = .list ds ∧ lo ≤ ds.length ∧ (ds.length : Int) ≤ hi := by
  cases d with
  | list ds => simp [dListOf] at h; exact ⟨ds, rfl, h⟩
  | _ => simp [dListOf] at h
theorem ok_fit_as_numbers (B : Bl mg) (d : DefAt K mg "fit_as_numbers" s_fit_as_numbers ["numbers", "most", "low", "high"]) (c_is_list : Cal P w K mg base 1 "is_list" ["thing", "low", "high"] (spListOf K)) (c_is_between : Cal P w K mg base 2 "is_between" ["thing", "low", "high"] (spBetween K)) :
    Cal P w K mg base 3 "fit_as_numbers" ["numbers", "most", "low", "high"] (spNumbers K) := d.cal fun f fd F => by
  refine F.ok sc_fit_as_numbers (fun vs H Q E h => ?_) (fun cdv A outer s H vs Q E hr h => ?_)
  · obtain ⟨x, d, m, lo, hi, rfl, _⟩ := h; rfl
  · obtain ⟨x, d, m, lo, hi, rfl, hd, hm, q⟩ := h
    refine ⟨_, (pss_one (ps_ret (pe_and (pe_cal c_is_list (hr.mono (by omega)) rfl (pa_cons (pv 0) (pa_cons pe_int (pa_cons (pv 1) pa_nil)))) (pe_one (pe_callB (cr_all rfl) rfl B.all hb_all (pa_cons (pe_lc (own := [("number", 4)]) (tt := tYes) rfl sc_fit_as_numbers.nd (pi_list (pv 0)) (blkOk_by (N := ["numbers", "most", "low", "high", "number"]) (sc := defScope s_fit_as_numbers) (by decide +kernel)) (fun _ _ _ _ _ => (pg_name (i := 4) sc_fit_as_numbers.nd rfl (Or.inl rfl))) (fun _ _ _ _ _ => pts_nil) (fun _ _ _ _ _ => (pe_cal c_is_between (hr.mono (by omega)) rfl (pa_cons (pv 4) (pa_cons (pv 2) (pa_cons (pv 3) pa_nil)))))) pa_nil)))))), ?_⟩
    walk_at "st0"
    refine ⟨x, d, 0, m, rfl, hd, ?_⟩
    walk_at "st"
    refine q_if (fun hc => ?_) (fun hc => ?_)
    · obtain ⟨ds, rfl, h0, h1⟩ := dListOf_list hc
      cases hd with
      | @lst a xs _ hs ha =>
      walk_at "st"
      refine ⟨.ref a, rfl, a, rfl, ⟨xs, hs⟩, fun D nD => lc_test (fun e => dBetween e lo hi) hs ha (by omega) nD ?_ ?_⟩
      · intro x2 d2 H2 h2 _ s2 Q2 k2
        refine ⟨rfl, ?_⟩
        walk_at "st"
        exact ⟨x2, d2, lo, hi, rfl, h2, k2 _ (Same.refl _)⟩
      · intro H2 s2 e
        refine ⟨D, _, rfl, e, ?_⟩
        have z := q H2 s2
        simp only [okNumbers, hc, Bool.true_and] at z
        rw [all_map_id]; exact z
    · have z := q H (Same.refl H)
      simp only [okNumbers, hc, Bool.false_and] at z
      exact z
def okRow (c : Cnt) (d : PyData) : Bool := dListOf d 0 8 && (match d with | .list ds => ds.all (dRight c) && ascWI (ds.map fun e => match e with | .tuple [.str z, .int i] => (z, i) | _ => default) | _ => false)
theorem dRight_shape {c : Cnt} {d : PyData} (h : dRight c d = true) : ∃ z i, d = .tuple [.str z, .int i] := by
  unfold dRight dFormed at h
  cases e : rTab.lookup (dWord d) with
  | none => rw [e] at h; cases h
  | some ks =>
    obtain ⟨ds, rfl⟩ := dWord_tup e
    rw [e] at h
    have m := lookup_mem e
    have z0 : rTab.lookup ("" : Str) = none := by decide +kernel
    have hz : ∃ z es, ds = .str z :: es := by
      cases ds with
      | nil => exact nomatch z0.symm.trans e
      | cons a r => cases a with
        | str z => exact ⟨z, r, rfl⟩
        | _ => exact nomatch z0.symm.trans e
    obtain ⟨z, es, rfl⟩ := hz
    have k1 : ∃ kd, ks = [kd] ∧ kd ≠ "ticks" := by
      simp only [rTab, List.mem_cons, Prod.mk.injEq, List.not_mem_nil, or_false] at m
      rcases m with ⟨_, m⟩ | ⟨_, m⟩ | ⟨_, m⟩ | ⟨_, m⟩ | ⟨_, m⟩ | ⟨_, m⟩ | ⟨_, m⟩ | ⟨_, m⟩ <;> subst m <;> exact ⟨_, rfl, by decide +kernel⟩
    obtain ⟨kd, rfl, nt⟩ := k1
    simp only [Bool.and_eq_true, decide_eq_true_eq] at h
    obtain ⟨hl, hk⟩ := h
    match es, hl with
    | [x], _ =>
      simp [dKinds, kf1, nt] at hk
      cases x with
      | int i => exact ⟨z, i, rfl⟩
      | _ => simp [dBetween] at hk
theorem rows_rt {H : Hp} {c : Cnt} {xs : List V} {ds : List PyData} (ha : DpAll K H xs ds) (h : ds.all (dRight c) = true) :
    Paired (RtAt K H) xs (ds.map fun e => match e with | .tuple [.str z, .int i] => (z, i) | _ => default) := by
  induction ds generalizing xs with
  | nil => cases ha; exact .nil
  | cons d ds ih =>
    cases ha with
    | cons h1 h2 =>
      rw [List.all_cons, Bool.and_eq_true] at h
      obtain ⟨z, i, rfl⟩ := dRight_shape h.1
      refine .cons ?_ (ih h2 h.2)
      cases h1 with
      | @tup a ys _ hs hy => cases hy with
        | cons g1 g2 => cases g1; cases g2 with
          | cons g3 g4 => cases g3; cases g4; exact ⟨a, rfl, hs⟩
def spRow (K : PySem.W.Frag) (p : Cnt → PyData → Bool) : Sp := fun vs H Q _ => ∃ (a : Addr) (c : Cnt) (x : V) (d : PyData), vs = [.ref a, x] ∧ H a = some (.dK (countKV c)) ∧ cntGood c ∧ Dp K H x d ∧ ∀ H', Same H H' → Q (.bl (p c d)) H'
theorem ok_fit_as_row (B : Bl mg) (d : DefAt K mg "fit_as_row" s_fit_as_row ["counts", "row"]) (c_is_list : Cal P w K mg base 1 "is_list" ["thing", "low", "high"] (spListOf K)) (c_is_right : Cal P w K mg base 6 "is_right" ["counts", "thing"] (spRight K)) (c_is_ascending : Cal P w K mg base 1 "is_ascending" ["items"] (spAsc K)) :
    Cal P w K mg base 7 "fit_as_row" ["counts", "row"] (spRow K okRow) := d.cal fun f fd F => by
  refine F.ok sc_fit_as_row (fun vs H Q E h => ?_) (fun cdv A outer s H vs Q E hr h => ?_)
  · obtain ⟨a, c, x, d, rfl, _⟩ := h; rfl
  · obtain ⟨b, c, x, d, rfl, hc0, cg, hd, q⟩ := h
    refine ⟨_, (pss_one (ps_ret (pe_and (pe_cal c_is_list (hr.mono (by omega)) rfl (pa_cons (pv 1) (pa_cons pe_int (pa_cons pe_int pa_nil)))) (pe_and (pe_callB (cr_all rfl) rfl B.all hb_all (pa_cons (pe_lc (own := [("right", 2)]) (tt := tYes) rfl sc_fit_as_row.nd (pi_list (pv 1)) (blkOk_by (N := ["counts", "row", "right"]) (sc := defScope s_fit_as_row) (by decide +kernel)) (fun _ _ _ _ _ => (pg_name (i := 2) sc_fit_as_row.nd rfl (Or.inl rfl))) (fun _ _ _ _ _ => pts_nil) (fun _ _ _ _ _ => (pe_cal c_is_right (hr.mono (by omega)) rfl (pa_cons (pv 0) (pa_cons (pv 2) pa_nil))))) pa_nil)) (pe_one (pe_cal c_is_ascending (hr.mono (by omega)) rfl (pa_cons (pv 1) pa_nil))))))), ?_⟩
    walk_at "st0"
    refine ⟨x, d, 0, 8, rfl, hd, ?_⟩
    walk_at "st"
    refine q_if (fun hc => ?_) (fun hc => ?_)
    · obtain ⟨ds, rfl, h0, h1⟩ := dListOf_list hc
      cases hd with
      | @lst a xs _ hs ha =>
      walk_at "st"
      refine ⟨.ref a, rfl, a, rfl, ⟨xs, hs⟩, fun D nD => lc_test (dRight c) hs ha (by omega) nD ?_ ?_⟩
      · intro x2 d2 H2 h2 _ s2 Q2 k2
        refine ⟨rfl, ?_⟩
        walk_at "st"
        exact ⟨b, c, x2, d2, rfl, s2 _ _ hc0, cg, h2, fun H3 s3 => k2 _ s3⟩
      · intro H2 s2 e
        refine ⟨D, _, rfl, e, ?_⟩
        walk_at "st"
        rw [all_map_id]
        have z := q
        simp only [okRow, hc, Bool.true_and] at z
        refine q_if (fun hr2 => ?_) (fun hr2 => ?_)
        · walk_at "st"
          refine ⟨a, xs, _, rfl, s2.seq hs, rows_rt (L2.DpAll.mono s2 ha) hr2, by rw [List.length_map]; omega, fun H3 s3 => ?_⟩
          have z2 := z H3 (s2.trans s3)
          rw [hr2, Bool.true_and] at z2
          exact z2
        · have z2 := z H2 s2
          rw [hr2, Bool.false_and] at z2
          exact z2
    · have z := q H (Same.refl H)
      simp only [okRow, hc, Bool.false_and] at z
      exact z
def cnt (c : Cnt) (z : Str) : Int := (c.lookup z).getD 0
def okRights (c : Cnt) (d : PyData) : Bool := dListOf d (cnt c "task") (cnt c "task") && (match d with | .list ds => ds.all (okRow c) | _ => false)
theorem cnt_get {c : Cnt} (h : cntGood c) {z : Str} (hz : z ∈ (["task", "page", "port"] : List Str)) : c.lookup z = some (cnt c z) := by
  obtain ⟨t, p, q, l, d, rfl⟩ := h
  simp only [List.mem_cons, List.not_mem_nil, or_false] at hz
  rcases hz with rfl | rfl | rfl <;> rfl
def cntSmall (c : Cnt) : Prop := cntGood c ∧ cnt c "task" ≤ 100 ∧ cnt c "page" ≤ 100
def spPart (K : PySem.W.Frag) (p : Cnt → PyData → Bool) : Sp := fun vs H Q _ => ∃ (a : Addr) (c : Cnt) (x : V) (d : PyData), vs = [.ref a, x] ∧ H a = some (.dK (countKV c)) ∧ cntSmall c ∧ Dp K H x d ∧ ∀ H', Same H H' → Q (.bl (p c d)) H'
theorem ok_fit_as_rights (B : Bl mg) (d : DefAt K mg "fit_as_rights" s_fit_as_rights ["counts", "rights"]) (c_is_list : Cal P w K mg base 1 "is_list" ["thing", "low", "high"] (spListOf K)) (c_fit_as_row : Cal P w K mg base 7 "fit_as_row" ["counts", "row"] (spRow K okRow)) :
    Cal P w K mg base 8 "fit_as_rights" ["counts", "rights"] (spPart K okRights) := d.cal fun f fd F => by
  refine F.ok sc_fit_as_rights (fun vs H Q E h => ?_) (fun cdv A outer s H vs Q E hr h => ?_)
  · obtain ⟨a, c, x, d, rfl, _⟩ := h; rfl
  · obtain ⟨b, c, x, d, rfl, hc0, ⟨cg, c1, c2⟩, hd, q⟩ := h
    have hu := hu_of hr
    refine ⟨_, (pss_cons (ps_set (i := 2) sc_fit_as_rights.nd rfl (Or.inl rfl) (pe_dget hu (pv 0) pe_str (fun _ _ => rfl)))
      (pss_one (ps_ret (pe_and (pe_cal c_is_list (hr.mono (by omega)) rfl (pa_cons (pv 1) (pa_cons (pv 2) (pa_cons (pv 2) pa_nil)))) (pe_one (pe_callB (cr_all rfl) rfl B.all hb_all (pa_cons (pe_lc (own := [("row", 3)]) (tt := tYes) rfl sc_fit_as_rights.nd (pi_list (pv 1)) (blkOk_by (N := ["counts", "rights", "many", "row"]) (sc := defScope s_fit_as_rights) (by decide +kernel)) (fun _ _ _ _ _ => (pg_name (i := 3) sc_fit_as_rights.nd rfl (Or.inl rfl))) (fun _ _ _ _ _ => pts_nil) (fun _ _ _ _ _ => (pe_cal c_fit_as_row (hr.mono (by omega)) rfl (pa_cons (pv 0) (pa_cons (pv 3) pa_nil))))) pa_nil))))))), ?_⟩
    walk_at "st0"
    refine ⟨b, _, rfl, dgetC hc0 (cnt_get cg (by simp)), ?_⟩
    walk_at "st"
    refine ⟨x, d, _, _, rfl, hd, ?_⟩
    walk_at "st"
    refine q_if (fun hc => ?_) (fun hc => ?_)
    · obtain ⟨ds, rfl, h0, h1⟩ := dListOf_list hc
      cases hd with
      | @lst a xs _ hs ha =>
      walk_at "st"
      refine ⟨.ref a, rfl, a, rfl, ⟨xs, hs⟩, fun D nD => lc_test (okRow c) hs ha (by omega) nD ?_ ?_⟩
      · intro x2 d2 H2 h2 _ s2 Q2 k2
        refine ⟨rfl, ?_⟩
        walk_at "st"
        exact ⟨b, c, x2, d2, rfl, s2 _ _ hc0, cg, h2, fun H3 s3 => k2 _ s3⟩
      · intro H2 s2 e
        refine ⟨D, _, rfl, e, ?_⟩
        have z := q H2 s2
        simp only [okRights, hc, Bool.true_and] at z
        rw [all_map_id]; exact z
    · have z := q H (Same.refl H)
      simp only [okRights, hc, Bool.false_and] at z
      exact z
def okLine (d : PyData) : Bool := match d with | .none => true | _ => dBetween d 0 1
def okLines (c : Cnt) (d : PyData) : Bool := dListOf d (cnt c "page") (cnt c "page") && (match d with | .list ds => ds.all okLine | _ => false)
theorem ok_fit_as_lines (B : Bl mg) (d : DefAt K mg "fit_as_lines" s_fit_as_lines ["counts", "lines"]) (c_is_list : Cal P w K mg base 1 "is_list" ["thing", "low", "high"] (spListOf K)) (c_is_between : Cal P w K mg base 2 "is_between" ["thing", "low", "high"] (spBetween K)) :
    Cal P w K mg base 3 "fit_as_lines" ["counts", "lines"] (spPart K okLines) := d.cal fun f fd F => by
  refine F.ok sc_fit_as_lines (fun vs H Q E h => ?_) (fun cdv A outer s H vs Q E hr h => ?_)
  · obtain ⟨a, c, x, d, rfl, _⟩ := h; rfl
  · obtain ⟨b, c, x, d, rfl, hc0, ⟨cg, c1, c2⟩, hd, q⟩ := h
    have hu := hu_of hr
    refine ⟨_, (pss_cons (ps_set (i := 2) sc_fit_as_lines.nd rfl (Or.inl rfl) (pe_dget hu (pv 0) pe_str (fun _ _ => rfl)))
      (pss_one (ps_ret (pe_and (pe_cal c_is_list (hr.mono (by omega)) rfl (pa_cons (pv 1) (pa_cons (pv 2) (pa_cons (pv 2) pa_nil)))) (pe_one (pe_callB (cr_all rfl) rfl B.all hb_all (pa_cons (pe_lc (own := [("line", 3)]) (tt := tYes) rfl sc_fit_as_lines.nd (pi_list (pv 1)) (blkOk_by (N := ["counts", "lines", "many", "line"]) (sc := defScope s_fit_as_lines) (by decide +kernel)) (fun _ _ _ _ _ => (pg_name (i := 3) sc_fit_as_lines.nd rfl (Or.inl rfl))) (fun _ _ _ _ _ => pts_nil) (fun _ _ _ _ _ => (pe_or (pe_cmp (pc_isN (pv 3))) (pe_one (pe_cal c_is_between (hr.mono (by omega)) rfl (pa_cons (pv 3) (pa_cons pe_int (pa_cons pe_int pa_nil)))))))) pa_nil))))))), ?_⟩
    walk_at "st0"
    refine ⟨b, _, rfl, dgetC hc0 (cnt_get cg (by simp)), ?_⟩
    walk_at "st"
    refine ⟨x, d, _, _, rfl, hd, ?_⟩
    walk_at "st"
    refine q_if (fun hc => ?_) (fun hc => ?_)
    · obtain ⟨ds, rfl, h0, h1⟩ := dListOf_list hc
      cases hd with
      | @lst a xs _ hs ha =>
      walk_at "st"
      refine ⟨.ref a, rfl, a, rfl, ⟨xs, hs⟩, fun D nD => lc_test okLine hs ha (by omega) nD ?_ ?_⟩
      · intro x2 d2 H2 h2 _ s2 Q2 k2
        refine ⟨rfl, ?_⟩
        walk_at "st"
        have h3 := h2
        cases h2 with
        | non => exact iteT (k2 _ (Same.refl _))
        | _ =>
          refine iteF ?_
          walk_at "st"
          exact ⟨_, _, 0, 1, rfl, h3, k2 _ (Same.refl _)⟩
      · intro H2 s2 e
        refine ⟨D, _, rfl, e, ?_⟩
        have z := q H2 s2
        simp only [okLines, hc, Bool.true_and] at z
        rw [all_map_id]; exact z
    · have z := q H (Same.refl H)
      simp only [okLines, hc, Bool.false_and] at z
      exact z
end
end T



namespace T
section
variable {P : Program} {w : World} {K : PySem.W.Frag} {mg : Str → Option Value} {base : Heap}
theorem dTupleOf_tup {d : PyData} {n : Nat} (h : dTupleOf d n = true) : ∃ ds, d = .tuple ds ∧ ds.length = n := by
  cases d with
  | tuple ds => simp [dTupleOf] at h; exact ⟨ds, rfl, h⟩
  | _ => simp [dTupleOf] at h
def okCosts (d : PyData) : Bool := dTupleOf d 3 && (match d with | .tuple [a, b, c] => dBetween a 1 3 && (dBetween b 0 3 && dBetween c 0 2) | _ => false)
def spOk (K : PySem.W.Frag) (p : PyData → Bool) : Sp := fun vs H Q _ => ∃ (x : V) (d : PyData), vs = [x] ∧ Dp K H x d ∧ ∀ H', Same H H' → Q (.bl (p d)) H'
theorem ok_fit_as_costs (B : Bl mg) (d : DefAt K mg "fit_as_costs" s_fit_as_costs ["costs"]) (c_is_tuple : Cal P w K mg base 1 "is_tuple" ["thing", "many"] (spTupleOf K)) (c_is_between : Cal P w K mg base 2 "is_between" ["thing", "low", "high"] (spBetween K)) :
    Cal P w K mg base 3 "fit_as_costs" ["costs"] (spOk K okCosts) := d.cal fun f fd F => by
  refine F.ok sc_fit_as_costs (fun vs H Q E h => ?_) (fun cdv A outer s H vs Q E hr h => ?_)
  · obtain ⟨x, d, rfl, _⟩ := h; rfl
  · obtain ⟨x, d, rfl, hd, q⟩ := h
    have z := q H (Same.refl H)
    refine ⟨_, (pss_cons (ps_if (pt_not (pt_val (pe_cal c_is_tuple (hr.mono (by omega)) rfl (pa_cons (pv 0) (pa_cons pe_int pa_nil))))) (pss_one (ps_ret pe_bl)) pss_nil)
      (pss_one (ps_ret (pe_and (pe_cal c_is_between (hr.mono (by omega)) rfl (pa_cons (pe_ix ix_tup (pv 0) pe_int (fun _ _ => rfl)) (pa_cons pe_int (pa_cons pe_int pa_nil)))) (pe_and (pe_cal c_is_between (hr.mono (by omega)) rfl (pa_cons (pe_ix ix_tup (pv 0) pe_int (fun _ _ => rfl)) (pa_cons pe_int (pa_cons pe_int pa_nil)))) (pe_one (pe_cal c_is_between (hr.mono (by omega)) rfl (pa_cons (pe_ix ix_tup (pv 0) pe_int (fun _ _ => rfl)) (pa_cons pe_int (pa_cons pe_int pa_nil)))))))))), ?_⟩
    walk_at "st0"
    refine ⟨x, d, 3, rfl, hd, ?_⟩
    walk_at "st"
    cases hc : dTupleOf d 3 with
    | false =>
      refine iteT ?_
      walk_at "st"
      simp only [okCosts, hc, Bool.false_and] at z
      exact z
    | true =>
      refine iteF ?_
      obtain ⟨ds, rfl, l3⟩ := dTupleOf_tup hc
      simp only [okCosts, hc, Bool.true_and] at z
      match ds, l3, hd, z with
      | [a, b, c], _, hd, z =>
        cases hd with
        | @tup t xs _ hs ha =>
        cases ha with
        | @cons x0 r0 _ _ a0 ha => cases ha with
          | @cons x1 r1 _ _ a1 ha => cases ha with
            | @cons x2 r2 _ _ a2 ha =>
              cases ha
              walk_at "st"
              refine q_ixT hs (atI0 rfl) ?_
              walk_at "st"
              refine ⟨x0, a, 1, 3, rfl, a0, ?_⟩
              walk_at "st"
              refine q_if (fun h1 => ?_) (fun h1 => ?_)
              · walk_at "st"
                refine q_ixT hs (atI1 rfl) ?_
                walk_at "st"
                refine ⟨x1, b, 0, 3, rfl, a1, ?_⟩
                walk_at "st"
                refine q_if (fun h2 => ?_) (fun h2 => ?_)
                · walk_at "st"
                  refine q_ixT hs (atI_nat (j := 2) rfl) ?_
                  walk_at "st"
                  refine ⟨x2, c, 0, 2, rfl, a2, ?_⟩
                  simpa [h1, h2] using z
                · simpa [h1, h2] using z
              · simpa [h1] using z
def okSlot (c : Cnt) (d : PyData) : Bool := dTupleOf d 2 && (match d with | .tuple [a, b] => dBetween a 0 (cnt c "task" - 1) && dBetween b 1 12 | _ => false)
theorem ok_fits_as_slot (B : Bl mg) (d : DefAt K mg "fits_as_slot" s_fits_as_slot ["counts", "row"]) (c_is_tuple : Cal P w K mg base 1 "is_tuple" ["thing", "many"] (spTupleOf K)) (c_is_between : Cal P w K mg base 2 "is_between" ["thing", "low", "high"] (spBetween K)) (c_is_index : Cal P w K mg base 3 "is_index" ["thing", "many"] (spIndex K)) :
    Cal P w K mg base 4 "fits_as_slot" ["counts", "row"] (spPart K okSlot) := d.cal fun f fd F => by
  refine F.ok sc_fits_as_slot (fun vs H Q E h => ?_) (fun cdv A outer s H vs Q E hr h => ?_)
  · obtain ⟨a, c, x, d, rfl, _⟩ := h; rfl
  · obtain ⟨b, c, x, d, rfl, hc0, ⟨cg, c1, c2⟩, hd, q⟩ := h
    have hu := hu_of hr
    have z := q H (Same.refl H)
    refine ⟨_, (pss_one (ps_ret (pe_and (pe_cal c_is_tuple (hr.mono (by omega)) rfl (pa_cons (pv 1) (pa_cons pe_int pa_nil))) (pe_and (pe_cal c_is_index (hr.mono (by omega)) rfl (pa_cons (pe_ix ix_tup (pv 1) pe_int (fun _ _ => rfl)) (pa_cons (pe_dget hu (pv 0) pe_str (fun _ _ => rfl)) pa_nil))) (pe_one (pe_cal c_is_between (hr.mono (by omega)) rfl (pa_cons (pe_ix ix_tup (pv 1) pe_int (fun _ _ => rfl)) (pa_cons pe_int (pa_cons pe_int pa_nil))))))))), ?_⟩
    walk_at "st0"
    refine ⟨x, d, 2, rfl, hd, ?_⟩
    walk_at "st"
    cases hc : dTupleOf d 2 with
    | false =>
      refine iteF ?_
      simp only [okSlot, hc, Bool.false_and] at z
      exact z
    | true =>
      refine iteT ?_
      obtain ⟨ds, rfl, l3⟩ := dTupleOf_tup hc
      simp only [okSlot, hc, Bool.true_and] at z
      match ds, l3, hd, z with
      | [e0, e1], _, hd, z =>
        cases hd with
        | @tup t xs _ hs ha =>
        cases ha with
        | @cons x0 r0 _ _ a0 ha => cases ha with
          | @cons x1 r1 _ _ a1 ha =>
            cases ha
            walk_at "st"
            refine q_ixT hs (atI0 rfl) ?_
            walk_at "st"
            refine ⟨b, _, rfl, dgetC hc0 (cnt_get cg (by simp)), ?_⟩
            walk_at "st"
            refine ⟨x0, e0, _, rfl, a0, ?_⟩
            walk_at "st"
            refine q_if (fun h1 => ?_) (fun h1 => ?_)
            · walk_at "st"
              refine q_ixT hs (atI1 rfl) ?_
              walk_at "st"
              refine ⟨x1, e1, 1, 12, rfl, a1, ?_⟩
              simpa [h1] using z
            · simpa [h1] using z
def okOut2 (c : Cnt) (d : PyData) : Bool := dTupleOf d 2 && (match d with | .tuple [a, b] => dBetween a 0 (cnt c "port" - 1) && dBetween b 1 4 | _ => false)
def okOutside (c : Cnt) (d : PyData) : Bool := match d with | .none => true | _ => okOut2 c d
theorem ok_fits_as_outside (B : Bl mg) (d : DefAt K mg "fits_as_outside" s_fits_as_outside ["counts", "outside"]) (c_is_tuple : Cal P w K mg base 1 "is_tuple" ["thing", "many"] (spTupleOf K)) (c_is_between : Cal P w K mg base 2 "is_between" ["thing", "low", "high"] (spBetween K)) (c_is_index : Cal P w K mg base 3 "is_index" ["thing", "many"] (spIndex K)) :
    Cal P w K mg base 4 "fits_as_outside" ["counts", "outside"] (spPart K okOutside) := d.cal fun f fd F => by
  refine F.ok sc_fits_as_outside (fun vs H Q E h => ?_) (fun cdv A outer s H vs Q E hr h => ?_)
  · obtain ⟨a, c, x, d, rfl, _⟩ := h; rfl
  · obtain ⟨b, c, x, d, rfl, hc0, ⟨cg, c1, c2⟩, hd, q⟩ := h
    have hu := hu_of hr
    have z := q H (Same.refl H)
    refine ⟨_, (pss_cons (ps_if (pt_cmp (pc_isN (pv 1))) (pss_one (ps_ret pe_bl)) pss_nil)
      (pss_one (ps_ret (pe_and (pe_cal c_is_tuple (hr.mono (by omega)) rfl (pa_cons (pv 1) (pa_cons pe_int pa_nil))) (pe_and (pe_cal c_is_index (hr.mono (by omega)) rfl (pa_cons (pe_ix ix_tup (pv 1) pe_int (fun _ _ => rfl)) (pa_cons (pe_dget hu (pv 0) pe_str (fun _ _ => rfl)) pa_nil))) (pe_one (pe_cal c_is_between (hr.mono (by omega)) rfl (pa_cons (pe_ix ix_tup (pv 1) pe_int (fun _ _ => rfl)) (pa_cons pe_int (pa_cons pe_int pa_nil)))))))))), ?_⟩
    walk_at "st0"
    by_cases hn : x = .non
    · subst hn
      cases hd
      refine iteT ?_
      walk_at "st"
      exact z
    · have zz : okOutside c d = okOut2 c d := by
        cases hd with
        | non => exact absurd rfl hn
        | _ => rfl
      rw [zz] at z
      clear zz q
      rw [decide_eq_false hn]
      refine iteF ?_
      walk_at "st"
      refine ⟨x, d, 2, rfl, hd, ?_⟩
      walk_at "st"
      cases hc : dTupleOf d 2 with
      | false =>
        refine iteF ?_
        simp only [okOut2, hc, Bool.false_and] at z
        exact z
      | true =>
        refine iteT ?_
        obtain ⟨ds, rfl, l3⟩ := dTupleOf_tup hc
        simp only [okOut2, hc, Bool.true_and] at z
        match ds, l3, hd, z with
        | [e0, e1], _, hd, z =>
          cases hd with
          | @tup t xs _ hs ha =>
          cases ha with
          | @cons x0 r0 _ _ a0 ha => cases ha with
            | @cons x1 r1 _ _ a1 ha =>
              cases ha
              walk_at "st"
              refine q_ixT hs (atI0 rfl) ?_
              walk_at "st"
              refine ⟨b, _, rfl, dgetC hc0 (cnt_get cg (by simp)), ?_⟩
              walk_at "st"
              refine ⟨x0, e0, _, rfl, a0, ?_⟩
              walk_at "st"
              refine q_if (fun h1 => ?_) (fun h1 => ?_)
              · walk_at "st"
                refine q_ixT hs (atI1 rfl) ?_
                walk_at "st"
                refine ⟨x1, e1, 1, 4, rfl, a1, ?_⟩
                simpa [h1] using z
              · simpa [h1] using z
end
end T



namespace T
section
variable {P : Program} {w : World} {K : PySem.W.Frag} {mg : Str → Option Value} {base : Heap}
def okSlots (c : Cnt) (d : PyData) : Bool := dListOf d 1 4 && (match d with | .list rs => rs.all (okSlot c) | _ => false)
def okPlan (c : Cnt) (d : PyData) : Bool := dTupleOf d 2 && (match d with | .tuple [.str z, e] => if z = "levels" then dBetween e 1 8 else decide (z = "slots") && okSlots c e | _ => false)
def strHead (d : PyData) : Prop := ∀ e0 e1, d = .tuple [e0, e1] → ∃ z, e0 = .str z
def spPlan (K : PySem.W.Frag) : Sp := fun vs H Q _ => ∃ (a : Addr) (c : Cnt) (x : V) (d : PyData), vs = [.ref a, x] ∧ H a = some (.dK (countKV c)) ∧ cntSmall c ∧ Dp K H x d ∧ strHead d ∧ ∀ H', Same H H' → Q (.bl (okPlan c d)) H'
theorem ok_fit_as_plan (B : Bl mg) (d : DefAt K mg "fit_as_plan" s_fit_as_plan ["counts", "plan"]) (c_is_tuple : Cal P w K mg base 1 "is_tuple" ["thing", "many"] (spTupleOf K)) (c_is_between : Cal P w K mg base 2 "is_between" ["thing", "low", "high"] (spBetween K))
    (c_is_list : Cal P w K mg base 1 "is_list" ["thing", "low", "high"] (spListOf K)) (c_fits_as_slot : Cal P w K mg base 4 "fits_as_slot" ["counts", "row"] (spPart K okSlot)) : Cal P w K mg base 5 "fit_as_plan" ["counts", "plan"] (spPlan K) := d.cal fun f fd F => by
  refine F.ok sc_fit_as_plan (fun vs H Q E h => ?_) (fun cdv A outer s H vs Q E hr h => ?_)
  · obtain ⟨a, c, x, d, rfl, _⟩ := h; rfl
  · obtain ⟨b, c, x, d, rfl, hc0, cs, hd, hz, q⟩ := h
    refine ⟨_, (pss_cons (ps_if (pt_not (pt_val (pe_cal c_is_tuple (hr.mono (by omega)) rfl (pa_cons (pv 1) (pa_cons pe_int pa_nil))))) (pss_one (ps_ret pe_bl)) pss_nil)
      (pss_cons (ps_if (pt_cmpR op_eq (pe_ix ix_tup (pv 1) pe_int (fun _ _ => rfl)) pe_str (nomark _)) (pss_one (ps_ret (pe_cal c_is_between (hr.mono (by omega)) rfl (pa_cons (pe_ix ix_tup (pv 1) pe_int (fun _ _ => rfl)) (pa_cons pe_int (pa_cons pe_int pa_nil)))))) pss_nil)
      (pss_one (ps_ret (pe_and (pe_cmpR op_eq (pe_ix ix_tup (pv 1) pe_int (fun _ _ => rfl)) pe_str (nomark _)) (pe_and (pe_cal c_is_list (hr.mono (by omega)) rfl (pa_cons (pe_ix ix_tup (pv 1) pe_int (fun _ _ => rfl)) (pa_cons pe_int (pa_cons pe_int pa_nil)))) (pe_one (pe_callB (cr_all rfl) rfl B.all hb_all (pa_cons (pe_lc (own := [("row", 2)]) (tt := tYes) rfl sc_fit_as_plan.nd (pi_list (pe_ix ix_tup (pv 1) pe_int (fun _ _ => rfl))) (blkOk_by (N := ["counts", "plan", "row"]) (sc := defScope s_fit_as_plan) (by decide +kernel)) (fun _ _ _ _ _ => (pg_name (i := 2) sc_fit_as_plan.nd rfl (Or.inl rfl))) (fun _ _ _ _ _ => pts_nil) (fun _ _ _ _ _ => (pe_cal c_fits_as_slot (hr.mono (by omega)) rfl (pa_cons (pv 0) (pa_cons (pv 2) pa_nil))))) pa_nil))))))))), ?_⟩
    walk_at "st0"
    refine ⟨x, d, 2, rfl, hd, ?_⟩
    walk_at "st"
    cases hc : dTupleOf d 2 with
    | false =>
      refine iteT ?_
      walk_at "st"
      have z := q H (Same.refl H)
      simp only [okPlan, hc, Bool.false_and] at z
      exact z
    | true =>
      refine iteF ?_
      obtain ⟨ds, rfl, l2⟩ := dTupleOf_tup hc
      simp only [okPlan, hc, Bool.true_and] at q
      match ds, l2, hd, hz, q with
      | [e0, e1], _, hd, hz, q =>
        obtain ⟨z, rfl⟩ := hz e0 e1 rfl
        cases hd with
        | @tup t xs _ hs ha =>
        cases ha with
        | @cons x0 r0 _ _ a0 ha => cases ha with
          | @cons x1 r1 _ _ a1 ha =>
            cases ha
            cases a0
            walk_at "st"
            refine q_ixT hs (atI0 rfl) ?_
            walk_at "st"
            refine q_eq rfl ?_
            walk_at "st"
            by_cases h1 : z = "levels"
            · subst h1
              rw [decide_eq_true rfl]
              refine iteT ?_
              walk_at "st"
              refine q_ixT hs (atI1 rfl) ?_
              walk_at "st"
              refine ⟨x1, e1, 1, 8, rfl, a1, ?_⟩
              have z0 := q H (Same.refl H)
              simpa using z0
            · rw [decide_eq_false (fun q => h1 (V.str.inj q))]
              refine iteF ?_
              walk_at "st"
              refine q_ixT hs (atI0 rfl) ?_
              walk_at "st"
              refine q_eq rfl ?_
              walk_at "st"
              simp only [if_neg h1] at q
              by_cases h2 : z = "slots"
              · subst h2
                rw [decide_eq_true rfl]
                refine iteT ?_
                walk_at "st"
                refine q_ixT hs (atI1 rfl) ?_
                walk_at "st"
                refine ⟨x1, e1, 1, 4, rfl, a1, ?_⟩
                walk_at "st"
                simp only [decide_true, Bool.true_and] at q
                refine q_if (fun hl => ?_) (fun hl => ?_)
                · obtain ⟨rs, rfl, g0, g1⟩ := dListOf_list hl
                  have a2 := a1
                  cases a1 with
                  | @lst a ys _ hy hb =>
                  walk_at "st"
                  refine ⟨.ref t, rfl, ?_⟩
                  walk_at "st"
                  refine q_ixT hs (atI1 rfl) ?_
                  refine ⟨a, rfl, ⟨ys, hy⟩, fun D nD => lc_test (okSlot c) hy hb (by omega) nD ?_ ?_⟩
                  · intro x2 d2 H2 h2 _ s2 Q2 k2
                    refine ⟨rfl, ?_⟩
                    walk_at "st"
                    exact ⟨b, c, x2, d2, rfl, s2 _ _ hc0, cs, h2, fun H3 s3 => k2 _ s3⟩
                  · intro H2 s2 e
                    refine ⟨D, _, rfl, e, ?_⟩
                    have z0 := q H2 s2
                    simp only [okSlots, hl, Bool.true_and] at z0
                    rw [all_map_id]; exact z0
                · have z0 := q H (Same.refl H)
                  simp only [okSlots, hl, Bool.false_and] at z0
                  exact z0
              · rw [decide_eq_false (fun q => h2 (V.str.inj q))]
                refine iteF ?_
                have z0 := q H (Same.refl H)
                rw [decide_eq_false h2, Bool.false_and] at z0
                exact z0
def okTask (d : PyData) : Bool := dTupleOf d 2 && (match d with | .tuple [a, b] => dBetween a 0 3 && dBetween b 0 2 | _ => false)
def sideD (d : PyData) : Int := match d with | .tuple [.int s, _] => s | _ => 0
def okTasks (d : PyData) : Bool := dListOf d 2 4 && (match d with | .list ds => ds.all okTask && decide (1 < distinct (ds.map sideD)) | _ => false)
theorem okTask_shape {d : PyData} (h : okTask d = true) : ∃ s l, d = .tuple [.int s, .int l] ∧ 0 ≤ s ∧ s ≤ 3 ∧ 0 ≤ l ∧ l ≤ 2 := by
  unfold okTask at h
  rw [Bool.and_eq_true] at h
  obtain ⟨h1, h2⟩ := h
  obtain ⟨ds, rfl, l2⟩ := dTupleOf_tup h1
  match ds, l2, h2 with
  | [a, b], _, h2 =>
    rw [Bool.and_eq_true] at h2
    obtain ⟨h2, h3⟩ := h2
    cases a with
    | int s => cases b with
      | int l => simp [dBetween] at h2 h3; exact ⟨s, l, rfl, h2.1, h2.2, h3.1, h3.2⟩
      | _ => simp [dBetween] at h3
    | _ => simp [dBetween] at h2
theorem ok_fit_as_tasks (B : Bl mg) (d : DefAt K mg "fit_as_tasks" s_fit_as_tasks ["tasks"]) (c_is_list : Cal P w K mg base 1 "is_list" ["thing", "low", "high"] (spListOf K)) (c_is_tuple : Cal P w K mg base 1 "is_tuple" ["thing", "many"] (spTupleOf K)) (c_is_between : Cal P w K mg base 2 "is_between" ["thing", "low", "high"] (spBetween K)) :
    Cal P w K mg base 3 "fit_as_tasks" ["tasks"] (spOk K okTasks) := d.cal fun f fd F => by
  refine F.ok sc_fit_as_tasks (fun vs H Q E h => ?_) (fun cdv A outer s H vs Q E hr h => ?_)
  · obtain ⟨x, d, rfl, _⟩ := h; rfl
  · obtain ⟨x, d, rfl, hd, q⟩ := h
    refine ⟨_, (pss_cons (ps_if (pt_not (pt_val (pe_cal c_is_list (hr.mono (by omega)) rfl (pa_cons (pv 0) (pa_cons pe_int (pa_cons pe_int pa_nil)))))) (pss_one (ps_ret pe_bl)) pss_nil)
      (pss_cons (ps_for PassesOwn.never rfl (pi_list (pv 0)) (pg_name (i := 1) sc_fit_as_tasks.nd rfl (Or.inl rfl)) (pss_one (ps_if (pt_not (PW.pt (pw_and (pt_val (pe_cal c_is_tuple (hr.mono (by omega)) rfl (pa_cons (pv 1) (pa_cons pe_int pa_nil)))) (pw_and (pt_val (pe_cal c_is_between (hr.mono (by omega)) rfl (pa_cons (pe_ix ix_tup (pv 1) pe_int (fun _ _ => rfl)) (pa_cons pe_int (pa_cons pe_int pa_nil))))) (pw_and1 (pt_val (pe_cal c_is_between (hr.mono (by omega)) rfl (pa_cons (pe_ix ix_tup (pv 1) pe_int (fun _ _ => rfl)) (pa_cons pe_int (pa_cons pe_int pa_nil)))))))))) (pss_one (ps_ret pe_bl)) pss_nil)))
      (pss_one (ps_ret (pe_cmpR op_gt (pe_lenSetD rfl rfl B.len rfl B.set_ (pe_lc (own := [("side", 2), ("level", 3)]) (tt := tYes) rfl sc_fit_as_tasks.nd (pi_list (pv 0)) (blkOk_by (N := ["tasks", "task", "side", "level"]) (sc := defScope s_fit_as_tasks) (by decide +kernel)) (fun _ _ _ _ _ => (show PG _ _ (gTup K 2 _) from pg_tup rfl (pgs_cons (pg_name (i := 2) sc_fit_as_tasks.nd rfl (Or.inl rfl)) (pgs_cons (pg_name (i := 3) sc_fit_as_tasks.nd rfl (Or.inl rfl)) pgs_nil)))) (fun _ _ _ _ _ => pts_nil) (fun _ _ _ _ _ => (pv 2)))) pe_int (nomark _)))))), ?_⟩
    walk_at "st0"
    refine ⟨x, d, 2, 4, rfl, hd, ?_⟩
    walk_at "st"
    cases hc : dListOf d 2 4 with
    | false =>
      refine iteT ?_
      walk_at "st"
      have z := q H (Same.refl H)
      simp only [okTasks, hc, Bool.false_and] at z
      exact z
    | true =>
      refine iteF ?_
      obtain ⟨ds, rfl, h0, h1⟩ := dListOf_list hc
      simp only [okTasks, hc, Bool.true_and] at q
      cases hd with
      | @lst a xs _ hs ha =>
      have lx := ha.length
      walk_at "st"
      refine q_forV xs (fun i σ H2 => (∃ v, σ = [some (.ref a), v, none, none]) ∧ H2 = H ∧ ∀ j, j < i → okTask (ds.getD j .none) = true) rfl hs ⟨⟨none, rfl⟩, rfl, fun j h => by omega⟩ (fun i σ H2 _ h => by rw [h.2.1]; exact hs) ?_ ?_
      · rintro i x2 σ H2 hx ⟨⟨v, rfl⟩, rfl, hall⟩
        obtain ⟨d2, e2, h2⟩ := ha.get' hx
        have lt : i < ds.length := (List.getElem?_eq_some_iff.mp e2).1
        have fin : okTask d2 = true → (fun (σ : L2.St) (H2 : Hp) => (∃ v, σ = [some (.ref a), v, none, none]) ∧ H2 = H2 ∧ ∀ j, j < i + 1 → okTask (ds.getD j .none) = true) [some (.ref a), some x2, none, none] H2 := fun hh => ⟨⟨_, rfl⟩, rfl, fun j hj => by
          rcases Nat.lt_succ_iff_lt_or_eq.mp hj with z | z
          · exact hall j z
          · subst z; rw [List.getD_eq_getElem?_getD, e2]; exact hh⟩
        have bad : okTask d2 = false → Q (.bl false) H2 := fun hh => by
          have z := q H2 (Same.refl H2)
          have e : ds.all okTask = false := by
            rw [Bool.eq_false_iff]
            intro hh2
            rw [List.all_eq_true] at hh2
            exact absurd (hh2 d2 (List.mem_of_getElem? e2)) (by rw [hh]; simp)
          rw [e, Bool.false_and] at z
          exact z
        show tIfS _ _ _ _ _ _
        walk_at "st"
        refine ⟨x2, d2, 2, rfl, h2, ?_⟩
        walk_at "st"
        cases hc2 : dTupleOf d2 2 with
        | false =>
          refine iteF (iteT ?_)
          walk_at "st"
          exact bad (by unfold okTask; rw [hc2]; rfl)
        | true =>
          obtain ⟨es, rfl, l2⟩ := dTupleOf_tup hc2
          match es, l2, h2, fin, bad with
          | [p, r], _, h2, fin, bad =>
            cases h2 with
            | @tup t ys _ ht hb =>
            cases hb with
            | @cons x0 r0 _ _ a0 hb => cases hb with
              | @cons x1 r1 _ _ a1 hb =>
                cases hb
                refine iteT ?_
                walk_at "st"
                refine q_ixT ht (atI0 rfl) ?_
                walk_at "st"
                refine ⟨x0, p, 0, 3, rfl, a0, ?_⟩
                walk_at "st"
                refine q_if (fun h1 => ?_) (fun h1 => ?_)
                · walk_at "st"
                  refine q_ixT ht (atI1 rfl) ?_
                  walk_at "st"
                  refine ⟨x1, r, 0, 2, rfl, a1, ?_⟩
                  walk_at "st"
                  cases h2 : dBetween r 0 2 with
                  | false =>
                    refine iteT ?_
                    walk_at "st"
                    exact bad (by simp [okTask, dTupleOf, h1, h2])
                  | true =>
                    refine iteF ?_
                    walk_at "st"
                    exact fin (by simp [okTask, dTupleOf, h1, h2])
                · refine iteT ?_
                  walk_at "st"
                  exact bad (by simp [okTask, dTupleOf, h1])
      · rintro σ H2 ⟨⟨v, rfl⟩, rfl, hall⟩
        have e0 : ds.all okTask = true := by
          rw [List.all_eq_true]
          intro d2 hm
          obtain ⟨j, hj⟩ := List.getElem?_of_mem hm
          have z := hall j (by rw [lx]; exact (List.getElem?_eq_some_iff.mp hj).1)
          rwa [List.getD_eq_getElem?_getD, hj] at z
        rw [e0, Bool.true_and] at q
        walk_at "st"
        refine ⟨.ref a, rfl, a, rfl, ⟨xs, hs⟩, fun D nD => lc_map (fun d => V.int (sideD d)) hs ha (by omega) nD ?_ ?_⟩
        · intro x2 d2 H3 h2 hm s2 Q2 k2
          obtain ⟨sd, l, rfl, _⟩ := okTask_shape (List.all_eq_true.mp e0 d2 hm)
          cases h2 with
          | @tup t ys _ ht hb =>
          cases hb with
          | @cons x0 r0 _ _ a0 hb => cases hb with
            | @cons x1 r1 _ _ a1 hb =>
              cases hb
              cases a0
              refine ⟨t, _, rfl, ht, rfl, _, _, rfl, _, _, rfl, rfl, rfl, ?_⟩
              walk_at "st"
              exact k2 _ (Same.refl _)
        · intro H3 s3 e3
          refine ⟨D, ds.map sideD, rfl, SqL.of (by rw [e3, List.map_map]; rfl), by rw [List.length_map]; omega, ?_⟩
          walk_at "st"
          have z := q H3 s3
          have e4 : decide ((1 : Int) < (distinct (ds.map sideD) : Int)) = decide (1 < distinct (ds.map sideD)) := decide_eq_decide.mpr (by omega)
          rw [e4]; exact z
end
end T



namespace T
section
variable {P : Program} {w : World} {K : PySem.W.Frag} {mg : Str → Option Value} {base : Heap}
def okDisk (d : PyData) : Bool := dBetween d 0 4 && (match d with | .int i => !decide (i = 1) | _ => false)
def thingsV (d1 d2 d3 d4 d5 d6 : PyData) : V :=
  if okTasks d1 = false then .str "tasks" else if okNumbers d2 3 0 1 = false then .str "pages" else if okNumbers d3 2 1 2 = false then .str "ports" else
  if dBetween d4 0 2 = false then .str "locks" else if dBetween d5 0 3 = false then .str "frames" else if okDisk d6 = false then .str "disk" else .non
def spThings (K : PySem.W.Frag) : Sp := fun vs H Q _ => ∃ (x1 x2 x3 x4 x5 x6 : V) (d1 d2 d3 d4 d5 d6 : PyData), vs = [x1, x2, x3, x4, x5, x6] ∧ Dp K H x1 d1 ∧ Dp K H x2 d2 ∧ Dp K H x3 d3 ∧ Dp K H x4 d4 ∧ Dp K H x5 d5 ∧ Dp K H x6 d6 ∧ ∀ H', Same H H' → Q (thingsV d1 d2 d3 d4 d5 d6) H'
theorem ok_things_fault (B : Bl mg) (d : DefAt K mg "things_fault" s_things_fault ["tasks", "pages", "ports", "locks", "frames", "disk"]) (c_fit_as_tasks : Cal P w K mg base 3 "fit_as_tasks" ["tasks"] (spOk K okTasks)) (c_fit_as_numbers : Cal P w K mg base 3 "fit_as_numbers" ["numbers", "most", "low", "high"] (spNumbers K))
    (c_is_between : Cal P w K mg base 2 "is_between" ["thing", "low", "high"] (spBetween K)) : Cal P w K mg base 4 "things_fault" ["tasks", "pages", "ports", "locks", "frames", "disk"] (spThings K) := d.cal fun f fd F => by
  refine F.ok sc_things_fault (fun vs H Q E h => ?_) (fun cdv A outer s H vs Q E hr h => ?_)
  · obtain ⟨x1, x2, x3, x4, x5, x6, d1, d2, d3, d4, d5, d6, rfl, _⟩ := h; rfl
  · obtain ⟨x1, x2, x3, x4, x5, x6, d1, d2, d3, d4, d5, d6, rfl, h1, h2, h3, h4, h5, h6, q⟩ := h
    refine ⟨_, (pss_cons (ps_if (pt_not (pt_val (pe_cal c_fit_as_tasks (hr.mono (by omega)) rfl (pa_cons (pv 0) pa_nil)))) (pss_one (ps_ret pe_str)) pss_nil)
      (pss_cons (ps_if (pt_not (pt_val (pe_cal c_fit_as_numbers (hr.mono (by omega)) rfl (pa_cons (pv 1) (pa_cons pe_int (pa_cons pe_int (pa_cons pe_int pa_nil))))))) (pss_one (ps_ret pe_str)) pss_nil)
      (pss_cons (ps_if (pt_not (pt_val (pe_cal c_fit_as_numbers (hr.mono (by omega)) rfl (pa_cons (pv 2) (pa_cons pe_int (pa_cons pe_int (pa_cons pe_int pa_nil))))))) (pss_one (ps_ret pe_str)) pss_nil)
      (pss_cons (ps_if (pt_not (pt_val (pe_cal c_is_between (hr.mono (by omega)) rfl (pa_cons (pv 3) (pa_cons pe_int (pa_cons pe_int pa_nil)))))) (pss_one (ps_ret pe_str)) pss_nil)
      (pss_cons (ps_if (pt_not (pt_val (pe_cal c_is_between (hr.mono (by omega)) rfl (pa_cons (pv 4) (pa_cons pe_int (pa_cons pe_int pa_nil)))))) (pss_one (ps_ret pe_str)) pss_nil)
      (pss_cons (ps_if (pt_not (PW.pt (pw_and (pt_val (pe_cal c_is_between (hr.mono (by omega)) rfl (pa_cons (pv 5) (pa_cons pe_int (pa_cons pe_int pa_nil))))) (pw_and1 (pt_cmpR op_ne (pv 5) pe_int (nomark _)))))) (pss_one (ps_ret pe_str)) pss_nil)
      (pss_one (ps_ret pe_non)))))))), ?_⟩
    walk_at "st0"
    refine ⟨x1, d1, rfl, h1, fun H1 s1 => ?_⟩
    walk_at "st"
    unfold thingsV at q
    cases e1 : okTasks d1 with
    | false =>
      refine iteT ?_
      walk_at "st"
      rw [e1] at q; exact q H1 s1
    | true =>
    refine iteF ?_
    rw [e1, if_neg (by simp)] at q
    walk_at "st"
    refine ⟨x2, d2, 3, 0, 1, rfl, L2.Dp.mono s1 h2, by omega, fun H2 s2 => ?_⟩
    have t2 := s1.trans s2
    walk_at "st"
    cases e2 : okNumbers d2 3 0 1 with
    | false =>
      refine iteT ?_
      walk_at "st"
      rw [e2] at q; exact q H2 t2
    | true =>
    refine iteF ?_
    rw [e2, if_neg (by simp)] at q
    walk_at "st"
    refine ⟨x3, d3, 2, 1, 2, rfl, L2.Dp.mono t2 h3, by omega, fun H3 s3 => ?_⟩
    have t3 := t2.trans s3
    walk_at "st"
    cases e3 : okNumbers d3 2 1 2 with
    | false =>
      refine iteT ?_
      walk_at "st"
      rw [e3] at q; exact q H3 t3
    | true =>
    refine iteF ?_
    rw [e3, if_neg (by simp)] at q
    walk_at "st"
    refine ⟨x4, d4, 0, 2, rfl, L2.Dp.mono t3 h4, ?_⟩
    walk_at "st"
    cases e4 : dBetween d4 0 2 with
    | false =>
      refine iteT ?_
      walk_at "st"
      rw [e4] at q; exact q H3 t3
    | true =>
    refine iteF ?_
    rw [e4, if_neg (by simp)] at q
    walk_at "st"
    refine ⟨x5, d5, 0, 3, rfl, L2.Dp.mono t3 h5, ?_⟩
    walk_at "st"
    cases e5 : dBetween d5 0 3 with
    | false =>
      refine iteT ?_
      walk_at "st"
      rw [e5] at q; exact q H3 t3
    | true =>
    refine iteF ?_
    rw [e5, if_neg (by simp)] at q
    walk_at "st"
    refine ⟨x6, d6, 0, 4, rfl, L2.Dp.mono t3 h6, ?_⟩
    walk_at "st"
    unfold okDisk at q
    cases e6 : dBetween d6 0 4 with
    | false =>
      refine iteF (iteT ?_)
      walk_at "st"
      rw [e6] at q; exact q H3 t3
    | true =>
    refine iteT ?_
    rw [e6, Bool.true_and] at q
    cases d6 with
    | int i =>
      cases h6
      walk_at "st"
      refine q_ne rfl ?_
      walk_at "st"
      have z := q H3 t3
      by_cases e7 : i = 1
      · subst e7
        rw [decide_eq_true rfl]
        refine iteT ?_
        walk_at "st"
        exact z
      · rw [decide_eq_false (fun q => e7 (V.int.inj q))]
        refine iteF ?_
        walk_at "st"
        simpa [e7] using z
    | _ => simp [dBetween] at e6
def waysV (c : Cnt) (d1 d2 d3 d4 d5 : PyData) : V :=
  if okRights c d1 = false then .str "rights" else if okLines c d2 = false then .str "lines" else if okCosts d3 = false then .str "costs" else
  if okPlan c d4 = false then .str "plan" else if okOutside c d5 = false then .str "outside" else .non
def spWays (K : PySem.W.Frag) : Sp := fun vs H Q _ => ∃ (a : Addr) (c : Cnt) (x1 x2 x3 x4 x5 : V) (d1 d2 d3 d4 d5 : PyData), vs = [.ref a, x1, x2, x3, x4, x5] ∧ H a = some (.dK (countKV c)) ∧ cntSmall c ∧ Dp K H x1 d1 ∧ Dp K H x2 d2 ∧ Dp K H x3 d3 ∧ Dp K H x4 d4 ∧ Dp K H x5 d5 ∧
  strHead d4 ∧ ∀ H', Same H H' → Q (waysV c d1 d2 d3 d4 d5) H'
theorem ok_ways_fault (B : Bl mg) (d : DefAt K mg "ways_fault" s_ways_fault ["counts", "rights", "lines", "costs", "plan", "outside"]) (c_fit_as_rights : Cal P w K mg base 8 "fit_as_rights" ["counts", "rights"] (spPart K okRights)) (c_fit_as_lines : Cal P w K mg base 3 "fit_as_lines" ["counts", "lines"] (spPart K okLines))
    (c_fit_as_costs : Cal P w K mg base 3 "fit_as_costs" ["costs"] (spOk K okCosts)) (c_fit_as_plan : Cal P w K mg base 5 "fit_as_plan" ["counts", "plan"] (spPlan K)) (c_fits_as_outside : Cal P w K mg base 4 "fits_as_outside" ["counts", "outside"] (spPart K okOutside)) :
    Cal P w K mg base 9 "ways_fault" ["counts", "rights", "lines", "costs", "plan", "outside"] (spWays K) := d.cal fun f fd F => by
  refine F.ok sc_ways_fault (fun vs H Q E h => ?_) (fun cdv A outer s H vs Q E hr h => ?_)
  · obtain ⟨a, c, x1, x2, x3, x4, x5, d1, d2, d3, d4, d5, rfl, _⟩ := h; rfl
  · obtain ⟨b, c, x1, x2, x3, x4, x5, d1, d2, d3, d4, d5, rfl, hc0, cs, h1, h2, h3, h4, h5, hz, q⟩ := h
    refine ⟨_, (pss_cons (ps_if (pt_not (pt_val (pe_cal c_fit_as_rights (hr.mono (by omega)) rfl (pa_cons (pv 0) (pa_cons (pv 1) pa_nil))))) (pss_one (ps_ret pe_str)) pss_nil)
      (pss_cons (ps_if (pt_not (pt_val (pe_cal c_fit_as_lines (hr.mono (by omega)) rfl (pa_cons (pv 0) (pa_cons (pv 2) pa_nil))))) (pss_one (ps_ret pe_str)) pss_nil)
      (pss_cons (ps_if (pt_not (pt_val (pe_cal c_fit_as_costs (hr.mono (by omega)) rfl (pa_cons (pv 3) pa_nil)))) (pss_one (ps_ret pe_str)) pss_nil)
      (pss_cons (ps_if (pt_not (pt_val (pe_cal c_fit_as_plan (hr.mono (by omega)) rfl (pa_cons (pv 0) (pa_cons (pv 4) pa_nil))))) (pss_one (ps_ret pe_str)) pss_nil)
      (pss_cons (ps_if (pt_not (pt_val (pe_cal c_fits_as_outside (hr.mono (by omega)) rfl (pa_cons (pv 0) (pa_cons (pv 5) pa_nil))))) (pss_one (ps_ret pe_str)) pss_nil)
      (pss_one (ps_ret pe_non))))))), ?_⟩
    walk_at "st0"
    refine ⟨b, c, x1, d1, rfl, hc0, cs, h1, fun H1 s1 => ?_⟩
    walk_at "st"
    unfold waysV at q
    cases e1 : okRights c d1 with
    | false =>
      refine iteT ?_
      walk_at "st"
      rw [e1] at q; exact q H1 s1
    | true =>
    refine iteF ?_
    rw [e1, if_neg (by simp)] at q
    walk_at "st"
    refine ⟨b, c, x2, d2, rfl, s1 _ _ hc0, cs, L2.Dp.mono s1 h2, fun H2 s2 => ?_⟩
    have t2 := s1.trans s2
    walk_at "st"
    cases e2 : okLines c d2 with
    | false =>
      refine iteT ?_
      walk_at "st"
      rw [e2] at q; exact q H2 t2
    | true =>
    refine iteF ?_
    rw [e2, if_neg (by simp)] at q
    walk_at "st"
    refine ⟨x3, d3, rfl, L2.Dp.mono t2 h3, fun H3 s3 => ?_⟩
    have t3 := t2.trans s3
    walk_at "st"
    cases e3 : okCosts d3 with
    | false =>
      refine iteT ?_
      walk_at "st"
      rw [e3] at q; exact q H3 t3
    | true =>
    refine iteF ?_
    rw [e3, if_neg (by simp)] at q
    walk_at "st"
    refine ⟨b, c, x4, d4, rfl, t3 _ _ hc0, cs, L2.Dp.mono t3 h4, hz, fun H4 s4 => ?_⟩
    have t4 := t3.trans s4
    walk_at "st"
    cases e4 : okPlan c d4 with
    | false =>
      refine iteT ?_
      walk_at "st"
      rw [e4] at q; exact q H4 t4
    | true =>
    refine iteF ?_
    rw [e4, if_neg (by simp)] at q
    walk_at "st"
    refine ⟨b, c, x5, d5, rfl, t4 _ _ hc0, cs, L2.Dp.mono t4 h5, fun H5 s5 => ?_⟩
    have t5 := t4.trans s5
    walk_at "st"
    cases e5 : okOutside c d5 with
    | false =>
      refine iteT ?_
      walk_at "st"
      rw [e5] at q; exact q H5 t5
    | true =>
    refine iteF ?_
    walk_at "st"
    rw [e5] at q
    simpa using q H5 t5
/-- named data, as a dict -/
def DatKV (K : PySem.W.Frag) (H : Hp) : List (Key × V) → List (Str × PyData) → Prop := Paired fun p q => p.1 = Sum.inr q.1 ∧ Dp K H p.2 q.2
def flagsV (l : List (Str × PyData)) : V := match l.find? fun p => !isBool p.2 with | some p => .str p.1 | none => .non
def spFlags (K : PySem.W.Frag) : Sp := fun vs H Q _ => ∃ (a : Addr) (kvs : List (Key × V)) (l : List (Str × PyData)), vs = [.ref a] ∧ H a = some (.dK kvs) ∧ DatKV K H kvs l ∧ ∀ H', Same H H' → Q (flagsV l) H'
theorem ok_flags_fault (B : Bl mg) (d : DefAt K mg "flags_fault" s_flags_fault ["flags"]) : Cal P w K mg base 1 "flags_fault" ["flags"] (spFlags K) := d.cal fun f fd F => by
  refine F.ok sc_flags_fault (fun vs H Q E h => ?_) (fun cdv A outer s H vs Q E hr h => ?_)
  · obtain ⟨a, kvs, l, rfl, _⟩ := h; rfl
  · obtain ⟨a, kvs, l, rfl, ha, hk, q⟩ := h
    refine ⟨_, (pss_cons (ps_lock (ps_for PassesOwn.never rfl (pi_items (pv 0)) (pg_tup rfl (pgs_cons (pg_name (i := 1) sc_flags_fault.nd rfl (Or.inl rfl)) (pgs_cons (pg_name (i := 2) sc_flags_fault.nd rfl (Or.inl rfl)) pgs_nil))) (pss_one (ps_if (pt_not (pt_val (pe_callB call_isi rfl B.isinstance hb_isinstance (pa_cons (pv 2) (pa_cons (pe_bltn (v := .ty "bool") rfl B.bool_ hb_bool rfl) pa_nil))))) (pss_one (ps_ret (pv 1))) pss_nil))))
      (pss_one (ps_ret pe_non))), ?_⟩
    walk_at "st0"
    have inv : ∀ {H2 : Hp} {od : Obj}, H2 a = some (.frz od (.dK kvs)) → (∀ b o, H b = some o → b ≠ a → H2 b = some o) → Same H (upd H2 a (.dK kvs)) := fun {H2 od} e k b o hb => by
      by_cases hba : b = a
      · subst hba; rw [upd_same, ← ha, hb]
      · rw [upd_ne hba]; exact k b o hb hba
    refine ⟨a, .dK kvs, ha, trivial, fun od => ?_⟩
    refine q_for ⟨.ref a, rfl, a, od, kvs, rfl, upd_same, for_it walk_items (fun i σ H2 => (∃ v1 v2, σ = [some (.ref a), v1, v2]) ∧ H2 a = some (.frz od (.dK kvs)) ∧ (∀ b o, H b = some o → b ≠ a → H2 b = some o) ∧ ∀ j, j < i → ∀ p, l[j]? = some p → isBool p.2 = true) ?_ (fun i σ H2 _ h => h.2.1) ?_ ?_⟩
    · exact ⟨⟨none, none, rfl⟩, upd_same, fun b o hb hba => by rw [upd_ne hba]; exact hb, fun j h => by omega⟩
    · rintro i x σ H2 H3 lt ⟨⟨v1, v2, rfl⟩, hf, hk2, hb⟩ ⟨t, y, z, rfl, nt, rfl, e1, e2⟩
      have lt2 : kvs[i]? = some kvs[i] := List.getElem?_eq_getElem lt
      replace e1 : kvs[i]?.map (fun kv => kV kv.1) = some y := e1
      replace e2 : kvs[i]?.map Prod.snd = some z := e2
      rw [lt2] at e1 e2
      cases e1
      cases e2
      obtain ⟨p, ep, en, hd⟩ := paired_get hk lt2
      have s3 := same_new (o := .tup [kV kvs[i].1, kvs[i].2]) nt
      have na : a ≠ t := ne_of_none hf nt
      have hd3 : Dp K (upd (upd H2 t (.tup [kV kvs[i].1, kvs[i].2])) a (.dK kvs)) kvs[i].2 p.2 := L2.Dp.mono (fun b o h => by
        by_cases hba : b = a
        · subst hba; rw [upd_same, ← ha, h]
        · rw [upd_ne hba]; exact s3 _ _ (hk2 b o h hba)) hd
      refine ⟨t, _, rfl, SqT.of upd_same, rfl, _, _, rfl, _, _, rfl, rfl, ?_⟩
      have tyb : TyX K (upd H2 t (.tup [kV kvs[i].1, kvs[i].2])) kvs[i].2 (.type (dTy p.2)) := by
        exact ty_but hd ha fun b o h hba => s3 _ _ (hk2 b o h hba)
      show tIfS _ _ _ _ _ _
      walk_at "st"
      refine ⟨_, _, _, _, _, rfl, .ty "bool", tyb, kit_ty (kb_bool p.2 hd.nodict), ?_⟩
      walk_at "st"
      cases hbb : isBool p.2 with
      | true =>
        refine iteF ?_
        walk_at "st"
        refine ⟨⟨_, _, rfl⟩, by rw [upd_ne na]; exact hf, fun b o h hba => s3 _ _ (hk2 b o h hba), fun j hj p2 e => ?_⟩
        rcases Nat.lt_succ_iff_lt_or_eq.mp hj with z | z
        · exact hb j z p2 e
        · subst z; rw [ep] at e; cases e; exact hbb
      | false =>
        refine iteT ?_
        walk_at "st"
        have s4 : Same H (upd (upd H2 t (.tup [kV kvs[i].1, kvs[i].2])) a (.dK kvs)) := inv (H2 := upd H2 t (.tup [kV kvs[i].1, kvs[i].2])) (od := od) (by rw [upd_ne na]; exact hf) (fun b o h hba => s3 _ _ (hk2 b o h hba))
        refine ⟨by rw [upd_ne na]; exact hf, ?_⟩
        have z := q _ s4
        have ef : l.find? (fun p => !isBool p.2) = some p := by
          rw [List.find?_eq_some_iff_getElem]
          obtain ⟨hi, ei⟩ := List.getElem?_eq_some_iff.mp ep
          refine ⟨by simp [hbb], i, hi, ei, fun j hj => ?_⟩
          simp [hb j hj _ (List.getElem?_eq_getElem (by omega))]
        rw [flagsV, ef] at z
        have en2 : kV kvs[i].1 = .str p.1 := by rw [en]; rfl
        rw [en2] at z ⊢; exact z
    · rintro σ H2 ⟨⟨v1, v2, rfl⟩, hf, hk2, hb⟩
      refine ⟨hf, ?_⟩
      walk_at "st"
      have z := q _ (inv hf hk2)
      have ef : l.find? (fun p => !isBool p.2) = none := by
        rw [List.find?_eq_none]
        intro p hm
        obtain ⟨j, hj⟩ := List.getElem?_of_mem hm
        have lj : j < kvs.length := by rw [Paired.length hk]; exact (List.getElem?_eq_some_iff.mp hj).1
        simp [hb j lj p hj]
      rw [flagsV, ef] at z
      exact z
end
end T



namespace T
section
variable {P : Program} {w : World} {K : PySem.W.Frag} {mg : Str → Option Value} {base : Heap} {C : Addr}
/-- what the text says of Build -/
structure BCls (K : PySem.W.Frag) (C : Addr) : Prop where
  cls : Cls K C
  n_parts : NoAttr K C "_parts"
  n_rules : NoAttr K C "rules"
def cOf (b : BD) : Cnt := match b.tasks, b.pages, b.ports, b.locks, b.disk with
  | .list t, .list p, .list q, .int l, .int d => cntOf t.length p.length q.length l d
  | _, _, _, _, _ => cntOf 0 0 0 0 0
structure BOk (b : BD) : Prop where
  tasks : okTasks b.tasks = true
  pages : okNumbers b.pages 3 0 1 = true
  ports : okNumbers b.ports 2 1 2 = true
  locks : dBetween b.locks 0 2 = true
  frames : dBetween b.frames 0 3 = true
  disk : okDisk b.disk = true
  rights : okRights (cOf b) b.rights = true
  lines : okLines (cOf b) b.lines = true
  costs : okCosts b.costs = true
  plan : okPlan (cOf b) b.plan = true
  outside : okOutside (cOf b) b.outside = true
  wipe : isBool b.wipe = true
  pad : isBool b.pad = true
  lend : isBool b.lend = true
  share : isBool b.share = true
structure PartsAt (K : PySem.W.Frag) (C : Addr) (H : Hp) (p : Addr) (b : BD) : Prop where
  ok : BOk b
  ex : ∃ (dx : Addr) (fs : List (Str × V)) (q : Addr) (kvs : List (Key × V)), H p = some (.ins C dx fs) ∧ fs.lookup ("_parts" : Str) = some (.ref q) ∧ H q = some (.dK kvs) ∧ Paired (fun p q => p.1 = Sum.inr q.1 ∧ Dp K H p.2 q.2) kvs b.parts ∧ ∀ m : Str, m ≠ ("_parts" : Str) → m ≠ ("rules" : Str) → fs.lookup m = none
theorem pairedKV_mono {H H' : Hp} (s : Same H H') {kvs : List (Key × V)} {l : List (Str × PyData)} (h : Paired (fun p q => p.1 = Sum.inr q.1 ∧ Dp K H p.2 q.2) kvs l) : Paired (fun p q => p.1 = Sum.inr q.1 ∧ Dp K H' p.2 q.2) kvs l := Paired.mapP h fun a b r => ⟨r.1, L2.Dp.mono s r.2⟩
theorem PartsAt.mono {H H' : Hp} {p : Addr} {b : BD} (s : Same H H') (h : PartsAt K C H p b) : PartsAt K C H' p b := by
  obtain ⟨ok, dx, fs, q, kvs, e1, e2, e3, e4, e5⟩ := h
  exact ⟨ok, dx, fs, q, kvs, s _ _ e1, e2, s _ _ e3, pairedKV_mono s e4, e5⟩
theorem okList {d : PyData} {m lo hi : Int} (h : okNumbers d m lo hi = true) : ∃ ds, d = .list ds ∧ (ds.length : Int) ≤ m ∧ ∀ e ∈ ds, ∃ i, e = .int i ∧ lo ≤ i ∧ i ≤ hi := by
  unfold okNumbers at h
  rw [Bool.and_eq_true] at h
  obtain ⟨ds, rfl, h0, h1⟩ := dListOf_list h.1
  refine ⟨ds, rfl, h1, fun e he => ?_⟩
  have z := List.all_eq_true.mp h.2 e he
  cases e with
  | int i => simp [dBetween] at z; exact ⟨i, rfl, z.1, z.2⟩
  | _ => simp [dBetween] at z
theorem okTasksL {d : PyData} (h : okTasks d = true) : ∃ ds, d = .list ds ∧ 2 ≤ ds.length ∧ ds.length ≤ 4 ∧ ∀ e ∈ ds, okTask e = true := by
  unfold okTasks at h
  rw [Bool.and_eq_true] at h
  obtain ⟨ds, rfl, h0, h1⟩ := dListOf_list h.1
  rw [Bool.and_eq_true] at h
  exact ⟨ds, rfl, by omega, by omega, List.all_eq_true.mp h.2.1⟩
theorem okLinesL {c : Cnt} {d : PyData} (h : okLines c d = true) : ∃ ds, d = .list ds ∧ (ds.length : Int) = cnt c "page" ∧ ∀ e ∈ ds, okLine e = true := by
  unfold okLines at h
  rw [Bool.and_eq_true] at h
  obtain ⟨ds, rfl, h0, h1⟩ := dListOf_list h.1
  exact ⟨ds, rfl, by omega, List.all_eq_true.mp h.2⟩
/-- a list that is new, of these data -/
def NewL (K : PySem.W.Frag) (H H' : Hp) (v : V) (d : PyData) : Prop := ∃ l xs ds, v = .ref l ∧ H l = none ∧ H' l = some (.lst xs) ∧ d = .list ds ∧ DpAll K H' xs ds
def spGet (K : PySem.W.Frag) (C : Addr) (R : BD → Hp → V → Hp → Prop) : Sp := fun vs H Q _ => ∃ (p : Addr) (b : BD), vs = [.ref p] ∧ PartsAt K C H p b ∧ ∀ v H', Same H H' → R b H v H' → Q v H'
theorem call_listOf {H : Hp} {Q : VK} {v : V} {ds : List PyData} (hd : Dp K H v (.tuple ds)) (k : ∀ l xs, H l = none → Same H (upd H l (.lst xs)) → DpAll K (upd H l (.lst xs)) xs ds → Q (.ref l) (upd H l (.lst xs))) :
    ∃ p ys, [v] = [.ref p] ∧ (SqL K H p ys ∨ SqT K H p ys) ∧ ∀ l, H l = none → Q (.ref l) (upd H l (.lst ys)) := by
  cases hd with
  | @tup a xs _ hs ha => exact ⟨a, xs, rfl, .inr hs, fun l nl => k l xs nl (same_new nl) (L2.DpAll.mono (same_new nl) ha)⟩
theorem ok_Build_tasks (B : Bl mg) (T : BCls K C) (d : MethAt K C "tasks" "Build.tasks" s_Build_tasks ["self"]) : MCal P w K mg base 1 C "tasks" ["self"] (spGet K C fun b H v H' => NewL K H H' v b.tasks) := d.cal fun f fd F => by
  refine F.ok sc_Build_tasks (fun vs H Q E h => ?_) (fun cdv A outer s H vs Q E hr h => ?_)
  · obtain ⟨p, b, rfl, _⟩ := h; rfl
  · obtain ⟨p, b, rfl, ⟨ok, dx, fs, q0, kvs, e1, e2, e3, e4, e5⟩, q⟩ := h
    have hu := hu_of hr
    refine ⟨_, (pss_one (ps_ret (pe_callTy call_list_of rfl B.list_ hb_list (pa_cons (pe_dget hu (pe_fld (pv 0) rfl) pe_str (fun _ _ => rfl)) pa_nil)))), ?_⟩
    walk_at "st0"
    refine ⟨p, C, dx, fs, _, rfl, e1, T.cls, T.n_parts, e2, ?_⟩
    walk_at "st"
    obtain ⟨v, g1, g2⟩ := pairedKV_get (z := "tasks") e4 rfl
    refine ⟨q0, v, rfl, by rw [← g1]; exact DGet.k (k := Sum.inr "tasks") e3, ?_⟩
    walk_at "st"
    obtain ⟨ds, ed, _⟩ := okTasksL ok.tasks
    rw [ed] at g2
    exact call_listOf (ds := ds) g2 fun l xs nl sm ha => q _ _ sm ⟨l, xs, ds, rfl, nl, upd_same, ed, ha⟩
theorem ok_Build_pages (B : Bl mg) (T : BCls K C) (d : MethAt K C "pages" "Build.pages" s_Build_pages ["self"]) : MCal P w K mg base 1 C "pages" ["self"] (spGet K C fun b H v H' => NewL K H H' v b.pages) := d.cal fun f fd F => by
  refine F.ok sc_Build_pages (fun vs H Q E h => ?_) (fun cdv A outer s H vs Q E hr h => ?_)
  · obtain ⟨p, b, rfl, _⟩ := h; rfl
  · obtain ⟨p, b, rfl, ⟨ok, dx, fs, q0, kvs, e1, e2, e3, e4, e5⟩, q⟩ := h
    have hu := hu_of hr
    refine ⟨_, (pss_one (ps_ret (pe_callTy call_list_of rfl B.list_ hb_list (pa_cons (pe_dget hu (pe_fld (pv 0) rfl) pe_str (fun _ _ => rfl)) pa_nil)))), ?_⟩
    walk_at "st0"
    refine ⟨p, C, dx, fs, _, rfl, e1, T.cls, T.n_parts, e2, ?_⟩
    walk_at "st"
    obtain ⟨v, g1, g2⟩ := pairedKV_get (z := "pages") e4 rfl
    refine ⟨q0, v, rfl, by rw [← g1]; exact DGet.k (k := Sum.inr "pages") e3, ?_⟩
    walk_at "st"
    obtain ⟨ds, ed, _⟩ := okList ok.pages
    rw [ed] at g2
    exact call_listOf (ds := ds) g2 fun l xs nl sm ha => q _ _ sm ⟨l, xs, ds, rfl, nl, upd_same, ed, ha⟩
theorem ok_Build_ports (B : Bl mg) (T : BCls K C) (d : MethAt K C "ports" "Build.ports" s_Build_ports ["self"]) : MCal P w K mg base 1 C "ports" ["self"] (spGet K C fun b H v H' => NewL K H H' v b.ports) := d.cal fun f fd F => by
  refine F.ok sc_Build_ports (fun vs H Q E h => ?_) (fun cdv A outer s H vs Q E hr h => ?_)
  · obtain ⟨p, b, rfl, _⟩ := h; rfl
  · obtain ⟨p, b, rfl, ⟨ok, dx, fs, q0, kvs, e1, e2, e3, e4, e5⟩, q⟩ := h
    have hu := hu_of hr
    refine ⟨_, (pss_one (ps_ret (pe_callTy call_list_of rfl B.list_ hb_list (pa_cons (pe_dget hu (pe_fld (pv 0) rfl) pe_str (fun _ _ => rfl)) pa_nil)))), ?_⟩
    walk_at "st0"
    refine ⟨p, C, dx, fs, _, rfl, e1, T.cls, T.n_parts, e2, ?_⟩
    walk_at "st"
    obtain ⟨v, g1, g2⟩ := pairedKV_get (z := "ports") e4 rfl
    refine ⟨q0, v, rfl, by rw [← g1]; exact DGet.k (k := Sum.inr "ports") e3, ?_⟩
    walk_at "st"
    obtain ⟨ds, ed, _⟩ := okList ok.ports
    rw [ed] at g2
    exact call_listOf (ds := ds) g2 fun l xs nl sm ha => q _ _ sm ⟨l, xs, ds, rfl, nl, upd_same, ed, ha⟩
theorem ok_Build_lines (B : Bl mg) (T : BCls K C) (d : MethAt K C "lines" "Build.lines" s_Build_lines ["self"]) : MCal P w K mg base 1 C "lines" ["self"] (spGet K C fun b H v H' => NewL K H H' v b.lines) := d.cal fun f fd F => by
  refine F.ok sc_Build_lines (fun vs H Q E h => ?_) (fun cdv A outer s H vs Q E hr h => ?_)
  · obtain ⟨p, b, rfl, _⟩ := h; rfl
  · obtain ⟨p, b, rfl, ⟨ok, dx, fs, q0, kvs, e1, e2, e3, e4, e5⟩, q⟩ := h
    have hu := hu_of hr
    refine ⟨_, (pss_one (ps_ret (pe_callTy call_list_of rfl B.list_ hb_list (pa_cons (pe_dget hu (pe_fld (pv 0) rfl) pe_str (fun _ _ => rfl)) pa_nil)))), ?_⟩
    walk_at "st0"
    refine ⟨p, C, dx, fs, _, rfl, e1, T.cls, T.n_parts, e2, ?_⟩
    walk_at "st"
    obtain ⟨v, g1, g2⟩ := pairedKV_get (z := "lines") e4 rfl
    refine ⟨q0, v, rfl, by rw [← g1]; exact DGet.k (k := Sum.inr "lines") e3, ?_⟩
    walk_at "st"
    obtain ⟨ds, ed, _⟩ := okLinesL ok.lines
    rw [ed] at g2
    exact call_listOf (ds := ds) g2 fun l xs nl sm ha => q _ _ sm ⟨l, xs, ds, rfl, nl, upd_same, ed, ha⟩
theorem ok_Build_locks (B : Bl mg) (T : BCls K C) (d : MethAt K C "locks" "Build.locks" s_Build_locks ["self"]) : MCal P w K mg base 1 C "locks" ["self"] (spGet K C fun b H v H' => Dp K H' v b.locks) := d.cal fun f fd F => by
  refine F.ok sc_Build_locks (fun vs H Q E h => ?_) (fun cdv A outer s H vs Q E hr h => ?_)
  · obtain ⟨p, b, rfl, _⟩ := h; rfl
  · obtain ⟨p, b, rfl, ⟨ok, dx, fs, q0, kvs, e1, e2, e3, e4, e5⟩, q⟩ := h
    have hu := hu_of hr
    refine ⟨_, (pss_one (ps_ret (pe_dget hu (pe_fld (pv 0) rfl) pe_str (fun _ _ => rfl)))), ?_⟩
    walk_at "st0"
    refine ⟨p, C, dx, fs, _, rfl, e1, T.cls, T.n_parts, e2, ?_⟩
    walk_at "st"
    obtain ⟨v, g1, g2⟩ := pairedKV_get (z := "locks") e4 rfl
    exact ⟨q0, v, rfl, by rw [← g1]; exact DGet.k (k := Sum.inr "locks") e3, q _ _ (Same.refl _) g2⟩
theorem ok_Build_frames (B : Bl mg) (T : BCls K C) (d : MethAt K C "frames" "Build.frames" s_Build_frames ["self"]) : MCal P w K mg base 1 C "frames" ["self"] (spGet K C fun b H v H' => Dp K H' v b.frames) := d.cal fun f fd F => by
  refine F.ok sc_Build_frames (fun vs H Q E h => ?_) (fun cdv A outer s H vs Q E hr h => ?_)
  · obtain ⟨p, b, rfl, _⟩ := h; rfl
  · obtain ⟨p, b, rfl, ⟨ok, dx, fs, q0, kvs, e1, e2, e3, e4, e5⟩, q⟩ := h
    have hu := hu_of hr
    refine ⟨_, (pss_one (ps_ret (pe_dget hu (pe_fld (pv 0) rfl) pe_str (fun _ _ => rfl)))), ?_⟩
    walk_at "st0"
    refine ⟨p, C, dx, fs, _, rfl, e1, T.cls, T.n_parts, e2, ?_⟩
    walk_at "st"
    obtain ⟨v, g1, g2⟩ := pairedKV_get (z := "frames") e4 rfl
    exact ⟨q0, v, rfl, by rw [← g1]; exact DGet.k (k := Sum.inr "frames") e3, q _ _ (Same.refl _) g2⟩
theorem ok_Build_disk (B : Bl mg) (T : BCls K C) (d : MethAt K C "disk" "Build.disk" s_Build_disk ["self"]) : MCal P w K mg base 1 C "disk" ["self"] (spGet K C fun b H v H' => Dp K H' v b.disk) := d.cal fun f fd F => by
  refine F.ok sc_Build_disk (fun vs H Q E h => ?_) (fun cdv A outer s H vs Q E hr h => ?_)
  · obtain ⟨p, b, rfl, _⟩ := h; rfl
  · obtain ⟨p, b, rfl, ⟨ok, dx, fs, q0, kvs, e1, e2, e3, e4, e5⟩, q⟩ := h
    have hu := hu_of hr
    refine ⟨_, (pss_one (ps_ret (pe_dget hu (pe_fld (pv 0) rfl) pe_str (fun _ _ => rfl)))), ?_⟩
    walk_at "st0"
    refine ⟨p, C, dx, fs, _, rfl, e1, T.cls, T.n_parts, e2, ?_⟩
    walk_at "st"
    obtain ⟨v, g1, g2⟩ := pairedKV_get (z := "disk") e4 rfl
    exact ⟨q0, v, rfl, by rw [← g1]; exact DGet.k (k := Sum.inr "disk") e3, q _ _ (Same.refl _) g2⟩
theorem ok_Build_costs (B : Bl mg) (T : BCls K C) (d : MethAt K C "costs" "Build.costs" s_Build_costs ["self"]) : MCal P w K mg base 1 C "costs" ["self"] (spGet K C fun b H v H' => Dp K H' v b.costs) := d.cal fun f fd F => by
  refine F.ok sc_Build_costs (fun vs H Q E h => ?_) (fun cdv A outer s H vs Q E hr h => ?_)
  · obtain ⟨p, b, rfl, _⟩ := h; rfl
  · obtain ⟨p, b, rfl, ⟨ok, dx, fs, q0, kvs, e1, e2, e3, e4, e5⟩, q⟩ := h
    have hu := hu_of hr
    refine ⟨_, (pss_one (ps_ret (pe_dget hu (pe_fld (pv 0) rfl) pe_str (fun _ _ => rfl)))), ?_⟩
    walk_at "st0"
    refine ⟨p, C, dx, fs, _, rfl, e1, T.cls, T.n_parts, e2, ?_⟩
    walk_at "st"
    obtain ⟨v, g1, g2⟩ := pairedKV_get (z := "costs") e4 rfl
    exact ⟨q0, v, rfl, by rw [← g1]; exact DGet.k (k := Sum.inr "costs") e3, q _ _ (Same.refl _) g2⟩
theorem ok_Build_outside (B : Bl mg) (T : BCls K C) (d : MethAt K C "outside" "Build.outside" s_Build_outside ["self"]) : MCal P w K mg base 1 C "outside" ["self"] (spGet K C fun b H v H' => Dp K H' v b.outside) := d.cal fun f fd F => by
  refine F.ok sc_Build_outside (fun vs H Q E h => ?_) (fun cdv A outer s H vs Q E hr h => ?_)
  · obtain ⟨p, b, rfl, _⟩ := h; rfl
  · obtain ⟨p, b, rfl, ⟨ok, dx, fs, q0, kvs, e1, e2, e3, e4, e5⟩, q⟩ := h
    have hu := hu_of hr
    refine ⟨_, (pss_one (ps_ret (pe_dget hu (pe_fld (pv 0) rfl) pe_str (fun _ _ => rfl)))), ?_⟩
    walk_at "st0"
    refine ⟨p, C, dx, fs, _, rfl, e1, T.cls, T.n_parts, e2, ?_⟩
    walk_at "st"
    obtain ⟨v, g1, g2⟩ := pairedKV_get (z := "outside") e4 rfl
    exact ⟨q0, v, rfl, by rw [← g1]; exact DGet.k (k := Sum.inr "outside") e3, q _ _ (Same.refl _) g2⟩
theorem ok_Build_wipe (B : Bl mg) (T : BCls K C) (d : MethAt K C "wipe" "Build.wipe" s_Build_wipe ["self"]) : MCal P w K mg base 1 C "wipe" ["self"] (spGet K C fun b H v H' => Dp K H' v b.wipe) := d.cal fun f fd F => by
  refine F.ok sc_Build_wipe (fun vs H Q E h => ?_) (fun cdv A outer s H vs Q E hr h => ?_)
  · obtain ⟨p, b, rfl, _⟩ := h; rfl
  · obtain ⟨p, b, rfl, ⟨ok, dx, fs, q0, kvs, e1, e2, e3, e4, e5⟩, q⟩ := h
    have hu := hu_of hr
    refine ⟨_, (pss_one (ps_ret (pe_dget hu (pe_fld (pv 0) rfl) pe_str (fun _ _ => rfl)))), ?_⟩
    walk_at "st0"
    refine ⟨p, C, dx, fs, _, rfl, e1, T.cls, T.n_parts, e2, ?_⟩
    walk_at "st"
    obtain ⟨v, g1, g2⟩ := pairedKV_get (z := "wipe") e4 rfl
    exact ⟨q0, v, rfl, by rw [← g1]; exact DGet.k (k := Sum.inr "wipe") e3, q _ _ (Same.refl _) g2⟩
theorem ok_Build_pad (B : Bl mg) (T : BCls K C) (d : MethAt K C "pad" "Build.pad" s_Build_pad ["self"]) : MCal P w K mg base 1 C "pad" ["self"] (spGet K C fun b H v H' => Dp K H' v b.pad) := d.cal fun f fd F => by
  refine F.ok sc_Build_pad (fun vs H Q E h => ?_) (fun cdv A outer s H vs Q E hr h => ?_)
  · obtain ⟨p, b, rfl, _⟩ := h; rfl
  · obtain ⟨p, b, rfl, ⟨ok, dx, fs, q0, kvs, e1, e2, e3, e4, e5⟩, q⟩ := h
    have hu := hu_of hr
    refine ⟨_, (pss_one (ps_ret (pe_dget hu (pe_fld (pv 0) rfl) pe_str (fun _ _ => rfl)))), ?_⟩
    walk_at "st0"
    refine ⟨p, C, dx, fs, _, rfl, e1, T.cls, T.n_parts, e2, ?_⟩
    walk_at "st"
    obtain ⟨v, g1, g2⟩ := pairedKV_get (z := "pad") e4 rfl
    exact ⟨q0, v, rfl, by rw [← g1]; exact DGet.k (k := Sum.inr "pad") e3, q _ _ (Same.refl _) g2⟩
theorem ok_Build_lend (B : Bl mg) (T : BCls K C) (d : MethAt K C "lend" "Build.lend" s_Build_lend ["self"]) : MCal P w K mg base 1 C "lend" ["self"] (spGet K C fun b H v H' => Dp K H' v b.lend) := d.cal fun f fd F => by
  refine F.ok sc_Build_lend (fun vs H Q E h => ?_) (fun cdv A outer s H vs Q E hr h => ?_)
  · obtain ⟨p, b, rfl, _⟩ := h; rfl
  · obtain ⟨p, b, rfl, ⟨ok, dx, fs, q0, kvs, e1, e2, e3, e4, e5⟩, q⟩ := h
    have hu := hu_of hr
    refine ⟨_, (pss_one (ps_ret (pe_dget hu (pe_fld (pv 0) rfl) pe_str (fun _ _ => rfl)))), ?_⟩
    walk_at "st0"
    refine ⟨p, C, dx, fs, _, rfl, e1, T.cls, T.n_parts, e2, ?_⟩
    walk_at "st"
    obtain ⟨v, g1, g2⟩ := pairedKV_get (z := "lend") e4 rfl
    exact ⟨q0, v, rfl, by rw [← g1]; exact DGet.k (k := Sum.inr "lend") e3, q _ _ (Same.refl _) g2⟩
theorem ok_Build_share (B : Bl mg) (T : BCls K C) (d : MethAt K C "share" "Build.share" s_Build_share ["self"]) : MCal P w K mg base 1 C "share" ["self"] (spGet K C fun b H v H' => Dp K H' v b.share) := d.cal fun f fd F => by
  refine F.ok sc_Build_share (fun vs H Q E h => ?_) (fun cdv A outer s H vs Q E hr h => ?_)
  · obtain ⟨p, b, rfl, _⟩ := h; rfl
  · obtain ⟨p, b, rfl, ⟨ok, dx, fs, q0, kvs, e1, e2, e3, e4, e5⟩, q⟩ := h
    have hu := hu_of hr
    refine ⟨_, (pss_one (ps_ret (pe_dget hu (pe_fld (pv 0) rfl) pe_str (fun _ _ => rfl)))), ?_⟩
    walk_at "st0"
    refine ⟨p, C, dx, fs, _, rfl, e1, T.cls, T.n_parts, e2, ?_⟩
    walk_at "st"
    obtain ⟨v, g1, g2⟩ := pairedKV_get (z := "share") e4 rfl
    exact ⟨q0, v, rfl, by rw [← g1]; exact DGet.k (k := Sum.inr "share") e3, q _ _ (Same.refl _) g2⟩
end
end T



namespace T
section
variable {P : Program} {w : World} {K : PySem.W.Frag} {mg : Str → Option Value} {base : Heap} {C : Addr}
theorem okPlanL {c : Cnt} {d : PyData} (h : okPlan c d = true) : ∃ z e, d = .tuple [.str z, e] ∧ ((z = "levels" ∧ ∃ i, e = .int i ∧ 1 ≤ i ∧ i ≤ 8) ∨ (z = "slots" ∧ okSlots c e = true)) := by
  unfold okPlan at h
  rw [Bool.and_eq_true] at h
  obtain ⟨h1, h2⟩ := h
  obtain ⟨ds, rfl, l2⟩ := dTupleOf_tup h1
  match ds, l2, h2 with
  | [a, e], _, h2 =>
    cases a with
    | str z =>
      refine ⟨z, e, rfl, ?_⟩
      by_cases hz : z = "levels"
      · simp only [hz, if_pos] at h2
        left
        cases e with
        | int i => simp [dBetween] at h2; exact ⟨hz, i, rfl, h2.1, h2.2⟩
        | _ => simp [dBetween] at h2
      · simp only [if_neg hz] at h2
        rw [Bool.and_eq_true] at h2
        exact .inr ⟨of_decide_eq_true h2.1, h2.2⟩
    | _ => simp at h2
theorem okSlotsL {c : Cnt} {e : PyData} (h : okSlots c e = true) : ∃ rs, e = .list rs ∧ 1 ≤ rs.length ∧ rs.length ≤ 4 ∧ ∀ r ∈ rs, ∃ t k, r = .tuple [.int t, .int k] ∧ 0 ≤ t ∧ t ≤ cnt c "task" - 1 ∧ 1 ≤ k ∧ k ≤ 12 := by
  unfold okSlots at h
  rw [Bool.and_eq_true] at h
  obtain ⟨rs, rfl, h0, h1⟩ := dListOf_list h.1
  refine ⟨rs, rfl, by omega, by omega, fun r hr => ?_⟩
  have z := List.all_eq_true.mp h.2 r hr
  unfold okSlot at z
  rw [Bool.and_eq_true] at z
  obtain ⟨ds, rfl, l2⟩ := dTupleOf_tup z.1
  match ds, l2, z with
  | [a, b], _, z =>
    have z2 := z.2
    rw [Bool.and_eq_true] at z2
    cases a with
    | int t => cases b with
      | int k => simp [dBetween] at z2; exact ⟨t, k, rfl, z2.1.1, by omega, z2.2.1, z2.2.2⟩
      | _ => simp [dBetween] at z2
    | _ => simp [dBetween] at z2
theorem slots_ne : ¬ ("levels" : Str) = "slots" := by decide +kernel
theorem ok_Build_plan (B : Bl mg) (T : BCls K C) (d : MethAt K C "plan" "Build.plan" s_Build_plan ["self"]) : MCal P w K mg base 1 C "plan" ["self"] (spGet K C fun b H v H' => Dp K H' v b.plan) := d.cal fun f fd F => by
  refine F.ok sc_Build_plan (fun vs H Q E h => ?_) (fun cdv A outer s H vs Q E hr h => ?_)
  · obtain ⟨p, b, rfl, _⟩ := h; rfl
  · obtain ⟨p, b, rfl, ⟨ok, dx, fs, q0, kvs, e1, e2, e3, e4, e5⟩, q⟩ := h
    have hu := hu_of hr
    refine ⟨_, (pss_cons (ps_asg (pe_dget hu (pe_fld (pv 0) rfl) pe_str (fun _ _ => rfl)) (pg_tup rfl (pgs_cons (pg_name (i := 1) sc_Build_plan.nd rfl (Or.inl rfl)) (pgs_cons (pg_name (i := 2) sc_Build_plan.nd rfl (Or.inl rfl)) pgs_nil))))
      (pss_one (ps_ret (pe_ifExp (pt_cmpR op_eq (pv 1) pe_str (nomark _)) (pe_tup (pa_cons (pv 1) (pa_cons (pe_callTy call_list_of rfl B.list_ hb_list (pa_cons (pv 2) pa_nil)) pa_nil))) (pe_tup (pa_cons (pv 1) (pa_cons (pv 2) pa_nil))))))), ?_⟩
    walk_at "st0"
    refine ⟨p, C, dx, fs, _, rfl, e1, T.cls, T.n_parts, e2, ?_⟩
    walk_at "st"
    obtain ⟨v, g1, g2⟩ := pairedKV_get (z := "plan") e4 rfl
    refine ⟨q0, v, rfl, by rw [← g1]; exact DGet.k (k := Sum.inr "plan") e3, ?_⟩
    obtain ⟨z, e, ep, hz⟩ := okPlanL ok.plan
    simp only [ep] at q g2
    simp only [planT] at g2
    cases g2 with
    | @tup a xs _ hs ha =>
    cases ha with
    | @cons x0 r0 _ _ a0 ha => cases ha with
      | @cons x1 r1 _ _ a1 ha =>
        cases ha
        cases a0
        refine ⟨a, _, rfl, hs, rfl, _, _, rfl, _, _, rfl, rfl, ?_⟩
        walk_at "st"
        refine q_eq rfl ?_
        walk_at "st"
        rcases hz with ⟨rfl, i, rfl, _⟩ | ⟨rfl, hz⟩
        · rw [decide_eq_false (fun q => slots_ne (V.str.inj q))]
          refine iteF ?_
          walk_at "st"
          refine ⟨by show 2 ≤ sizeLine; decide, fun t nt => ?_⟩
          rw [if_neg slots_ne] at a1
          exact q _ _ (same_new nt) (.tup (SqT.of upd_same) (.cons (.str _) (.cons (L2.Dp.mono (same_new nt) a1) .nil)))
        · rw [decide_eq_true rfl]
          refine iteT ?_
          walk_at "st"
          obtain ⟨rs, rfl, _⟩ := okSlotsL hz
          rw [if_pos rfl] at a1
          cases a1 with
          | @tup a2 ys _ hs2 hb2 =>
          refine ⟨a2, ys, rfl, .inr hs2, fun l nl => ?_⟩
          have sm := same_new (o := .lst ys) nl
          walk_at "st"
          refine ⟨by show 2 ≤ sizeLine; decide, fun t nt => ?_⟩
          have st := same_new (o := .tup [V.str "slots", .ref l]) nt
          exact q _ _ (sm.trans st) (.tup (SqT.of upd_same) (.cons (.str _) (.cons (.lst (st.seq (SqL.of upd_same)) (L2.DpAll.mono (sm.trans st) hb2)) .nil)))
def sidesOf (b : BD) : List Int := match b.tasks with | .list ds => ds.map sideD | _ => []
/-- the sides, each once, ascending, as a new list -/
def IsSides (b : BD) (H : Hp) (v : V) (H' : Hp) : Prop := ∃ (l : Addr) (ns : List Int), v = .ref l ∧ H l = none ∧ H' l = some (.lst (ns.map V.int)) ∧ ns.Pairwise (· < ·) ∧ ∀ k, k ∈ ns ↔ k ∈ sidesOf b
theorem ok_Build_sides (B : Bl mg) (T : BCls K C) (d : MethAt K C "sides" "Build.sides" s_Build_sides ["self"]) : MCal P w K mg base 1 C "sides" ["self"] (spGet K C IsSides) := d.cal fun f fd F => by
  refine F.ok sc_Build_sides (fun vs H Q E h => ?_) (fun cdv A outer s H vs Q E hr h => ?_)
  · obtain ⟨p, b, rfl, _⟩ := h; rfl
  · obtain ⟨p, b, rfl, ⟨ok, dx, fs, q0, kvs, e1, e2, e3, e4, e5⟩, q⟩ := h
    have hu := hu_of hr
    refine ⟨_, (pss_one (ps_ret (pe_callB (cr_sortedSet rfl) rfl B.sorted hb_sorted (pa_cons (pe_callTy (cr_setL rfl) rfl B.set_ hb_set (pa_cons (pe_lc (own := [("side", 1), ("level", 2)]) (tt := tYes) rfl sc_Build_sides.nd (pi_tup (pe_dget hu (pe_fld (pv 0) rfl) pe_str (fun _ _ => rfl))) (blkOk_by (N := ["self", "side", "level"]) (sc := defScope s_Build_sides) (by decide +kernel)) (fun _ _ _ _ _ => (show PG _ _ (gTup K 2 _) from pg_tup rfl (pgs_cons (pg_name (i := 1) sc_Build_sides.nd rfl (Or.inl rfl)) (pgs_cons (pg_name (i := 2) sc_Build_sides.nd rfl (Or.inl rfl)) pgs_nil)))) (fun _ _ _ _ _ => pts_nil) (fun _ _ _ _ _ => (pv 1))) pa_nil)) pa_nil)))), ?_⟩
    walk_at "st0"
    obtain ⟨v, g1, g2⟩ := pairedKV_get (z := "tasks") e4 rfl
    obtain ⟨ds, ed, l2, l4, hall⟩ := okTasksL ok.tasks
    rw [ed] at g2
    cases g2 with
    | @tup a xs _ hs ha =>
    refine ⟨.ref p, rfl, ⟨p, C, dx, fs, _, rfl, e1, T.cls, T.n_parts, e2, ?_⟩⟩
    walk_at "st"
    refine ⟨q0, _, rfl, by rw [← g1]; exact DGet.k (k := Sum.inr "tasks") e3, a, rfl, ⟨xs, hs⟩, fun D nD => lc_mapT (fun d => V.int (sideD d)) hs ha (by omega) nD ?_ ?_⟩
    · intro x2 d2 H3 h2 hm s2 Q2 k2
      obtain ⟨sd, l, rfl, _⟩ := okTask_shape (hall d2 hm)
      cases h2 with
      | @tup t ys _ ht hb =>
      cases hb with
      | @cons x0 r0 _ _ a0 hb => cases hb with
        | @cons x1 r1 _ _ a1 hb =>
          cases hb
          cases a0
          refine ⟨t, _, rfl, ht, rfl, _, _, rfl, _, _, rfl, rfl, rfl, ?_⟩
          walk_at "st"
          exact k2 _ (Same.refl _)
    · intro H3 s3 e3
      refine ⟨D, ds.map sideD, rfl, SqL.of (by rw [e3, List.map_map]; rfl), by rw [List.length_map]; omega, fun c n nc ln => ?_⟩
      walk_at "st"
      rw [List.length_map] at ln
      refine ⟨c, _, n, rfl, upd_same, by omega, fun ns l asc mem len nl => ?_⟩
      have sc := same_new (o := SetO w c (fun j => decide (j ∈ ds.map sideD)) n) nc
      have nl3 : H3 l = none := sc.free nl
      refine q _ _ (s3.trans (sc.trans (same_new nl))) ⟨l, ns, rfl, s3.free nl3, upd_same, asc, fun k => ?_⟩
      rw [mem k, decide_eq_true_eq, sidesOf, ed]
end
end T



namespace T
section
variable {P : Program} {w : World} {K : PySem.W.Frag} {mg : Str → Option Value} {base : Heap} {C CR : Addr}
def RN : List Str := ["task_count", "levels", "side_of", "sizes", "line_of", "places", "counts", "wipes", "pads", "lends", "plain", "miss", "switch", "greatest", "all_frames", "side_frames", "has_slots", "span", "slots", "letter_port", "every", "period"]
structure RCls (K : PySem.W.Frag) (CR : Addr) : Prop where
  cls : Cls K CR
  no : ∀ f, f ∈ RN → NoAttr K CR f
theorem PartsAt.but {H H' : Hp} {p r dx : Addr} {fs : List (Str × V)} {b : BD} (h : PartsAt K C H p b) (e : H r = some (.ins CR dx fs)) (s : But r H H') (ne : p ≠ r) : PartsAt K C H' p b := by
  obtain ⟨ok, dx2, fs2, q, kvs, e1, e2, e3, e4, e5⟩ := h
  have k := But.keep e s
  exact ⟨ok, dx2, fs2, q, kvs, s _ _ e1 ne, e2, k _ _ e3 (by simp), Paired.mapP e4 fun a b r => ⟨r.1, dpKeep k r.2⟩, e5⟩
theorem okCostsL {d : PyData} (h : okCosts d = true) : ∃ a b c, d = .tuple [.int a, .int b, .int c] ∧ 1 ≤ a ∧ a ≤ 3 ∧ 0 ≤ b ∧ b ≤ 3 ∧ 0 ≤ c ∧ c ≤ 2 := by
  unfold okCosts at h
  rw [Bool.and_eq_true] at h
  obtain ⟨ds, rfl, l3⟩ := dTupleOf_tup h.1
  match ds, l3, h with
  | [x, y, z], _, h =>
    have h2 := h.2
    cases x with
    | int a => cases y with
      | int b => cases z with
        | int c => simp [dBetween] at h2; exact ⟨a, b, c, rfl, h2.1.1, h2.1.2, h2.2.1.1, h2.2.1.2, h2.2.2.1, h2.2.2.2⟩
        | _ => simp [dBetween] at h2
      | _ => simp [dBetween] at h2
    | _ => simp [dBetween] at h2
/-- what a method that fills fields of self leaves -/
def Filled (CR : Addr) (names : List Str) (r dx : Addr) (fs fs' : List (Str × V)) (H H' : Hp) : Prop := But r H H' ∧ H' r = some (.ins CR dx fs') ∧ Only fs' RN ∧ fs'.length ≤ fs.length + names.length ∧ ∀ g, g ∉ names → fs'.lookup g = fs.lookup g
def spSetCosts (K : PySem.W.Frag) (CR : Addr) : Sp := fun vs H Q _ => ∃ (r dx : Addr) (fs : List (Str × V)) (v : V) (pl a b c : Int), vs = [.ref r, v] ∧ H r = some (.ins CR dx fs) ∧ Only fs RN ∧ fs.length ≤ 500 ∧ fs.lookup ("places" : Str) = some (.int pl) ∧ Dp K H v (.tuple [.int a, .int b, .int c]) ∧
  ∀ fs' H', Filled CR ["plain", "miss", "switch", "greatest"] r dx fs fs' H H' → fs'.lookup ("plain" : Str) = some (.int a) → fs'.lookup ("miss" : Str) = some (.int b) → fs'.lookup ("switch" : Str) = some (.int c) →
    fs'.lookup ("greatest" : Str) = some (.int (a + if pl - 1 > b then pl - 1 else b)) → Q .non H'
theorem ok_set_costs (B : Bl mg) (R : RCls K CR) (d : MethAt K CR "set_costs" "Rules.set_costs" s_Rules_set_costs ["self", "costs"]) : MCal P w K mg base 1 CR "set_costs" ["self", "costs"] (spSetCosts K CR) := d.cal fun f fd F => by
  refine F.ok sc_Rules_set_costs (fun vs H Q E h => ?_) (fun cdv A outer s H vs Q E hr h => ?_)
  · obtain ⟨r, dx, fs, v, pl, a, b, c, rfl, _⟩ := h; rfl
  · obtain ⟨r, dx, fs, v, pl, a, b, c, rfl, hR, hO, hl, hp, hd, q⟩ := h
    refine ⟨_, (pss_cons (ps_asg (pv 1) (pg_tup rfl (pgs_cons (pg_fld (pv 0)) (pgs_cons (pg_fld (pv 0)) (pgs_cons (pg_fld (pv 0)) pgs_nil)))))
      (pss_one (ps_fld (pv 0) (pe_op op_add (pe_fld (pv 0) rfl) (pe_callB (call_max2 rfl) rfl B.max hb_max (pa_cons (pe_fld (pv 0) rfl) (pa_cons (pe_op op_sub (pe_fld (pv 0) rfl) pe_int) pa_nil)))) rfl))), ?_⟩
    walk_at "st0"
    cases hd with
    | @tup t xs _ hs ha =>
    cases ha with
    | @cons x0 r0 _ _ a0 ha => cases ha with
      | @cons x1 r1 _ _ a1 ha => cases ha with
        | @cons x2 r2 _ _ a2 ha =>
          cases ha; cases a0; cases a1; cases a2
          have l1 := length_putF "plain" (V.int a) fs
          have l2 := length_putF "miss" (V.int b) (putF "plain" (V.int a) fs)
          have l3 := length_putF "switch" (V.int c) (putF "miss" (V.int b) (putF "plain" (V.int a) fs))
          refine ⟨t, _, rfl, hs, rfl, _, _, rfl, ⟨_, rfl, r, CR, dx, fs, rfl, hR, R.cls, R.no _ (by decide +kernel), by omega, ?_⟩⟩
          refine ⟨_, _, rfl, ⟨_, rfl, r, CR, dx, _, rfl, upd_same, R.cls, R.no _ (by decide +kernel), by omega, ?_⟩⟩
          refine ⟨_, _, rfl, ⟨_, rfl, r, CR, dx, _, rfl, upd_same, R.cls, R.no _ (by decide +kernel), by omega, ?_⟩⟩
          refine ⟨rfl, ?_⟩
          walk_at "st"
          refine ⟨r, CR, dx, _, .int a, rfl, upd_same, R.cls, R.no _ (by decide +kernel), by walk_at "lk", ?_⟩
          walk_at "st"
          refine ⟨r, CR, dx, _, .int b, rfl, upd_same, R.cls, R.no _ (by decide +kernel), by walk_at "lk", ?_⟩
          walk_at "st"
          refine ⟨r, CR, dx, _, .int pl, rfl, upd_same, R.cls, R.no _ (by decide +kernel), by walk_at "lk", ?_⟩
          walk_at "st"
          refine ⟨b, pl - 1, rfl, ?_⟩
          walk_at "st"
          refine ⟨r, CR, dx, _, rfl, upd_same, R.cls, R.no _ (by decide +kernel), by omega, ?_⟩
          have l4 := length_putF "greatest" (V.int (a + if pl - 1 > b then pl - 1 else b)) (putF "switch" (V.int c) (putF "miss" (V.int b) (putF "plain" (V.int a) fs)))
          refine q _ _ ⟨fun z o h n => by simp only [upd_ne n]; exact h, upd_same, (((hO.put (by decide +kernel)).put (by decide +kernel)).put (by decide +kernel)).put (by decide +kernel), by simp only [List.length_cons, List.length_nil]; omega, fun g hg => ?_⟩
            (by walk_at "lk") (by walk_at "lk") (by walk_at "lk") (put_same _ _ _)
          simp only [List.mem_cons, List.not_mem_nil, or_false, not_or] at hg
          rw [put_ne _ _ hg.2.2.2, put_ne _ _ hg.2.2.1, put_ne _ _ hg.2.1, put_ne _ _ hg.1]
end
end T



namespace T
section
variable {P : Program} {w : World} {K : PySem.W.Frag} {mg : Str → Option Value} {base : Heap} {C CR : Addr}
theorem Keep.trans {H H1 H2 : Hp} (a : Keep H H1) (b : Keep H1 H2) : Keep H H2 := fun x o h n => b x o (a x o h n) n
theorem okBetween {d : PyData} {lo hi : Int} (h : dBetween d lo hi = true) : ∃ i, d = .int i ∧ lo ≤ i ∧ i ≤ hi := by
  cases d with
  | int i => simp [dBetween] at h; exact ⟨i, rfl, h.1, h.2⟩
  | _ => simp [dBetween] at h
theorem okBool {d : PyData} (h : isBool d = true) : ∃ b, d = .bool b := by
  cases d with
  | bool b => exact ⟨b, rfl⟩
  | _ => simp [isBool] at h
theorem sides_pos {b : BD} (ok : BOk b) {ns : List Int} (h : ∀ k, k ∈ ns ↔ k ∈ sidesOf b) : 0 < ns.length := by
  obtain ⟨ds, ed, l2, _⟩ := okTasksL ok.tasks
  match ds, ed, l2 with
  | x :: r, ed, _ =>
    have z := (h (sideD x)).mpr (by rw [sidesOf, ed]; simp)
    exact List.length_pos_of_mem z
theorem sides_few {b : BD} (ok : BOk b) {ns : List Int} (p : ns.Pairwise (· < ·)) (h : ∀ k, k ∈ ns ↔ k ∈ sidesOf b) : ns.length ≤ 4 := by
  obtain ⟨ds, ed, _, l4, _⟩ := okTasksL ok.tasks
  have nd : ns.Nodup := p.imp fun h => Int.ne_of_lt h
  have sb : ns ⊆ ds.map sideD := fun k hk => by have z := (h k).mp hk; rwa [sidesOf, ed] at z
  have z := List.Nodup.length_le_of_subset nd sb
  rw [List.length_map] at z
  omega
def spSetFrames (K : PySem.W.Frag) (C CR : Addr) : Sp := fun vs H Q _ => ∃ (r dx : Addr) (fs : List (Str × V)) (p : Addr) (b : BD), vs = [.ref r, .ref p] ∧ H r = some (.ins CR dx fs) ∧ Only fs RN ∧ fs.length ≤ 500 ∧ p ≠ r ∧ PartsAt K C H p b ∧
  ∀ fs' H', Filled CR ["all_frames", "side_frames", "side_frames"] r dx fs fs' H H' → Q .non H'
theorem ok_set_frames (B : Bl mg) (R : RCls K CR) (m_frames : MCal P w K mg base 1 C "frames" ["self"] (spGet K C fun b H v H' => Dp K H' v b.frames)) (m_share : MCal P w K mg base 1 C "share" ["self"] (spGet K C fun b H v H' => Dp K H' v b.share)) (m_sides : MCal P w K mg base 1 C "sides" ["self"] (spGet K C IsSides))
    (d : MethAt K CR "set_frames" "Rules.set_frames" s_Rules_set_frames ["self", "build"]) : MCal P w K mg base 2 CR "set_frames" ["self", "build"] (spSetFrames K C CR) := d.cal fun f fd F => by
  refine F.ok sc_Rules_set_frames (fun vs H Q E h => ?_) (fun cdv A outer s H vs Q E hr h => ?_)
  · obtain ⟨r, dx, fs, p, b, rfl, _⟩ := h; rfl
  · obtain ⟨r, dx, fs, p, b, rfl, hR, hO, hl, hne, hp, q⟩ := h
    have hu := hu_of hr
    refine ⟨_, (pss_cons (ps_fld (pv 0) (pe_mcal0 m_frames (hr.mono (by omega)) (pv 1)) rfl)
      (pss_cons (ps_fld (pv 0) (pe_fld (pv 0) rfl) rfl)
      (pss_one (ps_if (pt_val (pe_mcal0 m_share (hr.mono (by omega)) (pv 1))) (pss_one (ps_fld (pv 0) (pe_op op_fdivW (pe_fld (pv 0) rfl) (pe_callB call_len_seq rfl B.len hb_len (pa_cons (pe_mcal0 m_sides (hr.mono (by omega)) (pv 1)) pa_nil))) rfl)) pss_nil)))), ?_⟩
    have nof : ∀ m : Str, m ≠ ("_parts" : Str) → m ≠ ("rules" : Str) → ∃ dx2 fs2, H p = some (.ins C dx2 fs2) ∧ fs2.lookup m = none := by
      obtain ⟨ok, dx2, fs2, q0, kvs, e1, e2, e3, e4, e5⟩ := hp
      exact fun m h1 h2 => ⟨dx2, fs2, e1, e5 m h1 h2⟩
    walk_at "st0"
    obtain ⟨dx2, fs2, ep, en⟩ := nof "frames" (by decide +kernel) (by decide +kernel)
    refine ⟨p, dx2, fs2, rfl, ep, en, ?_⟩
    walk_at "st"
    refine ⟨p, b, rfl, hp, fun v1 H1 s1 d1 => ?_⟩
    walk_at "st"
    obtain ⟨i, ei, _⟩ := okBetween hp.ok.frames
    simp only [ei] at d1
    cases d1
    have hR1 := s1 _ _ hR
    have l1 := length_putF "all_frames" (V.int i) fs
    refine ⟨r, CR, dx, fs, rfl, hR1, R.cls, R.no _ (by decide +kernel), by omega, ?_⟩
    walk_at "st"
    refine ⟨r, CR, dx, _, .int i, rfl, upd_same, R.cls, R.no _ (by decide +kernel), by walk_at "lk", ?_⟩
    walk_at "st"
    refine ⟨r, CR, dx, _, rfl, upd_same, R.cls, R.no _ (by decide +kernel), by omega, ?_⟩
    have l2 := length_putF "side_frames" (V.int i) (putF "all_frames" (V.int i) fs)
    have b1 : But r H (upd H1 r (.ins CR dx (putF "all_frames" (V.int i) fs))) := (But.same s1).trans But.put
    have b2 : But r H (upd (upd H1 r (.ins CR dx (putF "all_frames" (V.int i) fs))) r (.ins CR dx (putF "side_frames" (V.int i) (putF "all_frames" (V.int i) fs)))) := b1.trans But.put
    walk_at "st"
    obtain ⟨dx3, fs3, ep3, en3⟩ := nof "share" (by decide +kernel) (by decide +kernel)
    refine ⟨p, dx3, fs3, rfl, b2 _ _ ep3 hne, en3, ?_⟩
    walk_at "st"
    have hp2 := hp.but hR b2 hne
    refine ⟨p, b, rfl, hp2, fun v3 H3 s3 d3 => ?_⟩
    obtain ⟨sh, es⟩ := okBool hp.ok.share
    simp only [es] at d3
    cases d3
    walk_at "st"
    refine q_if (fun hc => ?_) (fun hc => ?_)
    · walk_at "st"
      have hR3 := s3 _ _ (upd_same : upd _ r _ r = _)
      refine ⟨r, CR, dx, _, .int i, rfl, hR3, R.cls, R.no _ (by decide +kernel), by walk_at "lk", ?_⟩
      walk_at "st"
      obtain ⟨dx4, fs4, ep4, en4⟩ := nof "sides" (by decide +kernel) (by decide +kernel)
      refine ⟨p, dx4, fs4, rfl, s3 _ _ (b2 _ _ ep4 hne), en4, ?_⟩
      walk_at "st"
      refine ⟨p, b, rfl, hp2.mono s3, fun v4 H4 s4 d4 => ?_⟩
      obtain ⟨l, ns, rfl, _, hns, pw, mem⟩ := d4
      refine ⟨l, _, rfl, .inl (SqL.of hns), ?_⟩
      rw [List.length_map]
      have pos := sides_pos hp.ok mem
      have few := sides_few hp.ok pw mem
      refine ⟨i, (ns.length : Int), rfl, rfl, wide_div (b := 3) (by omega) (by show ((ns.length : Int)).natAbs < 8; omega) (by omega) (by omega), ?_⟩
      walk_at "st"
      refine ⟨r, CR, dx, _, rfl, s4 _ _ hR3, R.cls, R.no _ (by decide +kernel), by omega, ?_⟩
      have b4 : But r H H4 := b2.trans ((But.same s3).trans (But.same s4))
      have l3 := length_putF "side_frames" (V.int (i / (ns.length : Int))) (putF "side_frames" (V.int i) (putF "all_frames" (V.int i) fs))
      have hq := q (putF "side_frames" (V.int (i / (ns.length : Int))) (putF "side_frames" (V.int i) (putF "all_frames" (V.int i) fs))) _ ⟨b4.trans But.put, upd_same, (((hO.put (by decide +kernel)).put (by decide +kernel)).put (by decide +kernel)), by simp only [List.length_cons, List.length_nil]; omega, fun g hg => ?_⟩
      · exact hq
      · simp only [List.mem_cons, List.not_mem_nil, or_false, not_or] at hg
        rw [put_ne _ _ hg.2.1, put_ne _ _ hg.2.1, put_ne _ _ hg.1]
    · refine q (putF "side_frames" (V.int i) (putF "all_frames" (V.int i) fs)) _ ⟨b2.trans (But.same s3), s3 _ _ upd_same, ((hO.put (by decide +kernel)).put (by decide +kernel)), by simp only [List.length_cons, List.length_nil]; omega, fun g hg => ?_⟩
      simp only [List.mem_cons, List.not_mem_nil, or_false, not_or] at hg
      rw [put_ne _ _ hg.2.1, put_ne _ _ hg.1]
end
end T



namespace T
section
variable {P : Program} {w : World} {K : PySem.W.Frag} {mg : Str → Option Value} {base : Heap} {C CR : Addr}
theorem q_gname {σ : L2.St} {H : Hp} {i : Nat} {v : V} {q : L2.St → Hp → Prop} (h : q (σ.set i (some v)) H) : gName i v σ H q := h
theorem q_app {σ : L2.St} {H : Hp} {D : Ends} {i : Nat} {te : TE} {a : Addr} {acc : List V} (hv : σ[i]? = some (some (.ref a))) (ha : H a = some (.lst acc)) (h : te σ H fun y H2 => ∃ l xs z, V.ref a = .ref l ∧ [y] = [z] ∧ H2 l = some (.lst xs) ∧ xs.length < sizeLine ∧ D.nx σ (upd H2 l (.lst (xs ++ [z])))) : tDrop (tBM K "list" rAppend (tVar i) (tCons te tNil)) D σ H :=
  ⟨_, hv, .inl ⟨rfl, acc, SqL.of ha⟩, h⟩
/-- what stands at a tick of the slots -/
abbrev STick := Int × Bool × Bool
def RowV (H : Hp) (y : V) (s : STick) : Prop := ∃ t, y = .ref t ∧ H t = some (.tup [.int s.1, .bl s.2.1, .bl s.2.2])
def slotOf : PyData → Int × Int | .tuple [.int t, .int k] => (t, k) | _ => (0, 0)
def tickAt (sw g t k : Int) (j : Nat) : STick := (t, decide ((0 : Int) + j = 0), decide ((0 : Int) + j ≥ sw) && decide (k - (0 + j) ≥ g))
def ticksOf (sw g : Int) (p : Int × Int) : List STick := (List.range p.2.toNat).map (tickAt sw g p.1 p.2)
def slotTicks (sw g : Int) (rs : List PyData) : List STick := rs.flatMap fun r => ticksOf sw g (slotOf r)
def okSlotRow (d : PyData) : Prop := ∃ t k, d = .tuple [.int t, .int k] ∧ 1 ≤ k ∧ k ≤ 12
theorem slotTicks_len {sw g : Int} : ∀ {rs : List PyData}, (∀ r ∈ rs, okSlotRow r) → (slotTicks sw g rs).length ≤ 12 * rs.length
  | [], _ => by simp [slotTicks]
  | r :: rs, h => by
    have z := slotTicks_len (sw := sw) (g := g) (rs := rs) fun x hx => h x (List.mem_cons_of_mem _ hx)
    obtain ⟨t, k, rfl, h1, h2⟩ := h r List.mem_cons_self
    unfold slotTicks at z ⊢
    rw [List.flatMap_cons, List.length_append, List.length_cons]
    have e : (ticksOf sw g (slotOf (.tuple [.int t, .int k]))).length = k.toNat := by simp [ticksOf, slotOf]
    omega
theorem slotTicks_snoc {sw g : Int} {rs : List PyData} {r : PyData} : slotTicks sw g (rs ++ [r]) = slotTicks sw g rs ++ ticksOf sw g (slotOf r) := by simp [slotTicks]
theorem RowV.keep {H H' : Hp} {D : Addr} {acc : List V} (e : H D = some (.lst acc)) (k : But D H H') : ∀ {y : V} {s : STick}, RowV H y s → RowV H' y s := by
  rintro y s ⟨t, rfl, h⟩
  exact ⟨t, rfl, k _ _ h fun z => by subst z; rw [e] at h; cases h⟩
theorem paired_snoc {α β : Type} {R : α → β → Prop} : ∀ {xs : List α} {ys : List β} {x : α} {y : β}, Paired R xs ys → R x y → Paired R (xs ++ [x]) (ys ++ [y])
  | [], [], _, _, .nil, r => .cons r .nil
  | _ :: _, _ :: _, _, _, .cons a t, r => .cons a (paired_snoc t r)
theorem paired_len {α β : Type} {R : α → β → Prop} : ∀ {xs : List α} {ys : List β}, Paired R xs ys → xs.length = ys.length
  | [], [], .nil => rfl
  | _ :: _, _ :: _, .cons _ t => by simp [paired_len t]
def spSlotTicks (K : PySem.W.Frag) (CR : Addr) : Sp := fun vs H Q _ => ∃ (r dx : Addr) (fs : List (Str × V)) (v : V) (sw g : Int) (rs : List PyData), vs = [.ref r, v] ∧ H r = some (.ins CR dx fs) ∧ fs.lookup ("switch" : Str) = some (.int sw) ∧ fs.lookup ("greatest" : Str) = some (.int g) ∧ Dp K H v (.list rs) ∧ rs.length ≤ 4 ∧ (∀ x ∈ rs, okSlotRow x) ∧
  ∀ t ys H', Same H H' → H t = none → H' t = some (.tup ys) → Paired (RowV H') ys (slotTicks sw g rs) → Q (.ref t) H'
theorem ok_slot_ticks (B : Bl mg) (R : RCls K CR) (d : MethAt K CR "slot_ticks" "Rules.slot_ticks" s_Rules_slot_ticks ["self", "rows"]) : MCal P w K mg base 1 CR "slot_ticks" ["self", "rows"] (spSlotTicks K CR) := d.cal fun f fd F => by
  refine F.ok sc_Rules_slot_ticks (fun vs H Q E h => ?_) (fun cdv A outer s H vs Q E hr h => ?_)
  · obtain ⟨r, dx, fs, v, sw, g, rs, rfl, _⟩ := h; rfl
  · obtain ⟨r, dx, fs, v, sw, g, rs, rfl, hR, hsw, hg, hd, l4, hall, q⟩ := h
    refine ⟨_, (pss_cons (ps_set (i := 2) sc_Rules_slot_ticks.nd rfl (Or.inl rfl) (pe_lst pa_nil))
      (pss_cons (ps_for PassesOwn.never rfl (pi_list (pv 1)) (pg_tup rfl (pgs_cons (pg_name (i := 3) sc_Rules_slot_ticks.nd rfl (Or.inl rfl)) (pgs_cons (pg_name (i := 4) sc_Rules_slot_ticks.nd rfl (Or.inl rfl)) pgs_nil))) (pss_one (ps_for PassesOwn.never rfl (pi_range1 rfl B.range (pa_cons (pv 4) pa_nil)) (pg_name (i := 5) sc_Rules_slot_ticks.nd rfl (Or.inl rfl)) (pss_cons (ps_set (i := 6) sc_Rules_slot_ticks.nd rfl (Or.inl rfl) (pe_and (pe_cmpR op_ge (pv 5) (pe_fld (pv 0) rfl) (nomark _)) (pe_one (pe_cmpR op_ge (pe_op op_sub (pv 4) (pv 5)) (pe_fld (pv 0) rfl) (nomark _)))))
      (pss_one (ps_expr (pe_bm PySem.F.plainAttrs_list PySem.F.slot_list_append PySem.F.type_list_append mt_append (pv 2) (pa_cons (pe_tup (pa_cons (pv 3) (pa_cons (pe_cmpR op_eq (pv 5) pe_int (nomark _)) (pa_cons (pv 6) pa_nil)))) pa_nil))))))))
      (pss_one (ps_ret (pe_callTy call_tuple_of rfl B.tuple_ hb_tuple (pa_cons (pv 2) pa_nil)))))), ?_⟩
    cases hd with
    | @lst a xs _ hs ha =>
    have lx : xs.length = rs.length := ha.length
    walk_at "st0"
    refine ⟨by show 0 ≤ sizeLine; decide, fun D nD => ?_⟩
    have sD := same_new (o := .lst []) nD
    walk_at "st"
    let I : Nat → L2.St → Hp → Prop := fun i σ H2 => ∃ o1 o2 o3 o4, σ = [some (.ref r), some (.ref a), some (.ref D), o1, o2, o3, o4] ∧ Same H H2 ∧ ∃ acc, H2 D = some (.lst acc) ∧ Paired (RowV H2) acc (slotTicks sw g (rs.take i))
    refine q_forV xs I rfl (sD.seq hs) ⟨_, _, _, _, rfl, sD, [], upd_same, by simpa [slotTicks] using Paired.nil⟩ (fun i σ H2 _ hI => ?_) (fun i x σ H2 ex hI => ?_) (fun σ H2 hI => ?_)
    · obtain ⟨o1, o2, o3, o4, rfl, s2, _⟩ := hI
      exact s2.seq hs
    · obtain ⟨o1, o2, o3, o4, rfl, s2, acc, eD, pr⟩ := hI
      obtain ⟨dr, er, hdr⟩ := ha.get' ex
      obtain ⟨t, k, rfl, k1, k2⟩ := hall dr (List.mem_of_getElem? er)
      have hdr2 := L2.Dp.mono s2 hdr
      cases hdr2 with
      | @tup b ys _ hb hc =>
      cases hc with
      | @cons x0 r0 _ _ a0 hc => cases hc with
        | @cons x1 r1 _ _ a1 hc =>
          cases hc; cases a0; cases a1
          refine ⟨b, _, rfl, hb, rfl, _, _, rfl, _, _, rfl, rfl, ?_⟩
          dsimp only [List.set_cons_zero, List.set_cons_succ]
          have lt : i < rs.length := by rw [← lx]; exact (List.getElem?_eq_some_iff.mp ex).1
          have tk : rs.take (i + 1) = rs.take i ++ [.tuple [.int t, .int k]] := by
            rw [List.take_add_one, er]; rfl
          have lacc := paired_len pr
          have lst := slotTicks_len (sw := sw) (g := g) (rs := rs.take i) fun z hz => hall z (List.mem_of_mem_take hz)
          rw [List.length_take] at lst
          let J : Nat → L2.St → Hp → Prop := fun j σ H3 => ∃ o3 o4, σ = [some (.ref r), some (.ref a), some (.ref D), some (.int t), some (.int k), o3, o4] ∧ Same H H3 ∧ ∃ acc, H3 D = some (.lst acc) ∧ Paired (RowV H3) acc (slotTicks sw g (rs.take i) ++ (List.range j).map (tickAt sw g t k))
          refine q_forR J rfl (by omega) (by omega) ⟨_, _, rfl, s2, acc, eD, by simpa using pr⟩ (fun j σ H3 lj hJ => ?_) (fun σ H3 hJ => ?_)
          · obtain ⟨o3, o4, rfl, s3, acc3, eD3, pr3⟩ := hJ
            have l3 := paired_len pr3
            rw [List.length_append, List.length_map, List.length_range] at l3
            refine q_gname ?_
            dsimp only [List.set_cons_zero, List.set_cons_succ]
            walk_at "st"
            refine ⟨r, CR, dx, fs, _, rfl, s3 _ _ hR, R.cls, R.no _ (by decide +kernel), hsw, ?_⟩
            walk_at "st"
            have fin : ∀ v : Bool, v = (decide ((0 : Int) + j ≥ sw) && decide (k - (0 + j) ≥ g)) → ∀ p, H3 p = none → J (j + 1) [some (.ref r), some (.ref a), some (.ref D), some (.int t), some (.int k), some (.int (0 + j)), some (.bl v)] (upd (upd H3 p (.tup [.int t, .bl (decide (V.int (0 + (j : Int)) = V.int 0)), .bl v])) D (.lst (acc3 ++ [.ref p]))) := fun v ev p np => by
              have sp := same_new (o := .tup [.int t, .bl (decide (V.int (0 + (j : Int)) = V.int 0)), .bl v]) np
              have bt : But D (upd H3 p (.tup [.int t, .bl (decide (V.int (0 + (j : Int)) = V.int 0)), .bl v])) (upd (upd H3 p (.tup [.int t, .bl (decide (V.int (0 + (j : Int)) = V.int 0)), .bl v])) D (.lst (acc3 ++ [.ref p]))) := But.put
              refine ⟨_, _, rfl, fun b o hb => bt _ _ (sp _ _ (s3 _ _ hb)) (ne_of_none hb nD), _, upd_same, ?_⟩
              rw [List.range_succ, List.map_append, ← List.append_assoc]
              refine paired_snoc (Paired.mapP pr3 fun y s h => RowV.keep (sp _ _ eD3) bt (by obtain ⟨t, rfl, h⟩ := h; exact ⟨t, rfl, sp _ _ h⟩)) ⟨p, rfl, ?_⟩
              refine bt _ _ ?_ (fun z => ?_)
              · rw [upd_same, ev]
                simp only [tickAt, V.int.injEq]
              · subst z; rw [np] at eD3; cases eD3
            refine q_if (fun hc => ?_) (fun hc => ?_)
            · walk_at "st"
              refine ⟨r, CR, dx, fs, _, rfl, s3 _ _ hR, R.cls, R.no _ (by decide +kernel), hg, ?_⟩
              refine q_rI0 ?_
              refine q_app rfl eD3 ?_
              walk_at "st"
              refine q_eq rfl ?_
              walk_at "st"
              refine ⟨by show 3 ≤ sizeLine; decide, fun p np => ⟨D, acc3, _, rfl, rfl, same_new np _ _ eD3, sz1000 (by omega), ?_⟩⟩
              refine fin _ ?_ p np
              rw [hc, Bool.true_and]
            · refine q_app rfl eD3 ?_
              walk_at "st"
              refine q_eq rfl ?_
              walk_at "st"
              refine ⟨by show 3 ≤ sizeLine; decide, fun p np => ⟨D, acc3, _, rfl, rfl, same_new np _ _ eD3, sz1000 (by omega), ?_⟩⟩
              refine fin _ ?_ p np
              rw [hc, Bool.false_and]
          · obtain ⟨o3, o4, rfl, s3, acc3, eD3, pr3⟩ := hJ
            refine ⟨_, _, _, _, rfl, s3, acc3, eD3, ?_⟩
            rw [tk, slotTicks_snoc]
            exact pr3
    · obtain ⟨o1, o2, o3, o4, rfl, s2, acc, eD, pr⟩ := hI
      rw [lx, List.take_length] at pr
      walk_at "st"
      refine ⟨D, acc, rfl, .inl ⟨SqL.of eD, fun p np => ?_⟩⟩
      have sp := same_new (o := .tup acc) np
      exact q p acc _ (s2.trans sp) (s2.free np) upd_same (Paired.mapP pr fun y s h => by obtain ⟨t, rfl, h⟩ := h; exact ⟨t, rfl, sp _ _ h⟩)
end
end T



namespace T
section
variable {P : Program} {w : World} {K : PySem.W.Frag} {mg : Str → Option Value} {base : Heap} {C CR : Addr}
def planHas : PyData → Bool | .tuple [.str z, _] => decide (z = "slots") | _ => false
def planSpan : PyData → Int | .tuple [.str _, .int n] => n | _ => 0
def planTicks (sw g : Int) : PyData → List STick | .tuple [.str _, .list rs] => slotTicks sw g rs | _ => []
def spSetPlan (K : PySem.W.Frag) (CR : Addr) : Sp := fun vs H Q _ => ∃ (r dx : Addr) (fs : List (Str × V)) (v : V) (sw g : Int) (c : Cnt) (pl : PyData), vs = [.ref r, v] ∧ H r = some (.ins CR dx fs) ∧ Only fs RN ∧ fs.length ≤ 500 ∧ fs.lookup ("switch" : Str) = some (.int sw) ∧ fs.lookup ("greatest" : Str) = some (.int g) ∧ Dp K H v pl ∧ okPlan c pl = true ∧
  ∀ fs' H' t ys, Filled CR ["has_slots", "span", "slots"] r dx fs fs' H H' → fs'.lookup ("has_slots" : Str) = some (.bl (planHas pl)) → fs'.lookup ("span" : Str) = some (.int (planSpan pl)) → fs'.lookup ("slots" : Str) = some (.ref t) → H' t = some (.tup ys) → Paired (RowV H') ys (planTicks sw g pl) → ys.length ≤ 48 → Q .non H'
theorem ok_set_plan (B : Bl mg) (R : RCls K CR) (m_slot_ticks : MCal P w K mg base 1 CR "slot_ticks" ["self", "rows"] (spSlotTicks K CR)) (d : MethAt K CR "set_plan" "Rules.set_plan" s_Rules_set_plan ["self", "plan"]) : MCal P w K mg base 2 CR "set_plan" ["self", "plan"] (spSetPlan K CR) := d.cal fun f fd F => by
  refine F.ok sc_Rules_set_plan (fun vs H Q E h => ?_) (fun cdv A outer s H vs Q E hr h => ?_)
  · obtain ⟨r, dx, fs, v, sw, g, c, pl, rfl, _⟩ := h; rfl
  · obtain ⟨r, dx, fs, v, sw, g, c, pl, rfl, hR, hO, hl, hsw, hg, hd, ok, q⟩ := h
    refine ⟨_, (pss_cons (ps_asg (pv 1) (pg_tup rfl (pgs_cons (pg_name (i := 2) sc_Rules_set_plan.nd rfl (Or.inl rfl)) (pgs_cons (pg_name (i := 3) sc_Rules_set_plan.nd rfl (Or.inl rfl)) pgs_nil))))
      (pss_cons (ps_fld (pv 0) (pe_cmpR op_eq (pv 2) pe_str (nomark _)) rfl)
      (pss_cons (ps_fld (pv 0) (pe_ifExp (pt_val (pe_fld (pv 0) rfl)) pe_int (pv 3)) rfl)
      (pss_one (ps_fld (pv 0) (pe_ifExp (pt_val (pe_fld (pv 0) rfl)) (pe_mcal m_slot_ticks (hr.mono (by omega)) (pv 0) (pa_cons (pv 3) pa_nil)) (pe_tup pa_nil)) rfl))))), ?_⟩
    obtain ⟨z, e, rfl, hz⟩ := okPlanL ok
    walk_at "st0"
    cases hd with
    | @tup a xs _ hs ha =>
    cases ha with
    | @cons x0 r0 _ _ a0 ha => cases ha with
      | @cons x1 r1 _ _ a1 ha =>
        cases ha
        cases a0
        refine ⟨a, _, rfl, hs, rfl, _, _, rfl, _, _, rfl, rfl, ?_⟩
        walk_at "st"
        refine q_eq rfl ?_
        walk_at "st"
        have l1 := length_putF "has_slots" (V.bl (decide (V.str z = V.str "slots"))) fs
        refine ⟨r, CR, dx, fs, rfl, hR, R.cls, R.no _ (by decide +kernel), by omega, ?_⟩
        walk_at "st"
        refine ⟨r, CR, dx, _, _, rfl, upd_same, R.cls, R.no _ (by decide +kernel), by walk_at "lk", ?_⟩
        walk_at "st"
        rcases hz with ⟨rfl, i, rfl, _⟩ | ⟨rfl, hz⟩
        · have e1 : decide (V.str "levels" = V.str "slots") = false := decide_eq_false (fun q => slots_ne (V.str.inj q))
          rw [e1] at l1 ⊢
          refine iteF ?_
          cases a1
          walk_at "st"
          have l2 := length_putF "span" (V.int i) (putF "has_slots" (V.bl false) fs)
          refine ⟨r, CR, dx, _, rfl, upd_same, R.cls, R.no _ (by decide +kernel), by omega, ?_⟩
          walk_at "st"
          refine ⟨r, CR, dx, _, _, rfl, upd_same, R.cls, R.no _ (by decide +kernel), by walk_at "lk", ?_⟩
          walk_at "st"
          refine iteF ?_
          walk_at "st"
          refine ⟨by show 0 ≤ sizeLine; decide, fun p np => ?_⟩
          have sp := same_new (o := .tup []) np
          walk_at "st"
          have l3 := length_putF "slots" (V.ref p) (putF "span" (V.int i) (putF "has_slots" (V.bl false) fs))
          refine ⟨r, CR, dx, _, rfl, sp _ _ upd_same, R.cls, R.no _ (by decide +kernel), by omega, ?_⟩
          have bt := ((((But.refl (r := r) (H := H)).trans But.put).trans But.put).trans (But.same sp)).trans (But.put (o := .ins CR dx (putF "slots" (V.ref p) (putF "span" (V.int i) (putF "has_slots" (V.bl false) fs)))))
          have npr : p ≠ r := fun z => by subst z; rw [upd_same] at np; cases np
          refine q _ _ p [] ⟨bt, upd_same, ((hO.put (by decide +kernel)).put (by decide +kernel)).put (by decide +kernel), by simp only [List.length_cons, List.length_nil]; omega, fun g hg => ?_⟩ (by rw [planHas]; walk_at "lk") (by rw [planSpan]; walk_at "lk") (put_same _ _ _) (But.put _ _ upd_same npr) .nil (by simp)
          simp only [List.mem_cons, List.not_mem_nil, or_false, not_or] at hg
          rw [put_ne _ _ hg.2.2, put_ne _ _ hg.2.1, put_ne _ _ hg.1]
        · have e1 : decide (V.str "slots" = V.str "slots") = true := decide_eq_true rfl
          rw [e1] at l1 ⊢
          refine iteT ?_
          obtain ⟨rs, rfl, r1, r4, hall⟩ := okSlotsL hz
          walk_at "st"
          have l2 := length_putF "span" (V.int 0) (putF "has_slots" (V.bl true) fs)
          refine ⟨r, CR, dx, _, rfl, upd_same, R.cls, R.no _ (by decide +kernel), by omega, ?_⟩
          walk_at "st"
          refine ⟨r, CR, dx, _, _, rfl, upd_same, R.cls, R.no _ (by decide +kernel), by walk_at "lk", ?_⟩
          walk_at "st"
          refine iteT ?_
          walk_at "st"
          refine ⟨r, dx, _, rfl, upd_same, by rw [put_ne _ _ (by decide +kernel), put_ne _ _ (by decide +kernel)]; exact hO _ (by decide +kernel), ?_⟩
          have hk := But.keep hR ((But.put (r := r) (H := H) (o := .ins CR dx (putF "has_slots" (V.bl true) fs))).trans (But.put (o := .ins CR dx (putF "span" (V.int 0) (putF "has_slots" (V.bl true) fs)))))
          walk_at "st"
          have ha : ∀ x ∈ rs, okSlotRow x := fun x hx => by
            obtain ⟨t, k, e, _, _, k1, k2⟩ := hall x hx
            exact ⟨t, k, e, k1, k2⟩
          refine ⟨r, dx, _, _, sw, g, rs, rfl, upd_same, by walk_at "lk", by walk_at "lk", dpKeep hk a1, r4, ha, fun t ys H2 s2 nt ht pr => ?_⟩
          walk_at "st"
          have l3 := length_putF "slots" (V.ref t) (putF "span" (V.int 0) (putF "has_slots" (V.bl true) fs))
          refine ⟨r, CR, dx, _, rfl, s2 _ _ upd_same, R.cls, R.no _ (by decide +kernel), by omega, ?_⟩
          have bt := ((((But.refl (r := r) (H := H)).trans But.put).trans But.put).trans (But.same s2)).trans (But.put (o := .ins CR dx (putF "slots" (V.ref t) (putF "span" (V.int 0) (putF "has_slots" (V.bl true) fs)))))
          have ntr : t ≠ r := fun z => by subst z; rw [upd_same] at nt; cases nt
          have ly := paired_len pr
          have lt := slotTicks_len (sw := sw) (g := g) ha
          refine q _ _ t ys ⟨bt, upd_same, ((hO.put (by decide +kernel)).put (by decide +kernel)).put (by decide +kernel), by simp only [List.length_cons, List.length_nil]; omega, fun g hg => ?_⟩ (by rw [planHas]; walk_at "lk") (by show _ = some (V.int (0 : Int)); walk_at "lk") (put_same _ _ _) (But.put _ _ ht ntr) (Paired.mapP pr fun y s h => ?_) (by omega)
          · simp only [List.mem_cons, List.not_mem_nil, or_false, not_or] at hg
            rw [put_ne _ _ hg.2.2, put_ne _ _ hg.2.1, put_ne _ _ hg.1]
          · obtain ⟨t2, rfl, h⟩ := h
            refine ⟨t2, rfl, But.put _ _ h fun z => ?_⟩
            subst z
            rw [s2 _ _ upd_same] at h; cases h
end
end T



namespace T
section
variable {P : Program} {w : World} {K : PySem.W.Frag} {mg : Str → Option Value} {base : Heap} {C CR : Addr}
structure LG (mg : Str → Option Value) : Prop where
  g_lcm : mg "lcm" = some (.builtin "math.lcm")
def outPort : PyData → V | .tuple [.int p, _] => .int p | _ => .non
def outEvery : PyData → Int | .tuple [_, .int e] => e | _ => 1
theorem okOutsideL {c : Cnt} {d : PyData} (h : okOutside c d = true) : d = .none ∨ ∃ p e, d = .tuple [.int p, .int e] ∧ 0 ≤ p ∧ p ≤ cnt c "port" - 1 ∧ 1 ≤ e ∧ e ≤ 4 := by
  have two : okOut2 c d = true → ∃ p e, d = .tuple [.int p, .int e] ∧ 0 ≤ p ∧ p ≤ cnt c "port" - 1 ∧ 1 ≤ e ∧ e ≤ 4 := fun h => by
    unfold okOut2 at h
    rw [Bool.and_eq_true] at h
    obtain ⟨ds, rfl, l2⟩ := dTupleOf_tup h.1
    match ds, l2, h with
    | [a, b], _, h =>
      have h2 := h.2
      rw [Bool.and_eq_true] at h2
      obtain ⟨i, rfl, i1, i2⟩ := okBetween h2.1
      obtain ⟨j, rfl, j1, j2⟩ := okBetween h2.2
      exact ⟨i, j, rfl, i1, i2, j1, j2⟩
  cases d with
  | none => exact .inl rfl
  | _ => exact .inr (two h)
def spSetLetters (K : PySem.W.Frag) (CR : Addr) : Sp := fun vs H Q _ => ∃ (r dx : Addr) (fs : List (Str × V)) (v : V) (t : Addr) (ys : List V) (c : Cnt) (d : PyData), vs = [.ref r, v] ∧ H r = some (.ins CR dx fs) ∧ Only fs RN ∧ fs.length ≤ 500 ∧ fs.lookup ("slots" : Str) = some (.ref t) ∧ H t = some (.tup ys) ∧ ys.length ≤ 48 ∧ Dp K H v d ∧ okOutside c d = true ∧
  ∀ fs' H', Filled CR ["letter_port", "every", "period"] r dx fs fs' H H' → fs'.lookup ("letter_port" : Str) = some (outPort d) → fs'.lookup ("every" : Str) = some (.int (outEvery d)) → fs'.lookup ("period" : Str) = some (.int ((Nat.lcm (outEvery d).natAbs (max ys.length 1) : Nat) : Int)) → Q .non H'
theorem ok_set_letters (B : Bl mg) (T : LG mg) (R : RCls K CR) (d : MethAt K CR "set_letters" "Rules.set_letters" s_Rules_set_letters ["self", "outside"]) : MCal P w K mg base 1 CR "set_letters" ["self", "outside"] (spSetLetters K CR) := d.cal fun f fd F => by
  refine F.ok sc_Rules_set_letters (fun vs H Q E h => ?_) (fun cdv A outer s H vs Q E hr h => ?_)
  · obtain ⟨r, dx, fs, v, t, ys, c, d, rfl, _⟩ := h; rfl
  · obtain ⟨r, dx, fs, v, t, ys, c, d, rfl, hR, hO, hl, ht, hys, l48, hd, ok, q⟩ := h
    refine ⟨_, (pss_cons (ps_asg (pe_ifExp (pt_cmp (pc_isN (pv 1))) (pe_tup (pa_cons pe_non (pa_cons pe_int pa_nil))) (pv 1)) (pg_tup rfl (pgs_cons (pg_fld (pv 0)) (pgs_cons (pg_fld (pv 0)) pgs_nil))))
      (pss_one (ps_fld (pv 0) (pe_callBfun cr_lcm rfl T.g_lcm (pa_cons (pe_fld (pv 0) rfl) (pa_cons (pe_callB (call_max2 rfl) rfl B.max hb_max (pa_cons (pe_callB call_len_seq rfl B.len hb_len (pa_cons (pe_fld (pv 0) rfl) pa_nil)) (pa_cons pe_int pa_nil))) pa_nil))) rfl))), ?_⟩
    walk_at "st0"
    have ntr : t ≠ r := fun z => by subst z; rw [hys] at hR; cases hR
    rcases okOutsideL ok with rfl | ⟨p, e, rfl, p0, p1, e1, e4⟩
    · cases hd
      refine iteT ?_
      walk_at "st"
      refine ⟨by show 2 ≤ sizeLine; decide, fun a na => ?_⟩
      have sa := same_new (o := .tup [V.non, V.int 1]) na
      refine ⟨a, _, rfl, SqT.of upd_same, rfl, _, _, rfl, ⟨_, rfl, r, CR, dx, fs, rfl, sa _ _ hR, R.cls, R.no _ (by decide +kernel), by omega, ?_⟩⟩
      have l1 := length_putF "letter_port" (V.non) fs
      refine ⟨_, _, rfl, ⟨_, rfl, r, CR, dx, _, rfl, upd_same, R.cls, R.no _ (by decide +kernel), by omega, rfl, ?_⟩⟩
      have l2 := length_putF "every" (V.int 1) (putF "letter_port" (V.non) fs)
      walk_at "st"
      refine ⟨r, CR, dx, _, _, rfl, upd_same, R.cls, R.no _ (by decide +kernel), by walk_at "lk", ?_⟩
      walk_at "st"
      refine ⟨r, CR, dx, _, _, rfl, upd_same, R.cls, R.no _ (by decide +kernel), by walk_at "lk", ?_⟩
      walk_at "st"
      have bt := (((But.same (r := r) sa).trans (But.put (o := .ins CR dx (putF "letter_port" (V.non) fs)))).trans (But.put (o := .ins CR dx (putF "every" (V.int 1) (putF "letter_port" (V.non) fs)))))
      refine ⟨t, ys, rfl, .inr (SqT.of (bt _ _ hys ntr)), ?_⟩
      walk_at "st"
      refine ⟨_, _, rfl, ?_⟩
      have em : (if (1 : Int) > (ys.length : Int) then (1 : Int) else (ys.length : Int)) = ((max ys.length 1 : Nat) : Int) := by split <;> omega
      rw [em]
      refine ⟨_, _, rfl, by omega, by omega, by omega, by omega, ?_⟩
      rw [Int.natAbs_natCast]
      walk_at "st"
      have l3 := length_putF "period" (V.int ((Nat.lcm (1 : Int).natAbs (max ys.length 1) : Nat) : Int)) (putF "every" (V.int 1) (putF "letter_port" (V.non) fs))
      refine ⟨r, CR, dx, _, rfl, upd_same, R.cls, R.no _ (by decide +kernel), by omega, ?_⟩
      refine q _ _ ⟨bt.trans But.put, upd_same, ((hO.put (by decide +kernel)).put (by decide +kernel)).put (by decide +kernel), by simp only [List.length_cons, List.length_nil]; omega, fun g hg => ?_⟩ (by show _ = some (V.non); walk_at "lk") (by show _ = some (V.int 1); walk_at "lk") (put_same _ _ _)
      simp only [List.mem_cons, List.not_mem_nil, or_false, not_or] at hg
      rw [put_ne _ _ hg.2.2, put_ne _ _ hg.2.1, put_ne _ _ hg.1]
    · rw [decide_eq_false (fun z => by subst z; cases hd)]
      refine iteF ?_
      walk_at "st"
      have sa := Same.refl H
      cases hd with
      | @tup a xs _ hs ha =>
      cases ha with
      | @cons x0 r0 _ _ a0 ha => cases ha with
        | @cons x1 r1 _ _ a1 ha =>
        cases ha; cases a0; cases a1
        refine ⟨a, _, rfl, hs, rfl, _, _, rfl, ⟨_, rfl, r, CR, dx, fs, rfl, sa _ _ hR, R.cls, R.no _ (by decide +kernel), by omega, ?_⟩⟩
        have l1 := length_putF "letter_port" (V.int p) fs
        refine ⟨_, _, rfl, ⟨_, rfl, r, CR, dx, _, rfl, upd_same, R.cls, R.no _ (by decide +kernel), by omega, rfl, ?_⟩⟩
        have l2 := length_putF "every" (V.int e) (putF "letter_port" (V.int p) fs)
        walk_at "st"
        refine ⟨r, CR, dx, _, _, rfl, upd_same, R.cls, R.no _ (by decide +kernel), by walk_at "lk", ?_⟩
        walk_at "st"
        refine ⟨r, CR, dx, _, _, rfl, upd_same, R.cls, R.no _ (by decide +kernel), by walk_at "lk", ?_⟩
        walk_at "st"
        have bt := (((But.same (r := r) sa).trans (But.put (o := .ins CR dx (putF "letter_port" (V.int p) fs)))).trans (But.put (o := .ins CR dx (putF "every" (V.int e) (putF "letter_port" (V.int p) fs)))))
        refine ⟨t, ys, rfl, .inr (SqT.of (bt _ _ hys ntr)), ?_⟩
        walk_at "st"
        refine ⟨_, _, rfl, ?_⟩
        have em : (if (1 : Int) > (ys.length : Int) then (1 : Int) else (ys.length : Int)) = ((max ys.length 1 : Nat) : Int) := by split <;> omega
        rw [em]
        refine ⟨_, _, rfl, by omega, by omega, by omega, by omega, ?_⟩
        rw [Int.natAbs_natCast]
        walk_at "st"
        have l3 := length_putF "period" (V.int ((Nat.lcm (e : Int).natAbs (max ys.length 1) : Nat) : Int)) (putF "every" (V.int e) (putF "letter_port" (V.int p) fs))
        refine ⟨r, CR, dx, _, rfl, upd_same, R.cls, R.no _ (by decide +kernel), by omega, ?_⟩
        refine q _ _ ⟨bt.trans But.put, upd_same, ((hO.put (by decide +kernel)).put (by decide +kernel)).put (by decide +kernel), by simp only [List.length_cons, List.length_nil]; omega, fun g hg => ?_⟩ (by show _ = some (V.int p); walk_at "lk") (by show _ = some (V.int e); walk_at "lk") (put_same _ _ _)
        simp only [List.mem_cons, List.not_mem_nil, or_false, not_or] at hg
        rw [put_ne _ _ hg.2.2, put_ne _ _ hg.2.1, put_ne _ _ hg.1]
end
end T



namespace T
section
variable {P : Program} {w : World} {K : PySem.W.Frag} {mg : Str → Option Value} {base : Heap} {C CR : Addr}
/-- where the making of rules stands -/
structure RS (CR r dx : Addr) (H0 H : Hp) (fs : List (Str × V)) (n : Nat) : Prop where
  ins : H r = some (.ins CR dx fs)
  only : Only fs RN
  len : fs.length ≤ n
  but : But r H0 H
theorem RS.mono {r dx : Addr} {H0 H H' : Hp} {fs : List (Str × V)} {n : Nat} (S : RS CR r dx H0 H fs n) (s : Same H H') : RS CR r dx H0 H' fs n := ⟨s _ _ S.ins, S.only, S.len, S.but.trans (But.same s)⟩
theorem RS.put {r dx : Addr} {H0 H : Hp} {fs : List (Str × V)} {n : Nat} (S : RS CR r dx H0 H fs n) (f : Str) (v : V) (hf : f ∈ RN) : RS CR r dx H0 (upd H r (.ins CR dx (putF f v fs))) (putF f v fs) (n + 1) :=
  ⟨upd_same, S.only.put hf, by have := length_putF f v fs; have := S.len; omega, S.but.trans But.put⟩
theorem RS.fill {r dx : Addr} {H0 H H' : Hp} {fs fs' : List (Str × V)} {n : Nat} {names : List Str} (S : RS CR r dx H0 H fs n) (F : Filled CR names r dx fs fs' H H') : RS CR r dx H0 H' fs' (n + names.length) :=
  ⟨F.2.1, F.2.2.1, by have := F.2.2.2.1; have := S.len; omega, S.but.trans F.1⟩
theorem RS.parts {r dx p dx0 : Addr} {H0 H : Hp} {fs fs0 : List (Str × V)} {n : Nat} {b : BD} (S : RS CR r dx H0 H fs n) (e : H0 r = some (.ins CR dx0 fs0)) (hp : PartsAt K C H0 p b) (ne : p ≠ r) : PartsAt K C H p b := hp.but e S.but ne
theorem q_get {p : Addr} {b : BD} {H : Hp} {m : Str} {R : BD → Hp → V → Hp → Prop} {Q : VK} {σ : L2.St} (hp : PartsAt K C H p b) (h1 : m ≠ ("_parts" : Str)) (h2 : m ≠ ("rules" : Str)) (k : ∀ v H', Same H H' → R b H v H' → Q v H') :
    ∃ a dx fs, V.ref p = .ref a ∧ H a = some (.ins C dx fs) ∧ fs.lookup m = none ∧ tNil σ H fun vs H2 => spGet K C R (V.ref p :: (vs ++ [])) H2 Q E0 := by
  obtain ⟨ok, dx2, fs2, q0, kvs, e1, e2, e3, e4, e5⟩ := id hp
  exact ⟨p, dx2, fs2, rfl, e1, e5 m h1 h2, p, b, rfl, hp, k⟩
theorem RS.keepPut {r dx : Addr} {H0 H : Hp} {fs : List (Str × V)} {n : Nat} (S : RS CR r dx H0 H fs n) (o : HO) : Keep H (upd H r o) := But.keep S.ins But.put
theorem RS.kp {r dx : Addr} {H0 H : Hp} {fs : List (Str × V)} {n : Nat} (S : RS CR r dx H0 H fs n) (f : Str) (v : V) : Keep H (upd H r (.ins CR dx (putF f v fs))) := But.keep S.ins But.put
theorem tl_mono {H H' : Hp} {tl : Addr} {txs : List V} {tds : List PyData} (s : Keep H H') (h : H tl = some (.lst txs) ∧ DpAll K H txs tds) : H' tl = some (.lst txs) ∧ DpAll K H' txs tds := ⟨s _ _ h.1 (by simp), dpAllKeep s h.2⟩
theorem same_keep {H H' : Hp} (s : Same H H') : Keep H H' := fun b o h _ => s _ _ h
def levelD (d : PyData) : Int := match d with | .tuple [_, .int s] => s | _ => 0
def spRules (K : PySem.W.Frag) (C CR : Addr) : Sp := fun vs H Q _ => ∃ (r dx : Addr) (p : Addr) (b : BD), vs = [.ref r, .ref p] ∧ H r = some (.ins CR dx []) ∧ p ≠ r ∧ PartsAt K C H p b ∧
  ∀ fs' H', But r H H' → H' r = some (.ins CR dx fs') → Q .non H'
theorem ok_Rules (B : Bl mg) (R : RCls K CR)
    (c_counted : Cal P w K mg base 1 "counted" ["tasks", "pages", "ports", "locks", "disk"] spCounted)
    (m_tasks : MCal P w K mg base 1 C "tasks" ["self"] (spGet K C fun b H v H' => NewL K H H' v b.tasks))
    (m_pages : MCal P w K mg base 1 C "pages" ["self"] (spGet K C fun b H v H' => NewL K H H' v b.pages))
    (m_ports : MCal P w K mg base 1 C "ports" ["self"] (spGet K C fun b H v H' => NewL K H H' v b.ports))
    (m_lines : MCal P w K mg base 1 C "lines" ["self"] (spGet K C fun b H v H' => NewL K H H' v b.lines))
    (m_locks : MCal P w K mg base 1 C "locks" ["self"] (spGet K C fun b H v H' => Dp K H' v b.locks))
    (m_disk : MCal P w K mg base 1 C "disk" ["self"] (spGet K C fun b H v H' => Dp K H' v b.disk))
    (m_costs : MCal P w K mg base 1 C "costs" ["self"] (spGet K C fun b H v H' => Dp K H' v b.costs))
    (m_plan : MCal P w K mg base 1 C "plan" ["self"] (spGet K C fun b H v H' => Dp K H' v b.plan))
    (m_outside : MCal P w K mg base 1 C "outside" ["self"] (spGet K C fun b H v H' => Dp K H' v b.outside))
    (m_wipe : MCal P w K mg base 1 C "wipe" ["self"] (spGet K C fun b H v H' => Dp K H' v b.wipe))
    (m_pad : MCal P w K mg base 1 C "pad" ["self"] (spGet K C fun b H v H' => Dp K H' v b.pad))
    (m_lend : MCal P w K mg base 1 C "lend" ["self"] (spGet K C fun b H v H' => Dp K H' v b.lend))
    (m_set_costs : MCal P w K mg base 1 CR "set_costs" ["self", "costs"] (spSetCosts K CR))
    (m_set_frames : MCal P w K mg base 2 CR "set_frames" ["self", "build"] (spSetFrames K C CR))
    (m_set_plan : MCal P w K mg base 2 CR "set_plan" ["self", "plan"] (spSetPlan K CR))
    (m_set_letters : MCal P w K mg base 1 CR "set_letters" ["self", "outside"] (spSetLetters K CR)) :
    ∀ f fd, Fun K "__init__" "Rules.__init__" s_Rules___init__ f fd → FnOk P w K mg base CX0 3 f fd ["self", "build"] (spRules K C CR) := fun f fd F => by
  refine F.ok sc_Rules___init__ (fun vs H Q E h => ?_) (fun cdv A outer s H vs Q E hr h => ?_)
  · obtain ⟨r, dx, p, b, rfl, _⟩ := h; rfl
  · obtain ⟨r, dx, p, b, rfl, hR, hne, hp, q⟩ := h
    refine ⟨_, (pss_cons (ps_set (i := 2) sc_Rules___init__.nd rfl (Or.inl rfl) (pe_mcal0 m_tasks (hr.mono (by omega)) (pv 1)))
      (pss_cons (ps_fld (pv 0) (pe_callB call_len_seq rfl B.len hb_len (pa_cons (pv 2) pa_nil)) rfl)
      (pss_cons (ps_fld (pv 0) (pe_callTy call_tuple_of rfl B.tuple_ hb_tuple (pa_cons (pe_lc (own := [("side", 3), ("level", 4)]) (tt := tYes) rfl sc_Rules___init__.nd (pi_list (pv 2)) (blkOk_by (N := ["self", "build", "tasks", "side", "level"]) (sc := defScope s_Rules___init__) (by decide +kernel)) (fun _ _ _ _ _ => (show PG _ _ (gTup K 2 _) from pg_tup rfl (pgs_cons (pg_name (i := 3) sc_Rules___init__.nd rfl (Or.inl rfl)) (pgs_cons (pg_name (i := 4) sc_Rules___init__.nd rfl (Or.inl rfl)) pgs_nil)))) (fun _ _ _ _ _ => pts_nil) (fun _ _ _ _ _ => (pv 4))) pa_nil)) rfl)
      (pss_cons (ps_fld (pv 0) (pe_callTy call_tuple_of rfl B.tuple_ hb_tuple (pa_cons (pe_lc (own := [("side", 3), ("level", 4)]) (tt := tYes) rfl sc_Rules___init__.nd (pi_list (pv 2)) (blkOk_by (N := ["self", "build", "tasks", "side", "level"]) (sc := defScope s_Rules___init__) (by decide +kernel)) (fun _ _ _ _ _ => (show PG _ _ (gTup K 2 _) from pg_tup rfl (pgs_cons (pg_name (i := 3) sc_Rules___init__.nd rfl (Or.inl rfl)) (pgs_cons (pg_name (i := 4) sc_Rules___init__.nd rfl (Or.inl rfl)) pgs_nil)))) (fun _ _ _ _ _ => pts_nil) (fun _ _ _ _ _ => (pv 3))) pa_nil)) rfl)
      (pss_cons (ps_fld (pv 0) (pe_callTy call_tuple_of rfl B.tuple_ hb_tuple (pa_cons (pe_mcal0 m_ports (hr.mono (by omega)) (pv 1)) pa_nil)) rfl)
      (pss_cons (ps_fld (pv 0) (pe_callTy call_tuple_of rfl B.tuple_ hb_tuple (pa_cons (pe_mcal0 m_lines (hr.mono (by omega)) (pv 1)) pa_nil)) rfl)
      (pss_cons (ps_fld (pv 0) (pe_mcal0 m_disk (hr.mono (by omega)) (pv 1)) rfl)
      (pss_cons (ps_fld (pv 0) (pe_cal c_counted (hr.mono (by omega)) rfl (pa_cons (pe_callB call_len_seq rfl B.len hb_len (pa_cons (pv 2) pa_nil)) (pa_cons (pe_callB call_len_seq rfl B.len hb_len (pa_cons (pe_mcal0 m_pages (hr.mono (by omega)) (pv 1)) pa_nil)) (pa_cons (pe_callB call_len_seq rfl B.len hb_len (pa_cons (pe_fld (pv 0) rfl) pa_nil)) (pa_cons (pe_mcal0 m_locks (hr.mono (by omega)) (pv 1)) (pa_cons (pe_fld (pv 0) rfl) pa_nil)))))) rfl)
      (pss_cons (ps_fld (pv 0) (pe_mcal0 m_wipe (hr.mono (by omega)) (pv 1)) rfl)
      (pss_cons (ps_fld (pv 0) (pe_mcal0 m_pad (hr.mono (by omega)) (pv 1)) rfl)
      (pss_cons (ps_fld (pv 0) (pe_mcal0 m_lend (hr.mono (by omega)) (pv 1)) rfl)
      (pss_cons (ps_expr (pe_mcal m_set_costs (hr.mono (by omega)) (pv 0) (pa_cons (pe_mcal0 m_costs (hr.mono (by omega)) (pv 1)) pa_nil)))
      (pss_cons (ps_expr (pe_mcal m_set_frames (hr.mono (by omega)) (pv 0) (pa_cons (pv 1) pa_nil)))
      (pss_cons (ps_expr (pe_mcal m_set_plan (hr.mono (by omega)) (pv 0) (pa_cons (pe_mcal0 m_plan (hr.mono (by omega)) (pv 1)) pa_nil)))
      (pss_one (ps_expr (pe_mcal m_set_letters (hr.mono (by omega)) (pv 0) (pa_cons (pe_mcal0 m_outside (hr.mono (by omega)) (pv 1)) pa_nil)))))))))))))))))), ?_⟩
    have S : RS CR r dx H H [] 0 := ⟨hR, fun _ _ => rfl, by simp, But.refl⟩
    have ok := hp.ok
    walk_at "st0"
    refine q_get hp (by decide +kernel) (by decide +kernel) fun v1 H1 s1 d1 => ?_
    replace S := S.mono s1
    walk_at "st"
    obtain ⟨tl, txs, tds, rfl, ntl, etl, ed, hta⟩ := d1
    obtain ⟨ds', ed', t2, t4, tall⟩ := okTasksL ok.tasks
    rw [ed] at ed'; cases ed'
    have ltx := hta.length
    refine ⟨tl, txs, rfl, .inl (SqL.of etl), ?_⟩
    walk_at "st"
    refine ⟨r, CR, dx, _, rfl, S.ins, R.cls, R.no _ (by decide +kernel), Nat.lt_of_le_of_lt S.len (by decide), ?_⟩
    have TL := tl_mono (S.kp "task_count" (V.int txs.length)) ⟨etl, hta⟩
    replace S := S.put "task_count" (V.int txs.length) (by decide +kernel)
    walk_at "st"
    refine ⟨_, rfl, tl, rfl, ⟨txs, SqL.of TL.1⟩, fun D nD => lc_map (fun d => V.int (levelD d)) (SqL.of TL.1) TL.2 (by omega) nD ?_ ?_⟩
    · intro x2 d2 H3 h2 hm s2 Q2 k2
      obtain ⟨sd, l, rfl, _⟩ := okTask_shape (tall d2 hm)
      cases h2 with
      | @tup t ys _ ht hb =>
      cases hb with
      | @cons x0 r0 _ _ a0 hb => cases hb with
        | @cons x1 r1 _ _ a1 hb =>
          cases hb
          cases a0; cases a1
          refine ⟨t, _, rfl, ht, rfl, _, _, rfl, _, _, rfl, rfl, rfl, ?_⟩
          walk_at "st"
          exact k2 _ (Same.refl _)
    intro H3 s3 e3
    replace S := S.mono s3
    replace TL := tl_mono (same_keep s3) TL
    refine ⟨D, _, rfl, .inl ⟨SqL.of e3, fun p1 n1 => ?_⟩⟩
    replace TL := tl_mono (same_keep (same_new (o := .tup (tds.map fun d => V.int (levelD d))) n1)) TL
    replace S := S.mono (same_new (o := .tup (tds.map fun d => V.int (levelD d))) n1)
    walk_at "st"
    refine ⟨r, CR, dx, _, rfl, S.ins, R.cls, R.no _ (by decide +kernel), Nat.lt_of_le_of_lt S.len (by decide), ?_⟩
    replace TL := tl_mono (S.kp "levels" (V.ref p1)) TL
    replace S := S.put "levels" (V.ref p1) (by decide +kernel)
    walk_at "st"
    refine ⟨_, rfl, tl, rfl, ⟨txs, SqL.of TL.1⟩, fun D2 nD2 => lc_map (fun d => V.int (sideD d)) (SqL.of TL.1) TL.2 (by omega) nD2 ?_ ?_⟩
    · intro x2 d2 H3 h2 hm s2 Q2 k2
      obtain ⟨sd, l, rfl, _⟩ := okTask_shape (tall d2 hm)
      cases h2 with
      | @tup t ys _ ht hb =>
      cases hb with
      | @cons x0 r0 _ _ a0 hb => cases hb with
        | @cons x1 r1 _ _ a1 hb =>
          cases hb
          cases a0; cases a1
          refine ⟨t, _, rfl, ht, rfl, _, _, rfl, _, _, rfl, rfl, rfl, ?_⟩
          walk_at "st"
          exact k2 _ (Same.refl _)
    intro H4 s4 e4
    replace S := S.mono s4
    replace TL := tl_mono (same_keep s4) TL
    refine ⟨D2, _, rfl, .inl ⟨SqL.of e4, fun p2 n2 => ?_⟩⟩
    replace TL := tl_mono (same_keep (same_new (o := .tup (tds.map fun d => V.int (sideD d))) n2)) TL
    replace S := S.mono (same_new (o := .tup (tds.map fun d => V.int (sideD d))) n2)
    walk_at "st"
    refine ⟨r, CR, dx, _, rfl, S.ins, R.cls, R.no _ (by decide +kernel), Nat.lt_of_le_of_lt S.len (by decide), ?_⟩
    replace TL := tl_mono (S.kp "side_of" (V.ref p2)) TL
    replace S := S.put "side_of" (V.ref p2) (by decide +kernel)
    walk_at "st"
    refine q_get (S.parts hR hp hne) (by decide +kernel) (by decide +kernel) fun v5 H5 s5 d5 => ?_
    replace S := S.mono s5
    replace TL := tl_mono (same_keep s5) TL
    walk_at "st"
    obtain ⟨pl, pxs, pds, rfl, npl, epl, edp, hpa⟩ := d5
    obtain ⟨qds, edp', q2, _⟩ := okList ok.ports
    rw [edp] at edp'; cases edp'
    have lpx := hpa.length
    refine ⟨pl, pxs, rfl, .inl ⟨SqL.of epl, fun p5 n5 => ?_⟩⟩
    replace TL := tl_mono (same_keep (same_new (o := .tup pxs) n5)) TL
    replace S := S.mono (same_new (o := .tup pxs) n5)
    have SZ : upd H5 p5 (.tup pxs) p5 = some (.tup pxs) := upd_same
    walk_at "st"
    refine ⟨r, CR, dx, _, rfl, S.ins, R.cls, R.no _ (by decide +kernel), Nat.lt_of_le_of_lt S.len (by decide), ?_⟩
    replace SZ := S.kp "sizes" (V.ref p5) _ _ SZ (by simp)
    replace TL := tl_mono (S.kp "sizes" (V.ref p5)) TL
    replace S := S.put "sizes" (V.ref p5) (by decide +kernel)
    walk_at "st"
    refine q_get (S.parts hR hp hne) (by decide +kernel) (by decide +kernel) fun v6 H6 s6 d6 => ?_
    replace S := S.mono s6
    replace TL := tl_mono (same_keep s6) TL
    replace SZ := s6 _ _ SZ
    walk_at "st"
    obtain ⟨ll, lxs, lds, rfl, nll, ell, edl, hla⟩ := d6
    refine ⟨ll, lxs, rfl, .inl ⟨SqL.of ell, fun p6 n6 => ?_⟩⟩
    replace TL := tl_mono (same_keep (same_new (o := .tup lxs) n6)) TL
    replace S := S.mono (same_new (o := .tup lxs) n6)
    replace SZ := same_new (o := .tup lxs) n6 _ _ SZ
    walk_at "st"
    refine ⟨r, CR, dx, _, rfl, S.ins, R.cls, R.no _ (by decide +kernel), Nat.lt_of_le_of_lt S.len (by decide), ?_⟩
    replace SZ := S.kp "line_of" (V.ref p6) _ _ SZ (by simp)
    replace TL := tl_mono (S.kp "line_of" (V.ref p6)) TL
    replace S := S.put "line_of" (V.ref p6) (by decide +kernel)
    walk_at "st"
    refine q_get (S.parts hR hp hne) (by decide +kernel) (by decide +kernel) fun v7 H7 s7 d7 => ?_
    replace S := S.mono s7
    replace TL := tl_mono (same_keep s7) TL
    replace SZ := s7 _ _ SZ
    have okd := ok.disk
    unfold okDisk at okd
    rw [Bool.and_eq_true] at okd
    obtain ⟨dn, edn, _⟩ := okBetween okd.1
    simp only [edn] at d7
    cases d7
    walk_at "st"
    refine ⟨r, CR, dx, _, rfl, S.ins, R.cls, R.no _ (by decide +kernel), Nat.lt_of_le_of_lt S.len (by decide), ?_⟩
    replace SZ := S.kp "places" (V.int dn) _ _ SZ (by simp)
    replace TL := tl_mono (S.kp "places" (V.int dn)) TL
    replace S := S.put "places" (V.int dn) (by decide +kernel)
    walk_at "st"
    refine ⟨tl, txs, rfl, .inl (SqL.of TL.1), ?_⟩
    walk_at "st"
    refine q_get (S.parts hR hp hne) (by decide +kernel) (by decide +kernel) fun v8 H8 s8 d8 => ?_
    replace S := S.mono s8
    replace SZ := s8 _ _ SZ
    clear TL
    obtain ⟨gl, gxs, gds, rfl, ngl, egl, edg, hga⟩ := d8
    walk_at "st"
    refine ⟨gl, gxs, rfl, .inl (SqL.of egl), ?_⟩
    walk_at "st"
    refine ⟨r, CR, dx, _, _, rfl, S.ins, R.cls, R.no _ (by decide +kernel), by walk_at "lk", ?_⟩
    walk_at "st"
    refine ⟨p5, pxs, rfl, .inr (SqT.of SZ), ?_⟩
    walk_at "st"
    refine q_get (S.parts hR hp hne) (by decide +kernel) (by decide +kernel) fun v9 H9 s9 d9 => ?_
    replace S := S.mono s9
    clear SZ
    obtain ⟨kn, ekn, _⟩ := okBetween ok.locks
    simp only [ekn] at d9
    cases d9
    walk_at "st"
    refine ⟨r, CR, dx, _, _, rfl, S.ins, R.cls, R.no _ (by decide +kernel), by walk_at "lk", ?_⟩
    walk_at "st"
    refine ⟨_, _, _, _, _, rfl, fun c10 H10 s10 nc10 ec10 => ?_⟩
    replace S := S.mono s10
    walk_at "st"
    refine ⟨r, CR, dx, _, rfl, S.ins, R.cls, R.no _ (by decide +kernel), Nat.lt_of_le_of_lt S.len (by decide), ?_⟩
    replace S := S.put "counts" (V.ref c10) (by decide +kernel)
    walk_at "st"
    refine q_get (S.parts hR hp hne) (by decide +kernel) (by decide +kernel) fun v11 H11 s11 d11 => ?_
    replace S := S.mono s11
    walk_at "st"
    refine ⟨r, CR, dx, _, rfl, S.ins, R.cls, R.no _ (by decide +kernel), Nat.lt_of_le_of_lt S.len (by decide), ?_⟩
    replace S := S.put "wipes" v11 (by decide +kernel)
    walk_at "st"
    refine q_get (S.parts hR hp hne) (by decide +kernel) (by decide +kernel) fun v12 H12 s12 d12 => ?_
    replace S := S.mono s12
    walk_at "st"
    refine ⟨r, CR, dx, _, rfl, S.ins, R.cls, R.no _ (by decide +kernel), Nat.lt_of_le_of_lt S.len (by decide), ?_⟩
    replace S := S.put "pads" v12 (by decide +kernel)
    walk_at "st"
    refine q_get (S.parts hR hp hne) (by decide +kernel) (by decide +kernel) fun v13 H13 s13 d13 => ?_
    replace S := S.mono s13
    walk_at "st"
    refine ⟨r, CR, dx, _, rfl, S.ins, R.cls, R.no _ (by decide +kernel), Nat.lt_of_le_of_lt S.len (by decide), ?_⟩
    replace S := S.put "lends" v13 (by decide +kernel)
    walk_at "st"
    refine ⟨r, dx, _, rfl, S.ins, S.only _ (by decide +kernel), ?_⟩
    walk_at "st"
    refine q_get (S.parts hR hp hne) (by decide +kernel) (by decide +kernel) fun v14 H14 s14 d14 => ?_
    replace S := S.mono s14
    walk_at "st"
    obtain ⟨ca, cb, cc, ecs, _⟩ := okCostsL ok.costs
    simp only [ecs] at d14
    refine ⟨r, dx, _, v14, dn, ca, cb, cc, rfl, S.ins, S.only, Nat.le_trans S.len (by decide), by walk_at "lk", d14, fun fs15 H15 F15 l15a l15b l15c l15d => ?_⟩
    replace S := S.fill F15
    walk_at "st"
    refine ⟨r, dx, _, rfl, S.ins, S.only _ (by decide +kernel), ?_⟩
    walk_at "st"
    refine ⟨r, dx, _, p, b, rfl, S.ins, S.only, Nat.le_trans S.len (by decide), hne, S.parts hR hp hne, fun fs16 H16 F16 => ?_⟩
    replace S := S.fill F16
    have k16 := F16.2.2.2.2
    walk_at "st"
    refine ⟨r, dx, _, rfl, S.ins, S.only _ (by decide +kernel), ?_⟩
    walk_at "st"
    refine q_get (S.parts hR hp hne) (by decide +kernel) (by decide +kernel) fun v17 H17 s17 d17 => ?_
    replace S := S.mono s17
    walk_at "st"
    refine ⟨r, dx, _, v17, cc, _, cOf b, b.plan, rfl, S.ins, S.only, Nat.le_trans S.len (by decide), by rw [k16 _ (by decide +kernel)]; exact l15c, by rw [k16 _ (by decide +kernel)]; exact l15d, d17, ok.plan, fun fs18 H18 ts ys F18 l18a l18b l18c ets prs lys => ?_⟩
    replace S := S.fill F18
    walk_at "st"
    refine ⟨r, dx, _, rfl, S.ins, S.only _ (by decide +kernel), ?_⟩
    walk_at "st"
    refine q_get (S.parts hR hp hne) (by decide +kernel) (by decide +kernel) fun v19 H19 s19 d19 => ?_
    replace S := S.mono s19
    walk_at "st"
    refine ⟨r, dx, _, v19, ts, ys, cOf b, b.outside, rfl, S.ins, S.only, Nat.le_trans S.len (by decide), l18c, s19 _ _ ets, lys, d19, ok.outside, fun fs20 H20 F20 l20a l20b l20c => ?_⟩
    replace S := S.fill F20
    exact q _ _ S.but S.ins
end
end T



namespace T
section
variable {P : Program} {w : World} {K : PySem.W.Frag} {mg : Str → Option Value} {base : Heap} {C CR : Addr}
/-- all but instances and dicts is as it was -/
def KeepD (H H' : Hp) : Prop := ∀ b o, H b = some o → (∀ C dx fs, o ≠ .ins C dx fs) → (∀ kvs, o ≠ .dK kvs) → H' b = some o
theorem KeepD.sqL {H H' : Hp} {a : Addr} {xs : List V} (s : KeepD H H') (h : SqL K H a xs) : SqL K H' a xs := by
  rcases h with (h | ⟨o, h⟩) | h
  · exact .inl (.inl (s _ _ h (by simp) (by simp)))
  · exact .inl (.inr ⟨o, s _ _ h (by simp) (by simp)⟩)
  · exact .inr h
theorem KeepD.sqT {H H' : Hp} {a : Addr} {xs : List V} (s : KeepD H H') (h : SqT K H a xs) : SqT K H' a xs := by
  rcases h with (h | ⟨o, h⟩) | h
  · exact .inl (.inl (s _ _ h (by simp) (by simp)))
  · exact .inl (.inr ⟨o, s _ _ h (by simp) (by simp)⟩)
  · exact .inr h
mutual
theorem dpKeepD {H H' : Hp} (s : KeepD H H') : ∀ {v : V} {d : PyData}, Dp K H v d → Dp K H' v d
  | _, _, .non => .non
  | _, _, .bl b => .bl b
  | _, _, .int i => .int i
  | _, _, .str x => .str x
  | _, _, .lst h a => .lst (KeepD.sqL s h) (dpAllKeepD s a)
  | _, _, .tup h a => .tup (KeepD.sqT s h) (dpAllKeepD s a)
theorem dpAllKeepD {H H' : Hp} (s : KeepD H H') : ∀ {vs : List V} {ds : List PyData}, DpAll K H vs ds → DpAll K H' vs ds
  | _, _, .nil => .nil
  | _, _, .cons h t => .cons (dpKeepD s h) (dpAllKeepD s t)
end
theorem merge_app : ∀ (more acc : List (Key × V)), ((acc ++ more).map (·.1)).Nodup → mergeK acc more = acc ++ more
  | [], acc, _ => by simp [mergeK]
  | x :: r, acc, h => by
    have hx : valV acc x.1 = none := by
      unfold valV
      rw [Option.map_eq_none_iff, List.find?_eq_none]
      intro p hp
      have z : p.1 ≠ x.1 := by
        rw [List.map_append, List.nodup_append] at h
        exact h.2.2 _ (List.mem_map_of_mem hp) _ (by simp)
      simpa using z
    have e : mergeK acc (x :: r) = mergeK (putK acc x.1 x.2) r := rfl
    rw [e, putK_new x.2 hx, merge_app r _ (by simpa using h)]
    simp
theorem em11 (v1 v2 v3 v4 v5 v6 v7 v8 v9 v10 v11 : V) : mergeK [] [(Sum.inr "tasks", v1), (Sum.inr "pages", v2), (Sum.inr "ports", v3), (Sum.inr "locks", v4), (Sum.inr "frames", v5), (Sum.inr "disk", v6), (Sum.inr "rights", v7), (Sum.inr "lines", v8), (Sum.inr "costs", v9), (Sum.inr "plan", v10), (Sum.inr "outside", v11)] = ([(Sum.inr "tasks", v1), (Sum.inr "pages", v2), (Sum.inr "ports", v3), (Sum.inr "locks", v4), (Sum.inr "frames", v5), (Sum.inr "disk", v6), (Sum.inr "rights", v7), (Sum.inr "lines", v8), (Sum.inr "costs", v9), (Sum.inr "plan", v10), (Sum.inr "outside", v11)] : List (Key × V)) :=
  merge_app _ [] (by show ([Sum.inr "tasks", Sum.inr "pages", Sum.inr "ports", Sum.inr "locks", Sum.inr "frames", Sum.inr "disk", Sum.inr "rights", Sum.inr "lines", Sum.inr "costs", Sum.inr "plan", Sum.inr "outside"] : List Key).Nodup; decide +kernel)
theorem em15 (v1 v2 v3 v4 v5 v6 v7 v8 v9 v10 v11 u1 u2 u3 u4 : V) : mergeK [(Sum.inr "tasks", v1), (Sum.inr "pages", v2), (Sum.inr "ports", v3), (Sum.inr "locks", v4), (Sum.inr "frames", v5), (Sum.inr "disk", v6), (Sum.inr "rights", v7), (Sum.inr "lines", v8), (Sum.inr "costs", v9), (Sum.inr "plan", v10), (Sum.inr "outside", v11)] [(Sum.inr "wipe", u1), (Sum.inr "pad", u2), (Sum.inr "lend", u3), (Sum.inr "share", u4)] = ([(Sum.inr "tasks", v1), (Sum.inr "pages", v2), (Sum.inr "ports", v3), (Sum.inr "locks", v4), (Sum.inr "frames", v5), (Sum.inr "disk", v6), (Sum.inr "rights", v7), (Sum.inr "lines", v8), (Sum.inr "costs", v9), (Sum.inr "plan", v10), (Sum.inr "outside", v11), (Sum.inr "wipe", u1), (Sum.inr "pad", u2), (Sum.inr "lend", u3), (Sum.inr "share", u4)] : List (Key × V)) :=
  merge_app _ _ (by show ([Sum.inr "tasks", Sum.inr "pages", Sum.inr "ports", Sum.inr "locks", Sum.inr "frames", Sum.inr "disk", Sum.inr "rights", Sum.inr "lines", Sum.inr "costs", Sum.inr "plan", Sum.inr "outside", Sum.inr "wipe", Sum.inr "pad", Sum.inr "lend", Sum.inr "share"] : List Key).Nodup; decide +kernel)
abbrev rTupOf (K : PySem.W.Frag) : List V → Hp → VK → Prop := fun xs H Q => ∃ p ys, xs = [V.ref p] ∧ ((SqL K H p ys ∧ ∀ l, H l = none → Q (.ref l) (upd H l (.tup ys))) ∨ SqT K H p ys ∧ Q (.ref p) H)
def spBuild (K : PySem.W.Frag) (C : Addr) : Sp := fun vs H Q _ => ∃ (p dx : Addr) (x1 x2 x3 x4 x5 x6 x7 x8 x9 x10 x11 x12 x13 x14 x15 : V) (b : BD), vs = [.ref p, x1, x2, x3, x4, x5, x6, x7, x8, x9, x10, x11, x12, x13, x14, x15] ∧ H p = some (.ins C dx []) ∧ BOk b ∧
  Dp K H x1 b.tasks ∧ Dp K H x2 b.pages ∧ Dp K H x3 b.ports ∧ Dp K H x4 b.locks ∧ Dp K H x5 b.frames ∧ Dp K H x6 b.disk ∧ Dp K H x7 b.rights ∧ Dp K H x8 b.lines ∧ Dp K H x9 b.costs ∧ Dp K H x10 b.plan ∧ Dp K H x11 b.outside ∧
  Dp K H x12 b.wipe ∧ Dp K H x13 b.pad ∧ Dp K H x14 b.lend ∧ Dp K H x15 b.share ∧ ∀ H', But p H H' → PartsAt K C H' p b → Q .non H'
theorem tup_fact {H : Hp} {a : Addr} {ds : List PyData} (hd : Dp K H (.ref a) (.list ds)) : ∃ xs, SqL K H a xs ∧ ∀ l, H l = none → Dp K (upd H l (.tup xs)) (.ref l) (.tuple ds) := by
  cases hd with
  | @lst a xs _ hs ha => exact ⟨xs, hs, fun l nl => .tup (SqT.of upd_same) (L2.DpAll.mono (same_new nl) ha)⟩
theorem okRightsL {c : Cnt} {d : PyData} (h : okRights c d = true) : ∃ rs, d = .list rs ∧ (rs.length : Int) = cnt c "task" ∧ ∀ r ∈ rs, ∃ l, r = .list l := by
  unfold okRights at h
  rw [Bool.and_eq_true] at h
  obtain ⟨rs, rfl, h0, h1⟩ := dListOf_list h.1
  refine ⟨rs, rfl, by omega, fun r hr => ?_⟩
  have z := List.all_eq_true.mp h.2 r hr
  unfold okRow at z
  rw [Bool.and_eq_true] at z
  obtain ⟨l, rfl, _⟩ := dListOf_list z.1
  exact ⟨l, rfl⟩
theorem thingsV_ok {b : BD} (ok : BOk b) : thingsV b.tasks b.pages b.ports b.locks b.frames b.disk = .non := by
  unfold thingsV
  rw [ok.tasks, ok.pages, ok.ports, ok.locks, ok.frames, ok.disk]; rfl
theorem waysV_ok {b : BD} (ok : BOk b) : waysV (cOf b) b.rights b.lines b.costs b.plan b.outside = .non := by
  unfold waysV
  rw [ok.rights, ok.lines, ok.costs, ok.plan, ok.outside]; rfl
theorem build_end (T : BCls K C) {p dx pq : Addr} {σ : L2.St} {H HF : Hp} {kvs : List (Key × V)} {Q : VK} {b : BD} (ok : BOk b) (hp : H p = some (.ins C dx [])) (hq : HF pq = some (.dK kvs)) (hk : Paired (fun p q => p.1 = Sum.inr q.1 ∧ Dp K HF p.2 q.2) kvs b.parts) (s : Same H HF)
    (q : ∀ H', But p H H' → PartsAt K C H' p b → Q .non H') (s0 : σ[0]? = some (some (.ref p))) :
    ∃ a C_1 dx fs, V.ref p = V.ref a ∧ HF a = some (.ins C_1 dx fs) ∧ Cls K C_1 ∧ NoAttr K C_1 "_parts" ∧ fs.length < 1000 ∧ sFld K (tVar 0) (tMake CR (spRules K C CR) [] E0 (tCons (tVar 0) tNil)) "rules" { nx := fun x H' => Q .non H', rt := Q } σ (upd HF a (.ins C_1 dx (putF "_parts" (.ref pq) fs))) := by
  have hpF := s _ _ hp
  have npq : pq ≠ p := ne_of hq hpF (by simp)
  refine ⟨p, C, dx, [], rfl, hpF, T.cls, T.n_parts, by simp, ?_⟩
  have k1 : Keep HF (upd HF p (.ins C dx (putF "_parts" (.ref pq) []))) := But.keep hpF But.put
  refine ⟨_, s0, ?_⟩
  intro x dxn nx ndx nex
  have m2 : Same (upd HF p (.ins C dx (putF "_parts" (.ref pq) []))) (upd (upd (upd HF p (.ins C dx (putF "_parts" (.ref pq) []))) dxn (.own x)) x (.ins CR dxn [])) := (same_new ndx).trans (same_new (by rw [upd_ne (Ne.symm nex)]; exact nx))
  have npx : p ≠ x := fun z => by subst z; rw [upd_same] at nx; cases nx
  have nHx : H x = none := s.free (by rw [upd_ne (Ne.symm npx)] at nx; exact nx)
  have at1 : PartsAt K C (upd HF p (.ins C dx (putF "_parts" (.ref pq) []))) p b :=
    ⟨ok, dx, _, pq, kvs, upd_same, put_same _ _ _, k1 _ _ hq (by simp), Paired.mapP hk fun a b r => ⟨r.1, dpKeep k1 r.2⟩, fun m h1 _ => by rw [put_ne _ _ h1]; rfl⟩
  refine ⟨x, dxn, p, b, rfl, upd_same, npx, at1.mono m2, fun fs' H3 bt er => ⟨rfl, ?_⟩⟩
  have hp3 := bt _ _ (m2 _ _ upd_same) npx
  refine ⟨_, s0, p, C, dx, _, rfl, hp3, T.cls, T.n_rules, by have := length_putF "_parts" (V.ref pq) []; simp at this; omega, ?_⟩
  have k2 := Keep.trans k1 (Keep.trans (same_keep m2) (Keep.trans (But.keep (upd_same : upd _ x _ x = _) bt) (But.keep hp3 (But.put (o := .ins C dx (putF "rules" (.ref x) (putF "_parts" (.ref pq) [])))))))
  show Q .non _
  refine q _ (fun a o ha na => ?_) ⟨ok, dx, _, pq, kvs, upd_same, ?_, k2 _ _ hq (by simp), Paired.mapP hk fun a b r => ⟨r.1, dpKeep k2 r.2⟩, fun m h1 h2 => by rw [put_ne _ _ h2, put_ne _ _ h1]; rfl⟩
  · rw [upd_ne na]
    exact bt _ _ (m2 _ _ (by rw [upd_ne na]; exact s _ _ ha)) (ne_of_none ha nHx)
  · rw [put_ne _ _ (by decide +kernel)]; exact put_same _ _ _
theorem ok_Build (B : Bl mg) (T : BCls K C) (c_counted : Cal P w K mg base 1 "counted" ["tasks", "pages", "ports", "locks", "disk"] spCounted)
    (c_things_fault : Cal P w K mg base 4 "things_fault" ["tasks", "pages", "ports", "locks", "frames", "disk"] (spThings K))
    (c_ways_fault : Cal P w K mg base 9 "ways_fault" ["counts", "rights", "lines", "costs", "plan", "outside"] (spWays K))
    (c_flags_fault : Cal P w K mg base 1 "flags_fault" ["flags"] (spFlags K))
    (c_Rules : MkCal P w K mg base 3 CR "Rules" ["self", "build"] (spRules K C CR)) :
    ∀ f fd, Fun K "__init__" "Build.__init__" s_Build___init__ f fd → FnOk P w K mg base CX0 10 f fd ["self", "tasks", "pages", "ports", "locks", "frames", "disk", "rights", "lines", "costs", "plan", "outside", "wipe", "pad", "lend", "share"] (spBuild K C) := fun f fd F => by
  refine F.ok sc_Build___init__ (fun vs H Q E h => ?_) (fun cdv A outer s H vs Q E hr h => ?_)
  · obtain ⟨p, dx, x1, x2, x3, x4, x5, x6, x7, x8, x9, x10, x11, x12, x13, x14, x15, b, rfl, _⟩ := h; rfl
  · obtain ⟨p, dx, x1, x2, x3, x4, x5, x6, x7, x8, x9, x10, x11, x12, x13, x14, x15, b, rfl, hP, ok, D1, D2, D3, D4, D5, D6, D7, D8, D9, D10, D11, D12, D13, D14, D15, q⟩ := h
    refine ⟨_, (pss_cons (ps_set (i := 16) sc_Build___init__.nd rfl (Or.inl rfl) (pe_cal c_things_fault (hr.mono (by omega)) rfl (pa_cons (pv 1) (pa_cons (pv 2) (pa_cons (pv 3) (pa_cons (pv 4) (pa_cons (pv 5) (pa_cons (pv 6) pa_nil))))))))
      (pss_cons (ps_if (pt_cmp (pc_notN (pv 16))) (pss_one ps_never) pss_nil)
      (pss_cons (ps_set (i := 17) sc_Build___init__.nd rfl (Or.inl rfl) (pe_cal c_counted (hr.mono (by omega)) rfl (pa_cons (pe_callB call_len_seq rfl B.len hb_len (pa_cons (pv 1) pa_nil)) (pa_cons (pe_callB call_len_seq rfl B.len hb_len (pa_cons (pv 2) pa_nil)) (pa_cons (pe_callB call_len_seq rfl B.len hb_len (pa_cons (pv 3) pa_nil)) (pa_cons (pv 4) (pa_cons (pv 6) pa_nil)))))))
      (pss_cons (ps_set (i := 16) sc_Build___init__.nd rfl (Or.inl rfl) (pe_cal c_ways_fault (hr.mono (by omega)) rfl (pa_cons (pv 17) (pa_cons (pv 7) (pa_cons (pv 8) (pa_cons (pv 9) (pa_cons (pv 10) (pa_cons (pv 11) pa_nil))))))))
      (pss_cons (ps_if (pt_cmp (pc_notN (pv 16))) (pss_one ps_never) pss_nil)
      (pss_cons (ps_set (i := 18) sc_Build___init__.nd rfl (Or.inl rfl) (pe_disp (pps_cons pe_str (pv 12) (pps_cons pe_str (pv 13) (pps_cons pe_str (pv 14) (pps_cons pe_str (pv 15) pps_nil)))) rfl rfl (by simp) (by decide)))
      (pss_cons (ps_set (i := 16) sc_Build___init__.nd rfl (Or.inl rfl) (pe_cal c_flags_fault (hr.mono (by omega)) rfl (pa_cons (pv 18) pa_nil)))
      (pss_cons (ps_if (pt_cmp (pc_notN (pv 16))) (pss_one ps_never) pss_nil)
      (pss_cons (ps_fld (pv 0) (pe_dispS (d0 := .Constant .none 0 ⟨0, 0, 0, 0⟩) (pps_cons pe_str (pe_callTy call_tuple_of rfl B.tuple_ hb_tuple (pa_cons (pv 1) pa_nil)) (pps_cons pe_str (pe_callTy call_tuple_of rfl B.tuple_ hb_tuple (pa_cons (pv 2) pa_nil)) (pps_cons pe_str (pe_callTy call_tuple_of rfl B.tuple_ hb_tuple (pa_cons (pv 3) pa_nil)) (pps_cons pe_str (pv 4) (pps_cons pe_str (pv 5) (pps_cons pe_str (pv 6) (pps_cons pe_str (pe_callTy call_tuple_of rfl B.tuple_ hb_tuple (pa_cons (pe_lc (own := [("row", 19)]) (tt := tYes) rfl sc_Build___init__.nd (pi_list (pv 7)) (blkOk_by (N := ["self", "tasks", "pages", "ports", "locks", "frames", "disk", "rights", "lines", "costs", "plan", "outside", "wipe", "pad", "lend", "share", "part", "counts", "flags", "row"]) (sc := defScope s_Build___init__) (by decide +kernel)) (fun _ _ _ _ _ => (pg_name (i := 19) sc_Build___init__.nd rfl (Or.inl rfl))) (fun _ _ _ _ _ => pts_nil) (fun _ _ _ _ _ => (pe_callTy (show CallR _ _ (rTupOf K) from call_tuple_of) rfl B.tuple_ hb_tuple (pa_cons (pv 19) pa_nil)))) pa_nil)) (pps_cons pe_str (pe_callTy call_tuple_of rfl B.tuple_ hb_tuple (pa_cons (pv 8) pa_nil)) (pps_cons pe_str (pv 9) (pps_cons pe_str (pe_tup (pa_cons (pe_ix ix_tup (pv 10) pe_int (fun _ _ => rfl)) (pa_cons (pe_ifExp (pt_cmpR op_eq (pe_ix ix_tup (pv 10) pe_int (fun _ _ => rfl)) pe_str (nomark _)) (pe_callTy call_tuple_of rfl B.tuple_ hb_tuple (pa_cons (pe_ix ix_tup (pv 10) pe_int (fun _ _ => rfl)) pa_nil)) (pe_ix ix_tup (pv 10) pe_int (fun _ _ => rfl))) pa_nil))) (pps_cons pe_str (pv 11) pps_nil))))))))))) (pv 18)) rfl)
      (pss_one (ps_fld (pv 0) (pe_mk c_Rules (hr.mono (by omega)) rfl (pa_cons (pv 0) pa_nil)) rfl))))))))))), ?_⟩
    walk_at "st0"
    refine ⟨x1, x2, x3, x4, x5, x6, b.tasks, b.pages, b.ports, b.locks, b.frames, b.disk, rfl, D1, D2, D3, D4, D5, D6, fun H1 s1 => ?_⟩
    rw [thingsV_ok ok]
    walk_at "st"
    refine iteF ?_
    walk_at "st"
    obtain ⟨tds, et, t2, t4, tall⟩ := okTasksL ok.tasks
    obtain ⟨pds, ep, p3, pall⟩ := okList ok.pages
    obtain ⟨qds, eq, q2, qall⟩ := okList ok.ports
    obtain ⟨kn, ek, k0, k2⟩ := okBetween ok.locks
    have okd := ok.disk
    unfold okDisk at okd
    rw [Bool.and_eq_true] at okd
    obtain ⟨dn, ed, d0, d4⟩ := okBetween okd.1
    have ec : cOf b = cntOf tds.length pds.length qds.length kn dn := by unfold cOf; rw [et, ep, eq, ek, ed]
    have sm : cntSmall (cOf b) := by
      rw [ec]
      exact ⟨⟨_, _, _, _, _, rfl⟩, by show (tds.length : Int) ≤ 100; omega, by show (pds.length : Int) ≤ 100; omega⟩
    have E1 := L2.Dp.mono s1 D1
    have E2 := L2.Dp.mono s1 D2
    have E3 := L2.Dp.mono s1 D3
    have E4 := D4
    have E6 := D6
    rw [et] at E1; rw [ep] at E2; rw [eq] at E3; rw [ek] at E4; rw [ed] at E6
    cases E4
    cases E6
    cases E1 with
    | @lst a1 xs1 _ hs1 ha1 =>
    cases E2 with
    | @lst a2 xs2 _ hs2 ha2 =>
    cases E3 with
    | @lst a3 xs3 _ hs3 ha3 =>
    refine ⟨a1, xs1, rfl, .inl hs1, ?_⟩
    walk_at "st"
    refine ⟨a2, xs2, rfl, .inl hs2, ?_⟩
    walk_at "st"
    refine ⟨a3, xs3, rfl, .inl hs3, ?_⟩
    walk_at "st"
    refine ⟨_, _, _, _, _, rfl, fun c2 H2 s2 nc2 ec2 => ?_⟩
    replace s2 := s1.trans s2
    rw [ha1.length, ha2.length, ha3.length, ← ec] at ec2
    walk_at "st"
    refine ⟨c2, cOf b, x7, x8, x9, x10, x11, b.rights, b.lines, b.costs, b.plan, b.outside, rfl, ec2, sm, L2.Dp.mono s2 D7, L2.Dp.mono s2 D8, L2.Dp.mono s2 D9, L2.Dp.mono s2 D10, L2.Dp.mono s2 D11, ?_, fun H3 s3 => ?_⟩
    · obtain ⟨z, e, ez, _⟩ := okPlanL ok.plan
      intro e0 e1 h
      rw [ez] at h
      cases h
      exact ⟨z, rfl⟩
    replace s3 := s2.trans s3
    rw [waysV_ok ok]
    walk_at "st"
    refine iteF ?_
    walk_at "st"
    intro c4 nc4
    unfold tPairs; walk_at "st"; unfold tPairs; walk_at "st"; unfold tPairs; walk_at "st"; unfold tPairs; walk_at "st"
    unfold tPairs
    refine ⟨upd_same, [(Sum.inr "wipe", x12), (Sum.inr "pad", x13), (Sum.inr "lend", x14), (Sum.inr "share", x15)], rfl, by simp, ?_⟩
    have s4 : Same H (upd (upd H3 c4 (.dK [])) c4 (.dK (mergeK [] [(Sum.inr "wipe", x12), (Sum.inr "pad", x13), (Sum.inr "lend", x14), (Sum.inr "share", x15)]))) := fun b o e => by
      have hb := ne_of_none (s3 _ _ e) nc4
      rw [upd_ne hb, upd_ne hb]; exact s3 _ _ e
    have em : mergeK [] [(Sum.inr "wipe", x12), (Sum.inr "pad", x13), (Sum.inr "lend", x14), (Sum.inr "share", x15)] = ([(Sum.inr "wipe", x12), (Sum.inr "pad", x13), (Sum.inr "lend", x14), (Sum.inr "share", x15)] : List (Key × V)) := rfl
    rw [em] at s4 ⊢
    walk_at "st"
    refine ⟨c4, _, [("wipe", b.wipe), ("pad", b.pad), ("lend", b.lend), ("share", b.share)], rfl, upd_same, .cons ⟨rfl, L2.Dp.mono s4 D12⟩ (.cons ⟨rfl, L2.Dp.mono s4 D13⟩ (.cons ⟨rfl, L2.Dp.mono s4 D14⟩ (.cons ⟨rfl, L2.Dp.mono s4 D15⟩ .nil))), fun H5 s5 => ?_⟩
    have ef : flagsV [("wipe", b.wipe), ("pad", b.pad), ("lend", b.lend), ("share", b.share)] = .non := by
      unfold flagsV
      simp [List.find?, ok.wipe, ok.pad, ok.lend, ok.share]
    rw [ef]
    have ec5 := s5 _ _ (upd_same : upd _ c4 _ c4 = _)
    replace s5 := s4.trans s5
    walk_at "st"
    refine iteF ?_
    walk_at "st"
    intro pq nq
    have s6 : Same H (upd H5 pq (.dK [])) := s5.trans (same_new nq)
    have e6 : upd H5 pq (.dK []) pq = some (.dK []) := upd_same
    have ec6 := same_new (o := .dK []) nq _ _ ec5
    unfold tPairs
    walk_at "st"
    have G1 := L2.Dp.mono s6 D1
    rw [et] at G1
    obtain ⟨ys1, hys1, T1⟩ := tup_fact G1
    refine ⟨a1, ys1, rfl, .inl ⟨hys1, fun l1 n1 => ?_⟩⟩
    replace T1 := T1 l1 n1
    have m1 := same_new (o := .tup ys1) n1
    replace s6 := s6.trans m1
    replace e6 := m1 _ _ e6
    replace ec6 := m1 _ _ ec6
    unfold tPairs
    walk_at "st"
    have G2 := L2.Dp.mono s6 D2
    rw [ep] at G2
    obtain ⟨ys2, hys2, T2⟩ := tup_fact G2
    refine ⟨a2, ys2, rfl, .inl ⟨hys2, fun l2 n2 => ?_⟩⟩
    replace T2 := T2 l2 n2
    have m2 := same_new (o := .tup ys2) n2
    replace s6 := s6.trans m2
    replace e6 := m2 _ _ e6
    replace ec6 := m2 _ _ ec6
    replace T1 := L2.Dp.mono m2 T1
    unfold tPairs
    walk_at "st"
    have G3 := L2.Dp.mono s6 D3
    rw [eq] at G3
    obtain ⟨ys3, hys3, T3⟩ := tup_fact G3
    refine ⟨a3, ys3, rfl, .inl ⟨hys3, fun l3 n3 => ?_⟩⟩
    replace T3 := T3 l3 n3
    have m3 := same_new (o := .tup ys3) n3
    replace s6 := s6.trans m3
    replace e6 := m3 _ _ e6
    replace ec6 := m3 _ _ ec6
    replace T1 := L2.Dp.mono m3 T1
    replace T2 := L2.Dp.mono m3 T2
    unfold tPairs; walk_at "st"; unfold tPairs; walk_at "st"; unfold tPairs; walk_at "st"; unfold tPairs; walk_at "st"
    obtain ⟨rds, er, rl, rall⟩ := okRightsL ok.rights
    have rl8 : rds.length ≤ 4 := by
      rw [ec] at rl
      have z : cnt (cntOf tds.length pds.length qds.length kn dn) "task" = tds.length := rfl
      omega
    have G7 := L2.Dp.mono s6 D7
    rw [er] at G7
    cases G7 with
    | @lst a7 xs7 _ hs7 ha7 =>
    have l7 := ha7.length
    generalize upd (upd (upd (upd H5 pq (.dK [])) l1 (.tup ys1)) l2 (.tup ys2)) l3 (.tup ys3) = HX at *
    refine ⟨_, rfl, a7, rfl, ⟨xs7, hs7⟩, fun D nD => lc_rel walk_list (fun i y Hh => ∃ (t : Addr) (xs : List V) (l : List PyData), y = .ref t ∧ Hh t = some (.tup xs) ∧ rds[i]? = some (.list l) ∧ DpAll K HX xs l) nD (sz1000 (by omega)) (fun H2 s => s.seq hs7) yat_same ?_ ?_ ?_⟩
    · rintro i y Ha Hb acc e bt ⟨t, xs, l, rfl, h1, h2, h3⟩
      exact ⟨t, xs, l, rfl, bt _ _ h1 (fun z => by subst z; rw [h1] at e; cases e), h2, h3⟩
    · rintro i x H' H2 lt s y Q' k
      obtain ⟨rfl, e⟩ := y
      obtain ⟨d, e2, hd2⟩ := ha7.get' e
      obtain ⟨l, rfl⟩ := rall d (List.mem_of_getElem? e2)
      cases hd2 with
      | @lst a xs _ hs ha =>
      refine q_gname ?_
      refine ⟨rfl, ?_⟩
      walk_at "st"
      exact ⟨a, xs, rfl, .inl ⟨s.seq hs, fun l2 nl => k _ _ (same_new nl) ⟨l2, xs, l, rfl, upd_same, e2, ha⟩⟩⟩
    intro ys7 H8 s8 e8 l8 r8
    refine ⟨D, ys7, rfl, .inl ⟨SqL.of e8, fun l77 n7 => ?_⟩⟩
    have m7 := s8.trans (same_new (o := .tup ys7) n7)
    have T7 : Dp K (upd H8 l77 (.tup ys7)) (.ref l77) (.tuple (rds.map tupOf)) := by
      refine .tup (SqT.of upd_same) (dpAll_of (by rw [List.length_map]; omega) fun i x d ex ed2 => ?_)
      obtain ⟨t, xs, l, rfl, h1, h2, h3⟩ := r8 i x ex
      rw [List.getElem?_map, h2] at ed2
      cases ed2
      exact .tup (SqT.of (same_new n7 _ _ h1)) (L2.DpAll.mono m7 h3)
    replace s6 := s6.trans m7
    replace e6 := m7 _ _ e6
    replace ec6 := m7 _ _ ec6
    replace T1 := L2.Dp.mono m7 T1
    replace T2 := L2.Dp.mono m7 T2
    replace T3 := L2.Dp.mono m7 T3
    generalize upd H8 l77 (.tup ys7) = HY at *
    unfold tPairs
    walk_at "st"
    obtain ⟨lds, el, _⟩ := okLinesL ok.lines
    have G8 := L2.Dp.mono s6 D8
    rw [el] at G8
    cases G8 with
    | @lst a8 xs8 _ hs8 ha8 =>
    refine ⟨a8, xs8, rfl, .inl ⟨hs8, fun l88 n8 => ?_⟩⟩
    have m8 := same_new (o := .tup xs8) n8
    have T8 : Dp K (upd HY l88 (.tup xs8)) (.ref l88) (.tuple lds) := .tup (SqT.of upd_same) (L2.DpAll.mono m8 ha8)
    replace s6 := s6.trans m8
    replace e6 := m8 _ _ e6
    replace ec6 := m8 _ _ ec6
    replace T1 := L2.Dp.mono m8 T1
    replace T2 := L2.Dp.mono m8 T2
    replace T3 := L2.Dp.mono m8 T3
    replace T7 := L2.Dp.mono m8 T7
    generalize upd HY l88 (.tup xs8) = HZ at *
    unfold tPairs; walk_at "st"; unfold tPairs; walk_at "st"
    obtain ⟨z, e, epl, hz⟩ := okPlanL ok.plan
    have G10 := L2.Dp.mono s6 D10
    rw [epl] at G10
    cases G10 with
    | @tup a10 xs10 _ hs10 ha10 =>
    cases ha10 with
    | @cons y0 r0 _ _ b0 ha10 => cases ha10 with
      | @cons y1 r1 _ _ b1 ha10 =>
        cases ha10
        cases b0
        refine q_ixT hs10 (atI0 rfl) ?_
        walk_at "st"
        refine q_ixT hs10 (atI0 rfl) ?_
        walk_at "st"
        refine q_eq rfl ?_
        rcases hz with ⟨rfl, i, rfl, _⟩ | ⟨rfl, hz⟩
        · rw [decide_eq_false (fun q => slots_ne (V.str.inj q))]
          walk_at "st"
          refine iteF ?_
          walk_at "st"
          refine q_ixT hs10 (atI1 rfl) ?_
          walk_at "st"
          refine ⟨by show 2 ≤ sizeLine; decide, fun l99 n9 => ?_⟩
          have m9 := same_new (o := .tup [.str "levels", y1]) n9
          have T10 : Dp K (upd HZ l99 (.tup [.str "levels", y1])) (.ref l99) (planT b.plan) := by
            rw [epl]
            simp only [planT]
            rw [if_neg slots_ne]
            exact .tup (SqT.of upd_same) (.cons (.str _) (.cons (L2.Dp.mono m9 b1) .nil))
          replace s6 := s6.trans m9
          replace e6 := m9 _ _ e6
          replace ec6 := m9 _ _ ec6
          replace T1 := L2.Dp.mono m9 T1
          replace T2 := L2.Dp.mono m9 T2
          replace T3 := L2.Dp.mono m9 T3
          replace T7 := L2.Dp.mono m9 T7
          replace T8 := L2.Dp.mono m9 T8
          generalize upd HZ l99 (.tup [.str "levels", y1]) = HV at *
          unfold tPairs; walk_at "st"
          unfold tPairs
          refine ⟨e6, [(Sum.inr "tasks", .ref l1), (Sum.inr "pages", .ref l2), (Sum.inr "ports", .ref l3), (Sum.inr "locks", .int kn), (Sum.inr "frames", x5), (Sum.inr "disk", .int dn), (Sum.inr "rights", .ref l77), (Sum.inr "lines", .ref l88), (Sum.inr "costs", x9), (Sum.inr "plan", .ref l99), (Sum.inr "outside", x11)], rfl, by simp, ?_⟩
          rw [em11]
          walk_at "st"
          have nc : c4 ≠ pq := ne_of_none ec5 nq
          refine ⟨c4, [(Sum.inr "wipe", x12), (Sum.inr "pad", x13), (Sum.inr "lend", x14), (Sum.inr "share", x15)], rfl, nc, .inl (by rw [upd_ne nc]; exact ec6), upd_same, by simp, by simp, ?_⟩
          rw [em15]
          walk_at "st"
          have k4 : KeepD HV (upd (upd HV pq (.dK [(Sum.inr "tasks", .ref l1), (Sum.inr "pages", .ref l2), (Sum.inr "ports", .ref l3), (Sum.inr "locks", .int kn), (Sum.inr "frames", x5), (Sum.inr "disk", .int dn), (Sum.inr "rights", .ref l77), (Sum.inr "lines", .ref l88), (Sum.inr "costs", x9), (Sum.inr "plan", .ref l99), (Sum.inr "outside", x11)])) pq (.dK [(Sum.inr "tasks", .ref l1), (Sum.inr "pages", .ref l2), (Sum.inr "ports", .ref l3), (Sum.inr "locks", .int kn), (Sum.inr "frames", x5), (Sum.inr "disk", .int dn), (Sum.inr "rights", .ref l77), (Sum.inr "lines", .ref l88), (Sum.inr "costs", x9), (Sum.inr "plan", .ref l99), (Sum.inr "outside", x11), (Sum.inr "wipe", x12), (Sum.inr "pad", x13), (Sum.inr "lend", x14), (Sum.inr "share", x15)])) := fun a o ha _ nd => by
            have na : a ≠ pq := fun z => by subst z; rw [e6] at ha; cases ha; exact nd _ rfl
            rw [upd_ne na, upd_ne na]; exact ha
          have nqH : H pq = none := (s5.free nq)
          refine build_end T ok hP upd_same ?_ (fun a o ha => ?_) q rfl
          · refine .cons ⟨rfl, ?_⟩ (.cons ⟨rfl, ?_⟩ (.cons ⟨rfl, ?_⟩ (.cons ⟨rfl, ?_⟩ (.cons ⟨rfl, ?_⟩ (.cons ⟨rfl, ?_⟩ (.cons ⟨rfl, ?_⟩ (.cons ⟨rfl, ?_⟩ (.cons ⟨rfl, ?_⟩ (.cons ⟨rfl, ?_⟩ (.cons ⟨rfl, ?_⟩ (.cons ⟨rfl, ?_⟩ (.cons ⟨rfl, ?_⟩ (.cons ⟨rfl, ?_⟩ (.cons ⟨rfl, ?_⟩ .nil))))))))))))))
            · show Dp K _ (.ref l1) (tupOf b.tasks); rw [et]; exact dpKeepD k4 T1
            · show Dp K _ (.ref l2) (tupOf b.pages); rw [ep]; exact dpKeepD k4 T2
            · show Dp K _ (.ref l3) (tupOf b.ports); rw [eq]; exact dpKeepD k4 T3
            · exact dpKeepD k4 (L2.Dp.mono s6 D4)
            · exact dpKeepD k4 (L2.Dp.mono s6 D5)
            · exact dpKeepD k4 (L2.Dp.mono s6 D6)
            · show Dp K _ (.ref l77) (rowsT b.rights); rw [er]; exact dpKeepD k4 T7
            · show Dp K _ (.ref l88) (tupOf b.lines); rw [el]; exact dpKeepD k4 T8
            · exact dpKeepD k4 (L2.Dp.mono s6 D9)
            · exact dpKeepD k4 T10
            · exact dpKeepD k4 (L2.Dp.mono s6 D11)
            · exact dpKeepD k4 (L2.Dp.mono s6 D12)
            · exact dpKeepD k4 (L2.Dp.mono s6 D13)
            · exact dpKeepD k4 (L2.Dp.mono s6 D14)
            · exact dpKeepD k4 (L2.Dp.mono s6 D15)
          · have na := ne_of_none ha nqH
            rw [upd_ne na, upd_ne na]; exact s6 _ _ ha
        · rw [decide_eq_true rfl]
          walk_at "st"
          refine iteT ?_
          obtain ⟨srs, rfl, _⟩ := okSlotsL hz
          cases b1 with
          | @lst a98 xs98 _ hs98 ha98 =>
          walk_at "st"
          refine q_ixT hs10 (atI1 rfl) ?_
          walk_at "st"
          refine ⟨a98, xs98, rfl, .inl ⟨hs98, fun l98 n98 => ?_⟩⟩
          have m98 := same_new (o := .tup xs98) n98
          have T98 : Dp K (upd HZ l98 (.tup xs98)) (.ref l98) (.tuple srs) := .tup (SqT.of upd_same) (L2.DpAll.mono m98 ha98)
          replace s6 := s6.trans m98
          replace e6 := m98 _ _ e6
          replace ec6 := m98 _ _ ec6
          replace T1 := L2.Dp.mono m98 T1
          replace T2 := L2.Dp.mono m98 T2
          replace T3 := L2.Dp.mono m98 T3
          replace T7 := L2.Dp.mono m98 T7
          replace T8 := L2.Dp.mono m98 T8
          generalize upd HZ l98 (.tup xs98) = HW at *
          walk_at "st"
          refine ⟨by show 2 ≤ sizeLine; decide, fun l99 n9 => ?_⟩
          have m9 := same_new (o := .tup [.str "slots", .ref l98]) n9
          have T10 : Dp K (upd HW l99 (.tup [.str "slots", .ref l98])) (.ref l99) (planT b.plan) := by
            rw [epl]
            simp only [planT]
            rw [if_pos trivial]
            exact .tup (SqT.of upd_same) (.cons (.str _) (.cons (L2.Dp.mono m9 T98) .nil))
          replace s6 := s6.trans m9
          replace e6 := m9 _ _ e6
          replace ec6 := m9 _ _ ec6
          replace T1 := L2.Dp.mono m9 T1
          replace T2 := L2.Dp.mono m9 T2
          replace T3 := L2.Dp.mono m9 T3
          replace T7 := L2.Dp.mono m9 T7
          replace T8 := L2.Dp.mono m9 T8
          generalize upd HW l99 (.tup [.str "slots", .ref l98]) = HV at *
          unfold tPairs; walk_at "st"
          unfold tPairs
          refine ⟨e6, [(Sum.inr "tasks", .ref l1), (Sum.inr "pages", .ref l2), (Sum.inr "ports", .ref l3), (Sum.inr "locks", .int kn), (Sum.inr "frames", x5), (Sum.inr "disk", .int dn), (Sum.inr "rights", .ref l77), (Sum.inr "lines", .ref l88), (Sum.inr "costs", x9), (Sum.inr "plan", .ref l99), (Sum.inr "outside", x11)], rfl, by simp, ?_⟩
          rw [em11]
          walk_at "st"
          have nc : c4 ≠ pq := ne_of_none ec5 nq
          refine ⟨c4, [(Sum.inr "wipe", x12), (Sum.inr "pad", x13), (Sum.inr "lend", x14), (Sum.inr "share", x15)], rfl, nc, .inl (by rw [upd_ne nc]; exact ec6), upd_same, by simp, by simp, ?_⟩
          rw [em15]
          walk_at "st"
          have k4 : KeepD HV (upd (upd HV pq (.dK [(Sum.inr "tasks", .ref l1), (Sum.inr "pages", .ref l2), (Sum.inr "ports", .ref l3), (Sum.inr "locks", .int kn), (Sum.inr "frames", x5), (Sum.inr "disk", .int dn), (Sum.inr "rights", .ref l77), (Sum.inr "lines", .ref l88), (Sum.inr "costs", x9), (Sum.inr "plan", .ref l99), (Sum.inr "outside", x11)])) pq (.dK [(Sum.inr "tasks", .ref l1), (Sum.inr "pages", .ref l2), (Sum.inr "ports", .ref l3), (Sum.inr "locks", .int kn), (Sum.inr "frames", x5), (Sum.inr "disk", .int dn), (Sum.inr "rights", .ref l77), (Sum.inr "lines", .ref l88), (Sum.inr "costs", x9), (Sum.inr "plan", .ref l99), (Sum.inr "outside", x11), (Sum.inr "wipe", x12), (Sum.inr "pad", x13), (Sum.inr "lend", x14), (Sum.inr "share", x15)])) := fun a o ha _ nd => by
            have na : a ≠ pq := fun z => by subst z; rw [e6] at ha; cases ha; exact nd _ rfl
            rw [upd_ne na, upd_ne na]; exact ha
          have nqH : H pq = none := (s5.free nq)
          refine build_end T ok hP upd_same ?_ (fun a o ha => ?_) q rfl
          · refine .cons ⟨rfl, ?_⟩ (.cons ⟨rfl, ?_⟩ (.cons ⟨rfl, ?_⟩ (.cons ⟨rfl, ?_⟩ (.cons ⟨rfl, ?_⟩ (.cons ⟨rfl, ?_⟩ (.cons ⟨rfl, ?_⟩ (.cons ⟨rfl, ?_⟩ (.cons ⟨rfl, ?_⟩ (.cons ⟨rfl, ?_⟩ (.cons ⟨rfl, ?_⟩ (.cons ⟨rfl, ?_⟩ (.cons ⟨rfl, ?_⟩ (.cons ⟨rfl, ?_⟩ (.cons ⟨rfl, ?_⟩ .nil))))))))))))))
            · show Dp K _ (.ref l1) (tupOf b.tasks); rw [et]; exact dpKeepD k4 T1
            · show Dp K _ (.ref l2) (tupOf b.pages); rw [ep]; exact dpKeepD k4 T2
            · show Dp K _ (.ref l3) (tupOf b.ports); rw [eq]; exact dpKeepD k4 T3
            · exact dpKeepD k4 (L2.Dp.mono s6 D4)
            · exact dpKeepD k4 (L2.Dp.mono s6 D5)
            · exact dpKeepD k4 (L2.Dp.mono s6 D6)
            · show Dp K _ (.ref l77) (rowsT b.rights); rw [er]; exact dpKeepD k4 T7
            · show Dp K _ (.ref l88) (tupOf b.lines); rw [el]; exact dpKeepD k4 T8
            · exact dpKeepD k4 (L2.Dp.mono s6 D9)
            · exact dpKeepD k4 T10
            · exact dpKeepD k4 (L2.Dp.mono s6 D11)
            · exact dpKeepD k4 (L2.Dp.mono s6 D12)
            · exact dpKeepD k4 (L2.Dp.mono s6 D13)
            · exact dpKeepD k4 (L2.Dp.mono s6 D14)
            · exact dpKeepD k4 (L2.Dp.mono s6 D15)
          · have na := ne_of_none ha nqH
            rw [upd_ne na, upd_ne na]; exact s6 _ _ ha
end
end T



namespace T
section
variable {P : Program} {w : World} {K : PySem.W.Frag} {mg : Str → Option Value} {base : Heap}
/-- the source of the drawn numbers -/
def SrcAt (H : Hp) (p g : Addr) (n : Nat) : Prop := ∃ (gs : List Int) (seed cnt : Int), H p = some (.lst [.ref g, .int seed, .int cnt]) ∧ H g = some (.lst (gs.map V.int)) ∧ gs.length ≤ 63 ∧ 0 ≤ seed ∧ seed < 2147483647 ∧ 0 ≤ cnt ∧ cnt ≤ n
theorem SrcAt.le {H : Hp} {p g : Addr} {n m : Nat} (h : SrcAt H p g n) (l : n ≤ m) : SrcAt H p g m := by
  obtain ⟨gs, seed, cnt, h1, h2, h3, h4, h5, h6, h7⟩ := h
  exact ⟨gs, seed, cnt, h1, h2, h3, h4, h5, h6, by omega⟩
theorem SrcAt.ne {H : Hp} {p g : Addr} {n : Nat} (h : SrcAt H p g n) : p ≠ g := by
  obtain ⟨gs, seed, cnt, h1, h2, _⟩ := h
  intro z
  subst z
  rw [h1] at h2
  cases gs with
  | nil => simp at h2
  | cons x r => simp at h2
/-- all but the source is as it was -/
def Off (p g : Addr) (H H' : Hp) : Prop := ∀ b o, H b = some o → b ≠ p → b ≠ g → H' b = some o
theorem Off.same {p g : Addr} {H H' : Hp} (s : Same H H') : Off p g H H' := fun b o h _ _ => s b o h
theorem Off.trans {p g : Addr} {H H1 H2 : Hp} (a : Off p g H H1) (b : Off p g H1 H2) : Off p g H H2 := fun x o h n m => b x o (a x o h n m) n m
def spSource (K : PySem.W.Frag) : Sp := fun vs H Q _ => ∃ (a : Addr) (ns : List Int), vs = [.ref a] ∧ SqL K H a (ns.map V.int) ∧ ns.length ≤ 63 ∧ ∀ p g H', Same H H' → H p = none → H g = none → SrcAt H' p g 0 → Q (.ref p) H'
theorem ok_law_source (B : Bl mg) (d : DefAt K mg "_law_source" s__law_source ["_law_script"]) : Cal P w K mg base 1 "_law_source" ["_law_script"] (spSource K) := d.cal fun f fd F => by
  refine F.ok sc__law_source (fun vs H Q E h => ?_) (fun cdv A outer s H vs Q E hr h => ?_)
  · obtain ⟨a, ns, rfl, _⟩ := h; rfl
  · obtain ⟨a, ns, rfl, hs, l63, q⟩ := h
    refine ⟨_, (pss_cons (ps_setLc (i := 1) (own := [("_law_cell", 3)]) rfl sc__law_source.nd rfl rfl (sw_true rfl rfl rfl (by decide +kernel)) (pi_list (pv 0)) (blkOk_by (N := ["_law_script", "_law_great", "_law_seed", "_law_cell"]) (sc := defScope s__law_source) (by decide +kernel)) (fun _ _ _ _ _ => (pg_name (i := 3) sc__law_source.nd rfl (Or.inl rfl))) (fun _ _ _ _ _ => (pts_one (pt_cmpR op_ge (pv 3) (pe_op op_pow pe_int pe_int) (nomark _)))) (fun _ _ _ _ _ => (pv 3)))
      (pss_cons (ps_set (i := 2) sc__law_source.nd rfl (Or.inl rfl) pe_int)
      (pss_cons (ps_for PassesOwn.never rfl (pi_list (pv 0)) (pg_name (i := 3) sc__law_source.nd rfl (Or.inl rfl)) (pss_one (ps_set (i := 2) sc__law_source.nd rfl (Or.inl rfl) (pe_op op_mod (pe_callTy call_int1 rfl B.int_ hb_int (pa_cons (pe_op op_add (pe_op op_add (pe_op op_mulW (pv 2) pe_int) (pe_op op_mod (pe_callTy call_int1 rfl B.int_ hb_int (pa_cons (pv 3) pa_nil)) pe_int)) pe_int) pa_nil)) pe_int))))
      (pss_one (ps_ret (pe_lst (pa_cons (pv 1) (pa_cons (pv 2) (pa_cons pe_int pa_nil))))))))), ?_⟩
    walk_at "st0"
    refine ⟨_, rfl, a, rfl, ⟨_, hs⟩, fun D nD => lc_it walk_list (fun i H2 => Same H H2 ∧ ∃ ys : List Int, H2 D = some (.lst (ys.map V.int)) ∧ ys.length ≤ i) ⟨same_new nD, [], upd_same, by simp⟩ (fun i H2 _ h => h.1.seq hs) ?_ ?_⟩
    · rintro i x H2 H3 lt ⟨s2, ys, e2, l2⟩ ⟨rfl, ex⟩
      obtain ⟨z, rfl⟩ : ∃ z, x = V.int z := by
        rw [List.getElem?_map] at ex
        cases e : ns[i]? with
        | none => rw [e] at ex; cases ex
        | some z => rw [e] at ex; exact ⟨z, (Option.some.inj ex).symm⟩
      refine q_gname ⟨rfl, ?_⟩
      walk_at "st"
      refine ⟨10, 18, rfl, rfl, ⟨by decide, by decide, by decide⟩, ?_⟩
      walk_at "st"
      rw [List.length_map] at lt
      refine q_if (fun hc => ?_) (fun hc => ?_)
      · walk_at "st"
        refine ⟨_, e2, by rw [List.length_map]; exact sz1000 (by omega), fun b o hb => ?_, ys ++ [z], by rw [List.map_append]; exact upd_same, by simp; omega⟩
        rw [upd_ne (ne_of_none hb nD)]; exact s2 _ _ hb
      · exact ⟨s2, ys, e2, by omega⟩
    rintro H2 ⟨s2, ys, e2, l2⟩
    rw [List.length_map] at l2
    walk_at "st"
    refine q_forV (ns.map V.int) (fun i σ H3 => H3 = H2 ∧ ∃ (seed : Int) (o : Option V), σ = [some (.ref a), some (.ref D), some (.int seed), o] ∧ 0 ≤ seed ∧ seed < 2147483647) rfl (s2.seq hs) ⟨rfl, _, _, rfl, by omega, by omega⟩ (fun i σ H3 _ h => by rw [h.1]; exact s2.seq hs) ?_ ?_
    · rintro i x σ H3 ex ⟨rfl, seed, o, rfl, b0, b1⟩
      obtain ⟨z, rfl⟩ : ∃ z, x = V.int z := by
        rw [List.getElem?_map] at ex
        cases e : ns[i]? with
        | none => rw [e] at ex; cases ex
        | some z => rw [e] at ex; exact ⟨z, (Option.some.inj ex).symm⟩
      refine q_gname ?_
      walk_at "st"
      refine ⟨_, _, rfl, rfl, wide_mul (a := 31) (b := 16) (by omega) (by omega) (by omega) (by omega) (by omega), ?_⟩
      walk_at "st"
      refine .inl ⟨_, rfl, ?_⟩
      walk_at "st"
      refine ⟨_, _, rfl, rfl, by omega, ?_⟩
      walk_at "st"
      refine .inl ⟨_, rfl, ?_⟩
      walk_at "st"
      refine ⟨_, _, rfl, rfl, by omega, ?_⟩
      exact ⟨rfl, _, _, rfl, Int.emod_nonneg _ (by omega), Int.emod_lt_of_pos _ (by omega)⟩
    · rintro σ H3 ⟨rfl, seed, o, rfl, b0, b1⟩
      walk_at "st"
      refine ⟨by show 3 ≤ sizeLine; decide, fun p np => ?_⟩
      have nDp : D ≠ p := ne_of_none e2 np
      exact q p D _ (s2.trans (same_new np)) (s2.free np) nD ⟨ys, seed, 0, upd_same, by rw [upd_ne nDp]; exact e2, by omega, b0, b1, by omega, by omega⟩
def rGetL (K : PySem.W.Frag) : V → V → Hp → VK → Prop := fun x y H Q => ∃ p xs i v, x = .ref p ∧ y = .int i ∧ 0 ≤ i ∧ SqL K H p xs ∧ atI xs i = some v ∧ Q v H
theorem get_list {X : Cx} : PGet X (rGetL X.K) := by
  intro pins s σ H x y v u Q I rx ry h
  obtain ⟨p, xs, i, z, rfl, rfl, h0, hq, he, q⟩ := h
  cases rx
  obtain ⟨t, rfl⟩ := ry
  obtain ⟨its, r, pl, hz⟩ := I.list hq
  obtain ⟨j, h1, h2, h3, h4, h5⟩ := atI_get he
  obtain ⟨w, ew, rw'⟩ := r.get h2
  have hl := r.length
  have hn := line63
  have hj : i.toNat = j := by
    rw [seqIndex_of h0 h5] at h1
    exact Option.some.inj h1
  exact wpAny_getItem_list pl.isList h0 (by omega) (by rw [hj]; simpa using ew) ⟨z, H, I, rw', q⟩
def spDraw (K : PySem.W.Frag) : Sp := fun vs H Q _ => ∃ (p g : Addr) (n : Nat) (many : Int), vs = [.ref p, .int many] ∧ SrcAt H p g n ∧ n ≤ 100000 ∧ 0 < many ∧ many < 1000 ∧ ∀ r H', 0 ≤ r → r < many → SrcAt H' p g (n + 1) → Off p g H H' → Q (.int r) H'
theorem ok_law_draw (B : Bl mg) (d : DefAt K mg "_law_draw" s__law_draw ["_law_source_here", "_law_many"]) : Cal P w K mg base 1 "_law_draw" ["_law_source_here", "_law_many"] (spDraw K) := d.cal fun f fd F => by
  refine F.ok sc__law_draw (fun vs H Q E h => ?_) (fun cdv A outer s H vs Q E hr h => ?_)
  · obtain ⟨p, g, n, many, rfl, _⟩ := h; rfl
  · obtain ⟨p, g, n, many, rfl, S, hn, m0, m1, q⟩ := h
    refine ⟨_, (pss_cons (ps_set (i := 2) sc__law_draw.nd rfl (Or.inl rfl) (pe_ix ix_list (pv 0) pe_int (fun _ _ => rfl)))
      (pss_cons (ps_if (pt_cmpR op_gt (pe_callB call_len_seq rfl B.len hb_len (pa_cons (pv 2) pa_nil)) pe_int (nomark _)) (pss_cons (ps_set (i := 3) sc__law_draw.nd rfl (Or.inl rfl) (pe_op op_mod (pe_callTy call_int1 rfl B.int_ hb_int (pa_cons (pe_ix ix_list (pv 2) pe_int (fun _ _ => rfl)) pa_nil)) (pv 1)))
      (pss_cons (ps_asg (pe_op op_fdivW (pe_ix ix_list (pv 2) pe_int (fun _ _ => rfl)) (pv 1)) (pg_sub (pv 2) pe_int set_list))
      (pss_cons (ps_if (pt_cmpR op_eq (pe_ix ix_list (pv 2) pe_int (fun _ _ => rfl)) pe_int (nomark _)) (pss_one (ps_expr (pe_bm PySem.F.plainAttrs_list PySem.F.slot_list_pop PySem.F.type_list_pop mt_popAt (pv 2) (pa_cons pe_int pa_nil)))) pss_nil)
      (pss_one (ps_ret (pv 3)))))) pss_nil)
      (pss_cons (ps_augS (pv 0) pe_int T.get_list pe_int ip_add set_list)
      (pss_cons (ps_set (i := 4) sc__law_draw.nd rfl (Or.inl rfl) (pe_op op_mod (pe_callTy call_int1 rfl B.int_ hb_int (pa_cons (pe_op op_add (pe_op op_mulW (pe_op op_add (pe_ix ix_list (pv 0) pe_int (fun _ _ => rfl)) (pe_op op_mulW (pe_ix ix_list (pv 0) pe_int (fun _ _ => rfl)) pe_int)) pe_int) (pe_ix ix_list (pv 0) pe_int (fun _ _ => rfl))) pa_nil)) pe_int))
      (pss_cons (ps_set (i := 4) sc__law_draw.nd rfl (Or.inl rfl) (pe_op op_mod (pe_callTy call_int1 rfl B.int_ hb_int (pa_cons (pe_op op_add (pe_op op_mulW (pv 4) (pe_op op_add (pe_op op_fdivW (pv 4) pe_int) pe_int)) (pe_ix ix_list (pv 0) pe_int (fun _ _ => rfl))) pa_nil)) pe_int))
      (pss_cons (ps_set (i := 4) sc__law_draw.nd rfl (Or.inl rfl) (pe_op op_mod (pe_callTy call_int1 rfl B.int_ hb_int (pa_cons (pe_op op_add (pe_op op_mulW (pv 4) (pe_op op_add (pe_op op_fdivW (pv 4) pe_int) pe_int)) pe_int) pa_nil)) pe_int))
      (pss_one (ps_ret (pe_op op_mod (pe_callTy call_int1 rfl B.int_ hb_int (pa_cons (pe_op op_fdivW (pv 4) pe_int) pa_nil)) (pv 1)))))))))), ?_⟩
    walk_at "st0"
    have npg := S.ne
    obtain ⟨gs, seed, cnt, hp, hg, l63, b0, b1, c0, c1⟩ := S
    refine q_ixL (SqL.of hp) (atI0 rfl) ?_
    walk_at "st"
    refine ⟨g, _, rfl, .inl (SqL.of hg), ?_⟩
    walk_at "st"
    rw [List.length_map]
    cases gs with
    | cons g0 gr =>
      rw [decide_eq_true (by rw [List.length_cons]; omega)]
      refine iteT ?_
      walk_at "st"
      refine q_ixL (SqL.of hg) (atI0 rfl) ?_
      walk_at "st"
      refine .inl ⟨_, rfl, ?_⟩
      walk_at "st"
      refine ⟨_, _, rfl, rfl, m0, ?_⟩
      walk_at "st"
      refine q_ixL (SqL.of hg) (atI0 rfl) ?_
      walk_at "st"
      refine ⟨_, _, rfl, rfl, wide_div (b := 10) m0 (by omega) (by omega) (by omega), ?_⟩
      walk_at "st"
      refine q_setL (j := 0) hg (by simp [ixN]) ?_
      walk_at "st"
      have S1 : ∀ hs : List Int, hs.length ≤ 63 → ∀ H', H' = upd (upd H g (.lst (((g0 :: gr).map V.int).set 0 (.int (g0 / many))))) g (.lst (hs.map V.int)) → SrcAt H' p g (n + 1) ∧ Off p g H H' := fun hs lh H' e => by
        subst e
        refine ⟨⟨hs, seed, cnt, by rw [upd_ne npg, upd_ne npg]; exact hp, upd_same, lh, b0, b1, c0, by omega⟩, fun b o hb _ nb => by rw [upd_ne nb, upd_ne nb]; exact hb⟩
      refine q_ixL (SqL.of upd_same) (atI0 rfl) ?_
      walk_at "st"
      refine q_eq rfl ?_
      walk_at "st"
      refine q_if (fun hc => ?_) (fun hc => ?_)
      · refine ⟨_, rfl, .inl ⟨rfl, _, SqL.of upd_same⟩, ?_⟩
        walk_at "st"
        refine ⟨g, _, 0, 0, _, rfl, rfl, upd_same, by decide, by decide, by rw [PySem.seqIndex_of (by omega) (by simp)]; rfl, rfl, ?_⟩
        walk_at "st"
        obtain ⟨s1, o1⟩ := S1 gr (by rw [List.length_cons] at l63; omega) _ rfl
        exact q _ _ (Int.emod_nonneg _ (by omega)) (Int.emod_lt_of_pos _ m0) s1 o1
      · walk_at "st"
        refine q _ _ (Int.emod_nonneg _ (by omega)) (Int.emod_lt_of_pos _ m0) ⟨(g0 / many) :: gr, seed, cnt, by rw [upd_ne npg]; exact hp, upd_same, l63, b0, b1, c0, by omega⟩ fun b o hb _ nb => by rw [upd_ne nb]; exact hb
    | nil =>
      refine iteF ?_
      walk_at "st"
      refine ⟨_, rfl, ⟨p, _, 2, _, rfl, rfl, by omega, SqL.of hp, rfl, ?_⟩⟩
      refine ⟨cnt, 1, rfl, rfl, ?_⟩
      refine q_setL (j := 2) hp rfl ?_
      dsimp only [List.set_cons_zero, List.set_cons_succ]
      have off : Off p g H (upd H p (.lst [.ref g, .int seed, .int (cnt + 1)])) := fun b o hb nb _ => by rw [upd_ne nb]; exact hb
      have src : SrcAt (upd H p (.lst [.ref g, .int seed, .int (cnt + 1)])) p g (n + 1) := ⟨[], seed, cnt + 1, upd_same, by rw [upd_ne npg.symm]; exact hg, by simp, b0, b1, by omega, by omega⟩
      walk_at "st"
      refine q_ixL (SqL.of upd_same) (i := 1) rfl ?_
      walk_at "st"
      refine q_ixL (SqL.of upd_same) (i := 2) rfl ?_
      walk_at "st"
      refine ⟨_, _, rfl, rfl, wide_mul (a := 18) (b := 14) (by omega) (by omega) (by omega) (by omega) (by omega), ?_⟩
      walk_at "st"
      refine ⟨_, _, rfl, rfl, wide_mul (a := 34) (b := 16) (by omega) (by omega) (by omega) (by omega) (by omega), ?_⟩
      walk_at "st"
      refine q_ixL (SqL.of upd_same) (i := 2) rfl ?_
      walk_at "st"
      refine .inl ⟨_, rfl, ?_⟩
      walk_at "st"
      refine ⟨_, _, rfl, rfl, by omega, ?_⟩
      generalize hz1 : ((seed + (cnt + 1) * 7919) * 48271 + (cnt + 1)) % 2147483647 = z1
      have z1a : 0 ≤ z1 := by rw [← hz1]; exact Int.emod_nonneg _ (by omega)
      have z1b : z1 < 2147483647 := by rw [← hz1]; exact Int.emod_lt_of_pos _ (by omega)
      walk_at "st"
      refine ⟨_, _, rfl, rfl, wide_div (b := 10) (by omega) (by omega) (by omega) (by omega), ?_⟩
      walk_at "st"
      refine ⟨_, _, rfl, rfl, wide_mul (a := 31) (b := 32) (by omega) (by omega) (by omega) (by omega) (by omega), ?_⟩
      walk_at "st"
      refine q_ixL (SqL.of upd_same) (i := 2) rfl ?_
      walk_at "st"
      refine .inl ⟨_, rfl, ?_⟩
      walk_at "st"
      refine ⟨_, _, rfl, rfl, by omega, ?_⟩
      generalize hz2 : (z1 * (z1 / 1009 + 69621) + (cnt + 1)) % 2147483629 = z2
      have z2a : 0 ≤ z2 := by rw [← hz2]; exact Int.emod_nonneg _ (by omega)
      have z2b : z2 < 2147483629 := by rw [← hz2]; exact Int.emod_lt_of_pos _ (by omega)
      walk_at "st"
      refine ⟨_, _, rfl, rfl, wide_div (b := 11) (by omega) (by omega) (by omega) (by omega), ?_⟩
      walk_at "st"
      refine ⟨_, _, rfl, rfl, wide_mul (a := 31) (b := 32) (by omega) (by omega) (by omega) (by omega) (by omega), ?_⟩
      walk_at "st"
      refine .inl ⟨_, rfl, ?_⟩
      walk_at "st"
      refine ⟨_, _, rfl, rfl, by omega, ?_⟩
      generalize (z2 * (z2 / 2003 + 40692) + 5) % 2147483399 = z3
      walk_at "st"
      refine ⟨_, _, rfl, rfl, wide_div (b := 4) (by omega) (by omega) (by omega) (by omega), ?_⟩
      walk_at "st"
      refine .inl ⟨_, rfl, ?_⟩
      walk_at "st"
      refine ⟨_, _, rfl, rfl, m0, ?_⟩
      exact q _ _ (Int.emod_nonneg _ (by omega)) (Int.emod_lt_of_pos _ m0) src off
end
end T



namespace T
section
variable {P : Program} {w : World} {K : PySem.W.Frag} {mg : Str → Option Value} {base : Heap}
theorem q_lcR {ta : TA} {g : TG} {tt : TT} {te : TE} {vs : List Nat} {σ : L2.St} {H : Hp} {Q : VK} (h : ta σ H fun us H1 => ∃ j : Int, us = [.int j] ∧ -(2 ^ 62) ≤ j ∧ j < 2 ^ 62 ∧ ∀ D, H1 D = none → ∃ W : Nat → Nat → Hp → Prop, (∃ m, W 0 m (upd H1 D (.lst []))) ∧ ∀ i m H, W i m H →
    ((Itr 0 j.toNat).stop i H ∧ Q (.ref D) H) ∨ ((Itr 0 j.toNat).go i H ∧ ∃ Nx : Hp → Prop, (∀ H', Nx H' → ∃ m', m' < m ∧ W (i + 1) m' H') ∧ ∀ x H', (Itr 0 j.toNat).yld i H x H' → g x (wipe σ vs) H' fun σ2 H2 => wipe σ2 vs = wipe σ vs ∧ tt σ2 H2 fun b H3 =>
      if b = true then te σ2 H3 fun y H4 => ∃ acc, H4 D = some (.lst acc) ∧ acc.length < sizeLine ∧ Nx (upd H4 D (.lst (acc ++ [y]))) else Nx H3)) : tLc (iRng1 ta) g tt te vs σ H Q := h
def rowW (z : Str) (n : Nat) : List PyData := (List.range n).map fun (i : Nat) => PyData.tuple [.str z, .int ((0 : Int) + (i : Int))]
theorem rowW_len (z : Str) (n : Nat) : (rowW z n).length = n := by simp [rowW]
theorem dpAll_append {H : Hp} {xs ys : List V} {ds es : List PyData} (a : DpAll K H xs ds) (b : DpAll K H ys es) : DpAll K H (xs ++ ys) (ds ++ es) := by
  induction ds generalizing xs with
  | nil => cases a; exact b
  | cons d ds ih => cases a with
    | cons x r => exact .cons x (ih r)
theorem lc_pairs {D : Addr} {H1 : Hp} {Qd : Hp → Prop} {o0 o1 o2 : Option V} (z : Str) (n : Nat) (hD : H1 D = none) (few : n ≤ 100) (done : ∀ ys H', Same H1 H' → H' D = some (.lst ys) → DpAll K H' ys (rowW z n) → Qd H') :
    ∃ W : Nat → Nat → Hp → Prop, (∃ m, W 0 m (upd H1 D (.lst []))) ∧ ∀ i m H, W i m H →
      ((Itr 0 n).stop i H ∧ Qd H) ∨ ((Itr 0 n).go i H ∧ ∃ Nx : Hp → Prop, (∀ H', Nx H' → ∃ m', m' < m ∧ W (i + 1) m' H') ∧ ∀ x H', (Itr 0 n).yld i H x H' → gName 2 x (wipe [o0, o1, o2] [2]) H' fun σ2 H2 => wipe σ2 [2] = wipe [o0, o1, o2] [2] ∧ tYes σ2 H2 fun b H3 =>
        if b = true then (tTup (tCons (tC (.str z)) (tCons (tVar 2) tNil))) σ2 H3 fun y H4 => ∃ acc, H4 D = some (.lst acc) ∧ acc.length < sizeLine ∧ Nx (upd H4 D (.lst (acc ++ [y]))) else Nx H3) := by
  refine lc_rel walk_range (fun i y H => ∃ t, y = .ref t ∧ H t = some (.tup [.str z, .int ((0 : Int) + i)])) hD (sz1000 (by omega)) (fun _ _ => trivial) yfn_same ?_ ?_ ?_
  · rintro i y Ha Hb acc e bt ⟨t, rfl, h⟩
    exact ⟨t, rfl, bt _ _ h fun z => by subst z; rw [h] at e; cases e⟩
  · rintro i x H' H2 lt s ⟨rfl, rfl⟩ Q' k
    refine q_gname ⟨rfl, ?_⟩
    walk_at "st"
    exact ⟨by show 2 ≤ sizeLine; decide, fun p np => k _ _ (same_new np) ⟨p, rfl, upd_same⟩⟩
  · intro ys H' s e l r
    refine done ys H' s e (dpAll_of (by simp [rowW, l]) fun i x d ex ed => ?_)
    obtain ⟨t, rfl, h⟩ := r i x ex
    have lt : i < n := by rw [← l]; exact (List.getElem?_eq_some_iff.mp ex).1
    simp only [rowW, List.getElem?_map, List.getElem?_range lt, Option.map_some, Option.some.injEq] at ed
    subst ed
    exact .tup (SqT.of h) (.cons (.str _) (.cons (.int _) .nil))
def allPair (ds : List PyData) : Prop := ∀ d ∈ ds, ∃ z i, d = .tuple [.str z, .int i]
theorem rowW_pair (z : Str) (n : Nat) : allPair (rowW z n) := fun d hd => by
  simp only [rowW, List.mem_map] at hd
  obtain ⟨i, _, rfl⟩ := hd
  exact ⟨z, _, rfl⟩
theorem allPair.app {a b : List PyData} (ha : allPair a) (hb : allPair b) : allPair (a ++ b) := fun d hd => by
  rcases List.mem_append.mp hd with h | h
  · exact ha d h
  · exact hb d h
theorem dpPair_but {D : Addr} {H H' : Hp} {acc : List V} (e : H D = some (.lst acc)) (bt : But D H H') : ∀ {xs : List V} {ds : List PyData}, allPair ds → DpAll K H xs ds → DpAll K H' xs ds
  | _, [], _, .nil => .nil
  | _, d :: ds, hp, .cons h t => by
    obtain ⟨z, i, rfl⟩ := hp d List.mem_cons_self
    refine .cons ?_ (dpPair_but e bt (fun x hx => hp x (List.mem_cons_of_mem _ hx)) t)
    cases h with
    | @tup a ys _ hs ha =>
    cases ha with
    | @cons x0 r0 _ _ a0 ha => cases ha with
      | @cons x1 r1 _ _ a1 ha =>
        cases ha; cases a0; cases a1
        exact .tup (bt.seqT e hs) (.cons (.str _) (.cons (.int _) .nil))
def poolOf (nt np nq nk : Nat) (seek : Bool) : List PyData := rowW "hand" nt ++ rowW "lock" nk ++ rowW "read" np ++ (if seek then [.tuple [.str "seek", .int 0]] else []) ++ rowW "send" nq ++ rowW "strip" nt ++ rowW "take" nq ++ rowW "write" np
def spPool (K : PySem.W.Frag) : Sp := fun vs H Q _ => ∃ (a t p q : Addr) (ts ps qs rest : List V) (k f d : Int), vs = [.ref a] ∧ H a = some (.lst (.ref t :: .ref p :: .ref q :: .int k :: .int f :: .int d :: rest)) ∧ SqL K H t ts ∧ SqL K H p ps ∧ SqL K H q qs ∧ ts.length ≤ 4 ∧ ps.length ≤ 3 ∧ qs.length ≤ 2 ∧ 0 ≤ k ∧ k ≤ 2 ∧
  ∀ l xs H', Same H H' → H l = none → H' l = some (.lst xs) → DpAll K H' xs (poolOf ts.length ps.length qs.length k.toNat (decide (d > 0))) → Q (.ref l) H'
theorem ok_law_pool (B : Bl mg) (d : DefAt K mg "_law_pool" s__law_pool ["_law_parts_here"]) : Cal P w K mg base 1 "_law_pool" ["_law_parts_here"] (spPool K) := d.cal fun f fd F => by
  refine F.ok sc__law_pool (fun vs H Q E h => ?_) (fun cdv A outer s H vs Q E hr h => ?_)
  · obtain ⟨a, t, p, q, ts, ps, qs, rest, k, f, d, rfl, _⟩ := h; rfl
  · obtain ⟨a, t, p, q, ts, ps, qs, rest, k, f, d, rfl, ha, ht, hp, hq, lt, lp, lq, k0, k2, Qk⟩ := h
    refine ⟨_, (pss_cons (ps_setLc (i := 1) (own := [("_law_k", 2)]) (tt := tYes) rfl sc__law_pool.nd rfl rfl (sw_true rfl rfl rfl (by decide +kernel)) (pi_range1 rfl B.range (pa_cons (pe_callB call_len_seq rfl B.len hb_len (pa_cons (pe_ix ix_list (pv 0) pe_int (fun _ _ => rfl)) pa_nil)) pa_nil)) (blkOk_by (N := ["_law_parts_here", "_law_pool_here", "_law_k"]) (sc := defScope s__law_pool) (by decide +kernel)) (fun _ _ _ _ _ => (pg_name (i := 2) sc__law_pool.nd rfl (Or.inl rfl))) (fun _ _ _ _ _ => pts_nil) (fun _ _ _ _ _ => (pe_tup (pa_cons pe_str (pa_cons (pv 2) pa_nil)))))
      (pss_cons (ps_set (i := 1) sc__law_pool.nd rfl (Or.inl rfl) (pe_op op_cat (pv 1) (pe_lc (own := [("_law_k", 2)]) (tt := tYes) rfl sc__law_pool.nd (pi_range1 rfl B.range (pa_cons (pe_ix ix_list (pv 0) pe_int (fun _ _ => rfl)) pa_nil)) (blkOk_by (N := ["_law_parts_here", "_law_pool_here", "_law_k"]) (sc := defScope s__law_pool) (by decide +kernel)) (fun _ _ _ _ _ => (pg_name (i := 2) sc__law_pool.nd rfl (Or.inl rfl))) (fun _ _ _ _ _ => pts_nil) (fun _ _ _ _ _ => (pe_tup (pa_cons pe_str (pa_cons (pv 2) pa_nil)))))))
      (pss_cons (ps_set (i := 1) sc__law_pool.nd rfl (Or.inl rfl) (pe_op op_cat (pv 1) (pe_lc (own := [("_law_k", 2)]) (tt := tYes) rfl sc__law_pool.nd (pi_range1 rfl B.range (pa_cons (pe_callB call_len_seq rfl B.len hb_len (pa_cons (pe_ix ix_list (pv 0) pe_int (fun _ _ => rfl)) pa_nil)) pa_nil)) (blkOk_by (N := ["_law_parts_here", "_law_pool_here", "_law_k"]) (sc := defScope s__law_pool) (by decide +kernel)) (fun _ _ _ _ _ => (pg_name (i := 2) sc__law_pool.nd rfl (Or.inl rfl))) (fun _ _ _ _ _ => pts_nil) (fun _ _ _ _ _ => (pe_tup (pa_cons pe_str (pa_cons (pv 2) pa_nil)))))))
      (pss_cons (ps_if (pt_cmpR op_gt (pe_ix ix_list (pv 0) pe_int (fun _ _ => rfl)) pe_int (nomark _)) (pss_one (ps_expr (pe_bm PySem.F.plainAttrs_list PySem.F.slot_list_append PySem.F.type_list_append mt_append (pv 1) (pa_cons (pe_tup (pa_cons pe_str (pa_cons pe_int pa_nil))) pa_nil)))) pss_nil)
      (pss_cons (ps_set (i := 1) sc__law_pool.nd rfl (Or.inl rfl) (pe_op op_cat (pv 1) (pe_lc (own := [("_law_k", 2)]) (tt := tYes) rfl sc__law_pool.nd (pi_range1 rfl B.range (pa_cons (pe_callB call_len_seq rfl B.len hb_len (pa_cons (pe_ix ix_list (pv 0) pe_int (fun _ _ => rfl)) pa_nil)) pa_nil)) (blkOk_by (N := ["_law_parts_here", "_law_pool_here", "_law_k"]) (sc := defScope s__law_pool) (by decide +kernel)) (fun _ _ _ _ _ => (pg_name (i := 2) sc__law_pool.nd rfl (Or.inl rfl))) (fun _ _ _ _ _ => pts_nil) (fun _ _ _ _ _ => (pe_tup (pa_cons pe_str (pa_cons (pv 2) pa_nil)))))))
      (pss_cons (ps_set (i := 1) sc__law_pool.nd rfl (Or.inl rfl) (pe_op op_cat (pv 1) (pe_lc (own := [("_law_k", 2)]) (tt := tYes) rfl sc__law_pool.nd (pi_range1 rfl B.range (pa_cons (pe_callB call_len_seq rfl B.len hb_len (pa_cons (pe_ix ix_list (pv 0) pe_int (fun _ _ => rfl)) pa_nil)) pa_nil)) (blkOk_by (N := ["_law_parts_here", "_law_pool_here", "_law_k"]) (sc := defScope s__law_pool) (by decide +kernel)) (fun _ _ _ _ _ => (pg_name (i := 2) sc__law_pool.nd rfl (Or.inl rfl))) (fun _ _ _ _ _ => pts_nil) (fun _ _ _ _ _ => (pe_tup (pa_cons pe_str (pa_cons (pv 2) pa_nil)))))))
      (pss_cons (ps_set (i := 1) sc__law_pool.nd rfl (Or.inl rfl) (pe_op op_cat (pv 1) (pe_lc (own := [("_law_k", 2)]) (tt := tYes) rfl sc__law_pool.nd (pi_range1 rfl B.range (pa_cons (pe_callB call_len_seq rfl B.len hb_len (pa_cons (pe_ix ix_list (pv 0) pe_int (fun _ _ => rfl)) pa_nil)) pa_nil)) (blkOk_by (N := ["_law_parts_here", "_law_pool_here", "_law_k"]) (sc := defScope s__law_pool) (by decide +kernel)) (fun _ _ _ _ _ => (pg_name (i := 2) sc__law_pool.nd rfl (Or.inl rfl))) (fun _ _ _ _ _ => pts_nil) (fun _ _ _ _ _ => (pe_tup (pa_cons pe_str (pa_cons (pv 2) pa_nil)))))))
      (pss_one (ps_ret (pe_op op_cat (pv 1) (pe_lc (own := [("_law_k", 2)]) (tt := tYes) rfl sc__law_pool.nd (pi_range1 rfl B.range (pa_cons (pe_callB call_len_seq rfl B.len hb_len (pa_cons (pe_ix ix_list (pv 0) pe_int (fun _ _ => rfl)) pa_nil)) pa_nil)) (blkOk_by (N := ["_law_parts_here", "_law_pool_here", "_law_k"]) (sc := defScope s__law_pool) (by decide +kernel)) (fun _ _ _ _ _ => (pg_name (i := 2) sc__law_pool.nd rfl (Or.inl rfl))) (fun _ _ _ _ _ => pts_nil) (fun _ _ _ _ _ => (pe_tup (pa_cons pe_str (pa_cons (pv 2) pa_nil))))))))))))))), ?_⟩
    walk_at "st0"
    have s := Same.refl H
    refine q_lcR ?_
    walk_at "st"
    refine q_ixL (SqL.of (s _ _ ha)) (i := 0) (atI_nat (j := 0) rfl) ?_
    walk_at "st"
    refine ⟨t, ts, rfl, .inl (s.seq ht), ?_⟩
    walk_at "st"
    refine ⟨_, rfl, by omega, by omega, fun D1 nD1 => lc_pairs (K := K) "hand" ((ts.length : Int)).toNat nD1 (by omega) fun ys1 H1 m1 e1 d1 => ?_⟩
    rw [Int.toNat_natCast] at d1
    have ln1 := d1.length
    rw [rowW_len] at ln1
    replace s := s.trans m1
    have e := e1
    have dd := d1
    have pr := rowW_pair "hand" ts.length
    have nP := nD1
    have lp0 : ys1.length ≤ 4 := by omega
    walk_at "st"
    refine q_lcR ?_
    walk_at "st"
    refine q_ixL (SqL.of (s _ _ ha)) (i := 3) (atI_nat (j := 3) rfl) ?_
    walk_at "st"
    refine ⟨_, rfl, by omega, by omega, fun D2 nD2 => lc_pairs (K := K) "lock" k.toNat nD2 (by omega) fun ys2 H2 m2 e2 d2 => ?_⟩
    have ln2 := d2.length
    rw [rowW_len] at ln2
    replace s := s.trans m2
    refine ⟨_, _, _, _, rfl, rfl, m2 _ _ e, e2, by rw [sizeLine_eq]; omega, fun p2 np2 => ?_⟩
    replace dd := dpAll_append (L2.DpAll.mono (m2.trans (same_new (o := .lst (ys1 ++ ys2)) np2)) dd) (L2.DpAll.mono (same_new np2) d2)
    replace pr := pr.app (rowW_pair "lock" k.toNat)
    replace nP := s.free np2
    replace s := s.trans (same_new (o := .lst (ys1 ++ ys2)) np2)
    replace e : upd H2 p2 (.lst (ys1 ++ ys2)) p2 = some (.lst (ys1 ++ ys2)) := upd_same
    replace lp0 : (ys1 ++ ys2).length ≤ 6 := by rw [List.length_append]; omega
    generalize ys1 ++ ys2 = xs2 at *
    generalize upd H2 p2 (.lst xs2) = G2 at *
    walk_at "st"
    refine q_lcR ?_
    walk_at "st"
    refine q_ixL (SqL.of (s _ _ ha)) (i := 1) (atI_nat (j := 1) rfl) ?_
    walk_at "st"
    refine ⟨p, ps, rfl, .inl (s.seq hp), ?_⟩
    walk_at "st"
    refine ⟨_, rfl, by omega, by omega, fun D3 nD3 => lc_pairs (K := K) "read" ((ps.length : Int)).toNat nD3 (by omega) fun ys3 H3 m3 e3 d3 => ?_⟩
    rw [Int.toNat_natCast] at d3
    have ln3 := d3.length
    rw [rowW_len] at ln3
    replace s := s.trans m3
    refine ⟨_, _, _, _, rfl, rfl, m3 _ _ e, e3, by rw [sizeLine_eq]; omega, fun p3 np3 => ?_⟩
    replace dd := dpAll_append (L2.DpAll.mono (m3.trans (same_new (o := .lst (xs2 ++ ys3)) np3)) dd) (L2.DpAll.mono (same_new np3) d3)
    replace pr := pr.app (rowW_pair "read" ps.length)
    replace nP := s.free np3
    replace s := s.trans (same_new (o := .lst (xs2 ++ ys3)) np3)
    replace e : upd H3 p3 (.lst (xs2 ++ ys3)) p3 = some (.lst (xs2 ++ ys3)) := upd_same
    replace lp0 : (xs2 ++ ys3).length ≤ 9 := by rw [List.length_append]; omega
    generalize xs2 ++ ys3 = xs3 at *
    generalize upd H3 p3 (.lst xs3) = G3 at *
    walk_at "st"
    refine q_ixL (SqL.of (s _ _ ha)) (i := 5) (atI_nat (j := 5) rfl) ?_
    walk_at "st"
    refine q_if (fun hc => ?_) (fun hc => ?_)
    · have hc2 : decide (d > 0) = true := hc
      rw [hc2] at Qk
      unfold poolOf at Qk
      rw [if_pos rfl] at Qk
      refine q_app rfl e ?_
      walk_at "st"
      refine ⟨by show 2 ≤ sizeLine; decide, fun pp npp => ⟨p3, xs3, _, rfl, rfl, same_new npp _ _ e, by rw [sizeLine_eq]; omega, ?_⟩⟩
      have mm := same_new (o := .tup [.str "seek", .int 0]) npp
      have bt : But p3 (upd G3 pp (.tup [.str "seek", .int 0])) (upd (upd G3 pp (.tup [.str "seek", .int 0])) p3 (.lst (xs3 ++ [.ref pp]))) := But.put
      have npp3 : pp ≠ p3 := fun z => by subst z; rw [npp] at e; cases e
      have d4 : DpAll K (upd (upd G3 pp (.tup [.str "seek", .int 0])) p3 (.lst (xs3 ++ [.ref pp]))) [.ref pp] [.tuple [.str "seek", .int 0]] :=
        .cons (.tup (SqT.of (bt _ _ upd_same npp3)) (.cons (.str _) (.cons (.int _) .nil))) .nil
      replace dd := dpAll_append (dpPair_but (mm _ _ e) bt pr (L2.DpAll.mono mm dd)) d4
      have s4 : Same H (upd (upd G3 pp (.tup [.str "seek", .int 0])) p3 (.lst (xs3 ++ [.ref pp]))) := fun b o hb => bt _ _ (mm _ _ (s _ _ hb)) (ne_of_none hb nP)
      replace s := s4
      replace e : upd (upd G3 pp (.tup [.str "seek", .int 0])) p3 (.lst (xs3 ++ [.ref pp])) p3 = some (.lst (xs3 ++ [.ref pp])) := upd_same
      replace lp0 : (xs3 ++ [V.ref pp]).length ≤ 10 := by rw [List.length_append]; show xs3.length + 1 ≤ 10; omega
      replace pr : allPair (rowW "hand" ts.length ++ rowW "lock" k.toNat ++ rowW "read" ps.length ++ [.tuple [.str "seek", .int 0]]) := pr.app (fun d hd => by simp at hd; exact ⟨_, _, hd⟩)
      generalize xs3 ++ [V.ref pp] = xs4 at *
      generalize upd (upd G3 pp (.tup [.str "seek", .int 0])) p3 (.lst xs4) = G4 at *
      walk_at "st"
      refine q_lcR ?_
      walk_at "st"
      refine q_ixL (SqL.of (s _ _ ha)) (i := 2) (atI_nat (j := 2) rfl) ?_
      walk_at "st"
      refine ⟨q, qs, rfl, .inl (s.seq hq), ?_⟩
      walk_at "st"
      refine ⟨_, rfl, by omega, by omega, fun D5 nD5 => lc_pairs (K := K) "send" ((qs.length : Int)).toNat nD5 (by omega) fun ys5 H5 m5 e5 d5 => ?_⟩
      rw [Int.toNat_natCast] at d5
      have ln5 := d5.length
      rw [rowW_len] at ln5
      replace s := s.trans m5
      refine ⟨_, _, _, _, rfl, rfl, m5 _ _ e, e5, by rw [sizeLine_eq]; omega, fun p5 np5 => ?_⟩
      replace dd := dpAll_append (L2.DpAll.mono (m5.trans (same_new (o := .lst (xs4 ++ ys5)) np5)) dd) (L2.DpAll.mono (same_new np5) d5)
      replace pr := pr.app (rowW_pair "send" qs.length)
      replace nP := s.free np5
      replace s := s.trans (same_new (o := .lst (xs4 ++ ys5)) np5)
      replace e : upd H5 p5 (.lst (xs4 ++ ys5)) p5 = some (.lst (xs4 ++ ys5)) := upd_same
      replace lp0 : (xs4 ++ ys5).length ≤ 12 := by rw [List.length_append]; omega
      generalize xs4 ++ ys5 = xs5 at *
      generalize upd H5 p5 (.lst xs5) = G5 at *
      walk_at "st"
      refine q_lcR ?_
      walk_at "st"
      refine q_ixL (SqL.of (s _ _ ha)) (i := 0) (atI_nat (j := 0) rfl) ?_
      walk_at "st"
      refine ⟨t, ts, rfl, .inl (s.seq ht), ?_⟩
      walk_at "st"
      refine ⟨_, rfl, by omega, by omega, fun D6 nD6 => lc_pairs (K := K) "strip" ((ts.length : Int)).toNat nD6 (by omega) fun ys6 H6 m6 e6 d6 => ?_⟩
      rw [Int.toNat_natCast] at d6
      have ln6 := d6.length
      rw [rowW_len] at ln6
      replace s := s.trans m6
      refine ⟨_, _, _, _, rfl, rfl, m6 _ _ e, e6, by rw [sizeLine_eq]; omega, fun p6 np6 => ?_⟩
      replace dd := dpAll_append (L2.DpAll.mono (m6.trans (same_new (o := .lst (xs5 ++ ys6)) np6)) dd) (L2.DpAll.mono (same_new np6) d6)
      replace pr := pr.app (rowW_pair "strip" ts.length)
      replace nP := s.free np6
      replace s := s.trans (same_new (o := .lst (xs5 ++ ys6)) np6)
      replace e : upd H6 p6 (.lst (xs5 ++ ys6)) p6 = some (.lst (xs5 ++ ys6)) := upd_same
      replace lp0 : (xs5 ++ ys6).length ≤ 16 := by rw [List.length_append]; omega
      generalize xs5 ++ ys6 = xs6 at *
      generalize upd H6 p6 (.lst xs6) = G6 at *
      walk_at "st"
      refine q_lcR ?_
      walk_at "st"
      refine q_ixL (SqL.of (s _ _ ha)) (i := 2) (atI_nat (j := 2) rfl) ?_
      walk_at "st"
      refine ⟨q, qs, rfl, .inl (s.seq hq), ?_⟩
      walk_at "st"
      refine ⟨_, rfl, by omega, by omega, fun D7 nD7 => lc_pairs (K := K) "take" ((qs.length : Int)).toNat nD7 (by omega) fun ys7 H7 m7 e7 d7 => ?_⟩
      rw [Int.toNat_natCast] at d7
      have ln7 := d7.length
      rw [rowW_len] at ln7
      replace s := s.trans m7
      refine ⟨_, _, _, _, rfl, rfl, m7 _ _ e, e7, by rw [sizeLine_eq]; omega, fun p7 np7 => ?_⟩
      replace dd := dpAll_append (L2.DpAll.mono (m7.trans (same_new (o := .lst (xs6 ++ ys7)) np7)) dd) (L2.DpAll.mono (same_new np7) d7)
      replace pr := pr.app (rowW_pair "take" qs.length)
      replace nP := s.free np7
      replace s := s.trans (same_new (o := .lst (xs6 ++ ys7)) np7)
      replace e : upd H7 p7 (.lst (xs6 ++ ys7)) p7 = some (.lst (xs6 ++ ys7)) := upd_same
      replace lp0 : (xs6 ++ ys7).length ≤ 18 := by rw [List.length_append]; omega
      generalize xs6 ++ ys7 = xs7 at *
      generalize upd H7 p7 (.lst xs7) = G7 at *
      walk_at "st"
      refine q_lcR ?_
      walk_at "st"
      refine q_ixL (SqL.of (s _ _ ha)) (i := 1) (atI_nat (j := 1) rfl) ?_
      walk_at "st"
      refine ⟨p, ps, rfl, .inl (s.seq hp), ?_⟩
      walk_at "st"
      refine ⟨_, rfl, by omega, by omega, fun D8 nD8 => lc_pairs (K := K) "write" ((ps.length : Int)).toNat nD8 (by omega) fun ys8 H8 m8 e8 d8 => ?_⟩
      rw [Int.toNat_natCast] at d8
      have ln8 := d8.length
      rw [rowW_len] at ln8
      replace s := s.trans m8
      refine ⟨_, _, _, _, rfl, rfl, m8 _ _ e, e8, by rw [sizeLine_eq]; omega, fun p8 np8 => ?_⟩
      replace dd := dpAll_append (L2.DpAll.mono (m8.trans (same_new (o := .lst (xs7 ++ ys8)) np8)) dd) (L2.DpAll.mono (same_new np8) d8)
      exact Qk p8 _ _ (s.trans (same_new np8)) (s.free np8) upd_same dd
    · have hc2 : decide (d > 0) = false := hc
      rw [hc2] at Qk
      unfold poolOf at Qk
      rw [if_neg (by simp), List.append_nil] at Qk
      walk_at "st"
      refine q_lcR ?_
      walk_at "st"
      refine q_ixL (SqL.of (s _ _ ha)) (i := 2) (atI_nat (j := 2) rfl) ?_
      walk_at "st"
      refine ⟨q, qs, rfl, .inl (s.seq hq), ?_⟩
      walk_at "st"
      refine ⟨_, rfl, by omega, by omega, fun D5 nD5 => lc_pairs (K := K) "send" ((qs.length : Int)).toNat nD5 (by omega) fun ys5 H5 m5 e5 d5 => ?_⟩
      rw [Int.toNat_natCast] at d5
      have ln5 := d5.length
      rw [rowW_len] at ln5
      replace s := s.trans m5
      refine ⟨_, _, _, _, rfl, rfl, m5 _ _ e, e5, by rw [sizeLine_eq]; omega, fun p5 np5 => ?_⟩
      replace dd := dpAll_append (L2.DpAll.mono (m5.trans (same_new (o := .lst (xs3 ++ ys5)) np5)) dd) (L2.DpAll.mono (same_new np5) d5)
      replace pr := pr.app (rowW_pair "send" qs.length)
      replace nP := s.free np5
      replace s := s.trans (same_new (o := .lst (xs3 ++ ys5)) np5)
      replace e : upd H5 p5 (.lst (xs3 ++ ys5)) p5 = some (.lst (xs3 ++ ys5)) := upd_same
      replace lp0 : (xs3 ++ ys5).length ≤ 12 := by rw [List.length_append]; omega
      generalize xs3 ++ ys5 = xs5 at *
      generalize upd H5 p5 (.lst xs5) = G5 at *
      walk_at "st"
      refine q_lcR ?_
      walk_at "st"
      refine q_ixL (SqL.of (s _ _ ha)) (i := 0) (atI_nat (j := 0) rfl) ?_
      walk_at "st"
      refine ⟨t, ts, rfl, .inl (s.seq ht), ?_⟩
      walk_at "st"
      refine ⟨_, rfl, by omega, by omega, fun D6 nD6 => lc_pairs (K := K) "strip" ((ts.length : Int)).toNat nD6 (by omega) fun ys6 H6 m6 e6 d6 => ?_⟩
      rw [Int.toNat_natCast] at d6
      have ln6 := d6.length
      rw [rowW_len] at ln6
      replace s := s.trans m6
      refine ⟨_, _, _, _, rfl, rfl, m6 _ _ e, e6, by rw [sizeLine_eq]; omega, fun p6 np6 => ?_⟩
      replace dd := dpAll_append (L2.DpAll.mono (m6.trans (same_new (o := .lst (xs5 ++ ys6)) np6)) dd) (L2.DpAll.mono (same_new np6) d6)
      replace pr := pr.app (rowW_pair "strip" ts.length)
      replace nP := s.free np6
      replace s := s.trans (same_new (o := .lst (xs5 ++ ys6)) np6)
      replace e : upd H6 p6 (.lst (xs5 ++ ys6)) p6 = some (.lst (xs5 ++ ys6)) := upd_same
      replace lp0 : (xs5 ++ ys6).length ≤ 16 := by rw [List.length_append]; omega
      generalize xs5 ++ ys6 = xs6 at *
      generalize upd H6 p6 (.lst xs6) = G6 at *
      walk_at "st"
      refine q_lcR ?_
      walk_at "st"
      refine q_ixL (SqL.of (s _ _ ha)) (i := 2) (atI_nat (j := 2) rfl) ?_
      walk_at "st"
      refine ⟨q, qs, rfl, .inl (s.seq hq), ?_⟩
      walk_at "st"
      refine ⟨_, rfl, by omega, by omega, fun D7 nD7 => lc_pairs (K := K) "take" ((qs.length : Int)).toNat nD7 (by omega) fun ys7 H7 m7 e7 d7 => ?_⟩
      rw [Int.toNat_natCast] at d7
      have ln7 := d7.length
      rw [rowW_len] at ln7
      replace s := s.trans m7
      refine ⟨_, _, _, _, rfl, rfl, m7 _ _ e, e7, by rw [sizeLine_eq]; omega, fun p7 np7 => ?_⟩
      replace dd := dpAll_append (L2.DpAll.mono (m7.trans (same_new (o := .lst (xs6 ++ ys7)) np7)) dd) (L2.DpAll.mono (same_new np7) d7)
      replace pr := pr.app (rowW_pair "take" qs.length)
      replace nP := s.free np7
      replace s := s.trans (same_new (o := .lst (xs6 ++ ys7)) np7)
      replace e : upd H7 p7 (.lst (xs6 ++ ys7)) p7 = some (.lst (xs6 ++ ys7)) := upd_same
      replace lp0 : (xs6 ++ ys7).length ≤ 18 := by rw [List.length_append]; omega
      generalize xs6 ++ ys7 = xs7 at *
      generalize upd H7 p7 (.lst xs7) = G7 at *
      walk_at "st"
      refine q_lcR ?_
      walk_at "st"
      refine q_ixL (SqL.of (s _ _ ha)) (i := 1) (atI_nat (j := 1) rfl) ?_
      walk_at "st"
      refine ⟨p, ps, rfl, .inl (s.seq hp), ?_⟩
      walk_at "st"
      refine ⟨_, rfl, by omega, by omega, fun D8 nD8 => lc_pairs (K := K) "write" ((ps.length : Int)).toNat nD8 (by omega) fun ys8 H8 m8 e8 d8 => ?_⟩
      rw [Int.toNat_natCast] at d8
      have ln8 := d8.length
      rw [rowW_len] at ln8
      replace s := s.trans m8
      refine ⟨_, _, _, _, rfl, rfl, m8 _ _ e, e8, by rw [sizeLine_eq]; omega, fun p8 np8 => ?_⟩
      replace dd := dpAll_append (L2.DpAll.mono (m8.trans (same_new (o := .lst (xs7 ++ ys8)) np8)) dd) (L2.DpAll.mono (same_new np8) d8)
      exact Qk p8 _ _ (s.trans (same_new np8)) (s.free np8) upd_same dd
end
end T



namespace T
section
variable {P : Program} {w : World} {K : PySem.W.Frag} {mg : Str → Option Value} {base : Heap}
/-- the heap without the source -/
def offH (p g : Addr) (H : Hp) : Hp := fun b => if b = p ∨ b = g then none else H b
theorem offH_of {p g b : Addr} {H : Hp} {o : HO} (h : H b = some o) (n1 : b ≠ p) (n2 : b ≠ g) : offH p g H b = some o := by
  unfold offH; rw [if_neg (by simp [n1, n2])]; exact h
theorem offH_to {p g : Addr} {H : Hp} : Same (offH p g H) H := fun b o h => by
  unfold offH at h
  split at h
  · cases h
  · exact h
theorem offH_ne {p g b : Addr} {H : Hp} {o : HO} (h : offH p g H b = some o) : b ≠ p ∧ b ≠ g := by
  unfold offH at h
  split at h
  · cases h
  · rename_i n
    exact ⟨fun e => n (.inl e), fun e => n (.inr e)⟩
theorem Off.sameH {p g : Addr} {H H' : Hp} (s : Off p g H H') : Same (offH p g H) (offH p g H') := fun b o h => offH_of (s b o (offH_to _ _ h) (offH_ne h).1 (offH_ne h).2) (offH_ne h).1 (offH_ne h).2
theorem offH_upd {p g D : Addr} {H : Hp} {o : HO} (n1 : D ≠ p) (n2 : D ≠ g) : offH p g (upd H D o) = upd (offH p g H) D o := by
  funext b
  by_cases e : b = D
  · subst e
    rw [upd_same]
    exact offH_of upd_same n1 n2
  · rw [upd_ne e]
    unfold offH
    rw [upd_ne e]
theorem off_new {p g D : Addr} {H : Hp} {n : Nat} (S : SrcAt H p g n) (h : H D = none) : D ≠ p ∧ D ≠ g := by
  obtain ⟨gs, seed, cnt, h1, h2, _⟩ := S
  exact ⟨fun z => by (subst z; rw [h] at h1; cases h1), fun z => by (subst z; rw [h] at h2; cases h2)⟩
theorem SrcAt.same {p g : Addr} {H H' : Hp} {n : Nat} (S : SrcAt H p g n) (s : Same H H') : SrcAt H' p g n := by
  obtain ⟨gs, seed, cnt, h1, h2, r⟩ := S
  exact ⟨gs, seed, cnt, s _ _ h1, s _ _ h2, r⟩
theorem SrcAt.upd {p g D : Addr} {H : Hp} {n : Nat} {o : HO} (S : SrcAt H p g n) (n1 : D ≠ p) (n2 : D ≠ g) : SrcAt (upd H D o) p g n := by
  obtain ⟨gs, seed, cnt, h1, h2, r⟩ := S
  exact ⟨gs, seed, cnt, by rw [upd_ne n1.symm]; exact h1, by rw [upd_ne n2.symm]; exact h2, r⟩
theorem off_sqT {p g a : Addr} {H : Hp} {n : Nat} {xs : List V} (S : SrcAt H p g n) (h : SqT K H a xs) : SqT K (offH p g H) a xs := by
  obtain ⟨gs, seed, cnt, h1, h2, _⟩ := S
  rcases h with (h | ⟨o, h⟩) | h
  · exact .inl (.inl (offH_of h (fun z => by subst z; rw [h] at h1; cases h1) (fun z => by subst z; rw [h] at h2; cases h2)))
  · exact .inl (.inr ⟨o, offH_of h (fun z => by subst z; rw [h] at h1; cases h1) (fun z => by subst z; rw [h] at h2; cases h2)⟩)
  · exact .inr h
theorem off_pair {p g : Addr} {H : Hp} {n : Nat} (S : SrcAt H p g n) : ∀ {xs : List V} {ds : List PyData}, allPair ds → DpAll K H xs ds → DpAll K (offH p g H) xs ds
  | _, [], _, .nil => .nil
  | _, d :: ds, hp, .cons h t => by
    obtain ⟨z, i, rfl⟩ := hp d List.mem_cons_self
    refine .cons ?_ (off_pair S (fun x hx => hp x (List.mem_cons_of_mem _ hx)) t)
    cases h with
    | @tup a ys _ hs ha =>
    cases ha with
    | @cons x0 r0 _ _ a0 ha => cases ha with
      | @cons x1 r1 _ _ a1 ha =>
        cases ha; cases a0; cases a1
        exact .tup (off_sqT S hs) (.cons (.str _) (.cons (.int _) .nil))
/-- what is new in H' -/
def diffH (H H' : Hp) : Hp := fun b => if H b = none then H' b else none
theorem diffH_of {H H' : Hp} {b : Addr} {o : HO} (h : H' b = some o) (n : H b = none) : diffH H H' b = some o := by unfold diffH; rw [if_pos n]; exact h
theorem diffH_to {H H' : Hp} : Same (diffH H H') H' := fun b o h => by
  unfold diffH at h
  split at h
  · exact h
  · cases h
theorem diffH_no {H H' : Hp} {b : Addr} {o : HO} (h : diffH H H' b = some o) : H b = none := by
  unfold diffH at h
  split at h
  · assumption
  · cases h
theorem diffH_left {H H1 H' : Hp} (s : Same H H1) : Same (diffH H1 H') (diffH H H') := fun b o h => diffH_of (diffH_to _ _ h) (s.free (diffH_no h))
theorem diffH_right {H H' H2 : Hp} (s : ∀ b o, H b = none → H' b = some o → H2 b = some o) : Same (diffH H H') (diffH H H2) := fun b o h => diffH_of (s _ _ (diffH_no h) (diffH_to _ _ h)) (diffH_no h)
theorem off_free {p g b : Addr} {H H' : Hp} (o : Off p g H H') (n1 : b ≠ p) (n2 : b ≠ g) (h : H' b = none) : H b = none := by
  cases e : H b with
  | none => rfl
  | some u => have z := o _ _ e n1 n2; rw [h] at z; cases z
def spRights (K : PySem.W.Frag) : Sp := fun vs H Q _ => ∃ (p g q : Addr) (n : Nat) (xs : List V) (ds : List PyData), vs = [.ref p, .ref q] ∧ SrcAt H p g n ∧ n ≤ 90000 ∧ q ≠ p ∧ q ≠ g ∧ H q = some (.lst xs) ∧ DpAll K (offH p g H) xs ds ∧ ds.length ≤ 30 ∧ allPair ds ∧
  ∀ l ys es H', Off p g H H' → SrcAt H' p g (n + 30) → H l = none → H' l = some (.lst ys) → DpAll K (offH p g H') ys es → es.Sublist ds → es.length ≤ 8 → Q (.ref l) H'
theorem ok_law_rights (B : Bl mg) (d : DefAt K mg "_law_rights" s__law_rights ["_law_source_here", "_law_pool_here"]) (c__law_draw : Cal P w K mg base 1 "_law_draw" ["_law_source_here", "_law_many"] (spDraw K)) : Cal P w K mg base 2 "_law_rights" ["_law_source_here", "_law_pool_here"] (spRights K) := d.cal fun f fd F => by
  refine F.ok sc__law_rights (fun vs H Q E h => ?_) (fun cdv A outer s H vs Q E hr h => ?_)
  · obtain ⟨p, g, q, n, xs, ds, rfl, _⟩ := h; rfl
  · obtain ⟨p, g, q, n, xs, ds, rfl, S, hn, nqp, nqg, hq, hd, l30, ap, Qk⟩ := h
    refine ⟨_, (pss_cons (ps_set (i := 2) sc__law_rights.nd rfl (Or.inl rfl) (pe_lst pa_nil))
      (pss_cons (ps_for PassesOwn.never rfl (pi_list (pv 1)) (pg_name (i := 3) sc__law_rights.nd rfl (Or.inl rfl)) (pss_one (ps_if (PW.pt (pw_and (pt_cmpR op_lt (pe_callB call_len_seq rfl B.len hb_len (pa_cons (pv 2) pa_nil)) pe_int (nomark _)) (pw_and1 (pt_cmpR op_eq (pe_cal c__law_draw (hr.mono (by omega)) rfl (pa_cons (pv 0) (pa_cons pe_int pa_nil))) pe_int (nomark _))))) (pss_one (ps_expr (pe_bm PySem.F.plainAttrs_list PySem.F.slot_list_append PySem.F.type_list_append mt_append (pv 2) (pa_cons (pv 3) pa_nil)))) pss_nil)))
      (pss_one (ps_ret (pv 2))))), ?_⟩
    have lx := hd.length
    walk_at "st0"
    refine ⟨by show 0 ≤ sizeLine; decide, fun D nD => ?_⟩
    obtain ⟨nDp, nDg⟩ := off_new S nD
    have sD := same_new (o := .lst []) nD
    walk_at "st"
    refine q_forV xs (fun i σ H2 => ∃ o, σ = [some (.ref p), some (.ref q), some (.ref D), o] ∧ Off p g H H2 ∧ SrcAt H2 p g (n + i) ∧ ∃ ys es, H2 D = some (.lst ys) ∧ DpAll K (offH p g H2) ys es ∧ es.Sublist (ds.take i) ∧ es.length ≤ 8) rfl (SqL.of (sD _ _ hq))
      ⟨_, rfl, Off.same sD, S.same sD, [], [], upd_same, .nil, List.nil_sublist _, by simp⟩ (fun i σ H2 _ h => by obtain ⟨o, rfl, o2, _⟩ := h; exact SqL.of (o2 _ _ hq nqp nqg)) (fun i x σ H2 ex hI => ?_) (fun σ H2 hI => ?_)
    · obtain ⟨o, rfl, o2, S2, ys, es, eD, dd, sub, l8⟩ := hI
      have lt : i < ds.length := by rw [← lx]; exact (List.getElem?_eq_some_iff.mp ex).1
      have ly := dd.length
      refine q_gname ?_
      walk_at "st"
      refine ⟨D, ys, rfl, .inl (SqL.of eD), ?_⟩
      walk_at "st"
      refine q_if (fun hc => ?_) (fun hc => ?_)
      · walk_at "st"
        refine ⟨p, g, n + i, 3, rfl, S2, by omega, by omega, by omega, fun rr H3 r0 r3 S3 o3 => ?_⟩
        walk_at "st"
        refine q_eq rfl ?_
        walk_at "st"
        have eD3 := o3 _ _ eD nDp nDg
        have dd3 := L2.DpAll.mono o3.sameH dd
        have tk : es.Sublist (ds.take (i + 1)) := sub.trans (by rw [List.take_add_one]; exact List.sublist_append_left _ _)
        refine q_if (fun hc2 => ?_) (fun hc2 => ?_)
        · refine q_app rfl eD3 ?_
          walk_at "st"
          refine ⟨D, ys, _, rfl, rfl, eD3, by rw [sizeLine_eq]; omega, ?_⟩
          obtain ⟨dv, ev, hv⟩ := hd.get' ex
          have hv3 := L2.Dp.mono (o2.trans o3).sameH hv
          have hk : offH p g (upd H3 D (.lst (ys ++ [x]))) = upd (offH p g H3) D (.lst (ys ++ [x])) := offH_upd nDp nDg
          have lt8 : es.length < 8 := by
            rw [← ly]
            have := of_decide_eq_true hc
            omega
          have tk2 : (es ++ [dv]).Sublist (ds.take (i + 1)) := by
            rw [List.take_add_one, ev]
            exact sub.append (List.Sublist.refl _)
          have ap2 : allPair (es ++ [dv]) := fun e he => ap e (List.mem_of_mem_take (tk2.subset he))
          refine ⟨_, rfl, fun b o hb n1 n2 => ?_, S3.upd nDp nDg, ys ++ [x], es ++ [dv], upd_same, ?_, tk2, by simp; omega⟩
          · have nb : b ≠ D := ne_of_none hb nD
            rw [upd_ne nb]; exact o3 _ _ (o2 _ _ hb n1 n2) n1 n2
          · rw [hk]
            exact dpPair_but (offH_of eD3 nDp nDg) But.put ap2 (dpAll_append dd3 (.cons hv3 .nil))
        · walk_at "st"
          exact ⟨_, rfl, o2.trans o3, S3, ys, es, eD3, dd3, tk, l8⟩
      · walk_at "st"
        exact ⟨_, rfl, o2, S2.le (by omega), ys, es, eD, dd, sub.trans (by rw [List.take_add_one]; exact List.sublist_append_left _ _), l8⟩
    · obtain ⟨o, rfl, o2, S2, ys, es, eD, dd, sub, l8⟩ := hI
      walk_at "st"
      rw [lx, List.take_length] at sub
      exact Qk D ys es H2 o2 (S2.le (by omega)) nD eD dd sub l8
end
end T



namespace T
section
variable {P : Program} {w : World} {K : PySem.W.Frag} {mg : Str → Option Value} {base : Heap}
theorem q_rng1 {ta : TA} {σ : L2.St} {H : Hp} {R : It → Hp → Prop} (h : ta σ H fun vs H1 => ∃ j : Int, vs = [.int j] ∧ -(2 ^ 62) ≤ j ∧ j < 2 ^ 62 ∧ R (Itr 0 j.toNat) H1) : iRng1 ta σ H R := h
/-- a loop over a range, its bound told already -/
def ForR (n : Nat) (g : TG) (tb : TS) (D : Ends) (σ : L2.St) (H1 : Hp) : Prop := ∃ W : Nat → Nat → L2.St → Hp → Prop, (∃ m, W 0 m σ H1) ∧ ∀ i m σ H, W i m σ H →
    ((Itr 0 n).stop i H ∧ D.nx σ H) ∨ ((Itr 0 n).go i H ∧ ∃ N : L2.St → Hp → Prop, (∀ σ' H', N σ' H' → ∃ m', m' < m ∧ W (i + 1) m' σ' H') ∧ ∀ x H', (Itr 0 n).yld i H x H' → g x σ H' fun σ2 H2 => tb { D with nx := N, ct := N, bk := D.nx } σ2 H2)
theorem q_forRA {ta : TA} {g : TG} {tb : TS} {D : Ends} {σ : L2.St} {H : Hp} (h : ta σ H fun vs H1 => ∃ j : Int, vs = [.int j] ∧ -(2 ^ 62) ≤ j ∧ j < 2 ^ 62 ∧ ForR j.toNat g tb D σ H1) : tFor (iRng1 ta) g tb D σ H := h
theorem forR {n : Nat} {g : TG} {tb : TS} {D : Ends} {σ : L2.St} {H : Hp} (Pv : Nat → L2.St → Hp → Prop) (h0 : Pv 0 σ H)
    (hs : ∀ i σ H, i < n → Pv i σ H → g (.int (0 + (i : Int))) σ H fun σ2 H2 => tb { D with nx := Pv (i + 1), ct := Pv (i + 1), bk := D.nx } σ2 H2) (hd : ∀ σ H, Pv n σ H → D.nx σ H) : ForR n g tb D σ H := for_range Pv h0 hs hd
def leaf : PyData → Prop | .none => True | .bool _ => True | .int _ => True | .str _ => True | _ => False
def allFlat (ds : List PyData) : Prop := ∀ d ∈ ds, ∃ es, d = .tuple es ∧ ∀ e ∈ es, leaf e
theorem leaf_any {H H' : Hp} {v : V} {d : PyData} (l : leaf d) (h : Dp K H v d) : Dp K H' v d := by
  cases h with
  | non => exact .non
  | bl b => exact .bl b
  | int i => exact .int i
  | str z => exact .str z
  | lst _ _ => exact l.elim
  | tup _ _ => exact l.elim
theorem leaf_all {H H' : Hp} : ∀ {vs : List V} {ds : List PyData}, (∀ e ∈ ds, leaf e) → DpAll K H vs ds → DpAll K H' vs ds
  | _, [], _, .nil => .nil
  | _, d :: ds, hp, .cons h t => .cons (leaf_any (hp d List.mem_cons_self) h) (leaf_all (fun x hx => hp x (List.mem_cons_of_mem _ hx)) t)
theorem flat_of {H H' : Hp} (k : ∀ a xs, SqT K H a xs → SqT K H' a xs) : ∀ {vs : List V} {ds : List PyData}, allFlat ds → DpAll K H vs ds → DpAll K H' vs ds
  | _, [], _, .nil => .nil
  | _, d :: ds, hp, .cons h t => by
    obtain ⟨es, rfl, le⟩ := hp d List.mem_cons_self
    refine .cons ?_ (flat_of k (fun x hx => hp x (List.mem_cons_of_mem _ hx)) t)
    cases h with
    | @tup a ys _ hs ha => exact .tup (k _ _ hs) (leaf_all le ha)
theorem flat_but {D : Addr} {H H' : Hp} {acc : List V} (e : H D = some (.lst acc)) (bt : But D H H') {vs : List V} {ds : List PyData} (a : allFlat ds) (h : DpAll K H vs ds) : DpAll K H' vs ds := flat_of (fun _ _ s => bt.seqT e s) a h
theorem flat_off {p g : Addr} {H : Hp} {n : Nat} (S : SrcAt H p g n) {vs : List V} {ds : List PyData} (a : allFlat ds) (h : DpAll K H vs ds) : DpAll K (offH p g H) vs ds := flat_of (fun _ _ s => off_sqT S s) a h
theorem allFlat.app {a b : List PyData} (ha : allFlat a) (hb : allFlat b) : allFlat (a ++ b) := fun d hd => by
  rcases List.mem_append.mp hd with h | h
  · exact ha d h
  · exact hb d h
def okSl (many : Int) (d : PyData) : Prop := ∃ t k, d = .tuple [.int t, .int k] ∧ 0 ≤ t ∧ t ≤ many - 1 ∧ 1 ≤ k ∧ k ≤ 12
theorem okSl_flat {many : Int} {ds : List PyData} (h : ∀ d ∈ ds, okSl many d) : allFlat ds := fun d hd => by
  obtain ⟨t, k, rfl, _⟩ := h d hd
  exact ⟨_, rfl, by simp [leaf]⟩
def spPlanDraw (K : PySem.W.Frag) : Sp := fun vs H Q _ => ∃ (p g : Addr) (n : Nat) (many : Int), vs = [.ref p, .int many] ∧ SrcAt H p g n ∧ n ≤ 90000 ∧ 2 ≤ many ∧ many ≤ 4 ∧
  ∀ v pl H', Off p g H H' → SrcAt H' p g (n + 10) → Dp K (diffH H (offH p g H')) v pl → (∀ c, cnt c "task" = many → okPlan c pl = true) → Q v H'
theorem ok_law_plan (B : Bl mg) (d : DefAt K mg "_law_plan" s__law_plan ["_law_source_here", "_law_many"]) (c__law_draw : Cal P w K mg base 1 "_law_draw" ["_law_source_here", "_law_many"] (spDraw K)) : Cal P w K mg base 2 "_law_plan" ["_law_source_here", "_law_many"] (spPlanDraw K) := d.cal fun f fd F => by
  refine F.ok sc__law_plan (fun vs H Q E h => ?_) (fun cdv A outer s H vs Q E hr h => ?_)
  · obtain ⟨p, g, n, many, rfl, _⟩ := h; rfl
  · obtain ⟨p, g, n, many, rfl, S, hn, m2, m4, Qk⟩ := h
    refine ⟨_, (pss_cons (ps_if (pt_cmpR op_eq (pe_cal c__law_draw (hr.mono (by omega)) rfl (pa_cons (pv 0) (pa_cons pe_int pa_nil))) pe_int (nomark _)) (pss_one (ps_ret (pe_tup (pa_cons pe_str (pa_cons (pe_op op_add pe_int (pe_cal c__law_draw (hr.mono (by omega)) rfl (pa_cons (pv 0) (pa_cons pe_int pa_nil)))) pa_nil))))) pss_nil)
      (pss_cons (ps_set (i := 2) sc__law_plan.nd rfl (Or.inl rfl) (pe_lst pa_nil))
      (pss_cons (ps_for PassesOwn.never rfl (pi_range1 rfl B.range (pa_cons (pe_op op_add pe_int (pe_cal c__law_draw (hr.mono (by omega)) rfl (pa_cons (pv 0) (pa_cons pe_int pa_nil)))) pa_nil)) (pg_name (i := 3) sc__law_plan.nd rfl (Or.inl rfl)) (pss_one (ps_expr (pe_bm PySem.F.plainAttrs_list PySem.F.slot_list_append PySem.F.type_list_append mt_append (pv 2) (pa_cons (pe_tup (pa_cons (pe_cal c__law_draw (hr.mono (by omega)) rfl (pa_cons (pv 0) (pa_cons (pv 1) pa_nil))) (pa_cons (pe_op op_add pe_int (pe_cal c__law_draw (hr.mono (by omega)) rfl (pa_cons (pv 0) (pa_cons pe_int pa_nil)))) pa_nil))) pa_nil)))))
      (pss_one (ps_ret (pe_tup (pa_cons pe_str (pa_cons (pv 2) pa_nil)))))))), ?_⟩
    walk_at "st0"
    refine ⟨p, g, n, 2, rfl, S, by omega, by omega, by omega, fun r0 H1 a0 a1 S1 o1 => ?_⟩
    walk_at "st"
    refine q_eq rfl ?_
    walk_at "st"
    refine q_if (fun hc => ?_) (fun hc => ?_)
    · walk_at "st"
      refine ⟨p, g, n + 1, 8, rfl, S1, by omega, by omega, by omega, fun r2 H2 b0 b1 S2 o2 => ?_⟩
      walk_at "st"
      refine ⟨by show 2 ≤ sizeLine; decide, fun t nt => ?_⟩
      obtain ⟨ntp, ntg⟩ := off_new S2 nt
      have st := same_new (o := .tup [.str "levels", .int (1 + r2)]) nt
      refine Qk _ (.tuple [.str "levels", .int (1 + r2)]) _ (o1.trans (o2.trans (Off.same st))) ((S2.same st).le (by omega)) (.tup (SqT.of (diffH_of (offH_of upd_same ntp ntg) (off_free (o1.trans o2) ntp ntg nt))) (.cons (.str _) (.cons (.int _) .nil))) fun c hcn => ?_
      simp [okPlan, dTupleOf, dBetween]
      omega
    · walk_at "st"
      refine ⟨by show 0 ≤ sizeLine; decide, fun D nD => ?_⟩
      obtain ⟨nDp, nDg⟩ := off_new S1 nD
      have sD := same_new (o := .lst []) nD
      refine q_seq ?_
      refine q_forRA ?_
      walk_at "st"
      refine ⟨p, g, n + 1, 4, rfl, S1.same sD, by omega, by omega, by omega, fun r2 H2 b0 b1 S2 o2 => ?_⟩
      walk_at "st"
      have eD2 := o2 _ _ (upd_same : upd H1 D (.lst []) D = _) nDp nDg
      have hDn := off_free o1 nDp nDg nD
      have O2 : Off p g H1 H2 := (Off.same sD).trans o2
      refine ⟨_, rfl, by omega, by omega, forR (fun i σ H3 => ∃ o, σ = [some (.ref p), some (.int many), some (.ref D), o] ∧ Off p g H1 H3 ∧ SrcAt H3 p g (n + 2 + 2 * i) ∧ ∃ ys rs, H3 D = some (.lst ys) ∧ DpAll K (diffH H (offH p g H3)) ys rs ∧ rs.length = i ∧ ∀ r ∈ rs, okSl many r)
        ⟨_, rfl, O2, S2, [], [], eD2, .nil, rfl, fun r h => by cases h⟩ (fun i σ H3 lt hI => ?_) (fun σ H3 hI => ?_)⟩
      · obtain ⟨o, rfl, o3, S3, ys, rs, eD, dd, li, hall⟩ := hI
        have ly := dd.length
        have i4 : i < 4 := by omega
        refine q_gname ?_
        refine q_app rfl eD ?_
        walk_at "st"
        refine ⟨p, g, n + 2 + 2 * i, many, rfl, S3, by omega, by omega, by omega, fun r4 H4 c0 c1 S4 o4 => ?_⟩
        walk_at "st"
        refine ⟨p, g, n + 2 + 2 * i + 1, 12, rfl, S4, by omega, by omega, by omega, fun r5 H5 d0 d1 S5 o5 => ?_⟩
        walk_at "st"
        refine ⟨by show 2 ≤ sizeLine; decide, fun t nt => ?_⟩
        obtain ⟨ntp, ntg⟩ := off_new S5 nt
        have st := same_new (o := .tup [.int r4, .int (1 + r5)]) nt
        have o45 := o4.trans o5
        have eD5 := o45 _ _ eD nDp nDg
        refine ⟨D, ys, _, rfl, rfl, st _ _ eD5, by rw [sizeLine_eq]; omega, ?_⟩
        have ntD : t ≠ D := fun z => by subst z; rw [nt] at eD5; cases eD5
        have hk : offH p g (upd (upd H5 t (.tup [.int r4, .int (1 + r5)])) D (.lst (ys ++ [.ref t]))) = upd (upd (offH p g H5) t (.tup [.int r4, .int (1 + r5)])) D (.lst (ys ++ [.ref t])) := by rw [offH_upd nDp nDg, offH_upd ntp ntg]
        have hall2 : ∀ r ∈ rs ++ [.tuple [.int r4, .int (1 + r5)]], okSl many r := fun r h => by
          rcases List.mem_append.mp h with h | h
          · exact hall r h
          · simp at h; exact ⟨r4, 1 + r5, h, c0, by omega, by omega, by omega⟩
        refine ⟨_, rfl, fun b oo hb n1 n2 => ?_, ((S5.same st).upd nDp nDg).le (by omega), ys ++ [.ref t], rs ++ [.tuple [.int r4, .int (1 + r5)]], upd_same, ?_, by simp [li], hall2⟩
        · have nb : b ≠ D := ne_of_none hb nD
          rw [upd_ne nb]; exact st _ _ (o45 _ _ (o3 _ _ hb n1 n2) n1 n2)
        · rw [hk]
          have nto : offH p g H5 t = none := by unfold offH; rw [if_neg (by simp [ntp, ntg])]; exact nt
          have htn := off_free (o1.trans (o3.trans o45)) ntp ntg nt
          have k1 : Same (diffH H (offH p g H3)) (diffH H (upd (offH p g H5) t (.tup [.int r4, .int (1 + r5)]))) := diffH_right fun b oo _ hb => same_new nto _ _ (o45.sameH _ _ hb)
          have bt : But D (diffH H (upd (offH p g H5) t (.tup [.int r4, .int (1 + r5)]))) (diffH H (upd (upd (offH p g H5) t (.tup [.int r4, .int (1 + r5)])) D (.lst (ys ++ [.ref t])))) := fun b oo hb nb => diffH_of (by rw [upd_ne nb]; exact diffH_to _ _ hb) (diffH_no hb)
          refine flat_but (acc := ys) (diffH_of (by rw [upd_ne (Ne.symm ntD)]; exact offH_of eD5 nDp nDg) hDn) bt (okSl_flat hall2) (dpAll_append (L2.DpAll.mono k1 dd) (.cons (.tup (SqT.of (diffH_of upd_same htn)) (.cons (.int _) (.cons (.int _) .nil))) .nil))
      · obtain ⟨o, rfl, o3, S3, ys, rs, eD, dd, li, hall⟩ := hI
        walk_at "st"
        refine ⟨by show 2 ≤ sizeLine; decide, fun t nt => ?_⟩
        obtain ⟨ntp, ntg⟩ := off_new S3 nt
        have st := same_new (o := .tup [.str "slots", .ref D]) nt
        have hst : Same (offH p g H3) (offH p g (upd H3 t (.tup [.str "slots", .ref D]))) := (Off.same st).sameH
        refine Qk _ (.tuple [.str "slots", .list rs]) _ (o1.trans (o3.trans (Off.same st))) ((S3.same st).le (by omega)) (.tup (SqT.of (diffH_of (offH_of upd_same ntp ntg) (off_free (o1.trans o3) ntp ntg nt))) (.cons (.str _) (.cons (.lst (SqL.of (diffH_of (hst _ _ (offH_of eD nDp nDg)) hDn)) (L2.DpAll.mono (diffH_right fun b oo _ hb => hst _ _ hb) dd)) .nil))) fun c hcn => ?_
        have hs : okSlots c (.list rs) = true := by
          unfold okSlots
          rw [Bool.and_eq_true]
          refine ⟨by simp [dListOf]; omega, List.all_eq_true.mpr fun r hr => ?_⟩
          obtain ⟨t, k, rfl, t0, t1, k1, k2⟩ := hall r hr
          simp [okSlot, dTupleOf, dBetween, hcn]
          omega
        unfold okPlan
        rw [Bool.and_eq_true]
        refine ⟨rfl, ?_⟩
        show (if ("slots" : Str) = "levels" then _ else decide (("slots" : Str) = "slots") && okSlots c (.list rs)) = true
        rw [if_neg (fun z => slots_ne z.symm), hs]
        rfl
end
end T



namespace T
section
variable {P : Program} {w : World} {K : PySem.W.Frag} {mg : Str → Option Value} {base : Heap}
def depN : Nat → PyData → Prop
  | 0, _ => False
  | k + 1, d => leaf d ∨ ∃ ds, (d = .list ds ∨ d = .tuple ds) ∧ ds.length ≤ 1000 ∧ ∀ e ∈ ds, depN k e
def spCopy (K : PySem.W.Frag) (k : Nat) : Sp := fun vs H Q _ => ∃ (v : V) (d : PyData), vs = [v] ∧ Dp K H v d ∧ depN k d ∧ ∀ v' H', Same H H' → Dp K (diffH H H') v' d → Q v' H'
/-- a comprehension whose items are told by what is new -/
theorem lc_copy {J : It} {G : Hp → Prop} {xs : List V} {ds : List PyData} {g : TG} {te : TE} {vs : List Nat} {σ : L2.St} {H1 : Hp} {D : Addr} {Qd : Hp → Prop} (w : L2.Walk J xs.length G (YAt xs)) (hd : DpAll K H1 xs ds) (few : ds.length ≤ 1000) (hD : H1 D = none) (hG : ∀ H', Same H1 H' → G H')
    (body : ∀ x d H', d ∈ ds → Same H1 H' → Dp K H' x d → ∀ Q' : VK, (∀ y H3, Same H' H3 → Dp K (diffH H' H3) y d → Q' y H3) → g x (wipe σ vs) H' fun σ2 H3 => wipe σ2 vs = wipe σ vs ∧ te σ2 H3 Q')
    (done : ∀ ys H', Same H1 H' → H' D = some (.lst ys) → DpAll K (diffH H1 (offH D D H')) ys ds → Qd H') :
    ∃ W : Nat → Nat → Hp → Prop, (∃ m, W 0 m (upd H1 D (.lst []))) ∧ ∀ i m H, W i m H →
      (J.stop i H ∧ Qd H) ∨ (J.go i H ∧ ∃ Nx : Hp → Prop, (∀ H', Nx H' → ∃ m', m' < m ∧ W (i + 1) m' H') ∧ ∀ x H', J.yld i H x H' → g x (wipe σ vs) H' fun σ2 H2 => wipe σ2 vs = wipe σ vs ∧ tYes σ2 H2 fun b H3 =>
        if b = true then te σ2 H3 fun y H4 => ∃ acc, H4 D = some (.lst acc) ∧ acc.length < sizeLine ∧ Nx (upd H4 D (.lst (acc ++ [y]))) else Nx H3) := by
  have lx := hd.length
  refine lc_it w (fun i H => Same H1 H ∧ ∃ ys, H D = some (.lst ys) ∧ DpAll K (diffH H1 (offH D D H)) ys (ds.take i)) ⟨same_new hD, [], upd_same, by rw [List.take_zero]; exact .nil⟩ (fun i H _ h => hG H h.1) ?_ ?_
  · rintro i x H H2 lt ⟨s1, ys, e, dd⟩ ⟨rfl, ex⟩
    obtain ⟨d, ed, hx⟩ := hd.get' ex
    have tk : ds.take (i + 1) = ds.take i ++ [d] := by rw [List.take_add_one, ed]; rfl
    have ly := dd.length
    rw [List.length_take] at ly
    have z := body x d H2 (List.mem_of_getElem? ed) s1 (L2.Dp.mono s1 hx) (fun y H4 => ∃ acc, H4 D = some (.lst acc) ∧ acc.length < sizeLine ∧ (Same H1 (upd H4 D (.lst (acc ++ [y]))) ∧ ∃ ys, upd H4 D (.lst (acc ++ [y])) D = some (.lst ys) ∧ DpAll K (diffH H1 (offH D D (upd H4 D (.lst (acc ++ [y]))))) ys (ds.take (i + 1)))) ?_
    · exact z
    · intro y H4 s4 dy
      have e4 := s4 _ _ e
      refine ⟨ys, e4, by rw [sizeLine_eq]; omega, fun b o hb => ?_, ys ++ [y], upd_same, ?_⟩
      · rw [upd_ne (ne_of_none hb hD)]; exact s4 _ _ (s1 _ _ hb)
      · rw [tk]
        refine dpAll_append (L2.DpAll.mono (diffH_right fun b o hn hb => ?_) dd) (.cons (L2.Dp.mono (fun b o hb => ?_) dy) .nil)
        · have nb := (offH_ne hb).1
          exact offH_of (by rw [upd_ne nb]; exact s4 _ _ (offH_to _ _ hb)) nb nb
        · have nn := diffH_no hb
          have nb : b ≠ D := fun z => by subst z; rw [nn] at e; cases e
          exact diffH_of (offH_of (by rw [upd_ne nb]; exact diffH_to _ _ hb) nb nb) (s1.free nn)
  · rintro H ⟨s1, ys, e, dd⟩
    rw [lx, List.take_length] at dd
    exact done ys H s1 e dd
theorem ok_law_copy (B : Bl mg) (d : DefAt K mg "_law_copy" s__law_copy ["_law_thing"]) : ∀ k, Cal P w K mg base k "_law_copy" ["_law_thing"] (spCopy K k)
  | 0 => by
    obtain ⟨f, fd, F, g, b⟩ := d.ex
    exact ⟨f, fd, g, F.kp, b, ⟨fun vs H Q E h => by obtain ⟨v, d, _, _, h, _⟩ := h; exact h.elim, fun A outer s H args us vs Q E _ _ _ _ h => by obtain ⟨v, d, _, _, h, _⟩ := h; exact h.elim⟩⟩
  | k + 1 => by
    have c__law_copy := ok_law_copy B d k
    refine d.cal fun f fd F => ?_
    refine F.ok sc__law_copy (fun vs H Q E h => ?_) (fun cdv A outer s H vs Q E hr h => ?_)
    · obtain ⟨v, d, rfl, _⟩ := h; rfl
    · obtain ⟨v, dv, rfl, hd, hk, q⟩ := h
      refine ⟨_, (pss_cons (ps_if (pt_val (pe_callB call_isi rfl B.isinstance hb_isinstance (pa_cons (pv 0) (pa_cons (pe_bltn (v := .ty "list") rfl B.list_ hb_list rfl) pa_nil)))) (pss_one (ps_ret (pe_lc (own := [("_law_part", 1)]) (tt := tYes) rfl sc__law_copy.nd (pi_list (pv 0)) (blkOk_by (N := ["_law_thing", "_law_part"]) (sc := defScope s__law_copy) (by decide +kernel)) (fun _ _ _ _ _ => (pg_name (i := 1) sc__law_copy.nd rfl (Or.inl rfl))) (fun _ _ _ _ _ => pts_nil) (fun _ _ _ _ _ => (pe_cal c__law_copy (hr.mono (by omega)) rfl (pa_cons (pv 1) pa_nil)))))) pss_nil)
      (pss_cons (ps_if (pt_val (pe_callB call_isi rfl B.isinstance hb_isinstance (pa_cons (pv 0) (pa_cons (pe_bltn (v := .ty "tuple") rfl B.tuple_ hb_tuple rfl) pa_nil)))) (pss_one (ps_ret (pe_callTy call_tuple_of rfl B.tuple_ hb_tuple (pa_cons (pe_lc (own := [("_law_part", 1)]) (tt := tYes) rfl sc__law_copy.nd (pi_tup (pv 0)) (blkOk_by (N := ["_law_thing", "_law_part"]) (sc := defScope s__law_copy) (by decide +kernel)) (fun _ _ _ _ _ => (pg_name (i := 1) sc__law_copy.nd rfl (Or.inl rfl))) (fun _ _ _ _ _ => pts_nil) (fun _ _ _ _ _ => (pe_cal c__law_copy (hr.mono (by omega)) rfl (pa_cons (pv 1) pa_nil)))) pa_nil)))) pss_nil)
      (pss_one (ps_ret (pv 0))))), ?_⟩
      walk_at "st0"
      rcases hk with hl | ⟨ds, hds, l, hall⟩
      · have e1 : isList dv = false := by cases dv <;> first | rfl | exact hl.elim
        have e2 : isTuple dv = false := by cases dv <;> first | rfl | exact hl.elim
        rw [e1]
        refine iteF ?_
        walk_at "st"
        rw [e2]
        refine iteF ?_
        walk_at "st"
        exact q _ _ (Same.refl _) (leaf_any hl hd)
      · rcases hds with rfl | rfl
        · refine iteT ?_
          cases hd with
          | @lst a xs _ hs ha =>
          walk_at "st"
          refine ⟨_, rfl, a, rfl, ⟨xs, hs⟩, fun D nD => lc_copy walk_list ha l nD (fun H' s' => s'.seq hs) ?_ ?_⟩
          · intro x d2 H2 hm s2 hx Q' k'
            refine q_gname ⟨rfl, ?_⟩
            walk_at "st"
            exact ⟨x, d2, rfl, hx, hall d2 hm, k'⟩
          · intro ys H2 s2 e2 dd
            refine q _ _ s2 (.lst (SqL.of (diffH_of e2 nD)) (L2.DpAll.mono (diffH_right fun b o _ hb => offH_to _ _ hb) dd))
        · refine iteF ?_
          walk_at "st"
          refine iteT ?_
          cases hd with
          | @tup a xs _ hs ha =>
          walk_at "st"
          refine ⟨_, rfl, a, rfl, ⟨xs, hs⟩, fun D nD => lc_copy walk_tup ha l nD (fun H' s' => Same.sqT s' hs) ?_ ?_⟩
          · intro x d2 H2 hm s2 hx Q' k'
            refine q_gname ⟨rfl, ?_⟩
            walk_at "st"
            exact ⟨x, d2, rfl, hx, hall d2 hm, k'⟩
          · intro ys H2 s2 e2 dd
            refine ⟨D, ys, rfl, .inl ⟨SqL.of e2, fun t nt => ?_⟩⟩
            have st := same_new (o := .tup ys) nt
            refine q _ _ (s2.trans st) (.tup (SqT.of (diffH_of upd_same (s2.free nt))) (L2.DpAll.mono (diffH_right fun b o _ hb => st _ _ (offH_to _ _ hb)) dd))
end
end T



namespace T
section
variable {P : Program} {w : World} {K : PySem.W.Frag} {mg : Str → Option Value} {base : Heap} {C : Addr}
def _root_.Hk.BD.list (b : BD) : List PyData := [b.tasks, b.pages, b.ports, b.locks, b.frames, b.disk, b.rights, b.lines, b.costs, b.plan, b.outside, b.wipe, b.pad, b.lend, b.share]
theorem q_makeK {n m : Nat} {sp : Sp} {gV : List V → List V → List V} {E : XK} {t tk : TA} {σ : L2.St} {H : Hp} {Q : VK} (h : t σ H fun vs H1 => tk σ H1 fun zs H2 => vs.length = n ∧ zs.length = m ∧ ∀ x dx, H2 x = none → H2 dx = none → dx ≠ x →
  sp (gV (.ref x :: vs) zs) (upd (upd H2 dx (.own x)) x (.ins C dx [])) (fun v H3 => v = .non ∧ Q (.ref x) H3) E) : tMakeK C n m sp gV E t tk σ H Q := h
def spMade (K : PySem.W.Frag) (C : Addr) : Sp := fun vs H Q _ => ∃ (v : V) (b : BD), vs = [v] ∧ Dp K H v (.list b.list) ∧ BOk b ∧ ∀ x H', Same H H' → PartsAt K C H' x b → Q (.ref x) H'
theorem ok_law_made (B : Bl mg) (d : DefAt K mg "_law_made" s__law_made ["_law_parts_here"]) (c_Build : MkKCal P w K mg base 10 C "Build" ["self", "tasks", "pages", "ports", "locks", "frames", "disk", "rights", "lines", "costs", "plan", "outside", "wipe", "pad", "lend", "share"] 11 ["wipe", "pad", "lend", "share"] (spBuild K C)) : Cal P w K mg base 12 "_law_made" ["_law_parts_here"] (spMade K C) := d.cal fun f fd F => by
  refine F.ok sc__law_made (fun vs H Q E h => ?_) (fun cdv A outer s H vs Q E hr h => ?_)
  · obtain ⟨v, b, rfl, _⟩ := h; rfl
  · obtain ⟨v, b, rfl, hd, ok, q⟩ := h
    refine ⟨_, (pss_one (ps_ret (pe_mkk c_Build (hr.mono (by omega)) rfl (pa_cons (pe_ix ix_list (pv 0) pe_int (fun _ _ => rfl)) (pa_cons (pe_ix ix_list (pv 0) pe_int (fun _ _ => rfl)) (pa_cons (pe_ix ix_list (pv 0) pe_int (fun _ _ => rfl)) (pa_cons (pe_ix ix_list (pv 0) pe_int (fun _ _ => rfl)) (pa_cons (pe_ix ix_list (pv 0) pe_int (fun _ _ => rfl)) (pa_cons (pe_ix ix_list (pv 0) pe_int (fun _ _ => rfl)) (pa_cons (pe_ix ix_list (pv 0) pe_int (fun _ _ => rfl)) (pa_cons (pe_ix ix_list (pv 0) pe_int (fun _ _ => rfl)) (pa_cons (pe_ix ix_list (pv 0) pe_int (fun _ _ => rfl)) (pa_cons (pe_ix ix_list (pv 0) pe_int (fun _ _ => rfl)) (pa_cons (pe_ix ix_list (pv 0) pe_int (fun _ _ => rfl)) pa_nil))))))))))) (pk_cons (pe_ix ix_list (pv 0) pe_int (fun _ _ => rfl)) (pk_cons (pe_ix ix_list (pv 0) pe_int (fun _ _ => rfl)) (pk_cons (pe_ix ix_list (pv 0) pe_int (fun _ _ => rfl)) (pk_cons (pe_ix ix_list (pv 0) pe_int (fun _ _ => rfl)) pk_nil))))))), ?_⟩
    cases hd with
    | @lst a xs _ hs ha =>
    cases ha with
    | @cons x0 r0 _ _ a0 ha =>
    cases ha with
    | @cons x1 r1 _ _ a1 ha =>
    cases ha with
    | @cons x2 r2 _ _ a2 ha =>
    cases ha with
    | @cons x3 r3 _ _ a3 ha =>
    cases ha with
    | @cons x4 r4 _ _ a4 ha =>
    cases ha with
    | @cons x5 r5 _ _ a5 ha =>
    cases ha with
    | @cons x6 r6 _ _ a6 ha =>
    cases ha with
    | @cons x7 r7 _ _ a7 ha =>
    cases ha with
    | @cons x8 r8 _ _ a8 ha =>
    cases ha with
    | @cons x9 r9 _ _ a9 ha =>
    cases ha with
    | @cons x10 r10 _ _ a10 ha =>
    cases ha with
    | @cons x11 r11 _ _ a11 ha =>
    cases ha with
    | @cons x12 r12 _ _ a12 ha =>
    cases ha with
    | @cons x13 r13 _ _ a13 ha =>
    cases ha with
    | @cons x14 r14 _ _ a14 ha =>
    cases ha
    walk_at "st0"
    refine q_makeK ?_
    walk_at "st"
    refine q_ixL hs (i := 0) rfl ?_
    walk_at "st"
    refine q_ixL hs (i := 1) rfl ?_
    walk_at "st"
    refine q_ixL hs (i := 2) rfl ?_
    walk_at "st"
    refine q_ixL hs (i := 3) rfl ?_
    walk_at "st"
    refine q_ixL hs (i := 4) rfl ?_
    walk_at "st"
    refine q_ixL hs (i := 5) rfl ?_
    walk_at "st"
    refine q_ixL hs (i := 6) rfl ?_
    walk_at "st"
    refine q_ixL hs (i := 7) rfl ?_
    walk_at "st"
    refine q_ixL hs (i := 8) rfl ?_
    walk_at "st"
    refine q_ixL hs (i := 9) rfl ?_
    walk_at "st"
    refine q_ixL hs (i := 10) rfl ?_
    walk_at "st"
    refine q_ixL hs (i := 11) rfl ?_
    walk_at "st"
    refine q_ixL hs (i := 12) rfl ?_
    walk_at "st"
    refine q_ixL hs (i := 13) rfl ?_
    walk_at "st"
    refine q_ixL hs (i := 14) rfl ?_
    walk_at "st"
    refine ⟨rfl, rfl, fun x dx nx ndx ne => ?_⟩
    have m2 : Same H (upd (upd H dx (.own x)) x (.ins C dx [])) := (same_new ndx).trans (same_new (by rw [upd_ne (Ne.symm ne)]; exact nx))
    exact ⟨x, dx, x0, x1, x2, x3, x4, x5, x6, x7, x8, x9, x10, x11, x12, x13, x14, b, rfl, upd_same, ok, L2.Dp.mono m2 a0, L2.Dp.mono m2 a1, L2.Dp.mono m2 a2, L2.Dp.mono m2 a3, L2.Dp.mono m2 a4, L2.Dp.mono m2 a5, L2.Dp.mono m2 a6, L2.Dp.mono m2 a7, L2.Dp.mono m2 a8, L2.Dp.mono m2 a9, L2.Dp.mono m2 a10, L2.Dp.mono m2 a11, L2.Dp.mono m2 a12, L2.Dp.mono m2 a13, L2.Dp.mono m2 a14, fun H' bt pa => ⟨rfl, q x H' (fun y o hy => bt _ _ (m2 _ _ hy) (ne_of_none hy nx)) pa⟩⟩
end
end T



namespace T
section
variable {P : Program} {w : World} {K : PySem.W.Frag} {mg : Str → Option Value} {base : Heap} {C : Addr}
/-! rights out of the pool -/
def pairOf (d : PyData) : Str × Int := match d with | .tuple [.str z, .int i] => (z, i) | _ => default
theorem ascWI_pw : ∀ {l : List (Str × Int)}, l.Pairwise (fun a b => ltWI a b = true) → ascWI l = true
  | [], _ => rfl
  | [_], _ => rfl
  | a :: b :: r, h => by
    cases h with
    | cons h1 h2 =>
      unfold ascWI
      rw [h1 b List.mem_cons_self, ascWI_pw h2]
      rfl
theorem rowW_sub (z : Str) {n m : Nat} (h : n ≤ m) : (rowW z n).Sublist (rowW z m) := (List.range_sublist.mpr h).map _
theorem poolOf_sub {nt np nq nk : Nat} {seek : Bool} (h1 : nt ≤ 4) (h2 : np ≤ 3) (h3 : nq ≤ 2) (h4 : nk ≤ 2) : (poolOf nt np nq nk seek).Sublist (poolOf 4 3 2 2 true) := by
  unfold poolOf
  refine (((((((rowW_sub _ h1).append (rowW_sub _ h4)).append (rowW_sub _ h2)).append ?_).append (rowW_sub _ h3)).append (rowW_sub _ h1)).append (rowW_sub _ h3)).append (rowW_sub _ h2)
  cases seek with
  | true => exact List.Sublist.refl _
  | false => exact List.nil_sublist _
theorem big_asc : ((poolOf 4 3 2 2 true).map pairOf).Pairwise (fun a b => ltWI a b = true) := by decide +kernel
theorem poolOf_pair {nt np nq nk : Nat} {seek : Bool} : allPair (poolOf nt np nq nk seek) := by
  unfold poolOf
  refine ((((((((rowW_pair _ _).app (rowW_pair _ _)).app (rowW_pair _ _)).app ?_).app (rowW_pair _ _)).app (rowW_pair _ _)).app (rowW_pair _ _)).app (rowW_pair _ _))
  cases seek with
  | true => exact fun d hd => by simp at hd; exact ⟨_, _, hd⟩
  | false => exact fun d hd => by simp at hd
theorem poolOf_len {nt np nq nk : Nat} {seek : Bool} (h1 : nt ≤ 4) (h2 : np ≤ 3) (h3 : nq ≤ 2) (h4 : nk ≤ 2) : (poolOf nt np nq nk seek).length ≤ 30 :=
  Nat.le_trans (poolOf_sub h1 h2 h3 h4).length_le (by decide +kernel)
theorem dRight_of {c : Cnt} {z k : Str} {i : Int} (e : rTab.lookup z = some [k]) (nt : k ≠ "ticks") (h0 : 0 ≤ i) (h : i ≤ cnt c k - 1) : dRight c (.tuple [.str z, .int i]) = true := by
  unfold dRight
  show dFormed (kf1 c) (rTab.lookup z) _ = true
  rw [e]
  show (decide ((2 : Nat) = 1 + 1) && dKinds (kf1 c) [k] [.int i]) = true
  have e1 : kf1 c k (.int i) = true := by
    unfold kf1
    rw [if_neg nt]
    unfold cnt at h
    simp [dBetween, h0]
    omega
  simp [dKinds, e1]
theorem rowW_right {c : Cnt} {z k : Str} {n : Nat} (e : rTab.lookup z = some [k]) (nt : k ≠ "ticks") (h : cnt c k = (n : Int)) : ∀ d ∈ rowW z n, dRight c d = true := fun d hd => by
  simp only [rowW, List.mem_map, List.mem_range] at hd
  obtain ⟨i, li, rfl⟩ := hd
  exact dRight_of e nt (by omega) (by omega)
theorem poolOf_right {t p q l : Nat} {dn : Int} {seek : Bool} (hs : seek = true → 0 < dn) : ∀ d ∈ poolOf t p q l seek, dRight (cntOf t p q l dn) d = true := by
  intro d hd
  unfold poolOf at hd
  simp only [List.mem_append] at hd
  have nt : ∀ z ∈ (["task", "lock", "page", "port", "disk"] : List Str), z ≠ "ticks" := by decide +kernel
  rcases hd with ((((((h | h) | h) | h) | h) | h) | h) | h
  · exact rowW_right (k := "task") rfl (nt _ (by decide +kernel)) rfl d h
  · exact rowW_right (k := "lock") rfl (nt _ (by decide +kernel)) rfl d h
  · exact rowW_right (k := "page") rfl (nt _ (by decide +kernel)) rfl d h
  · cases seek with
    | false => simp at h
    | true =>
      simp at h
      subst h
      have := hs rfl
      refine dRight_of (k := "disk") rfl (nt _ (by decide +kernel)) (by omega) ?_
      have e : cnt (cntOf t p q l dn) "disk" = if 1 < dn then 1 else dn := rfl
      rw [e]
      split <;> omega
  · exact rowW_right (k := "port") rfl (nt _ (by decide +kernel)) rfl d h
  · exact rowW_right (k := "task") rfl (nt _ (by decide +kernel)) rfl d h
  · exact rowW_right (k := "port") rfl (nt _ (by decide +kernel)) rfl d h
  · exact rowW_right (k := "page") rfl (nt _ (by decide +kernel)) rfl d h
theorem okRow_of {t p q l : Nat} {dn : Int} {seek : Bool} (hs : seek = true → 0 < dn) (h1 : t ≤ 4) (h2 : p ≤ 3) (h3 : q ≤ 2) (h4 : l ≤ 2) {es : List PyData} (sub : es.Sublist (poolOf t p q l seek)) (l8 : es.length ≤ 8) : okRow (cntOf t p q l dn) (.list es) = true := by
  unfold okRow
  rw [Bool.and_eq_true]
  refine ⟨by simp [dListOf]; omega, ?_⟩
  show (es.all (dRight _) && ascWI (es.map pairOf)) = true
  rw [Bool.and_eq_true]
  exact ⟨List.all_eq_true.mpr fun d hd => poolOf_right hs d (sub.subset hd), ascWI_pw (big_asc.sublist ((sub.trans (poolOf_sub h1 h2 h3 h4)).map _))⟩
/-- a comprehension that draws: each item a value told by Pi alone -/
theorem lc_src {J : It} {n m : Nat} {p g : Addr} {G : Hp → Prop} {Y : Nat → Hp → V → Hp → Prop} {gt : TG} {te : TE} {vs : List Nat} {σ : L2.St} {H1 : Hp} {D : Addr} {Qd : Hp → Prop} (w : L2.Walk J n G Y) (Pi : V → Prop) (hD : H1 D = none) (S : SrcAt H1 p g m) (few : n ≤ 1000) (hG : ∀ H', Off p g H1 H' → G H')
    (hY : ∀ i H x H', Y i H x H' → H' = H)
    (body : ∀ i x H', i < n → Y i H' x H' → SrcAt H' p g (m + i) → ∀ Q' : VK, (∀ y H3, Off p g H' H3 → SrcAt H3 p g (m + (i + 1)) → Pi y → Q' y H3) → gt x (wipe σ vs) H' fun σ2 H3 => wipe σ2 vs = wipe σ vs ∧ te σ2 H3 Q')
    (done : ∀ ys H', Off p g H1 H' → SrcAt H' p g (m + n) → H' D = some (.lst ys) → ys.length = n → (∀ y ∈ ys, Pi y) → Qd H') :
    ∃ W : Nat → Nat → Hp → Prop, (∃ m, W 0 m (upd H1 D (.lst []))) ∧ ∀ i m H, W i m H →
      (J.stop i H ∧ Qd H) ∨ (J.go i H ∧ ∃ Nx : Hp → Prop, (∀ H', Nx H' → ∃ m', m' < m ∧ W (i + 1) m' H') ∧ ∀ x H', J.yld i H x H' → gt x (wipe σ vs) H' fun σ2 H2 => wipe σ2 vs = wipe σ vs ∧ tYes σ2 H2 fun b H3 =>
        if b = true then te σ2 H3 fun y H4 => ∃ acc, H4 D = some (.lst acc) ∧ acc.length < sizeLine ∧ Nx (upd H4 D (.lst (acc ++ [y]))) else Nx H3) := by
  obtain ⟨nDp, nDg⟩ := off_new S hD
  refine lc_it w (fun i H => Off p g H1 H ∧ SrcAt H p g (m + i) ∧ ∃ ys, H D = some (.lst ys) ∧ ys.length = i ∧ ∀ y ∈ ys, Pi y) ⟨Off.same (same_new hD), S.same (same_new hD), [], upd_same, rfl, fun y h => by cases h⟩ (fun i H _ h => hG H h.1) ?_ ?_
  · rintro i x H H2 lt ⟨o1, s1, ys, e, l, hp⟩ hy
    have e2 := hY _ _ _ _ hy
    subst e2
    have z := body i x H2 lt hy s1 (fun y H4 => ∃ acc, H4 D = some (.lst acc) ∧ acc.length < sizeLine ∧ (Off p g H1 (upd H4 D (.lst (acc ++ [y]))) ∧ SrcAt (upd H4 D (.lst (acc ++ [y]))) p g (m + (i + 1)) ∧ ∃ ys, upd H4 D (.lst (acc ++ [y])) D = some (.lst ys) ∧ ys.length = i + 1 ∧ ∀ y ∈ ys, Pi y)) ?_
    · exact z
    · intro y H4 o4 s4 py
      have e4 := o4 _ _ e nDp nDg
      refine ⟨ys, e4, by rw [sizeLine_eq]; omega, fun b o hb n1 n2 => ?_, s4.upd nDp nDg, ys ++ [y], upd_same, by simp [l], fun x hx => ?_⟩
      · rw [upd_ne (ne_of_none hb hD)]; exact o4 _ _ (o1 _ _ hb n1 n2) n1 n2
      · rcases List.mem_append.mp hx with h | h
        · exact hp x h
        · simp at h; rw [h]; exact py
  · rintro H ⟨o1, s1, ys, e, l, hp⟩
    exact done ys H o1 s1 e l hp
theorem ints_of {lo hi : Int} : ∀ {ys : List V}, (∀ y ∈ ys, ∃ i, y = V.int i ∧ lo ≤ i ∧ i ≤ hi) → ∃ is : List Int, ys = is.map V.int ∧ is.length = ys.length ∧ ∀ i ∈ is, lo ≤ i ∧ i ≤ hi
  | [], _ => ⟨[], rfl, rfl, fun i h => by cases h⟩
  | y :: r, h => by
    obtain ⟨i, rfl, h1⟩ := h y List.mem_cons_self
    obtain ⟨is, e, l, hi⟩ := ints_of (ys := r) fun x hx => h x (List.mem_cons_of_mem _ hx)
    refine ⟨i :: is, by rw [e]; rfl, by simp [l], fun j hj => ?_⟩
    rcases List.mem_cons.mp hj with rfl | h
    · exact h1
    · exact hi j h
end
end T



namespace T
section
variable {P : Program} {w : World} {K : PySem.W.Frag} {mg : Str → Option Value} {base : Heap} {C : Addr}
/-- the heap without the source and a list -/
def view (p g L : Addr) (H : Hp) : Hp := offH p g (offH L L H)
theorem view_of {p g L b : Addr} {H : Hp} {o : HO} (h : H b = some o) (n1 : b ≠ p) (n2 : b ≠ g) (n3 : b ≠ L) : view p g L H b = some o := offH_of (offH_of h n3 n3) n1 n2
theorem view_to {p g L : Addr} {H : Hp} : Same (view p g L H) H := fun b o h => offH_to _ _ (offH_to _ _ h)
theorem view_ne {p g L b : Addr} {H : Hp} {o : HO} (h : view p g L H b = some o) : b ≠ p ∧ b ≠ g ∧ b ≠ L := ⟨(offH_ne h).1, (offH_ne h).2, (offH_ne (offH_to _ _ h)).1⟩
theorem view_off {p g L : Addr} {H : Hp} : Same (view p g L H) (offH p g H) := fun b o h => offH_of (view_to _ _ h) (view_ne h).1 (view_ne h).2.1
theorem view_start {p g L : Addr} {H : Hp} {o : HO} (n : H L = none) : Same (offH p g H) (view p g L (upd H L o)) := fun b u h => by
  have nb : b ≠ L := ne_of_none (offH_to _ _ h) n
  exact view_of (by rw [upd_ne nb]; exact offH_to _ _ h) (offH_ne h).1 (offH_ne h).2 nb
theorem view_upd {p g L : Addr} {H : Hp} {o : HO} : Same (view p g L H) (view p g L (upd H L o)) := fun b u h => by
  have ⟨n1, n2, n3⟩ := view_ne h
  exact view_of (by rw [upd_ne n3]; exact view_to _ _ h) n1 n2 n3
theorem view_step {p g L : Addr} {H H' : Hp} (s : Off p g H H') : Same (view p g L H) (view p g L H') := fun b u h => by
  have ⟨n1, n2, n3⟩ := view_ne h
  exact view_of (s _ _ (view_to _ _ h) n1 n2) n1 n2 n3
theorem view_diff {p g L : Addr} {H H' : Hp} {o : HO} (h : H L = some o) : Same (diffH H (offH p g H')) (view p g L H') := fun b u hb => by
  have nn := diffH_no hb
  have hb2 := diffH_to _ _ hb
  exact view_of (offH_to _ _ hb2) (offH_ne hb2).1 (offH_ne hb2).2 (fun z => by subst z; rw [nn] at h; cases h)
theorem dpAll_set {H : Hp} {x : V} {e : PyData} (hx : Dp K H x e) : ∀ {xs : List V} {ds : List PyData} (i : Nat), DpAll K H xs ds → DpAll K H (xs.set i x) (ds.set i e)
  | [], [], _, .nil => .nil
  | _ :: _, _ :: _, 0, .cons _ t => .cons hx t
  | _ :: _, _ :: _, i + 1, .cons a t => .cons a (dpAll_set hx i t)
theorem ixN_last {n : Nat} : ixN (n + 1) (-1) = some n := by
  unfold ixN
  rw [if_neg (by omega), if_pos (by omega)]
  congr 1
  omega
theorem okTask_flat {ds : List PyData} (h : ∀ d ∈ ds, okTask d = true) : allFlat ds := fun d hd => by
  obtain ⟨s, l, rfl, _⟩ := okTask_shape (h d hd)
  exact ⟨_, rfl, by simp [leaf]⟩
structure PS (K : PySem.W.Frag) (p g L : Addr) (H0 H : Hp) (n : Nat) (vals : List V) (ds : List PyData) : Prop where
  off : Off p g H0 H
  src : SrcAt H p g n
  at_ : H L = some (.lst vals)
  dp : DpAll K (view p g L H) vals ds
theorem PS.step {p g L : Addr} {H0 H H' : Hp} {n m : Nat} {vals : List V} {ds : List PyData} (Z : PS K p g L H0 H n vals ds) (o : Off p g H H') (S : SrcAt H' p g m) (n1 : L ≠ p) (n2 : L ≠ g) : PS K p g L H0 H' m vals ds :=
  ⟨Z.off.trans o, S, o _ _ Z.at_ n1 n2, L2.DpAll.mono (view_step o) Z.dp⟩
theorem PS.add {p g L : Addr} {H0 H : Hp} {n : Nat} {vals : List V} {ds : List PyData} (Z : PS K p g L H0 H n vals ds) (n1 : L ≠ p) (n2 : L ≠ g) (n0 : H0 L = none) {x : V} {d : PyData} (h : Dp K (view p g L H) x d) : PS K p g L H0 (upd H L (.lst (vals ++ [x]))) n (vals ++ [x]) (ds ++ [d]) :=
  ⟨fun b o hb m1 m2 => by rw [upd_ne (ne_of_none hb n0)]; exact Z.off _ _ hb m1 m2, Z.src.upd n1 n2, upd_same, dpAll_append (L2.DpAll.mono view_upd Z.dp) (.cons (L2.Dp.mono view_upd h) .nil)⟩
theorem pair_flat {ds : List PyData} (h : allPair ds) : allFlat ds := fun d hd => by
  obtain ⟨z, i, rfl⟩ := h d hd
  exact ⟨_, rfl, by simp [leaf]⟩
/-- a row of rights, drawn out of ds -/
def RowR (K : PySem.W.Frag) (p g D : Addr) (H0 : Hp) (ds : List PyData) (H : Hp) (y : V) (es : List PyData) : Prop := ∃ l ys, y = .ref l ∧ H0 l = none ∧ H l = some (.lst ys) ∧ l ≠ p ∧ l ≠ g ∧ l ≠ D ∧ DpAll K (offH p g H) ys es ∧ es.Sublist ds ∧ es.length ≤ 8
theorem RowR.step {p g D : Addr} {H0 H H' : Hp} {ds es : List PyData} {y : V} (o : Off p g H H') (h : RowR K p g D H0 ds H y es) : RowR K p g D H0 ds H' y es := by
  obtain ⟨l, ys, rfl, h0, hl, n1, n2, n3, dd, sub, l8⟩ := h
  exact ⟨l, ys, rfl, h0, o _ _ hl n1 n2, n1, n2, n3, L2.DpAll.mono o.sameH dd, sub, l8⟩
theorem RowR.upd {p g D : Addr} {H0 H : Hp} {ds es : List PyData} {y : V} {acc acc' : List V} (ap : allPair ds) (e : H D = some (.lst acc)) (m1 : D ≠ p) (m2 : D ≠ g) (h : RowR K p g D H0 ds H y es) : RowR K p g D H0 ds (upd H D (.lst acc')) y es := by
  obtain ⟨l, ys, rfl, h0, hl, n1, n2, n3, dd, sub, l8⟩ := h
  refine ⟨l, ys, rfl, h0, by rw [upd_ne n3]; exact hl, n1, n2, n3, ?_, sub, l8⟩
  rw [offH_upd m1 m2]
  exact flat_but (offH_of e m1 m2) But.put (pair_flat fun d hd => ap d (sub.subset hd)) dd
theorem rowR_dp {p g D L : Addr} {H0 H : Hp} {ds : List PyData} {A B : List V} (ap : allPair ds) (e0 : H0 L = some (.lst A)) (eL : H L = some (.lst B)) : ∀ {yss : List V} {ess : List (List PyData)}, Paired (fun y es => RowR K p g D H0 ds H y es) yss ess → DpAll K (view p g L H) yss (ess.map .list)
  | [], [], .nil => .nil
  | _ :: _, es :: _, .cons h t => by
    obtain ⟨l, ys, rfl, h0, hl, n1, n2, n3, dd, sub, l8⟩ := h
    refine .cons (.lst (SqL.of (view_of hl n1 n2 (fun z => by subst z; rw [h0] at e0; cases e0))) ?_) (rowR_dp ap e0 eL t)
    refine flat_of (fun a xs hs => ?_) (pair_flat fun d hd => ap d (sub.subset hd)) dd
    rcases hs with (hs | ⟨o, hs⟩) | hs
    · have ne := offH_ne hs
      have hs2 := offH_to _ _ hs
      exact .inl (.inl (view_of hs2 ne.1 ne.2 (fun z => by subst z; rw [hs2] at eL; cases eL)))
    · have ne := offH_ne hs
      have hs2 := offH_to _ _ hs
      exact .inl (.inr ⟨o, view_of hs2 ne.1 ne.2 (fun z => by subst z; rw [hs2] at eL; cases eL)⟩)
    · exact .inr hs
theorem q_yes {σ : L2.St} {H : Hp} {q : Bool → Hp → Prop} (h : q true H) : tYes σ H q := h
theorem lines_of : ∀ {ys : List V}, (∀ y ∈ ys, y = V.non ∨ y = V.int 0 ∨ y = V.int 1) → ∃ ds : List PyData, ds.length = ys.length ∧ (∀ H, DpAll K H ys ds) ∧ (∀ d ∈ ds, okLine d = true) ∧ ∀ d ∈ ds, leaf d
  | [], _ => ⟨[], rfl, fun _ => .nil, fun d h => by (cases h), fun d h => by (cases h)⟩
  | y :: r, h => by
    obtain ⟨ds, l, hd, ok, lf⟩ := lines_of (ys := r) fun x hx => h x (List.mem_cons_of_mem _ hx)
    obtain ⟨d, hy, oky, ly⟩ : ∃ d, (∀ H, Dp K H y d) ∧ okLine d = true ∧ leaf d := by
      rcases h y List.mem_cons_self with rfl | rfl | rfl
      · exact ⟨.none, fun _ => .non, rfl, trivial⟩
      · exact ⟨.int 0, fun _ => .int _, rfl, trivial⟩
      · exact ⟨.int 1, fun _ => .int _, rfl, trivial⟩
    refine ⟨d :: ds, by simp [l], fun H => .cons (hy H) (hd H), fun e he => ?_, fun e he => ?_⟩
    · rcases List.mem_cons.mp he with rfl | h
      · exact oky
      · exact ok e h
    · rcases List.mem_cons.mp he with rfl | h
      · exact ly
      · exact lf e h
theorem seq_if {c : TT} {t u R : TS} {D : Ends} {σ : L2.St} {H : Hp} (Pa : L2.St → Hp → Prop) (h2 : ∀ σ H, Pa σ H → R D σ H) (h1 : ∀ N : L2.St → Hp → Prop, (∀ σ H, Pa σ H → N σ H) → tIfS c t u { D with nx := N } σ H) : tSeq (tIfS c t u) R D σ H := h1 (R D) h2
theorem depN_leaf {k : Nat} {d : PyData} (h : leaf d) : depN (k + 1) d := .inl h
theorem depN_seq {k : Nat} {d : PyData} {ds : List PyData} (h : d = .list ds ∨ d = .tuple ds) (l : ds.length ≤ 1000) (a : ∀ e ∈ ds, depN k e) : depN (k + 1) d := .inr ⟨ds, h, l, a⟩
theorem depN_two {k : Nat} {a b : PyData} (ha : leaf a) (hb : leaf b) : depN (k + 2) (.tuple [a, b]) := depN_seq (.inr rfl) (by simp) fun e he => by
  simp only [List.mem_cons, List.not_mem_nil, or_false] at he
  rcases he with rfl | rfl
  · exact depN_leaf ha
  · exact depN_leaf hb
theorem depN_ints {k : Nat} (is : List Int) (l : is.length ≤ 1000) : depN (k + 2) (.list (is.map .int)) := depN_seq (.inl rfl) (by rw [List.length_map]; exact l) fun e he => by
  obtain ⟨i, _, rfl⟩ := List.mem_map.mp he
  exact depN_leaf trivial
theorem okNumbers_of {is : List Int} {m lo hi : Int} (l : (is.length : Int) ≤ m) (h : ∀ i ∈ is, lo ≤ i ∧ i ≤ hi) : okNumbers (.list (is.map .int)) m lo hi = true := by
  unfold okNumbers
  rw [Bool.and_eq_true]
  refine ⟨by simp [dListOf]; omega, List.all_eq_true.mpr fun d hd => ?_⟩
  obtain ⟨i, hi2, rfl⟩ := List.mem_map.mp hd
  have := h i hi2
  simp [dBetween, this]
/-- the parts are within the bounds -/
theorem parts_ok {rs lds : List PyData} {pis qis : List Int} {kn fn dn c1 c2 c3 : Int} {ess : List (List PyData)} {pl od : PyData} {b1 b2 b3 b4 : Bool}
    (l2 : 2 ≤ rs.length) (l4 : rs.length ≤ 4) (hall : ∀ r ∈ rs, okTask r = true) (hdist : 1 < distinct (rs.map sideD)) (hpi : ∀ i ∈ pis, 0 ≤ i ∧ i ≤ 1) (lp3 : pis.length ≤ 3) (hqi : ∀ i ∈ qis, 1 ≤ i ∧ i ≤ 2) (lq2 : qis.length ≤ 2)
    (k0 : 0 ≤ kn) (k3 : kn < 3) (f0 : 0 ≤ fn) (f4 : fn < 4) (hdn : dn = 0 ∨ dn = 2 ∨ dn = 3 ∨ dn = 4) (less : ess.length = rs.length) (hess : ∀ es ∈ ess, es.Sublist (poolOf rs.length pis.length qis.length kn.toNat (decide (dn > 0))) ∧ es.length ≤ 8)
    (llds : lds.length = pis.length) (okl : ∀ d ∈ lds, okLine d = true) (lfl : ∀ d ∈ lds, leaf d) (c1a : 0 ≤ c1) (c1b : c1 < 3) (c2a : 0 ≤ c2) (c2b : c2 < 4) (c3a : 0 ≤ c3) (c3b : c3 < 3)
    (okI : ∀ c, cnt c "task" = (rs.length : Int) → okPlan c pl = true) (oO : od = .none ∨ ∃ x e, od = .tuple [.int x, .int e] ∧ 0 ≤ x ∧ x ≤ (qis.length : Int) - 1 ∧ 1 ≤ e ∧ e ≤ 4) :
    BOk ⟨.list rs, .list (pis.map .int), .list (qis.map .int), .int kn, .int fn, .int dn, .list (ess.map .list), .list lds, .tuple [.int (1 + c1), .int c2, .int c3], pl, od, .bool b1, .bool b2, .bool b3, .bool b4⟩ ∧
    depN 5 (.list (BD.list ⟨.list rs, .list (pis.map .int), .list (qis.map .int), .int kn, .int fn, .int dn, .list (ess.map .list), .list lds, .tuple [.int (1 + c1), .int c2, .int c3], pl, od, .bool b1, .bool b2, .bool b3, .bool b4⟩)) := by
  have ec : ∀ (rg ln cs pn ou w1 w2 w3 w4 f : PyData), cOf ⟨.list rs, .list (pis.map .int), .list (qis.map .int), .int kn, f, .int dn, rg, ln, cs, pn, ou, w1, w2, w3, w4⟩ = cntOf rs.length pis.length qis.length kn.toNat dn := fun _ _ _ _ _ _ _ _ _ _ => by
    unfold cOf
    simp only [List.length_map]
    rw [Int.toNat_of_nonneg k0]
  have hplan := okI (cntOf rs.length pis.length qis.length kn.toNat dn) rfl
  refine ⟨⟨?_, okNumbers_of (by omega) hpi, okNumbers_of (by omega) hqi, ?_, ?_, ?_, ?_, ?_, ?_, ?_, ?_, rfl, rfl, rfl, rfl⟩, ?_⟩
  · show okTasks (.list rs) = true
    unfold okTasks
    rw [Bool.and_eq_true]
    refine ⟨by simp [dListOf]; omega, ?_⟩
    show (rs.all okTask && decide (1 < distinct (rs.map sideD))) = true
    rw [Bool.and_eq_true]
    exact ⟨List.all_eq_true.mpr hall, decide_eq_true hdist⟩
  · show dBetween (.int kn) 0 2 = true
    simp [dBetween]; omega
  · show dBetween (.int fn) 0 3 = true
    simp [dBetween]; omega
  · show okDisk (.int dn) = true
    simp [okDisk, dBetween]; omega
  · show okRights (cOf _) (.list (ess.map .list)) = true
    rw [ec]
    unfold okRights
    rw [Bool.and_eq_true]
    have et : cnt (cntOf rs.length pis.length qis.length kn.toNat dn) "task" = (rs.length : Int) := rfl
    refine ⟨by rw [et]; simp [dListOf]; omega, List.all_eq_true.mpr fun d hd => ?_⟩
    obtain ⟨es, he, rfl⟩ := List.mem_map.mp hd
    exact okRow_of (fun z => of_decide_eq_true z) l4 lp3 lq2 (by omega) (hess es he).1 (hess es he).2
  · show okLines (cOf _) (.list lds) = true
    rw [ec]
    unfold okLines
    rw [Bool.and_eq_true]
    have et : cnt (cntOf rs.length pis.length qis.length kn.toNat dn) "page" = (pis.length : Int) := rfl
    exact ⟨by rw [et]; simp [dListOf]; omega, List.all_eq_true.mpr okl⟩
  · show okCosts (.tuple [.int (1 + c1), .int c2, .int c3]) = true
    simp [okCosts, dTupleOf, dBetween]; omega
  · show okPlan (cOf _) pl = true
    rw [ec]; exact hplan
  · show okOutside (cOf _) od = true
    rw [ec]
    rcases oO with rfl | ⟨x, e, rfl, x0, x1, e1, e4⟩
    · rfl
    · have et : cnt (cntOf rs.length pis.length qis.length kn.toNat dn) "port" = (qis.length : Int) := rfl
      show okOut2 _ _ = true
      unfold okOut2
      rw [et]
      simp [dTupleOf, dBetween]; omega
  · refine depN_seq (.inl rfl) (by simp [BD.list]) fun e he => ?_
    simp only [BD.list, List.mem_cons, List.not_mem_nil, or_false] at he
    rcases he with rfl | rfl | rfl | rfl | rfl | rfl | rfl | rfl | rfl | rfl | rfl | rfl | rfl | rfl | rfl
    · refine depN_seq (.inl rfl) (by omega) fun e he => ?_
      obtain ⟨s, l, rfl, _⟩ := okTask_shape (hall e he)
      exact depN_two trivial trivial
    · exact depN_ints _ (by omega)
    · exact depN_ints _ (by omega)
    · exact depN_leaf trivial
    · exact depN_leaf trivial
    · exact depN_leaf trivial
    · refine depN_seq (.inl rfl) (by rw [List.length_map]; omega) fun e he => ?_
      obtain ⟨es, hes, rfl⟩ := List.mem_map.mp he
      refine depN_seq (.inl rfl) (by have := (hess es hes).2; omega) fun e2 he2 => ?_
      obtain ⟨z, i, rfl⟩ := poolOf_pair e2 ((hess es hes).1.subset he2)
      exact depN_two trivial trivial
    · exact depN_seq (.inl rfl) (by omega) fun e he => depN_leaf (lfl e he)
    · refine depN_seq (.inr rfl) (by simp) fun e he => ?_
      simp only [List.mem_cons, List.not_mem_nil, or_false] at he
      rcases he with rfl | rfl | rfl <;> exact depN_leaf trivial
    · obtain ⟨z, e, rfl, h⟩ := okPlanL hplan
      refine depN_seq (.inr rfl) (by simp) fun e2 he2 => ?_
      simp only [List.mem_cons, List.not_mem_nil, or_false] at he2
      rcases he2 with rfl | rfl
      · exact depN_leaf trivial
      · rcases h with ⟨_, i, rfl, _⟩ | ⟨_, h⟩
        · exact depN_leaf trivial
        · obtain ⟨srs, rfl, _, l4', hs⟩ := okSlotsL h
          refine depN_seq (.inl rfl) (by omega) fun e3 he3 => ?_
          obtain ⟨t, k, rfl, _⟩ := hs e3 he3
          exact depN_two trivial trivial
    · rcases oO with rfl | ⟨x, e, rfl, _⟩
      · exact depN_leaf trivial
      · exact depN_two trivial trivial
    · exact depN_leaf trivial
    · exact depN_leaf trivial
    · exact depN_leaf trivial
    · exact depN_leaf trivial
def spParts (K : PySem.W.Frag) : Sp := fun vs H Q _ => ∃ (p g : Addr) (n : Nat), vs = [.ref p] ∧ SrcAt H p g n ∧ n ≤ 50000 ∧
  ∀ a xs b H', Off p g H H' → SrcAt H' p g (n + 400) → H a = none → H' a = some (.lst xs) → DpAll K (view p g a H') xs b.list → BOk b → depN 5 (.list b.list) → Q (.ref a) H'
end
end T



namespace T
section
variable {P : Program} {w : World} {K : PySem.W.Frag} {mg : Str → Option Value} {base : Heap} {C : Addr}
theorem dpInts {H : Hp} : ∀ ns : List Int, DpAll K H (ns.map V.int) (ns.map PyData.int)
  | [] => .nil
  | n :: r => .cons (.int n) (dpInts r)
theorem ok_law_parts (B : Bl mg) (d : DefAt K mg "_law_parts" s__law_parts ["_law_source_here"]) (c__law_draw : Cal P w K mg base 1 "_law_draw" ["_law_source_here", "_law_many"] (spDraw K)) (c__law_pool : Cal P w K mg base 1 "_law_pool" ["_law_parts_here"] (spPool K))
    (c__law_rights : Cal P w K mg base 2 "_law_rights" ["_law_source_here", "_law_pool_here"] (spRights K)) (c__law_plan : Cal P w K mg base 2 "_law_plan" ["_law_source_here", "_law_many"] (spPlanDraw K)) : Cal P w K mg base 3 "_law_parts" ["_law_source_here"] (spParts K) := d.cal fun f fd F => by
  refine F.ok sc__law_parts (fun vs H Q E h => ?_) (fun cdv A outer s H vs Q E hr h => ?_)
  · obtain ⟨p, g, n, rfl, _⟩ := h; rfl
  · obtain ⟨p, g, n, rfl, S, hn, Qk⟩ := h
    refine ⟨_, (pss_cons (ps_set (i := 1) sc__law_parts.nd rfl (Or.inr rfl) (pe_lst pa_nil))
      (pss_cons (ps_for PassesOwn.never rfl (pi_range1 rfl B.range (pa_cons (pe_op op_add pe_int (pe_cal c__law_draw (hr.mono (by omega)) rfl (pa_cons (pv 0) (pa_cons pe_int pa_nil)))) pa_nil)) (pg_name (i := 2) sc__law_parts.nd rfl (Or.inl rfl)) (pss_one (ps_expr (pe_bm PySem.F.plainAttrs_list PySem.F.slot_list_append PySem.F.type_list_append mt_append (pv 1) (pa_cons (pe_tup (pa_cons (pe_cal c__law_draw (hr.mono (by omega)) rfl (pa_cons (pv 0) (pa_cons pe_int pa_nil))) (pa_cons (pe_cal c__law_draw (hr.mono (by omega)) rfl (pa_cons (pv 0) (pa_cons pe_int pa_nil))) pa_nil))) pa_nil)))))
      (pss_cons (ps_if (pt_cmpR op_eq (pe_callB call_len_seq rfl B.len hb_len (pa_cons (pe_lc (own := [("_law_row", 9)]) rfl sc__law_parts.nd (pi_list (pv 1)) (blkOk_by (N := ["_law_source_here", "_law_tasks", "_law_k", "_law_pages", "_law_ports", "_law_disk", "_law_parts_here", "_law_pool_here", "_law_outside", "_law_row", "_law_page"]) (sc := defScope s__law_parts) (by decide +kernel)) (fun _ _ _ _ _ => (pg_name (i := 9) sc__law_parts.nd rfl (Or.inl rfl))) (fun _ _ _ _ _ => (pts_one (pt_cmpR op_ne (pe_ix (show IxR _ (rIxT K) from ix_tup) (pv 9) pe_int (fun _ _ => rfl)) (pe_ix (show IxR _ (rIxT K) from ix_tup) (pe_ix (show IxR _ (rIxL K) from ix_list) (pv 1) pe_int (fun _ _ => rfl)) pe_int (fun _ _ => rfl)) (nomark _)))) (fun _ _ _ _ _ => (pv 9))) pa_nil)) pe_int (nomark _)) (pss_one (ps_asg (pe_tup (pa_cons (pe_op op_mod (pe_callTy call_int1 rfl B.int_ hb_int (pa_cons (pe_op op_add (pe_op op_add (pe_ix ix_tup (pe_ix ix_list (pv 1) pe_int (fun _ _ => rfl)) pe_int (fun _ _ => rfl)) pe_int) (pe_cal c__law_draw (hr.mono (by omega)) rfl (pa_cons (pv 0) (pa_cons pe_int pa_nil)))) pa_nil)) pe_int) (pa_cons (pe_ix ix_tup (pe_ix ix_list (pv 1) (pe_un un_neg pe_int) (fun _ _ => rfl)) pe_int (fun _ _ => rfl)) pa_nil))) (pg_sub (pv 1) (pe_un un_neg pe_int) set_list))) pss_nil)
      (pss_cons (ps_setLc (i := 3) (own := [("_law_k", 2)]) (tt := tYes) rfl sc__law_parts.nd rfl rfl (sw_true rfl rfl rfl (by decide +kernel)) (pi_range1 rfl B.range (pa_cons (pe_cal c__law_draw (hr.mono (by omega)) rfl (pa_cons (pv 0) (pa_cons pe_int pa_nil))) pa_nil)) (blkOk_by (N := ["_law_source_here", "_law_tasks", "_law_k", "_law_pages", "_law_ports", "_law_disk", "_law_parts_here", "_law_pool_here", "_law_outside", "_law_row", "_law_page"]) (sc := defScope s__law_parts) (by decide +kernel)) (fun _ _ _ _ _ => (pg_name (i := 2) sc__law_parts.nd rfl (Or.inl rfl))) (fun _ _ _ _ _ => pts_nil) (fun _ _ _ _ _ => (pe_cal c__law_draw (hr.mono (by omega)) rfl (pa_cons (pv 0) (pa_cons pe_int pa_nil)))))
      (pss_cons (ps_setLc (i := 4) (own := [("_law_k", 2)]) (tt := tYes) rfl sc__law_parts.nd rfl rfl (sw_true rfl rfl rfl (by decide +kernel)) (pi_range1 rfl B.range (pa_cons (pe_cal c__law_draw (hr.mono (by omega)) rfl (pa_cons (pv 0) (pa_cons pe_int pa_nil))) pa_nil)) (blkOk_by (N := ["_law_source_here", "_law_tasks", "_law_k", "_law_pages", "_law_ports", "_law_disk", "_law_parts_here", "_law_pool_here", "_law_outside", "_law_row", "_law_page"]) (sc := defScope s__law_parts) (by decide +kernel)) (fun _ _ _ _ _ => (pg_name (i := 2) sc__law_parts.nd rfl (Or.inl rfl))) (fun _ _ _ _ _ => pts_nil) (fun _ _ _ _ _ => (pe_op op_add pe_int (pe_cal c__law_draw (hr.mono (by omega)) rfl (pa_cons (pv 0) (pa_cons pe_int pa_nil))))))
      (pss_cons (ps_set (i := 5) sc__law_parts.nd rfl (Or.inl rfl) (pe_ix ix_list (pe_lst (pa_cons pe_int (pa_cons pe_int (pa_cons pe_int (pa_cons pe_int pa_nil))))) (pe_cal c__law_draw (hr.mono (by omega)) rfl (pa_cons (pv 0) (pa_cons pe_int pa_nil))) (fun _ _ => rfl)))
      (pss_cons (ps_set (i := 6) sc__law_parts.nd rfl (Or.inl rfl) (pe_lst (pa_cons (pv 1) (pa_cons (pv 3) (pa_cons (pv 4) (pa_cons (pe_cal c__law_draw (hr.mono (by omega)) rfl (pa_cons (pv 0) (pa_cons pe_int pa_nil))) (pa_cons (pe_cal c__law_draw (hr.mono (by omega)) rfl (pa_cons (pv 0) (pa_cons pe_int pa_nil))) (pa_cons (pv 5) pa_nil))))))))
      (pss_cons (ps_set (i := 7) sc__law_parts.nd rfl (Or.inr rfl) (pe_cal c__law_pool (hr.mono (by omega)) rfl (pa_cons (pv 6) pa_nil)))
      (pss_cons (ps_expr (pe_bm PySem.F.plainAttrs_list PySem.F.slot_list_append PySem.F.type_list_append mt_append (pv 6) (pa_cons (pe_lc (own := [("_law_row", 9)]) (tt := tYes) rfl sc__law_parts.nd (pi_list (pv 1)) (blkOk_by (N := ["_law_source_here", "_law_tasks", "_law_k", "_law_pages", "_law_ports", "_law_disk", "_law_parts_here", "_law_pool_here", "_law_outside", "_law_row", "_law_page"]) (sc := defScope s__law_parts) (by decide +kernel)) (fun _ _ _ _ _ => (pg_name (i := 9) sc__law_parts.nd rfl (Or.inl rfl))) (fun _ _ _ _ _ => pts_nil) (fun _ _ _ _ _ => (pe_cal c__law_rights (hr.mono (by omega)) rfl (pa_cons (pv 0) (pa_cons (pv 7) pa_nil))))) pa_nil)))
      (pss_cons (ps_expr (pe_bm PySem.F.plainAttrs_list PySem.F.slot_list_append PySem.F.type_list_append mt_append (pv 6) (pa_cons (pe_lc (own := [("_law_page", 10)]) (tt := tYes) rfl sc__law_parts.nd (pi_list (pv 3)) (blkOk_by (N := ["_law_source_here", "_law_tasks", "_law_k", "_law_pages", "_law_ports", "_law_disk", "_law_parts_here", "_law_pool_here", "_law_outside", "_law_row", "_law_page"]) (sc := defScope s__law_parts) (by decide +kernel)) (fun _ _ _ _ _ => (pg_name (i := 10) sc__law_parts.nd rfl (Or.inl rfl))) (fun _ _ _ _ _ => pts_nil) (fun _ _ _ _ _ => (pe_ix (show IxR _ (rIxL K) from ix_list) (pe_lst (pa_cons pe_non (pa_cons pe_int (pa_cons pe_int pa_nil)))) (pe_cal c__law_draw (hr.mono (by omega)) rfl (pa_cons (pv 0) (pa_cons pe_int pa_nil))) (fun _ _ => rfl)))) pa_nil)))
      (pss_cons (ps_expr (pe_bm PySem.F.plainAttrs_list PySem.F.slot_list_append PySem.F.type_list_append mt_append (pv 6) (pa_cons (pe_tup (pa_cons (pe_op op_add pe_int (pe_cal c__law_draw (hr.mono (by omega)) rfl (pa_cons (pv 0) (pa_cons pe_int pa_nil)))) (pa_cons (pe_cal c__law_draw (hr.mono (by omega)) rfl (pa_cons (pv 0) (pa_cons pe_int pa_nil))) (pa_cons (pe_cal c__law_draw (hr.mono (by omega)) rfl (pa_cons (pv 0) (pa_cons pe_int pa_nil))) pa_nil)))) pa_nil)))
      (pss_cons (ps_expr (pe_bm PySem.F.plainAttrs_list PySem.F.slot_list_append PySem.F.type_list_append mt_append (pv 6) (pa_cons (pe_cal c__law_plan (hr.mono (by omega)) rfl (pa_cons (pv 0) (pa_cons (pe_callB call_len_seq rfl B.len hb_len (pa_cons (pv 1) pa_nil)) pa_nil))) pa_nil)))
      (pss_cons (ps_set (i := 8) sc__law_parts.nd rfl (Or.inl rfl) pe_non)
      (pss_cons (ps_if (PW.pt (pw_and (pt_cmpR op_gt (pe_callB call_len_seq rfl B.len hb_len (pa_cons (pv 4) pa_nil)) pe_int (nomark _)) (pw_and1 (pt_cmpR op_eq (pe_cal c__law_draw (hr.mono (by omega)) rfl (pa_cons (pv 0) (pa_cons pe_int pa_nil))) pe_int (nomark _))))) (pss_one (ps_set (i := 8) sc__law_parts.nd rfl (Or.inl rfl) (pe_tup (pa_cons (pe_cal c__law_draw (hr.mono (by omega)) rfl (pa_cons (pv 0) (pa_cons (pe_callB call_len_seq rfl B.len hb_len (pa_cons (pv 4) pa_nil)) pa_nil))) (pa_cons (pe_op op_add pe_int (pe_cal c__law_draw (hr.mono (by omega)) rfl (pa_cons (pv 0) (pa_cons pe_int pa_nil)))) pa_nil))))) pss_nil)
      (pss_cons (ps_expr (pe_bm PySem.F.plainAttrs_list PySem.F.slot_list_append PySem.F.type_list_append mt_append (pv 6) (pa_cons (pv 8) pa_nil)))
      (pss_cons (ps_for PassesOwn.never rfl (pi_range1 rfl B.range (pa_cons pe_int pa_nil)) (pg_name (i := 2) sc__law_parts.nd rfl (Or.inl rfl)) (pss_one (ps_expr (pe_bm PySem.F.plainAttrs_list PySem.F.slot_list_append PySem.F.type_list_append mt_append (pv 6) (pa_cons (pe_cmpR op_eq (pe_cal c__law_draw (hr.mono (by omega)) rfl (pa_cons (pv 0) (pa_cons pe_int pa_nil))) pe_int (nomark _)) pa_nil)))))
      (pss_one (ps_ret (pv 6))))))))))))))))))), ?_⟩
    walk_at "st0"
    refine ⟨by show 0 ≤ sizeLine; decide, fun T nT => ?_⟩
    obtain ⟨nTp, nTg⟩ := off_new S nT
    have sT := same_new (o := .lst []) nT
    refine q_seq ?_
    refine q_forRA ?_
    walk_at "st"
    refine ⟨p, g, n, 3, rfl, S.same sT, by omega, by omega, by omega, fun r1 H1 a0 a1 S1 o1 => ?_⟩
    walk_at "st"
    have O1 := (Off.same (p := p) (g := g) sT).trans o1
    have eT1 := o1 _ _ (upd_same : upd H T (.lst []) T = _) nTp nTg
    refine ⟨_, rfl, by omega, by omega, forR (fun i σ H2 => ∃ o, σ = [some (.ref p), some (.ref T), o, none, none, none, none, none, none, none, none] ∧ Off p g H H2 ∧ SrcAt H2 p g (n + 1 + 2 * i) ∧ ∃ ys rs, H2 T = some (.lst ys) ∧ DpAll K (offH p g H2) ys rs ∧ rs.length = i ∧ ∀ r ∈ rs, okTask r = true)
      ⟨_, rfl, O1, S1, [], [], eT1, .nil, rfl, fun r h => by cases h⟩ (fun i σ H2 lt hI => ?_) (fun σ H2 hI => ?_)⟩
    · obtain ⟨o, rfl, o2, S2, ys, rs, eD, dd, li, hall⟩ := hI
      have ly := dd.length
      have i4 : i < 5 := by omega
      refine q_gname ?_
      refine q_app rfl eD ?_
      walk_at "st"
      refine ⟨p, g, n + 1 + 2 * i, 4, rfl, S2, by omega, by omega, by omega, fun r4 H4 c0 c1 S4 o4 => ?_⟩
      walk_at "st"
      refine ⟨p, g, n + 1 + 2 * i + 1, 3, rfl, S4, by omega, by omega, by omega, fun r5 H5 d0 d1 S5 o5 => ?_⟩
      walk_at "st"
      refine ⟨by show 2 ≤ sizeLine; decide, fun t nt => ?_⟩
      obtain ⟨ntp, ntg⟩ := off_new S5 nt
      have st := same_new (o := .tup [.int r4, .int r5]) nt
      have o45 := o4.trans o5
      have eD5 := o45 _ _ eD nTp nTg
      refine ⟨T, ys, _, rfl, rfl, st _ _ eD5, by rw [sizeLine_eq]; omega, ?_⟩
      have ntD : t ≠ T := fun z => by subst z; rw [nt] at eD5; cases eD5
      have hk : offH p g (upd (upd H5 t (.tup [.int r4, .int r5])) T (.lst (ys ++ [.ref t]))) = upd (upd (offH p g H5) t (.tup [.int r4, .int r5])) T (.lst (ys ++ [.ref t])) := by rw [offH_upd nTp nTg, offH_upd ntp ntg]
      have hall2 : ∀ r ∈ rs ++ [.tuple [.int r4, .int r5]], okTask r = true := fun r h => by
        rcases List.mem_append.mp h with h | h
        · exact hall r h
        · simp at h; subst h; simp [okTask, dTupleOf, dBetween]; omega
      refine ⟨_, rfl, fun b oo hb n1 n2 => ?_, ((S5.same st).upd nTp nTg).le (by omega), ys ++ [.ref t], rs ++ [.tuple [.int r4, .int r5]], upd_same, ?_, by simp [li], hall2⟩
      · have nb : b ≠ T := ne_of_none hb nT
        rw [upd_ne nb]; exact st _ _ (o45 _ _ (o2 _ _ hb n1 n2) n1 n2)
      · rw [hk]
        have nto : offH p g H5 t = none := by unfold offH; rw [if_neg (by simp [ntp, ntg])]; exact nt
        refine flat_but (acc := ys) (by rw [upd_ne (Ne.symm ntD)]; exact offH_of eD5 nTp nTg) But.put (okTask_flat hall2) (dpAll_append (L2.DpAll.mono (same_new nto) (L2.DpAll.mono o45.sameH dd)) (.cons (.tup (SqT.of upd_same) (.cons (.int _) (.cons (.int _) .nil))) .nil))
    · obtain ⟨o, rfl, o2, S2, ys, rs, eT, dd, li, hall⟩ := hI
      have ly := dd.length
      replace S2 := S2.le (m := n + 10) (by omega)
      have l2 : 2 ≤ rs.length := by omega
      have l4 : rs.length ≤ 4 := by omega
      clear li
      dsimp only
      refine seq_if (fun σ H' => ∃ o' ys rs, σ = [some (.ref p), some (.ref T), o', none, none, none, none, none, none, none, none] ∧ Off p g H H' ∧ SrcAt H' p g (n + 20) ∧ H' T = some (.lst ys) ∧ DpAll K (offH p g H') ys rs ∧ 2 ≤ rs.length ∧ rs.length ≤ 4 ∧ (∀ r ∈ rs, okTask r = true) ∧ 1 < distinct (rs.map sideD)) ?_ ?_
      · rintro σ H3 ⟨o', ys, rs, rfl, o3, S3, eT, dd, l2, l4, hall, hdist⟩
        have T1 : Dp K (offH p g H3) (.ref T) (.list rs) := .lst (SqL.of (offH_of eT nTp nTg)) dd
        have lys := dd.length
        clear dd
        walk_at "st"
        refine q_lcR ?_
        walk_at "st"
        refine ⟨p, g, n + 20, 4, rfl, S3, by omega, by omega, by omega, fun r4 H4 a4 b4 S4 o4 => ?_⟩
        walk_at "st"
        refine ⟨_, rfl, by omega, by omega, fun D5 nD5 => lc_src (p := p) (g := g) (m := n + 20 + 1) walk_range (fun y => ∃ i, y = V.int i ∧ 0 ≤ i ∧ i ≤ 1) nD5 S4 (by omega) (fun _ _ => trivial) (fun _ _ _ _ h => h.1) (fun i x H' lt hy S' Q' k => ?_) (fun pys H5 o5 S5 e5 l5 pp => ?_)⟩
        · refine q_gname ⟨rfl, ?_⟩
          walk_at "st"
          exact ⟨p, g, n + 20 + 1 + i, 2, rfl, S', by omega, by omega, by omega, fun r H6 b0 b1 S6 o6 => k _ _ o6 S6 ⟨_, rfl, b0, by omega⟩⟩
        obtain ⟨n5p, n5g⟩ := off_new S4 nD5
        obtain ⟨pis, rfl, lpi, hpi⟩ := ints_of pp
        clear pp
        have P1 : Dp K (offH p g H5) (.ref D5) (.list (pis.map .int)) := .lst (SqL.of (offH_of e5 n5p n5g)) (dpInts pis)
        have lp3 : pis.length ≤ 3 := by omega
        replace S5 := S5.le (m := n + 30) (by omega)
        have o35 := o4.trans o5
        replace T1 := L2.Dp.mono o35.sameH T1
        replace eT := o35 _ _ eT nTp nTg
        replace o5 := o3.trans o35
        clear S3 S4 o3 o4 o35 l5 lpi
        walk_at "st"
        refine q_lcR ?_
        walk_at "st"
        refine ⟨p, g, n + 30, 3, rfl, S5, by omega, by omega, by omega, fun r6 H6 a6 b6 S6 o6 => ?_⟩
        walk_at "st"
        refine ⟨_, rfl, by omega, by omega, fun D7 nD7 => lc_src (p := p) (g := g) (m := n + 30 + 1) walk_range (fun y => ∃ i, y = V.int i ∧ 1 ≤ i ∧ i ≤ 2) nD7 S6 (by omega) (fun _ _ => trivial) (fun _ _ _ _ h => h.1) (fun i x H' lt hy S' Q' k => ?_) (fun qys H7 o7 S7 e7 l7 qq => ?_)⟩
        · refine q_gname ⟨rfl, ?_⟩
          walk_at "st"
          refine ⟨p, g, n + 30 + 1 + i, 2, rfl, S', by omega, by omega, by omega, fun r H6 b0 b1 S6 o6 => ?_⟩
          walk_at "st"
          exact k _ _ o6 S6 ⟨_, rfl, by omega, by omega⟩
        obtain ⟨n7p, n7g⟩ := off_new S6 nD7
        obtain ⟨qis, rfl, lqi, hqi⟩ := ints_of qq
        clear qq
        have Q1 : Dp K (offH p g H7) (.ref D7) (.list (qis.map .int)) := .lst (SqL.of (offH_of e7 n7p n7g)) (dpInts qis)
        have lq2 : qis.length ≤ 2 := by omega
        replace S7 := S7.le (m := n + 40) (by omega)
        have o67 := o6.trans o7
        replace T1 := L2.Dp.mono o67.sameH T1
        replace P1 := L2.Dp.mono o67.sameH P1
        replace eT := o67 _ _ eT nTp nTg
        replace e5 := o67 _ _ e5 n5p n5g
        replace o7 := o5.trans o67
        clear S5 S6 o5 o6 o67 l7 lqi
        walk_at "st"
        refine ⟨by show 4 ≤ sizeLine; decide, fun D8 nD8 => ?_⟩
        obtain ⟨n8p, n8g⟩ := off_new S7 nD8
        have s8 := same_new (o := .lst [.int 0, .int 2, .int 3, .int 4]) nD8
        walk_at "st"
        refine ⟨p, g, n + 40, 4, rfl, S7.same s8, by omega, by omega, by omega, fun r9 H9 a9 b9 S9 o9 => ?_⟩
        walk_at "st"
        obtain ⟨dn, edn, hdn⟩ : ∃ dn : Int, atI [V.int 0, V.int 2, V.int 3, V.int 4] r9 = some (V.int dn) ∧ (dn = 0 ∨ dn = 2 ∨ dn = 3 ∨ dn = 4) := by
          rcases (by omega : r9 = 0 ∨ r9 = 1 ∨ r9 = 2 ∨ r9 = 3) with rfl | rfl | rfl | rfl
          · exact ⟨0, rfl, by omega⟩
          · exact ⟨2, rfl, by omega⟩
          · exact ⟨3, rfl, by omega⟩
          · exact ⟨4, rfl, by omega⟩
        refine q_ixL (SqL.of (o9 _ _ upd_same n8p n8g)) edn ?_
        have o89 := (Off.same (p := p) (g := g) s8).trans o9
        replace T1 := L2.Dp.mono o89.sameH T1
        replace P1 := L2.Dp.mono o89.sameH P1
        replace Q1 := L2.Dp.mono o89.sameH Q1
        replace eT := o89 _ _ eT nTp nTg
        replace e5 := o89 _ _ e5 n5p n5g
        replace e7 := o89 _ _ e7 n7p n7g
        replace o9 := o7.trans o89
        clear S7 o7 o89 s8 edn
        walk_at "st"
        refine ⟨p, g, n + 41, 3, rfl, S9, by omega, by omega, by omega, fun kn H10 a10 b10 S10 o10 => ?_⟩
        walk_at "st"
        refine ⟨p, g, n + 42, 4, rfl, S10, by omega, by omega, by omega, fun fn H11 a11 b11 S11 o11 => ?_⟩
        walk_at "st"
        refine ⟨by show 6 ≤ sizeLine; decide, fun L nL => ?_⟩
        obtain ⟨nLp, nLg⟩ := off_new S11 nL
        have o1011 := o10.trans o11
        have nTL : T ≠ L := ne_of_none (o1011 _ _ eT nTp nTg) nL
        have n5L : D5 ≠ L := ne_of_none (o1011 _ _ e5 n5p n5g) nL
        have n7L : D7 ≠ L := ne_of_none (o1011 _ _ e7 n7p n7g) nL
        have vs := view_start (p := p) (g := g) (o := .lst [.ref T, .ref D5, .ref D7, .int kn, .int fn, .int dn]) nL
        replace T1 := L2.Dp.mono (o1011.sameH.trans vs) T1
        replace P1 := L2.Dp.mono (o1011.sameH.trans vs) P1
        replace Q1 := L2.Dp.mono (o1011.sameH.trans vs) Q1
        have sL := same_new (o := .lst [.ref T, .ref D5, .ref D7, .int kn, .int fn, .int dn]) nL
        have o912 := o1011.trans (Off.same (p := p) (g := g) sL)
        replace eT := o912 _ _ eT nTp nTg
        replace e5 := o912 _ _ e5 n5p n5g
        replace e7 := o912 _ _ e7 n7p n7g
        have n0 : H L = none := off_free (o9.trans o1011) nLp nLg nL
        have Z : PS K p g L H (upd H11 L (.lst [.ref T, .ref D5, .ref D7, .int kn, .int fn, .int dn])) (n + 43) [.ref T, .ref D5, .ref D7, .int kn, .int fn, .int dn] [.list rs, .list (pis.map .int), .list (qis.map .int), .int kn, .int fn, .int dn] :=
          ⟨o9.trans o912, S11.same sL, upd_same, .cons T1 (.cons P1 (.cons Q1 (.cons (.int _) (.cons (.int _) (.cons (.int _) .nil)))))⟩
        generalize upd H11 L (.lst [.ref T, .ref D5, .ref D7, .int kn, .int fn, .int dn]) = HA at *
        clear S9 S10 S11 o9 o10 o11 o1011 o912 vs sL T1 P1 Q1
        walk_at "st"
        refine ⟨L, T, D5, D7, ys, _, _, [], kn, fn, dn, rfl, Z.at_, SqL.of eT, SqL.of e5, SqL.of e7, by omega, by rw [List.length_map]; omega, by rw [List.length_map]; omega, by omega, by omega, fun PL pxs HB sB nPL ePL dPL => ?_⟩
        have nPLp := (off_new Z.src nPL).1
        have nPLg := (off_new Z.src nPL).2
        have ZB := Z.step (Off.same sB) (Z.src.same sB) nLp nLg
        have eTB := sB _ _ eT
        have e5B := sB _ _ e5
        have e7B := sB _ _ e7
        clear Z eT e5 e7 sB nPL
        have ap := poolOf_pair (nt := ys.length) (np := (pis.map V.int).length) (nq := (qis.map V.int).length) (nk := kn.toNat) (seek := decide (dn > 0))
        have pl30 := poolOf_len (nt := ys.length) (np := (pis.map V.int).length) (nq := (qis.map V.int).length) (nk := kn.toNat) (seek := decide (dn > 0)) (by omega) (by rw [List.length_map]; omega) (by rw [List.length_map]; omega) (by omega)
        have dPLo := flat_off ZB.src (pair_flat ap) dPL
        generalize hpool : poolOf ys.length (pis.map V.int).length (qis.map V.int).length kn.toNat (decide (dn > 0)) = pool at *
        show tSeq _ _ _ _ _
        refine q_seq ?_
        refine q_app rfl ZB.at_ ?_
        refine ⟨_, rfl, T, rfl, ⟨_, SqL.of eTB⟩, fun D9 nD9 => lc_it walk_list (fun i HH => Off p g HB HH ∧ SrcAt HH p g (n + 43 + 30 * i) ∧ ∃ yss ess, HH D9 = some (.lst yss) ∧ yss.length = i ∧ Paired (fun y es => RowR K p g D9 HB pool HH y es) yss ess)
          ⟨Off.same (same_new nD9), ZB.src.same (same_new nD9), [], [], upd_same, rfl, .nil⟩ (fun i HH _ h => SqL.of (h.1 _ _ eTB nTp nTg)) ?_ ?_⟩
        · rintro i x HH H2' lt ⟨oH, sH, yss, ess, e9, l9, pr⟩ ⟨rfl, ex⟩
          obtain ⟨n9p, n9g⟩ := off_new ZB.src nD9
          have i4 : i < 4 := by omega
          refine q_gname ⟨rfl, ?_⟩
          refine q_yes (iteT ?_)
          walk_at "st"
          refine ⟨p, g, PL, n + 43 + 30 * i, pxs, pool, rfl, sH, by omega, nPLp, nPLg, oH _ _ ePL nPLp nPLg, L2.DpAll.mono oH.sameH dPLo, pl30, ap, fun l ys' es H4' o4' s4' nl el dl sub l8 => ?_⟩
          have e94 := o4' _ _ e9 n9p n9g
          obtain ⟨nlp, nlg⟩ := off_new sH nl
          have nl9 : l ≠ D9 := fun z => by subst z; rw [nl] at e9; cases e9
          refine ⟨yss, e94, by rw [sizeLine_eq]; omega, fun b o hb m1 m2 => ?_, (s4'.upd n9p n9g).le (by omega), yss ++ [.ref l], ess ++ [es], upd_same, by simp [l9], paired_snoc (Paired.mapP pr fun y es h => RowR.upd ap e94 n9p n9g (RowR.step o4' h)) (RowR.upd ap e94 n9p n9g ⟨l, ys', rfl, off_free oH nlp nlg nl, el, nlp, nlg, nl9, dl, sub, l8⟩)⟩
          rw [upd_ne (ne_of_none hb nD9)]; exact o4' _ _ (oH _ _ hb m1 m2) m1 m2
        rintro HC ⟨oC, sC, yss, ess, e9, l9, pr⟩
        obtain ⟨n9p, n9g⟩ := off_new ZB.src nD9
        have ZC := ZB.step oC (sC.le (m := n + 163) (by omega)) nLp nLg
        have n9L : D9 ≠ L := fun z => by subst z; rw [ZB.at_] at nD9; cases nD9
        have dR : Dp K (view p g L HC) (.ref D9) (.list (ess.map .list)) := .lst (SqL.of (view_of e9 n9p n9g n9L)) (rowR_dp ap ZB.at_ ZC.at_ pr)
        have less : ess.length = rs.length := by rw [← paired_len pr]; omega
        have hess : ∀ es ∈ ess, es.Sublist pool ∧ es.length ≤ 8 := by
          intro es hes
          obtain ⟨i, hi, rfl⟩ := List.getElem_of_mem hes
          have hy : i < yss.length := by rw [paired_len pr]; exact hi
          obtain ⟨es', e1, h⟩ := paired_get pr (List.getElem?_eq_getElem hy)
          rw [List.getElem?_eq_getElem hi] at e1
          cases e1
          obtain ⟨_, _, _, _, _, _, _, _, _, sub, l8⟩ := h
          exact ⟨sub, l8⟩
        have ZD := ZC.add nLp nLg n0 dR
        have eTD := oC _ _ eTB nTp nTg
        have e5D := oC _ _ e5B n5p n5g
        have e7D := oC _ _ e7B n7p n7g
        refine ⟨L, _, _, rfl, rfl, ZC.at_, by rw [sizeLine_eq]; simp, ?_⟩
        replace eTD : upd HC L (.lst ([.ref T, .ref D5, .ref D7, .int kn, .int fn, .int dn] ++ [.ref D9])) T = _ := (upd_ne nTL).trans eTD
        replace e5D : upd HC L (.lst ([.ref T, .ref D5, .ref D7, .int kn, .int fn, .int dn] ++ [.ref D9])) D5 = _ := (upd_ne n5L).trans e5D
        replace e7D : upd HC L (.lst ([.ref T, .ref D5, .ref D7, .int kn, .int fn, .int dn] ++ [.ref D9])) D7 = _ := (upd_ne n7L).trans e7D
        generalize upd HC L (.lst ([.ref T, .ref D5, .ref D7, .int kn, .int fn, .int dn] ++ [.ref D9])) = HD at *
        clear ZB ZC oC sC e9 pr dR eTB e5B e7B dPLo dPL ePL
        dsimp only
        refine q_seq ?_
        refine q_app rfl ZD.at_ ?_
        refine ⟨_, rfl, D5, rfl, ⟨_, SqL.of e5D⟩, fun D10 nD10 => lc_src (p := p) (g := g) (m := n + 163) walk_list (fun y => y = V.non ∨ y = V.int 0 ∨ y = V.int 1) nD10 ZD.src (by rw [List.length_map]; omega) (fun HH o => SqL.of (o _ _ e5D n5p n5g)) (fun _ _ _ _ h => h.1) (fun i x H' lt hy S' Q' k => ?_) (fun lys' HE oE SE eE lE pE => ?_)⟩
        · rw [List.length_map] at lt
          refine q_gname ⟨rfl, ?_⟩
          walk_at "st"
          refine ⟨by show 3 ≤ sizeLine; decide, fun D11 nD11 => ?_⟩
          obtain ⟨n11p, n11g⟩ := off_new S' nD11
          have s11 := same_new (o := .lst [.non, .int 0, .int 1]) nD11
          walk_at "st"
          refine ⟨p, g, n + 163 + i, 3, rfl, S'.same s11, by omega, by omega, by omega, fun r H6 b0 b1 S6 o6 => ?_⟩
          walk_at "st"
          have e11 := o6 _ _ (upd_same : upd H' D11 (.lst [.non, .int 0, .int 1]) D11 = _) n11p n11g
          have ow := (Off.same (p := p) (g := g) s11).trans o6
          rcases (by omega : r = 0 ∨ r = 1 ∨ r = 2) with rfl | rfl | rfl
          · exact q_ixL (SqL.of e11) rfl (k _ _ ow S6 (.inl rfl))
          · exact q_ixL (SqL.of e11) rfl (k _ _ ow S6 (.inr (.inl rfl)))
          · exact q_ixL (SqL.of e11) rfl (k _ _ ow S6 (.inr (.inr rfl)))
        obtain ⟨n10p, n10g⟩ := off_new ZD.src nD10
        have n10L : D10 ≠ L := fun z => by subst z; rw [ZD.at_] at nD10; cases nD10
        obtain ⟨lds, llds, dlds, okl, lfl⟩ := lines_of (K := K) pE
        rw [List.length_map] at SE
        have ZE := ZD.step oE (SE.le (m := n + 170) (by omega)) nLp nLg
        have dL : Dp K (view p g L HE) (.ref D10) (.list lds) := .lst (SqL.of (view_of eE n10p n10g n10L)) (dlds _)
        have ZF := ZE.add nLp nLg n0 dL
        refine ⟨L, _, _, rfl, rfl, ZE.at_, by rw [sizeLine_eq]; simp, ?_⟩
        replace eTD : upd HE L (.lst ([.ref T, .ref D5, .ref D7, .int kn, .int fn, .int dn] ++ [.ref D9] ++ [.ref D10])) T = _ := (upd_ne nTL).trans (oE _ _ eTD nTp nTg)
        replace e7D : upd HE L (.lst ([.ref T, .ref D5, .ref D7, .int kn, .int fn, .int dn] ++ [.ref D9] ++ [.ref D10])) D7 = _ := (upd_ne n7L).trans (oE _ _ e7D n7p n7g)
        generalize upd HE L (.lst ([.ref T, .ref D5, .ref D7, .int kn, .int fn, .int dn] ++ [.ref D9] ++ [.ref D10])) = HF at *
        rw [List.length_map] at lE
        clear ZD ZE oE SE eE dL e5D dlds pE
        dsimp only
        refine q_seq ?_
        refine q_app rfl ZF.at_ ?_
        walk_at "st"
        refine ⟨p, g, n + 170, 3, rfl, ZF.src, by omega, by omega, by omega, fun c1 G1 c1a c1b SG1 oG1 => ?_⟩
        walk_at "st"
        refine ⟨p, g, n + 171, 4, rfl, SG1, by omega, by omega, by omega, fun c2 G2 c2a c2b SG2 oG2 => ?_⟩
        walk_at "st"
        refine ⟨p, g, n + 172, 3, rfl, SG2, by omega, by omega, by omega, fun c3 G3 c3a c3b SG3 oG3 => ?_⟩
        walk_at "st"
        refine ⟨by show 3 ≤ sizeLine; decide, fun ct nct => ?_⟩
        obtain ⟨nctp, nctg⟩ := off_new SG3 nct
        have sct := same_new (o := .tup [.int (1 + c1), .int c2, .int c3]) nct
        have oG := (oG1.trans (oG2.trans oG3)).trans (Off.same (p := p) (g := g) sct)
        have ZG := ZF.step oG (SG3.same sct) nLp nLg
        have nctL : ct ≠ L := fun z => by
          subst z
          have := (oG1.trans (oG2.trans oG3)) _ _ ZF.at_ nLp nLg
          rw [nct] at this; cases this
        have dC : Dp K (view p g L (upd G3 ct (.tup [.int (1 + c1), .int c2, .int c3]))) (.ref ct) (.tuple [.int (1 + c1), .int c2, .int c3]) := .tup (SqT.of (view_of upd_same nctp nctg nctL)) (.cons (.int _) (.cons (.int _) (.cons (.int _) .nil)))
        have ZH := ZG.add nLp nLg n0 dC
        refine ⟨L, _, _, rfl, rfl, ZG.at_, by rw [sizeLine_eq]; simp, ?_⟩
        replace eTD := (upd_ne (o := .lst ([.ref T, .ref D5, .ref D7, .int kn, .int fn, .int dn] ++ [.ref D9] ++ [.ref D10] ++ [.ref ct])) nTL).trans (oG _ _ eTD nTp nTg)
        replace e7D := (upd_ne (o := .lst ([.ref T, .ref D5, .ref D7, .int kn, .int fn, .int dn] ++ [.ref D9] ++ [.ref D10] ++ [.ref ct])) n7L).trans (oG _ _ e7D n7p n7g)
        generalize upd (upd G3 ct (.tup [.int (1 + c1), .int c2, .int c3])) L (.lst ([.ref T, .ref D5, .ref D7, .int kn, .int fn, .int dn] ++ [.ref D9] ++ [.ref D10] ++ [.ref ct])) = HH at *
        clear ZF ZG dC oG oG1 oG2 oG3 SG1 SG2 SG3 sct nct
        walk_at "st"
        refine ⟨.inl ⟨rfl, _, SqL.of ZH.at_⟩, ?_⟩
        walk_at "st"
        refine ⟨T, _, rfl, .inl (SqL.of eTD), ?_⟩
        walk_at "st"
        refine ⟨p, g, n + 173, (ys.length : Int), rfl, ZH.src.le (by omega), by omega, by omega, by omega, fun pv pl HI oI SI dI okI => ?_⟩
        walk_at "st"
        have ZI := ZH.step oI (SI.le (m := n + 190) (by omega)) nLp nLg
        have dI2 := L2.Dp.mono (view_diff (p := p) (g := g) ZH.at_) dI
        have ZJ := ZI.add nLp nLg n0 dI2
        refine ⟨L, _, _, rfl, rfl, ZI.at_, by rw [sizeLine_eq]; simp, ?_⟩
        replace e7D := (upd_ne (o := .lst ([.ref T, .ref D5, .ref D7, .int kn, .int fn, .int dn] ++ [.ref D9] ++ [.ref D10] ++ [.ref ct] ++ [pv])) n7L).trans (oI _ _ e7D n7p n7g)
        generalize upd HI L (.lst ([.ref T, .ref D5, .ref D7, .int kn, .int fn, .int dn] ++ [.ref D9] ++ [.ref D10] ++ [.ref ct] ++ [pv])) = HJ at *
        clear ZH ZI oI SI dI dI2 eTD
        refine q_seq (q_set ?_)
        dsimp only [List.set_cons_zero, List.set_cons_succ]
        refine seq_if (fun σ H' => ∃ vo od, σ = [some (.ref p), some (.ref T), o', some (.ref D5), some (.ref D7), some (.int dn), some (.ref L), some (.ref PL), some vo, none, none] ∧ PS K p g L H H' (n + 200) ([.ref T, .ref D5, .ref D7, .int kn, .int fn, .int dn] ++ [.ref D9] ++ [.ref D10] ++ [.ref ct] ++ [pv]) ([.list rs, .list (pis.map .int), .list (qis.map .int), .int kn, .int fn, .int dn] ++ [.list (ess.map .list)] ++ [.list lds] ++ [.tuple [.int (1 + c1), .int c2, .int c3]] ++ [pl]) ∧ Dp K (view p g L H') vo od ∧ (od = .none ∨ ∃ x e, od = .tuple [.int x, .int e] ∧ 0 ≤ x ∧ x ≤ (qis.length : Int) - 1 ∧ 1 ≤ e ∧ e ≤ 4)) ?_ ?_
        · rintro σ HK ⟨vo, od, rfl, ZK, dO, oO⟩
          refine q_seq ?_
          refine q_app rfl ZK.at_ ?_
          walk_at "st"
          refine ⟨L, _, _, rfl, rfl, ZK.at_, by rw [sizeLine_eq]; simp, ?_⟩
          have ZM := ZK.add nLp nLg n0 dO
          generalize upd HK L (.lst ([.ref T, .ref D5, .ref D7, .int kn, .int fn, .int dn] ++ [.ref D9] ++ [.ref D10] ++ [.ref ct] ++ [pv] ++ [vo])) = HM at *
          clear ZK dO ZJ
          refine q_seq ?_
          refine q_forRA ?_
          walk_at "st"
          refine ⟨4, rfl, by omega, by omega, forR (fun i σ HH => ∃ o2 bs, σ = [some (.ref p), some (.ref T), o2, some (.ref D5), some (.ref D7), some (.int dn), some (.ref L), some (.ref PL), some vo, none, none] ∧ bs.length = i ∧ PS K p g L H HH (n + 200 + i) (([.ref T, .ref D5, .ref D7, .int kn, .int fn, .int dn] ++ [.ref D9] ++ [.ref D10] ++ [.ref ct] ++ [pv] ++ [vo]) ++ bs.map V.bl) (([.list rs, .list (pis.map .int), .list (qis.map .int), .int kn, .int fn, .int dn] ++ [.list (ess.map .list)] ++ [.list lds] ++ [.tuple [.int (1 + c1), .int c2, .int c3]] ++ [pl] ++ [od]) ++ bs.map PyData.bool))
            ⟨_, [], rfl, rfl, by simpa using ZM⟩ (fun i σ HH lt hI => ?_) (fun σ HH hI => ?_)⟩
          · obtain ⟨o2, bs, rfl, li, Z⟩ := hI
            replace lt : i < 4 := lt
            refine q_gname ?_
            refine q_app rfl Z.at_ ?_
            walk_at "st"
            refine ⟨p, g, n + 200 + i, 2, rfl, Z.src, by omega, by omega, by omega, fun r HX rx0 rx2 SX oX => ?_⟩
            walk_at "st"
            refine q_eq rfl ?_
            have ZX := Z.step oX SX nLp nLg
            refine ⟨L, _, _, rfl, rfl, ZX.at_, by rw [sizeLine_eq, List.length_append, List.length_map]; simp; omega, ?_⟩
            refine ⟨_, bs ++ [decide (V.int r = V.int 1)], rfl, by simp [li], ?_⟩
            have ZY := ZX.add nLp nLg n0 (x := .bl (decide (V.int r = V.int 1))) (d := .bool (decide (V.int r = V.int 1))) (.bl _)
            have en : n + 200 + (i + 1) = n + 200 + i + 1 := by omega
            rw [en]
            simpa using ZY
          · obtain ⟨o2, bs, rfl, li, Z⟩ := hI
            walk_at "st"
            match bs, li, Z with
            | [b1, b2, b3, b4], _, Z =>
            obtain ⟨ok, dep⟩ := parts_ok (b1 := b1) (b2 := b2) (b3 := b3) (b4 := b4) l2 l4 hall hdist hpi lp3 hqi lq2 a10 b10 a11 b11 hdn less (by rw [← hpool] at hess; simpa [lys] using hess) (by omega) okl lfl c1a c1b c2a c2b c3a c3b (fun c hc => okI c (by rw [hc]; omega)) oO
            exact Qk L _ _ HH Z.off (Z.src.le (by omega)) (by first | exact nLH | assumption) Z.at_ (by simpa [BD.list] using Z.dp) ok dep
        · intro N hN
          refine q_ifs ?_
          walk_at "st"
          refine ⟨D7, _, rfl, .inl (SqL.of e7D), ?_⟩
          walk_at "st"
          rw [List.length_map]
          refine q_if (fun hc => ?_) (fun hc => ?_)
          · have hq0 : 0 < (qis.length : Int) := of_decide_eq_true hc
            walk_at "st"
            refine ⟨p, g, n + 190, 2, rfl, ZJ.src, by omega, by omega, by omega, fun w1 K1 w1a w1b SK1 oK1 => ?_⟩
            walk_at "st"
            refine q_eq rfl ?_
            walk_at "st"
            have ZK1 := ZJ.step oK1 SK1 nLp nLg
            refine q_if (fun hc2 => ?_) (fun hc2 => ?_)
            · walk_at "st"
              refine ⟨D7, _, rfl, .inl (SqL.of (oK1 _ _ e7D n7p n7g)), ?_⟩
              rw [List.length_map]
              walk_at "st"
              refine ⟨p, g, n + 190 + 1, (qis.length : Int), rfl, SK1, by omega, by omega, by omega, fun w2 K2 w2a w2b SK2 oK2 => ?_⟩
              walk_at "st"
              refine ⟨p, g, n + 190 + 1 + 1, 4, rfl, SK2, by omega, by omega, by omega, fun w3 K3 w3a w3b SK3 oK3 => ?_⟩
              walk_at "st"
              refine ⟨by show 2 ≤ sizeLine; decide, fun ot not => ?_⟩
              obtain ⟨notp, notg⟩ := off_new SK3 not
              have sot := same_new (o := .tup [.int w2, .int (1 + w3)]) not
              have notL : ot ≠ L := fun z => by
                subst z
                have := (oK2.trans oK3) _ _ ZK1.at_ nLp nLg
                rw [not] at this; cases this
              exact hN _ _ ⟨_, .tuple [.int w2, .int (1 + w3)], rfl, ZK1.step ((oK2.trans oK3).trans (Off.same sot)) ((SK3.same sot).le (by omega)) nLp nLg, .tup (SqT.of (view_of upd_same notp notg notL)) (.cons (.int _) (.cons (.int _) .nil)), .inr ⟨w2, 1 + w3, rfl, w2a, by omega, by omega, by omega⟩⟩
            · walk_at "st"
              exact hN _ _ ⟨_, .none, rfl, ZJ.step oK1 (SK1.le (by omega)) nLp nLg, .non, .inl rfl⟩
          · refine iteF ?_
            walk_at "st"
            exact hN _ _ ⟨_, .none, rfl, ZJ.step (Off.same (Same.refl _)) (ZJ.src.le (by omega)) nLp nLg, .non, .inl rfl⟩
      · intro N hN
        match rs, l2, l4, dd, hall with
        | d0 :: d1 :: rr, _, l4, dd, hall =>
        cases dd with
        | @cons y0 yr _ _ h0 ddr =>
        obtain ⟨s0, v0, rfl, z0, z3, _⟩ := okTask_shape (hall d0 List.mem_cons_self)
        have dd0 : DpAll K (offH p g H2) (y0 :: yr) (.tuple [.int s0, .int v0] :: d1 :: rr) := .cons h0 ddr
        have dH := L2.DpAll.mono (offH_to (p := p) (g := g)) dd0
        have h0H := L2.Dp.mono (offH_to (p := p) (g := g)) h0
        cases h0H with
        | @tup t0 zs0 _ hz0 hb0 =>
        cases hb0 with
        | @cons w0 wr0 _ _ bb0 hb0 =>
        cases bb0
        refine q_ifs ?_
        walk_at "st"
        refine ⟨_, rfl, T, rfl, ⟨_, SqL.of eT⟩, fun D2 nD2 => lc_it walk_list (fun j H3 => Same H2 H3 ∧ ∃ zs, H3 D2 = some (.lst zs) ∧ zs.length = (((PyData.tuple [.int s0, .int v0] :: d1 :: rr).take j).filter fun d => !decide (sideD d = s0)).length) ⟨same_new nD2, [], upd_same, by simp⟩ (fun j H3 _ h => SqL.of (h.1 _ _ eT)) ?_ ?_⟩
        · rintro j x H3 H4 ltj ⟨s3, zs, e3, l3⟩ ⟨rfl, ex⟩
          obtain ⟨dv, ev, hv⟩ := dH.get' ex
          obtain ⟨sd, lv, rfl, _⟩ := okTask_shape (hall dv (List.mem_of_getElem? ev))
          have hv3 := L2.Dp.mono s3 hv
          cases hv3 with
          | @tup t zz _ hz hb =>
          cases hb with
          | @cons u0 r0 _ _ b0 hb =>
          cases b0
          have tk : (PyData.tuple [.int s0, .int v0] :: d1 :: rr).take (j + 1) = (PyData.tuple [.int s0, .int v0] :: d1 :: rr).take j ++ [.tuple [.int sd, .int lv]] := by rw [List.take_add_one, ev]; rfl
          have le := List.length_filter_le (fun d => !decide (sideD d = s0)) ((PyData.tuple [.int s0, .int v0] :: d1 :: rr).take j)
          rw [List.length_take] at le
          refine q_gname ⟨rfl, ?_⟩
          walk_at "st"
          refine q_ixT hz (atI0 rfl) ?_
          walk_at "st"
          refine q_ixL (SqL.of (s3 _ _ eT)) (atI0 rfl) ?_
          walk_at "st"
          refine q_ixT (Same.sqT s3 hz0) (atI0 rfl) ?_
          walk_at "st"
          refine q_ne rfl ?_
          walk_at "st"
          have vi : decide (V.int sd = V.int s0) = decide (sd = s0) := decide_eq_decide.mpr ⟨fun z => by cases z; rfl, fun z => by rw [z]⟩
          rw [vi]
          refine q_if (fun hc => ?_) (fun hc => ?_)
          · walk_at "st"
            refine ⟨zs, e3, by rw [sizeLine_eq]; omega, fun b o hb => by rw [upd_ne (ne_of_none hb nD2)]; exact s3 _ _ hb, _, upd_same, ?_⟩
            rw [tk, List.filter_append, List.length_append, List.length_append, l3, List.filter_cons_of_pos (p := fun d => !decide (sideD d = s0)) (show (!decide (sideD (.tuple [.int sd, .int lv]) = s0)) = true from hc)]
            rfl
          · refine ⟨s3, zs, e3, ?_⟩
            rw [tk, List.filter_append, List.length_append, l3, List.filter_cons_of_neg (p := fun d => !decide (sideD d = s0)) (show ¬ (!decide (sideD (.tuple [.int sd, .int lv]) = s0)) = true from by rw [show (!decide (sideD (.tuple [.int sd, .int lv]) = s0)) = (!decide (sd = s0)) from rfl, hc]; simp)]
            rfl
        · rintro H3 ⟨s3, zs, e3, l3⟩
          rw [ly, List.take_length] at l3
          walk_at "st"
          refine ⟨D2, zs, rfl, .inl (SqL.of e3), ?_⟩
          walk_at "st"
          refine q_eq rfl ?_
          walk_at "st"
          have dd3 := L2.DpAll.mono (Off.sameH (p := p) (g := g) (Off.same s3)) dd0
          have o3 : Off p g H H3 := o2.trans (Off.same s3)
          have S3 := S2.same s3
          have eT3 := s3 _ _ eT
          refine q_if (fun hc => ?_) (fun hc => ?_)
          · have lyr : (V.ref t0 :: yr).length = rr.length + 1 + 1 := by rw [ly]; rfl
            obtain ⟨dl, edl⟩ : ∃ dl, (PyData.tuple [.int s0, .int v0] :: d1 :: rr)[rr.length + 1]? = some dl := ⟨_, List.getElem?_eq_getElem (by simp)⟩
            obtain ⟨yl, eyl, hyl⟩ := dH.get edl
            obtain ⟨sl, vl, rfl, _, _, vl0, vl2⟩ := okTask_shape (hall dl (List.mem_of_getElem? edl))
            have ela : atI (V.ref t0 :: yr) (-1) = some yl := by
              unfold atI
              rw [lyr, ixN_last]
              exact eyl
            walk_at "st"
            refine q_ixL (SqL.of eT3) (atI0 rfl) ?_
            walk_at "st"
            refine q_ixT (Same.sqT s3 hz0) (atI0 rfl) ?_
            walk_at "st"
            refine ⟨p, g, n + 10, 3, rfl, S3, by omega, by omega, by omega, fun r5 H5 d50 d53 S5 o5 => ?_⟩
            walk_at "st"
            refine .inl ⟨_, rfl, ?_⟩
            walk_at "st"
            refine ⟨_, _, rfl, rfl, by omega, ?_⟩
            walk_at "st"
            have eT5 := o5 _ _ eT3 nTp nTg
            refine q_ixL (SqL.of eT5) ela ?_
            walk_at "st"
            have hyl5 := L2.Dp.mono (offH_to (p := p) (g := g)) (L2.Dp.mono o5.sameH ((dd3.get edl).elim fun y hy => by rw [eyl] at hy; cases hy.1; exact hy.2))
            cases hyl5 with
            | @tup tl zl _ hzl hbl =>
            cases hbl with
            | @cons ul0 rl0 _ _ bl0 hbl =>
            cases hbl with
            | @cons ul1 rl1 _ _ bl1 hbl =>
            cases hbl; cases bl0; cases bl1
            refine q_ixT hzl (atI1 rfl) ?_
            walk_at "st"
            refine ⟨by show 2 ≤ sizeLine; decide, fun t nt => ?_⟩
            obtain ⟨ntp, ntg⟩ := off_new S5 nt
            have st := same_new (o := .tup [.int ((s0 + 1 + r5) % 4), .int vl]) nt
            walk_at "st"
            refine q_setL (j := rr.length + 1) (st _ _ eT5) (by rw [lyr]; exact ixN_last) ?_
            have ntT : t ≠ T := fun z => by subst z; rw [nt] at eT5; cases eT5
            have okN : okTask (.tuple [.int ((s0 + 1 + r5) % 4), .int vl]) = true := by
              simp [okTask, dTupleOf, dBetween]; omega
            have hall2 : ∀ r ∈ (PyData.tuple [.int s0, .int v0] :: d1 :: rr).set (rr.length + 1) (.tuple [.int ((s0 + 1 + r5) % 4), .int vl]), okTask r = true := fun r hr => by
              rcases List.mem_or_eq_of_mem_set hr with h | h
              · exact hall r h
              · rw [h]; exact okN
            have hk : offH p g (upd (upd H5 t (.tup [.int ((s0 + 1 + r5) % 4), .int vl])) T (.lst ((V.ref t0 :: yr).set (rr.length + 1) (.ref t)))) = upd (upd (offH p g H5) t (.tup [.int ((s0 + 1 + r5) % 4), .int vl])) T (.lst ((V.ref t0 :: yr).set (rr.length + 1) (.ref t))) := by rw [offH_upd nTp nTg, offH_upd ntp ntg]
            refine hN _ _ ⟨_, (V.ref t0 :: yr).set (rr.length + 1) (.ref t), (PyData.tuple [.int s0, .int v0] :: d1 :: rr).set (rr.length + 1) (.tuple [.int ((s0 + 1 + r5) % 4), .int vl]), rfl, fun b oo hb n1 n2 => ?_, ((S5.same st).upd nTp nTg).le (by omega), upd_same, ?_, by rw [List.length_set]; simp, by rw [List.length_set]; exact l4, hall2, ?_⟩
            · have nb : b ≠ T := ne_of_none hb nT
              rw [upd_ne nb]; exact st _ _ (o5 _ _ (o3 _ _ hb n1 n2) n1 n2)
            · rw [hk]
              have nto : offH p g H5 t = none := by unfold offH; rw [if_neg (by simp [ntp, ntg])]; exact nt
              exact flat_but (acc := V.ref t0 :: yr) (by rw [upd_ne (Ne.symm ntT)]; exact offH_of eT5 nTp nTg) But.put (okTask_flat hall2) (dpAll_set (.tup (SqT.of upd_same) (.cons (.int _) (.cons (.int _) .nil))) _ (L2.DpAll.mono (same_new nto) (L2.DpAll.mono o5.sameH dd3)))
            · rw [distinct_gt]
              refine ⟨s0, by simp [sideD], (s0 + 1 + r5) % 4, ?_, by omega⟩
              have z := List.mem_set (l := PyData.tuple [.int s0, .int v0] :: d1 :: rr) (i := rr.length + 1) (by simp) (.tuple [.int ((s0 + 1 + r5) % 4), .int vl])
              exact List.mem_map_of_mem (f := sideD) z
          · walk_at "st"
            refine hN _ _ ⟨_, _, _, rfl, o3, S3.le (by omega), eT3, dd3, by simp, by simpa using l4, hall, ?_⟩
            rw [distinct_gt]
            have lz : zs.length ≠ 0 := fun z => by rw [z] at hc; simp at hc
            have pos : 0 < ((PyData.tuple [.int s0, .int v0] :: d1 :: rr).filter fun d => !decide (sideD d = s0)).length := by omega
            obtain ⟨x, hx⟩ := List.exists_mem_of_length_pos pos
            obtain ⟨hx1, hx2⟩ := List.mem_filter.mp hx
            refine ⟨sideD x, List.mem_map_of_mem hx1, s0, by simp [sideD], by simpa using hx2⟩
end
end T

set_option Elab.async false
set_option linter.all false
set_option maxRecDepth 100000
set_option maxHeartbeats 4000000
namespace Hk
open PySem PySem.Spec PyProof.Rows L2 L2H
/-- the exception that a suite holds, at p: of the class at D, its own dict at d (where it has one) -/
structure ExA (K : PySem.W.Frag) (p : Addr × Obj) (D : Addr) (d : Option Addr) : Prop where
  z : Zc (.ref D) d p.2
  f : ∃ vs, p.2.data = .fields vs
  c : L2.ExcC K D
/-- its dict stands there -/
def XdAt (H : Hp) : Option Addr → List (Str × V) → Prop
  | none, fs => fs = []
  | some dd, fs => H dd = some (.xd fs)
/-! ## a def that is called in the suite, p the exception that is handled -/
structure FnE (P : Program) (w : World) (K : PySem.W.Frag) (mg : Str → Option Value) (base : Heap) (k : Nat) (f : Addr) (fd : FuncData) (ps : List Str) (sp : Addr × Obj → Sp) : Prop where
  len : ∀ p vs H Q E, sp p vs H Q E → vs.length = ps.length
  run : ∀ (A : Around) (outer : List Env) (s : Shared) (H : Hp) (args : Args) (us : List Value) (vs : List V) (Q : VK) (p : Addr × Obj), RoomH k A → PinOk outer H s p → Env0 P w K mg base A outer s H → BindsTo s fd args (ps.zip us) → Vals vs us → sp p vs H Q L2.E0 →
    codeAny (model P w) A (.call (.ref f) args) (CR L2.CX0 outer P w H s Q L2.E0) s
/-- the end of a body is the end of the call -/
theorem ends_call {X : Cx} {P : Program} {w : World} {outer : List Env} {s s2 : Shared} {H : Hp} {Q : VK} {fl : Flow} (eP : X.prog = P) (ew : X.w = w) (es : X.s_0 = s) (eH : X.H_0 = H) (ef : X.fs = frs outer) (ex : X.ex = [])
    (z : SP X [] { nx := fun _ H' => Q .non H', rt := Q } fl s2) : CE outer P w H s Q (match fl with | .ret u => u | _ => .none) s2 := by
  subst eP ew es eH
  have put : ∀ {τ : L2.St} {H2 : Hp} {x : V} {u : Value}, Inv X [] τ H2 s2 → RelV x u → Q x H2 → CE outer X.prog X.w X.H_0 X.s_0 Q u s2 := by
    intro τ H2 x u J rx qx
    have un := J.base
    rw [ef, ex] at un
    exact ⟨x, H2, J.os, J.bare, un, J.hok, rx, qx⟩
  rcases fl with _ | _ | _ | u
  · obtain ⟨τ, H2, J, z⟩ := z
    exact put (x := .non) J rfl z
  · obtain ⟨_, _, _, z⟩ := z
    exact absurd z id
  · obtain ⟨_, _, _, z⟩ := z
    exact absurd z id
  · obtain ⟨x, τ, H2, J, rx, z⟩ := z
    exact put J rx z
theorem fn_ofE {P : Program} {w : World} {K : PySem.W.Frag} {mg : Str → Option Value} {base : Heap} {k : Nat} {f : Addr} {name qual : Str} {params : Arguments} {body : List Stmt} {scope : Scope} {dV kV doc pm cdv ct oc : Value} {an od : Option Addr}
    {osl : Array (Option Value)} {N ps : List Str} {sp : Addr × Obj → Sp} (lk : K.lookup f = some ⟨oc, od, .func (PySem.W.fnOf name qual params body scope dV kV doc pm an cdv ct), osl⟩) (hcd : PySem.W.codeIn K cdv qual = true) (S : FnScope N ps scope)
    (len : ∀ p vs H Q E, sp p vs H Q E → vs.length = ps.length)
    (hbody : ∀ (A : Around) (outer : List Env) (s : Shared) (H : Hp) (vs : List V) (Q : VK) (p : Addr × Obj), RoomH k (A.deeper (envOfC qual scope s.heap.objs.size f cdv)) → sp p vs H Q L2.E0 →
      ∃ t, PSs (cxH L2.CX0 P w K mg base N qual scope f cdv A outer s H L2.E0 p) body t ∧ t { nx := fun _ H' => Q .non H', rt := Q } (L2.start N vs) H) :
    FnE P w K mg base (k + 1) f (PySem.W.fnOf name qual params body scope dV kV doc pm an cdv ct) ps sp := by
  constructor
  · exact len
  intro A outer s H args us vs Q p room pin env bind rel promise
  have old : ∀ b o, base.get? b = some o → s.heap.get? b = some o := by
    intro b o z
    exact (env.bs b o z).left
  have kin := PySem.W.Frag.In.keeps env.mod.kin old
  have many := len _ _ _ _ _ promise
  apply codeAny_call_function room.depth (kin _ _ lk) rfl S.co S.gen rfl (PySem.W.codeRec_of kin hcd)
  apply bind
  apply wpAny_newFunctionEnv_cells S.kind
  · intro y my
    have where_ := S.par y.1 (List.of_mem_zip my).left
    cases where_ with
    | inl loc => exact Or.inl loc
    | inr cel => exact Or.inr ⟨cel, PySem.W.cellsFrom_some _ _ _ (Or.inl cel)⟩
  · intro fr same s1 entered
    cases same
    constructor
    · exact Heap.NoLimit.keeps (Heap.NoLimit.keeps env.mod.nolimit old) entered.toInCall.keep
    apply codeAny_func
    obtain ⟨t, body_ok, due⟩ := hbody A outer s H vs Q p (room.deeper _) promise
    have start_ := inv_startH (CX := L2.CX0) (E := L2.E0) S pin env many rel entered
    apply wpAny_mono (body_ok.run [] s1 _ H _ start_ due)
    · intro fl s2 z
      have end_ := ends_call (outer := outer) rfl rfl rfl rfl rfl rfl z
      cases fl <;> exact end_
    · intro u s2 z
      exact z
section
variable {X : Cx} {k : Nat} {f C : Addr} {fd : FuncData} {ps : List Str} {sp : Addr × Obj → Sp} {x m : Str} {q pos apos : Pos} {e o : Expr} {es : List Expr} {ta : TE} {t : TA} {p : Addr × Obj}
theorem run_fnE {pins : List (Addr × Obj)} {σ : L2.St} {H : Hp} {s : Shared} {Q : VK} {us : List Value} {vs : List V} (F : FnE X.prog X.w X.K X.mg X.base k f fd ps sp) (hr : RoomH k X.A) (hp : p ∈ X.pn) (hb : Binds X.K fd ps [])
    (I : Inv X pins σ H s) (r : Vals vs us) (h : sp p vs H Q L2.E0) : wpAny (model X.prog X.w) X.A (call (.ref f) us) (EP X pins σ Q) X.xe s := by
  have given : (us ++ []).length = ps.length := by simpa [← r.length] using F.len _ _ _ _ _ h
  have args := hb s us I.kIn given
  simp only [List.append_nil] at args
  obtain ⟨at_, untracked, notL, notF, notCell⟩ := I.pin p (List.mem_append.mpr (Or.inl hp))
  have away : p.1 ∉ frs X.stack := by
    intro hm
    rcases List.mem_cons.mp (I.stkSub _ hm) with z | z
    · exact notL z
    · exact notF z
  apply wpAny_call
  apply codeAny_mono (F.run X.A X.stack s H ⟨us, []⟩ us vs Q p hr ⟨at_, untracked, away, notCell⟩ I.env0 args r h)
  intro res s2 z
  match res, z with
  | .error _, z => exact absurd z id
  | .ok (.ret _), z => exact I.after z
  | .ok .next, z => exact absurd z id
  | .ok .brk, z => exact absurd z id
  | .ok .cont, z => exact absurd z id
def tCallE (sp : Addr × Obj → Sp) (p : Addr × Obj) (t : TA) : TE := fun σ H Q => t σ H fun vs H1 => sp p vs H1 Q L2.E0
theorem pe_callE (F : FnE X.prog X.w X.K X.mg X.base k f fd ps sp) (hr : RoomH k X.A) (hp : p ∈ X.pn) (hg : Gl X x) (hm : X.mg x = some (.ref f)) (hk : PySem.W.keepIn X.K (.ref f) = true) (hb : Binds X.K fd ps []) (ha : PA X (e :: es) t)
    (hdb : (x == ("__debug__" : Str)) = false := by decide) (he : starEach (e :: es) X.env = (false, eval e X.env) :: starEach es X.env := by rfl) (hpl : (backTo pos (starEach es X.env)).any (·.1) = false := by rfl) : PE X (.Call (.Name x q) (e :: es) [] pos) (tCallE sp p t) where
  run := by
    intro pins s σ H Q I h
    apply wpAny_Call_Name_kw
    apply ld_glob I hg hm _ hdb
    apply PySem.W.callWith_K (h₀ := X.base) I.ok.mod.kin hk _ he hpl
    apply thn (ha.run pos pins s σ H _ I h)
    intro us s1 z
    obtain ⟨vs, H1, J, rel, due⟩ := z
    exact ⟨J.kIn, run_fnE F hr hp hb J rel due⟩
/-- isinstance(e, c), e the exception that the suite holds -/
def rIsX (K : PySem.W.Frag) (p : Addr × Obj) : List V → Hp → VK → Prop := fun xs H Q => ∃ (D : Addr) (d : Option Addr) (fs : List (Str × V)) (c : V) (cv : Value) (b : Bool), ExA K p D d ∧ XdAt H d fs ∧ xs = [.ref p.1, c] ∧ (∀ u, RelV c u → u = cv) ∧ PySem.W.kitOne K (.ref D) cv = some b ∧ Q (.bl b) H
theorem ExA.at {X : Cx} {p : Addr × Obj} {D : Addr} {d : Option Addr} {fs : List (Str × V)} {pins : List (Addr × Obj)} {σ : L2.St} {H : Hp} {s : Shared} (EA : ExA X.K p D d) (xd : XdAt H d fs) (hp : p ∈ X.pn) (I : Inv X pins σ H s) :
    ∃ od, PySem.W.InstAt s.heap p.1 p.2 D od ∧ (d.isSome = true → ∃ (ob : Obj) (mA : Str → Option Value), od = some ob ∧ (∀ y, PySem.W.lookIn y ob = some (mA y)) ∧ ∀ y, RelO (fs.lookup y) (mA y)) := by
  obtain ⟨here, _⟩ := I.pin p (List.mem_append.mpr (Or.inl hp))
  obtain ⟨ws, hw⟩ := EA.f
  have plain : PySem.W.notCls p.2 = true := by unfold PySem.W.notCls; rw [hw]
  rcases d with _ | dd
  · exact ⟨none, ⟨here, EA.z.1, plain, by rw [EA.z.2]; trivial⟩, fun z => by cases z⟩
  · obtain ⟨mA, hn, rel⟩ : ∃ mA, s.heap.Ns1 dd mA ∧ ∀ y, RelO (fs.lookup y) (mA y) := I.hok dd _ xd
    obtain ⟨ob, e1, e2⟩ := lookIn_ns hn
    exact ⟨some ob, ⟨here, EA.z.1, plain, by rw [EA.z.2]; exact e1⟩, fun _ => ⟨ob, mA, rfl, e2, rel⟩⟩
theorem call_isX (hp : p ∈ X.pn) : CallR X (.builtin "isinstance") (rIsX X.K p) := by
  rintro pins s σ H xs us Q I r ⟨D, d, fs, c, cv, b, EA, xd, rfl, told, ans, due⟩
  match us, r with
  | [_, u], .cons same (.cons rel .nil) =>
    cases same
    cases told u rel
    obtain ⟨od, J, _⟩ := EA.at xd hp I
    have some_ : (PySem.W.clsIn X.K D).isSome = true := Option.isSome_iff_exists.mpr ((PySem.W.any_some EA.c.hd).imp fun _ z => z.1)
    apply PySem.W.kia_one (PySem.W.kitx_exc (ox := p.2) (od := od) some_ EA.c.hg EA.c.hk EA.c.hs EA.c.ha EA.c.hn EA.c.ht EA.c.hm) I.kIn J ans
    · intro z; cases z
    · intro tk
      exact ⟨.bl b, H, I.tok tk, rfl, due⟩
/-- e.f, e the exception that the suite holds -/
def tXfX (K : PySem.W.Frag) (p : Addr × Obj) (n : Str) (te : TE) : TE := fun σ H Q => te σ H fun x H1 => x = .ref p.1 ∧ ∃ (D : Addr) (dd : Addr) (fs : List (Str × V)) (v : V), ExA K p D (some dd) ∧ PySem.W.findIn K (.ref D) n = some none ∧ H1 dd = some (.xd fs) ∧ fs.lookup n = some v ∧ Q v H1
theorem pe_xfX {te : TE} {n : Str} (hp : p ∈ X.pn) (he : PE X e te) (hb : attributeBase e n X.env (eval e X.env) = eval e X.env := by rfl) : PE X (.Attribute e n pos) (tXfX X.K p n te) where
  run := by
    intro pins s σ H Q I h
    apply attr_of hb
    apply thn (he.run pins s σ H _ I h)
    rintro u s1 ⟨x, H1, J, same, rfl, D, dd, fs, v, EA, none_, xd, there, due⟩
    cases same
    obtain ⟨od, at_, own⟩ := EA.at (d := some dd) xd hp J
    obtain ⟨ob, mA, rfl, look, rel⟩ := own rfl
    have rn := rel n
    rw [there] at rn
    obtain ⟨u, hu, ru⟩ := RelO.some_of rn
    have found := PySem.W.findObj_own EA.c.hd none_ rfl (show PySem.W.lookIn n ob = some (some u) by rw [look, hu])
    exact HandSPX.exc_get J.kIn at_ EA.c.hg EA.c.hk EA.c.hs found (handed_of ru) ⟨v, H1, J.tok _, ru, due⟩
/-- what is never come to -/
def tNever : TE := fun _ _ _ => False
theorem pe_never : PE X e tNever := ⟨fun _ _ _ _ _ _ h => h.elim⟩
end
theorem q_gname {σ : L2.St} {H : Hp} {i : Nat} {v : V} {q : L2.St → Hp → Prop} (h : q (σ.set i (some v)) H) : gName i v σ H q := h
theorem q_app {K : PySem.W.Frag} {σ : L2.St} {H : Hp} {D : Ends} {i : Nat} {te : TE} {a : Addr} {acc : List V} (hv : σ[i]? = some (some (.ref a))) (ha : H a = some (.lst acc)) (h : te σ H fun y H2 => ∃ l xs z, V.ref a = .ref l ∧ [y] = [z] ∧ H2 l = some (.lst xs) ∧ xs.length < sizeLine ∧ D.nx σ (upd H2 l (.lst (xs ++ [z])))) : tDrop (tBM K "list" rAppend (tVar i) (tCons te tNil)) D σ H :=
  ⟨_, hv, .inl ⟨rfl, acc, SqL.of ha⟩, h⟩
theorem q_rng1 {ta : TA} {σ : L2.St} {H : Hp} {R : It → Hp → Prop} (h : ta σ H fun vs H1 => ∃ j : Int, vs = [.int j] ∧ -(2 ^ 62) ≤ j ∧ j < 2 ^ 62 ∧ R (Itr 0 j.toNat) H1) : iRng1 ta σ H R := h
/-- a loop over a range, its bound told already -/
def ForR (n : Nat) (g : TG) (tb : TS) (D : Ends) (σ : L2.St) (H1 : Hp) : Prop := ∃ W : Nat → Nat → L2.St → Hp → Prop, (∃ m, W 0 m σ H1) ∧ ∀ i m σ H, W i m σ H →
    ((Itr 0 n).stop i H ∧ D.nx σ H) ∨ ((Itr 0 n).go i H ∧ ∃ N : L2.St → Hp → Prop, (∀ σ' H', N σ' H' → ∃ m', m' < m ∧ W (i + 1) m' σ' H') ∧ ∀ x H', (Itr 0 n).yld i H x H' → g x σ H' fun σ2 H2 => tb { D with nx := N, ct := N, bk := D.nx } σ2 H2)
theorem q_forRA {ta : TA} {g : TG} {tb : TS} {D : Ends} {σ : L2.St} {H : Hp} (h : ta σ H fun vs H1 => ∃ j : Int, vs = [.int j] ∧ -(2 ^ 62) ≤ j ∧ j < 2 ^ 62 ∧ ForR j.toNat g tb D σ H1) : tFor (iRng1 ta) g tb D σ H := h
theorem forR {n : Nat} {g : TG} {tb : TS} {D : Ends} {σ : L2.St} {H : Hp} (Pv : Nat → L2.St → Hp → Prop) (h0 : Pv 0 σ H)
    (hs : ∀ i σ H, i < n → Pv i σ H → g (.int (0 + (i : Int))) σ H fun σ2 H2 => tb { D with nx := Pv (i + 1), ct := Pv (i + 1), bk := D.nx } σ2 H2) (hd : ∀ σ H, Pv n σ H → D.nx σ H) : ForR n g tb D σ H := for_range Pv h0 hs hd
theorem seq_if {c : TT} {t u R : TS} {D : Ends} {σ : L2.St} {H : Hp} (Pa : L2.St → Hp → Prop) (h2 : ∀ σ H, Pa σ H → R D σ H) (h1 : ∀ N : L2.St → Hp → Prop, (∀ σ H, Pa σ H → N σ H) → tIfS c t u { D with nx := N } σ H) : tSeq (tIfS c t u) R D σ H := h1 (R D) h2
end Hk

set_option Elab.async false
set_option linter.all false
set_option maxRecDepth 100000
set_option maxHeartbeats 4000000
namespace Hk
open PySem PySem.Spec PyProof.Rows L2
/-- an error class of the module: directly under the class at KE, which stands under ValueError -/
structure ECls (K : PySem.W.Frag) (mg : Str → Option Value) (KE : Addr) (x : Str) (C : Addr) : Prop where
  g : mg x = some (.ref C)
  L : ∃ (nm q : Str) (N : Addr) (bs : List Value) (sn : List Str) (sub : List Value) (ab : Bool) (col : Option Bool) (dd : Option Addr) (k0 k1 k2 k3 k5 : Option Value), K.lookup C = some (excClassObj nm q C N bs (.ref KE :: PySem.HandSPX.veTail) true sn sub ab col dd k0 k1 k2 k3 k5 "ValueError.__new__")
  ga : PySem.W.findIn K (.ref C) "__getattribute__" = some (some (.builtin "BaseException.__getattribute__"))
  gg : PySem.W.findIn K (.ref C) "__getattr__" = some none
  gc : PySem.W.findIn K (.ref C) "__class__" = some (some (.builtin "object.__class__"))
  kp : PySem.W.keepIn K (.ref C) = true
section
variable {K : PySem.W.Frag} {mg : Str → Option Value} {KE C : Addr} {x : Str}
theorem ECls.cls (E : ECls K mg KE x C) : ∃ cd : ClassData, PySem.W.clsIn K C = some cd ∧ cd.mro = .ref C :: .ref KE :: PySem.HandSPX.veTail ∧ cd.hasDict = true := by
  obtain ⟨nm, q, N, bs, sn, sub, ab, col, dd, k0, k1, k2, k3, k5, h⟩ := E.L
  refine ⟨_, by unfold PySem.W.clsIn; rw [h], rfl, rfl⟩
theorem ECls.mro (E : ECls K mg KE x C) (v : Value) : PySem.W.mroIn K C v = some ((Value.ref C :: .ref KE :: PySem.HandSPX.veTail).contains v) := by
  obtain ⟨cd, h1, h2, _⟩ := E.cls
  unfold PySem.W.mroIn
  rw [h1, Option.bind_some, h2]
  rfl
theorem ECls.sub (E : ECls K mg KE x C) (v : Value) : PySem.W.subIn K (.ref C) v = some ((Value.ref C :: .ref KE :: PySem.HandSPX.veTail).contains v) := E.mro v
theorem ECls.exC (E : ECls K mg KE x C) : PySem.W.subIn K (.ref C) (.type "BaseException") = some true := by
  rw [E.sub]; congr 1
theorem ECls.ty (E : ECls K mg KE x C) : PySem.W.typeIn K (.ref C) = some (.type "type") := by
  obtain ⟨nm, q, N, bs, sn, sub, ab, col, dd, k0, k1, k2, k3, k5, h⟩ := E.L
  show (K.lookup C).map (·.cls) = _
  rw [h]; rfl
theorem ECls.hd (E : ECls K mg KE x C) : PySem.W.hasDictIn K C = true := by
  obtain ⟨cd, h1, _, h3⟩ := E.cls
  unfold PySem.W.hasDictIn
  rw [h1]; exact h3
theorem ECls.isSome (E : ECls K mg KE x C) : (PySem.W.clsIn K C).isSome = true := by
  obtain ⟨cd, h1, _⟩ := E.cls
  rw [h1]; rfl
/-- what isinstance wants of the class -/
theorem ECls.exc (E : ECls K mg KE x C) (hn : PySem.W.specialIn K (.builtin "object.__class__") "__get__" = some (some (.builtin "getset_descriptor.__get__"))) (ht : PySem.W.takesIn K (.builtin "object.__class__") = some true) : L2.ExcC K C :=
  ⟨E.ga, E.gg, E.exC, E.hd, E.gc, hn, ht, by rw [E.mro]; congr 1⟩
theorem ref_beq (a b : Addr) : (Value.ref a == Value.ref b) = decide (a = b) := by
  by_cases h : a = b
  · subst h; simp
  · rw [decide_eq_false h]; exact beq_eq_false_iff_ne.mpr fun z => h (Value.ref.inj z)
/-- isinstance of an error of the class at C -/
theorem ECls.kitVE (E : ECls K mg KE x C) : PySem.W.kitOne K (.ref C) (.type "ValueError") = some true := by
  unfold PySem.W.kitOne PySem.W.kitCls
  have e : (Value.ref C == Value.type "ValueError") = false := beq_eq_false_iff_ne.mpr (by intro z; cases z)
  rw [e, if_neg (by decide)]
  dsimp only
  rw [if_pos (by decide +kernel), E.sub]
  congr 1
theorem ECls.kit {C2 : Addr} {y : Str} (E : ECls K mg KE x C) (E2 : ECls K mg KE y C2) (ne : C2 ≠ KE) : PySem.W.kitOne K (.ref C) (.ref C2) = some (decide (C = C2)) := by
  unfold PySem.W.kitOne
  rw [ref_beq]
  by_cases h : C = C2
  · rw [if_pos (by simpa using h), decide_eq_true h]
  · rw [if_neg (by simpa using h), decide_eq_false h]
    unfold PySem.W.kitCls
    dsimp only
    rw [if_pos (by rw [E2.isSome, E2.ty]; rfl), E.sub]
    congr 1
    rw [List.contains_cons, List.contains_cons, ref_beq, ref_beq, decide_eq_false (fun z => h z.symm), decide_eq_false ne]
    rfl
/-- except KernelError takes it -/
theorem ECls.exm (E : ECls K mg KE x C) (h1 : PySem.W.subIn K (.ref KE) (.type "BaseException") = some true) (hd : PySem.W.hasDictIn K KE = true) (ht : PySem.W.typeIn K (.ref KE) = some (.type "type")) : PySem.W.exmOne K (.ref C) (.ref KE) = some true := by
  refine PySem.W.exm_ref h1 hd ht ?_
  rw [E.sub]
  congr 1
  rw [List.contains_cons, List.contains_cons, ref_beq, ref_beq, decide_eq_true (rfl : KE = KE)]
  simp
end
section
variable {X : Cx} {C : Addr} {bmB : List Value} {B newId initId : String} {x : Str} {p pos pos2 : Pos}
/-- X() -/
theorem pmk_own0 (F : ExcBaseFacts B newId initId bmB) (q : PySem.W.excIn X.K C bmB newId = true) (gC : X.mg x = some (.ref C)) (kC : PySem.W.keepIn X.K (.ref C) = true) (r : Raises X (.ref C)) (hg : Gl X x)
    (hdb : (x == ("__debug__" : Str)) = false := by decide) : PMk X (.Call (.Name x p) [] [] pos) (fun _ H Q => Q (.ref C) none H) := by
  rintro pins ⟨hp, g, d, t, os⟩ σ H Q I h
  apply wpAny_Call_Name_kw
  apply ld_glob I hg gC _ hdb
  apply PySem.W.callWith_K0 I.kIn kC
  obtain ⟨_, _, _, _, _, _, _, _, _, _, _, _, _, _, _, _, _, hC, hN, hni, T⟩ := exc_obj I.kIn q
  apply wpAny_call_exc_subT F T hC hN hni
  intro h' e made
  exact mk_of I made r h (I.hok.gone made.new)
end
/-- a def that may raise, as a promise by its name -/
structure CalX (P : Program) (w : World) (K : PySem.W.Frag) (mg : Str → Option Value) (base : Heap) (k : Nat) (x : Str) (ps : List Str) (sp : Sp) : Prop where
  ex : ∃ f fd, mg x = some (.ref f) ∧ PySem.W.keepIn K (.ref f) = true ∧ Binds K fd ps [] ∧ FnOk P w K mg base (L2.CX P w) k f fd ps sp
theorem DefAt.calX {P : Program} {w : World} {K : PySem.W.Frag} {mg : Str → Option Value} {base : Heap} {k : Nat} {x : Str} {st : Stmt} {ps : List Str} {sp : Sp} (d : DefAt K mg x st ps)
    (h : ∀ f fd, Fun K x x st f fd → FnOk P w K mg base (L2.CX P w) k f fd ps sp) : CalX P w K mg base k x ps sp := by
  obtain ⟨f, fd, F, g, b⟩ := d.ex
  exact ⟨f, fd, g, F.kp, b, h f fd F⟩
structure CalE (P : Program) (w : World) (K : PySem.W.Frag) (mg : Str → Option Value) (base : Heap) (k : Nat) (x : Str) (ps : List Str) (sp : Addr × Obj → Sp) : Prop where
  ex : ∃ f fd, mg x = some (.ref f) ∧ PySem.W.keepIn K (.ref f) = true ∧ Binds K fd ps [] ∧ FnE P w K mg base k f fd ps sp
section
variable {X : Cx} {k : Nat} {x : Str} {ps : List Str} {sp : Sp} {spE : Addr × Obj → Sp} {p pos : Pos} {e : Expr} {es : List Expr} {t : TA} {W : WX} {pp : Addr × Obj}
theorem pe_calX (c : CalX X.prog X.w X.K X.mg X.base k x ps sp) (hr : Room k X.A) (hg : Gl X x) (tk : Takes X W) (ha : PA X (e :: es) t) (hdb : (x == ("__debug__" : Str)) = false := by decide)
    (he : starEach (e :: es) X.env = (false, eval e X.env) :: starEach es X.env := by rfl) (hpl : (backTo pos (starEach es X.env)).any (·.1) = false := by rfl) : PE X (.Call (.Name x p) (e :: es) [] pos) (tCallS sp (WE W) t) := by
  obtain ⟨f, fd, g, kp, b, F⟩ := c.ex
  exact pe_callS F hr hg g kp b (fun σ => passAt tk σ) ha hdb he hpl
theorem pe_calE (c : CalE X.prog X.w X.K X.mg X.base k x ps spE) (hr : L2H.RoomH k X.A) (hp : pp ∈ X.pn) (hg : Gl X x) (ha : PA X (e :: es) t) (hdb : (x == ("__debug__" : Str)) = false := by decide)
    (he : starEach (e :: es) X.env = (false, eval e X.env) :: starEach es X.env := by rfl) (hpl : (backTo pos (starEach es X.env)).any (·.1) = false := by rfl) : PE X (.Call (.Name x p) (e :: es) [] pos) (tCallE spE pp t) := by
  obtain ⟨f, fd, g, kp, b, F⟩ := c.ex
  exact pe_callE F hr hp hg g kp b ha hdb he hpl
end
theorem _root_.L2.Fun.okE {P : Program} {w : World} {K : PySem.W.Frag} {mg : Str → Option Value} {base : Heap} {x qual : Str} {st : Stmt} {f : Addr} {fd : FuncData} {N ps : List Str} {k : Nat} {sp : Addr × Obj → Sp} (F : Fun K x qual st f fd) (S : FnScope N ps (defScope st))
    (len : ∀ p vs H Q E, sp p vs H Q E → vs.length = ps.length)
    (hbody : ∀ (cdv : Value) (A : Around) (outer : List Env) (s : Shared) (H : Hp) (vs : List V) (Q : VK) (p : Addr × Obj), L2H.RoomH k (A.deeper (envOfC qual (defScope st) s.heap.objs.size f cdv)) → sp p vs H Q L2.E0 →
      ∃ t, PSs (L2H.cxH L2.CX0 P w K mg base N qual (defScope st) f cdv A outer s H L2.E0 p) (defBody st) t ∧ t { nx := fun _ H' => Q .non H', rt := Q } (L2.start N vs) H) : FnE P w K mg base (k + 1) f fd ps sp := by
  obtain ⟨_, _, _, _, _, _, cdv, _, _, rfl, lk, hcd⟩ := F.ex
  exact fn_ofE lk hcd S len fun A outer s H vs Q p hr h => hbody cdv A outer s H vs Q p hr h
end Hk

set_option Elab.async false
set_option linter.all false
set_option maxRecDepth 100000
set_option maxHeartbeats 4000000
namespace Hk
open PySem PySem.Spec PyProof.Rows L2
/-- (text, int) <= (text, int) -/
def rLeWI (K : PySem.W.Frag) : R2 := fun x y H Q => ∃ (a b : Addr) (p q : Str × Int), x = .ref a ∧ y = .ref b ∧ SqT K H a [.str p.1, .int p.2] ∧ SqT K H b [.str q.1, .int q.2] ∧ Q (.bl (!ltWI q p)) H
theorem vals_si {z : Str} {i : Int} {us : List Value} (r : Vals [.str z, .int i] us) : ∃ t u, us = [.str z t, .int i u] := by
  match us, r with
  | [_, _], .cons ⟨t, e⟩ (.cons ⟨u, f⟩ .nil) => exact ⟨t, u, by rw [e, f]⟩
theorem op_leWI {X : Cx} (hu : X.A.units < cLine) : OpR X (compareOp .LtE) (rLeWI X.K) := by
  rintro pins s σ H x y v u Q I rx ry ⟨a, b, ⟨w1, i1⟩, ⟨w2, i2⟩, rfl, rfl, ha, hb, q⟩
  cases rx
  cases ry
  obtain ⟨us, r1, p1, _⟩ := I.tuple ha
  obtain ⟨ws, r2, p2, _⟩ := I.tuple hb
  obtain ⟨t1, t2, rfl⟩ := vals_si r1
  obtain ⟨t3, t4, rfl⟩ := vals_si r2
  have run := Ob.RcOp.tuples_le (A := X.A) (s := s) (e := fun j => if j = 0 then (w1 == w2) else (i1 == i2)) (r := fun j => if j = 0 then !decide (w2.cps.toList < w1.cps.toList) else decide (i1 ≤ i2)) p1 p2 hu
    (fun j h1 _ => match j, h1 with
      | 0, _ => SeqAt.EqAt.str_str w1 t1 w2 t3
      | 1, _ => SeqAt.EqAt.int_int i1 t2 i2 t4)
    (fun j h1 _ _ => match j, h1 with
      | 0, _ => fun _ _ _ _ z => PySem.P.le_str (by simpa using z)
      | 1, _ => fun _ _ _ _ z => PyProof.Rows.le_int z)
  have told : Ob.lexAt (fun j => if j = 0 then (w1 == w2) else (i1 == i2)) (fun j => if j = 0 then !decide (w2.cps.toList < w1.cps.toList) else decide (i1 ≤ i2)) (decide (2 ≤ 2)) 0 2 = (!ltWI (w2, i2) (w1, i1)) := by
    unfold ltWI
    simp only [Ob.lexAt_succ, Ob.lexAt_zero]
    by_cases e1 : w1 = w2
    · subst e1
      by_cases e2 : i1 = i2
      · subst e2; simp
      · simp [e2]
        rw [Bool.eq_iff_iff]
        simp
    · have e3 : ¬ w2 = w1 := fun z => e1 z.symm
      simp [e1, e3]
  exact run X.prog X.w _ _ ⟨.bl ((!ltWI (w2, i2) (w1, i1))), H, I, by rw [← told]; rfl, q⟩
/-- a class whose __init__ may raise, called with keywords -/
structure MkKCalX (P : Program) (w : World) (K : PySem.W.Frag) (mg : Str → Option Value) (base : Heap) (k : Nat) (C : Addr) (x : Str) (ps : List Str) (n : Nat) (ks : List Str) (sp : Sp) : Prop where
  g : mg x = some (.ref C)
  ex : ∃ f fd, Mk K C f ∧ KBn K fd ps (n + 1) ks (fun us ws => us ++ ws) (fun vs zs => vs ++ zs) ∧ FnOk P w K mg base (L2.CX P w) k f fd ps sp
theorem pe_mkkX {X : Cx} {k n : Nat} {x : Str} {ps ks : List Str} {sp : Sp} {p pos : Pos} {e : Expr} {es : List Expr} {kws : List Keyword} {t tk : TA} {C : Addr} {E : XK} (c : MkKCalX X.prog X.w X.K X.mg X.base k C x ps n ks sp) (hr : Room (k + 1) X.A) (hg : Gl X x) (tks : Takes X (fun cls d _ H => E cls d H)) (ha : PA X (e :: es) t) (hkw : PK X kws tk)
    (hall : (backToKw pos (keywordEach kws X.env)).all (·.1.isSome) = true := by rfl) (hks : (backToKw pos (keywordEach kws X.env)).filterMap (·.1) = ks := by rfl) (hdb : (x == ("__debug__" : Str)) = false := by decide)
    (he : starEach (e :: es) X.env = (false, eval e X.env) :: starEach es X.env := by rfl) (hpl : ((backTo pos (starEach (e :: es) X.env)).any (·.1) || (backToKw pos (keywordEach kws X.env)).any (·.1.isNone)) = false := by rfl) :
    PE X (.Call (.Name x p) (e :: es) kws pos) (tMakeK C n ks.length sp (fun vs zs => vs ++ zs) E t tk) := by
  obtain ⟨g, f, fd, M, b, F⟩ := c
  exact pe_makeK M F hr hg g b (passes_call tks fun _ _ _ _ h => h) ha hkw hall hks hdb he hpl
/-- self.f = v, and no more -/
def spIni1 (K : PySem.W.Frag) (C : Addr) (f : Str) : Sp := fun vs H Q _ => ∃ (a : Addr) (v : V), vs = [.ref a, v] ∧ H a = some (exo a C none) ∧ ∀ dx, H dx = none → dx ≠ a → Q .non (upd (upd H dx (exd dx [(f, v)])) a (exo a C (some dx)))
/-- an error class with an __init__ of its own -/
structure Ini (P : Program) (w : World) (K : PySem.W.Frag) (mg : Str → Option Value) (base : Heap) (C : Addr) (ps : List Str) (sp : Sp) : Prop where
  O : OexC K C
  ex : ∃ fI fd, PySem.W.findIn K (.ref C) "__init__" = some (some (.ref fI)) ∧ PySem.W.typeIn K (.ref fI) = some (.type "function") ∧ Binds K fd ps [] ∧ FnOk P w K mg base L2.CX0 1 fI fd ps sp
theorem pmk_ini {X : Cx} {C : Addr} {ps : List Str} {sp : Sp} {x : Str} {e : Expr} {es : List Expr} {ta : TA} {p pos : Pos} (I : Ini X.prog X.w X.K X.mg X.base C ps sp) (hr : Room 2 X.A) (hg : Gl X x) (hm : X.mg x = some (.ref C)) (ha : PA X (e :: es) ta)
    (hdb : (x == ("__debug__" : Str)) = false := by decide) (he : starEach (e :: es) X.env = (false, eval e X.env) :: starEach es X.env := by rfl) (hpl : (backTo pos (starEach es X.env)).any (·.1) = false := by rfl) :
    PMk X (.Call (.Name x p) (e :: es) [] pos) (tMkO C sp [] ta) := by
  obtain ⟨fI, fd, h1, h2, h3, h4⟩ := I.ex
  exact pmk_oex I.O h1 h2 h4 hr h3 .nil pass0 hg hm ha hdb he hpl
/-- behind an __init__: the error is let go -/
theorem ini_end {H : Hp} {a dx : Addr} {fs : List (Str × V)} (na : H a = none) (nd : H dx = none) {H2 : Hp} (s2 : ∀ b o, H b = some o → b ≠ a → H2 b = some o) : Same H (upd (del H2 a) dx (.xd fs)) := fun b o hb => by
  have n1 : b ≠ dx := ne_of_none hb nd
  have n2 : b ≠ a := ne_of_none hb na
  rw [upd_ne n1, del_ne n2]
  exact s2 b o hb n2
theorem q_callS {sp : Sp} {E : L2.St → XK} {t : TA} {σ : L2.St} {H : Hp} {Q : VK} (h : t σ H fun vs H1 => sp vs H1 Q (E σ)) : tCallS sp E t σ H Q := h
theorem q_mk1 {K : PySem.W.Frag} {C : Addr} {f : Str} {H : Hp} {Q : XK} {v : V} {k : Nat} {σ : L2.St} (hs : σ[k]? = some (some v)) (q : ∀ d H', H d = none → Same H H' → H' d = some (.xd [(f, v)]) → Q (.ref C) (some d) H') : tMkO C (spIni1 K C f) [] (tCons (tVar k) tNil) σ H Q := by
  refine ⟨v, hs, by simp, fun a na => ⟨a, v, rfl, upd_same, fun dx n1 n2 => ?_⟩⟩
  have nd : H dx = none := by rw [upd_ne n2] at n1; exact n1
  refine ⟨rfl, dx, [(f, v)], upd_same, by rw [upd_ne n2]; exact upd_same, nd, q dx _ nd (ini_end na nd fun b o hb nb => ?_) upd_same⟩
  rw [upd_ne nb, upd_ne (ne_of_none hb nd), upd_ne nb]
  exact hb
theorem pss_all {X : Cx} {st : List Stmt} {t : Obj → TS} {cls : Value} {d : Option Addr} {oe : Obj} (hz : Zc cls d oe) (hf : ∃ vs, oe.data = .fields vs) (h : PSs X st (t oe)) : PSs X st (fun D σ H => ∀ oe, Zc cls d oe → (∃ vs, oe.data = .fields vs) → t oe D σ H) :=
  ⟨fun pins s σ H D I q => h.run pins s σ H D I (q oe hz hf)⟩
theorem iteT' {c : Bool} {A B : Prop} (h : c = true) (a : A) : if c = true then A else B := by rw [if_pos h]; exact a
theorem iteF' {c : Bool} {A B : Prop} (h : c = false) (b : B) : if c = true then A else B := by rw [h]; exact iteF b
theorem q_eqI {i j : Int} {Q : VK} {H : Hp} (q : Q (.bl (decide (i = j))) H) : rEq (.int i) (.int j) H Q := ⟨rfl, by
  have e : decide (V.int i = V.int j) = decide (i = j) := decide_eq_decide.mpr ⟨fun h => V.int.inj h, fun h => by rw [h]⟩
  rw [e]; exact q⟩
end Hk

set_option Elab.async false
set_option linter.all false
set_option maxRecDepth 100000
/-! == of dicts of data, and == by an own __eq__ that tells either answer -/
namespace Hk
open L2
open PySem PySem.Spec PyProof.Rows
mutual
theorem dp_plain {K : PySem.W.Frag} {H : Hp} : ∀ {v : V} {d : PyData}, Dp K H v d → d.plain = true
  | _, _, .non => rfl
  | _, _, .bl b => rfl
  | _, _, .int i => rfl
  | _, _, .str x => rfl
  | _, _, .lst h a => by simp only [PyData.plain]; exact dpAll_plain a
  | _, _, .tup h a => by simp only [PyData.plain]; exact dpAll_plain a
theorem dpAll_plain {K : PySem.W.Frag} {H : Hp} : ∀ {vs : List V} {ds : List PyData}, DpAll K H vs ds → PyData.plainAll ds = true
  | _, _, .nil => rfl
  | _, _, .cons h t => by simp only [PyData.plainAll, Bool.and_eq_true]; exact ⟨dp_plain h, dpAll_plain t⟩
end
section
variable {X : Cx} {H : Hp} {pins : List (Addr × Obj)} {σ : L2.St} {s : Shared}
theorem data_eqP (I : Inv X pins σ H s) {A : Around} {x y : V} {v u : Value} {d e : PyData} (hd : Dp X.K H x d) (he : Dp X.K H y e) (rx : RelV x v) (ry : RelV y u) (hu : A.units + min d.depth e.depth < cLine) : SeqAt.EqP X.prog X.w A s v u (PyData.eqv d e) := by
  have readX := Dp.reads I d x v hd rx
  have readY := Dp.reads I e y u he ry
  exact (SeqAt.eqAt_plain d e A s v u _ _ readX.choose_spec readY.choose_spec (dp_plain hd) (dp_plain he) hu).eqP
/-- the entries of two dicts with data, by the first's keys -/
def allEqv (l1 l2 : List (Str × PyData)) : Bool := l1.all fun p => match l2.lookup p.1 with
  | some e => PyData.eqv p.2 e
  | none => false
theorem hits_data (I : Inv X pins σ H s) {A : Around} {ls : List (Key × V)} {vb : List (Key × Value)} (rb : KV ls vb) {l2 : List (Str × PyData)} (hb : Paired (fun p q => p.1 = Sum.inr q.1 ∧ Dp X.K H p.2 q.2) ls l2) {ks : List (Key × V)} {va : List (Key × Value)} (ra : KV ks va) :
    ∀ {l1 : List (Str × PyData)}, Paired (fun p q => p.1 = Sum.inr q.1 ∧ Dp X.K H p.2 q.2) ks l1 → (∀ p ∈ l1, ∃ e, l2.lookup p.1 = some e ∧ A.units + min p.2.depth e.depth < cLine) → PySem.W.KeqHitsP X.prog X.w A s vb va (allEqv l1 l2) := by
  unfold KV at ra
  induction ra with
  | nil => intro l1 h1 _; cases h1; exact .nil
  | @cons p q ps qs h t k =>
    intro l1 h1 hp
    cases h1 with
    | @cons _ q1 _ l1 g g2 =>
    obtain ⟨h1, h2⟩ := h
    obtain ⟨e, el, hu⟩ := hp q1 List.mem_cons_self
    obtain ⟨z, zv, zd⟩ := pairedKV_get hb el
    have rr : RelO (some z) (valueAt vb p.1) := by rw [← zv, ← g.1]; exact rb.val p.1
    obtain ⟨yv, hy, ry⟩ := rr.some_of
    obtain ⟨key, v⟩ := q
    have h1' : p.1 = key := h1
    rw [h1'] at hy
    have ee : allEqv (q1 :: l1) l2 = (PyData.eqv q1.2 e && allEqv l1 l2) := by
      simp [allEqv, el]
    rw [ee]
    exact .hit hy (data_eqP I g.2 zd h2 ry hu) (k g2 fun p' hm => hp p' (List.mem_cons_of_mem _ hm))
end
section
variable {X : Cx}
/-- a == b, two dicts of data under the same keys -/
def rEqKV (K : PySem.W.Frag) : R2 := fun x y H Q => ∃ (a b : Addr) (ks ls : List (Key × V)) (l1 l2 : List (Str × PyData)), x = .ref a ∧ y = .ref b ∧ H a = some (.dK ks) ∧ H b = some (.dK ls) ∧ Paired (fun p q => p.1 = Sum.inr q.1 ∧ Dp K H p.2 q.2) ks l1 ∧ Paired (fun p q => p.1 = Sum.inr q.1 ∧ Dp K H p.2 q.2) ls l2 ∧
  l1.length = l2.length ∧ (∀ p ∈ l1, ∃ e, l2.lookup p.1 = some e ∧ p.2.depth ≤ 60) ∧ Q (.bl (allEqv l1 l2)) H
theorem op_eqKV (hu : X.A.units + 64 < cLine) : OpR X (compareOp .Eq) (rEqKV X.K) := by
  intro pn sh σ Hh xv yv v u Qk I relX relY told
  obtain ⟨d1, d2, ks, ls, l1, l2, rfl, rfl, at1, at2, p1, p2, hl, hp, q⟩ := told
  obtain rfl : v = .ref d1 := relX
  obtain rfl : u = .ref d2 := relY
  have ok1 : ObjOk X.prog X.w Hh sh.heap d1 (.dK ks) := I.hok d1 _ at1
  have ok2 : ObjOk X.prog X.w Hh sh.heap d2 (.dK ls) := I.hok d2 _ at2
  obtain ⟨_, n1, vs1, kv1, of1⟩ := ok1
  obtain ⟨_, n2, vs2, kv2, of2⟩ := ok2
  have e : vs1.length = vs2.length := by rw [← kv1.length, ← kv2.length, Paired.length p1, Paired.length p2, hl]
  refine PySem.W.rcP_dicts (knd := mixKind X.prog X.w) (r := allEqv l1 l2) n1 n2 of1 of2 (by omega) (fun _ => hits_data I kv2 p2 kv1 p1 fun p hm => ?_) X.xe _ ?_
  · obtain ⟨e, el, hd⟩ := hp p hm
    refine ⟨e, el, ?_⟩
    show X.A.units + 1 + _ < cLine
    omega
  · rw [show (vs1.length == vs2.length && allEqv l1 l2) = allEqv l1 l2 from by rw [e]; simp]
    exact ⟨.bl _, Hh, I, rfl, q⟩
/-- a == b by an own __eq__ that answers with a bool -/
def rEqI (C : Addr) (sp : Sp) : R2 := fun x y H Q => ∃ a b dx dy fs gs, x = .ref a ∧ y = .ref b ∧ H a = some (.ins C dx fs) ∧ H b = some (.ins C dy gs) ∧ sp [.ref a, .ref b] H (fun v H' => ∃ k, v = .bl k ∧ Q (.bl k) H') E0
theorem op_eqI {k : Nat} {C : Addr} {ps : List Str} {sp : Sp} (c : MCal X.prog X.w X.K X.mg X.base k C "__eq__" ps sp) (hr : Room k X.A) (hu : X.A.units < cLine) : OpR X (compareOp .Eq) (rEqI C sp) := by
  intro pn sh σ Hh xv yv v u Qk I relX relY told
  obtain ⟨o1, o2, dx, dy, fs, gs, rfl, rfl, at1, at2, promise⟩ := told
  cases relX
  cases relY
  obtain ⟨f, fd, M, bound, F⟩ := c.ex
  obtain ⟨_, inst1, _⟩ := ins_get I.hok at1
  obtain ⟨_, inst2, _⟩ := ins_get I.hok at2
  obtain ⟨_, look1, _⟩ := inst1.look
  obtain ⟨_, look2, _⟩ := inst2.look
  obtain ⟨_, frame⟩ := I.fr
  refine PySem.W.cmp_K (op := .Eq) (tb := .ref C) hu frame I.ok.mod.kin look1 look2.type (by simp [PySem.W.notFirst]) M.at_ M.fn ?_
  have len := F.len _ _ _ _ promise
  have pair : Vals [V.ref o1, V.ref o2] [Value.ref o1, Value.ref o2] := Paired.cons rfl (Paired.cons rfl Paired.nil)
  have given := bound sh [.ref o1, .ref o2] I.kIn (by simpa using len)
  rw [List.append_nil] at given
  refine wpAny_call (codeAny_mono (F.run X.A X.stack sh Hh ⟨[.ref o1, .ref o2], []⟩ [.ref o1, .ref o2] [.ref o1, .ref o2] _ E0 hr I.env0 given pair promise) fun out sh2 back => ?_)
  match out, back with
  | .error e, back => exact pass0 pn σ Hh sh e sh2 I back
  | .ok (.ret w), back =>
    obtain ⟨z, H2, I2, rz, k, ez, qk⟩ := I.after back
    subst ez
    cases rz
    exact ⟨.bl k, H2, I2, rfl, qk⟩
  | .ok .next, back => exact back.elim
  | .ok .brk, back => exact back.elim
  | .ok .cont, back => exact back.elim
end
end Hk

set_option Elab.async false
set_option linter.all false
set_option maxRecDepth 100000
/-! data whose lists are its own: a tree of lists at distinct addresses S, over tuples and leaves -/
namespace Hk
open L2
open PySem PySem.Spec PyProof.Rows
/-- all but what stands at Z is as it was -/
def OffZ (Z : List Addr) (H H' : Hp) : Prop := ∀ b o, H b = some o → b ∉ Z → H' b = some o
theorem OffZ.refl {Z : List Addr} {H : Hp} : OffZ Z H H := fun _ _ h _ => h
theorem OffZ.of {Z : List Addr} {H H' : Hp} (s : Same H H') : OffZ Z H H' := fun b o h _ => s b o h
theorem OffZ.trans {Z : List Addr} {H H1 H2 : Hp} (a : OffZ Z H H1) (b : OffZ Z H1 H2) : OffZ Z H H2 := fun x o h n => b x o (a x o h n) n
theorem OffZ.mono {Z Z' : List Addr} {H H' : Hp} (a : OffZ Z H H') (h : ∀ x ∈ Z, x ∈ Z') : OffZ Z' H H' := fun b o e n => a b o e fun z => n (h b z)
theorem OffZ.upd {Z : List Addr} {H : Hp} {a : Addr} {o : HO} (h : a ∈ Z) : OffZ Z H (upd H a o) := fun b u e n => by
  have z : b ≠ a := fun z => n (by rw [z]; exact h)
  rw [upd_ne z]; exact e
/-- what was not there stands in the way of nothing -/
theorem OffZ.same {Z : List Addr} {H H' : Hp} (h : OffZ Z H H') (n : ∀ x ∈ Z, H x = none) : Same H H' := fun b o e => h b o e fun z => by rw [n b z] at e; cases e
def leafD : PyData → Prop | .none => True | .bool _ => True | .int _ => True | .str _ => True | _ => False
inductive OwnsAll (F : V → PyData → List Addr → Prop) : List V → List PyData → List Addr → Prop
  | nil : OwnsAll F [] [] []
  | cons {x : V} {xs : List V} {d : PyData} {ds : List PyData} {S T : List Addr} : F x d S → OwnsAll F xs ds T → (∀ a ∈ S, a ∉ T) → OwnsAll F (x :: xs) (d :: ds) (S ++ T)
/-- v tells d in H; its lists are S, each once; k deep -/
def OwnV (K : PySem.W.Frag) : Nat → Hp → V → PyData → List Addr → Prop
  | 0, _, _, _, _ => False
  | k + 1, H, v, d, S => (leafD d ∧ Dp K H v d ∧ S = []) ∨
      (∃ a xs ds T, v = .ref a ∧ d = .list ds ∧ H a = some (.lst xs) ∧ ds.length ≤ 1000 ∧ S = a :: T ∧ a ∉ T ∧ OwnsAll (OwnV K k H) xs ds T) ∨
      (∃ a xs ds, v = .ref a ∧ d = .tuple ds ∧ SqT K H a xs ∧ ds.length ≤ 1000 ∧ OwnsAll (OwnV K k H) xs ds S)
section
variable {K : PySem.W.Frag} {H H' : Hp} {Z : List Addr}
theorem OwnsAll.imp {F G : V → PyData → List Addr → Prop} {xs : List V} {ds : List PyData} {T : List Addr} (h : OwnsAll F xs ds T) : (∀ x d S, F x d S → (∀ a ∈ S, a ∈ T) → G x d S) → OwnsAll G xs ds T := by
  induction h with
  | nil => intro _; exact .nil
  | cons f t n ih =>
    intro k
    exact .cons (k _ _ _ f fun a ha => List.mem_append_left _ ha) (ih fun x d S g hs => k x d S g fun a ha => List.mem_append_right _ (hs a ha)) n
theorem OwnsAll.length {F : V → PyData → List Addr → Prop} {xs : List V} {ds : List PyData} {T : List Addr} (h : OwnsAll F xs ds T) : xs.length = ds.length := by
  induction h with
  | nil => rfl
  | cons f t n ih => simp [ih]
theorem dp_leaf {v : V} {d : PyData} (l : leafD d) (h : Dp K H v d) : Dp K H' v d := by
  cases h with
  | non => exact .non
  | bl b => exact .bl b
  | int i => exact .int i
  | str z => exact .str z
  | lst _ _ => exact l.elim
  | tup _ _ => exact l.elim
theorem offZ_seqT {a : Addr} {xs : List V} (hZ : ∀ x ∈ Z, ∃ ys, H x = some (.lst ys)) (o : OffZ Z H H') (h : SqT K H a xs) : SqT K H' a xs := by
  rcases h with h | h
  · rcases h with h | ⟨u, h⟩
    · exact .inl (.inl (o _ _ h fun z => by obtain ⟨ys, e⟩ := hZ _ z; rw [h] at e; cases e))
    · exact .inl (.inr ⟨u, o _ _ h fun z => by obtain ⟨ys, e⟩ := hZ _ z; rw [h] at e; cases e⟩)
  · exact .inr h
/-- elsewhere lists have changed -/
theorem OwnV.off (hZ : ∀ x ∈ Z, ∃ ys, H x = some (.lst ys)) (o : OffZ Z H H') : ∀ {k : Nat} {v : V} {d : PyData} {S : List Addr}, (∀ a ∈ S, a ∉ Z) → OwnV K k H v d S → OwnV K k H' v d S
  | k + 1, v, d, S, hS, .inl ⟨l, h, e⟩ => .inl ⟨l, dp_leaf l h, e⟩
  | k + 1, v, d, S, hS, .inr (.inl ⟨a, xs, ds, T, e1, e2, e3, e4, e5, e6, e7⟩) => by
    subst e5
    exact .inr (.inl ⟨a, xs, ds, T, e1, e2, o _ _ e3 (hS a List.mem_cons_self), e4, rfl, e6, e7.imp fun x d S' h hs => OwnV.off hZ o (fun b hb => hS b (List.mem_cons_of_mem _ (hs b hb))) h⟩)
  | k + 1, v, d, S, hS, .inr (.inr ⟨a, xs, ds, e1, e2, e3, e4, e5⟩) => .inr (.inr ⟨a, xs, ds, e1, e2, offZ_seqT hZ o e3, e4, e5.imp fun x d S' h hs => OwnV.off hZ o (fun b hb => hS b (hs b hb)) h⟩)
theorem OwnV.mono (s : Same H H') {k : Nat} {v : V} {d : PyData} {S : List Addr} (h : OwnV K k H v d S) : OwnV K k H' v d S := OwnV.off (Z := []) (fun _ h => by cases h) (OffZ.of s) (fun _ _ h => by cases h) h
theorem OwnsAll.off {k : Nat} (hZ : ∀ x ∈ Z, ∃ ys, H x = some (.lst ys)) (o : OffZ Z H H') {xs : List V} {ds : List PyData} {T : List Addr} (hT : ∀ a ∈ T, a ∉ Z) (h : OwnsAll (OwnV K k H) xs ds T) : OwnsAll (OwnV K k H') xs ds T :=
  h.imp fun x d S' h hs => OwnV.off hZ o (fun b hb => hT b (hs b hb)) h
theorem OwnsAll.mono {k : Nat} (s : Same H H') {xs : List V} {ds : List PyData} {T : List Addr} (h : OwnsAll (OwnV K k H) xs ds T) : OwnsAll (OwnV K k H') xs ds T := h.imp fun x d S' h hs => h.mono s
theorem OwnsAll.all {F : V → PyData → List Addr → Prop} {P : Addr → Prop} {xs : List V} {ds : List PyData} {T : List Addr} (h : OwnsAll F xs ds T) : (∀ x d S, F x d S → ∀ a ∈ S, P a) → ∀ a ∈ T, P a := by
  induction h with
  | nil => intro _ a ha; cases ha
  | cons f t n ih =>
    intro k a ha
    rcases List.mem_append.mp ha with h | h
    · exact k _ _ _ f a h
    · exact ih k a h
/-- the lists are lists -/
theorem OwnV.lists : ∀ {k : Nat} {v : V} {d : PyData} {S : List Addr}, OwnV K k H v d S → ∀ a ∈ S, ∃ ys, H a = some (.lst ys)
  | k + 1, v, d, S, .inl ⟨_, _, e⟩, a, ha => by subst e; cases ha
  | k + 1, v, d, S, .inr (.inl ⟨b, xs, ds, T, e1, e2, e3, e4, e5, e6, e7⟩), a, ha => by
    subst e5
    rcases List.mem_cons.mp ha with rfl | h
    · exact ⟨xs, e3⟩
    · exact e7.all (fun x d S f => OwnV.lists f) a h
  | k + 1, v, d, S, .inr (.inr ⟨b, xs, ds, e1, e2, e3, e4, e5⟩), a, ha => e5.all (fun x d S f => OwnV.lists f) a ha
theorem OwnsAll.lists {k : Nat} {xs : List V} {ds : List PyData} {T : List Addr} (h : OwnsAll (OwnV K k H) xs ds T) : ∀ a ∈ T, ∃ ys, H a = some (.lst ys) := h.all fun _ _ _ f => OwnV.lists f
/-- as data -/
theorem OwnsAll.dpAll {F : V → PyData → List Addr → Prop} {xs : List V} {ds : List PyData} {T : List Addr} (h : OwnsAll F xs ds T) : (∀ x d S, F x d S → Dp K H x d) → DpAll K H xs ds := by
  induction h with
  | nil => intro _; exact .nil
  | cons f t n ih => intro k; exact .cons (k _ _ _ f) (ih k)
theorem OwnV.dp : ∀ {k : Nat} {v : V} {d : PyData} {S : List Addr}, OwnV K k H v d S → Dp K H v d
  | k + 1, v, d, S, .inl ⟨_, h, _⟩ => h
  | k + 1, v, d, S, .inr (.inl ⟨b, xs, ds, T, e1, e2, e3, e4, e5, e6, e7⟩) => by
    subst e1 e2
    exact .lst (SqL.of e3) (e7.dpAll fun x d S f => OwnV.dp f)
  | k + 1, v, d, S, .inr (.inr ⟨b, xs, ds, e1, e2, e3, e4, e5⟩) => by
    subst e1 e2
    exact .tup e3 (e5.dpAll fun x d S f => OwnV.dp f)
theorem OwnV.nodup_nil {k : Nat} {v : V} {d : PyData} (l : leafD d) (h : Dp K H v d) : OwnV K (k + 1) H v d [] := .inl ⟨l, h, rfl⟩
theorem OwnsAll.app {F : V → PyData → List Addr → Prop} {xs ys : List V} {ds es : List PyData} {S T : List Addr} (a : OwnsAll F xs ds S) (b : OwnsAll F ys es T) (n : ∀ x ∈ S, x ∉ T) : OwnsAll F (xs ++ ys) (ds ++ es) (S ++ T) := by
  induction a with
  | nil => exact b
  | @cons x xs d ds S1 S2 f t m ih =>
    rw [List.append_assoc]
    exact .cons f (ih fun x hx => n x (List.mem_append_right _ hx)) fun c hc hd => by
      rcases List.mem_append.mp hd with h | h
      · exact m c hc h
      · exact n c (List.mem_append_left _ hc) h
theorem OwnsAll.snoc {F : V → PyData → List Addr → Prop} {xs : List V} {ds : List PyData} {S T : List Addr} {y : V} {e : PyData} (a : OwnsAll F xs ds S) (b : F y e T) (n : ∀ x ∈ S, x ∉ T) : OwnsAll F (xs ++ [y]) (ds ++ [e]) (S ++ T) := by
  have h : OwnsAll F [y] [e] (T ++ []) := .cons b .nil fun _ _ h => by cases h
  rw [List.append_nil] at h
  exact a.app h n
/-- a thing without lists: it stays where lists change -/
def noList : PyData → Prop | .list _ => False | .tuple ds => ∀ d ∈ ds, leafD d | .dict _ => False | _ => True
theorem leaves_own {k : Nat} : ∀ {xs : List V} {ds : List PyData}, (∀ d ∈ ds, leafD d) → DpAll K H xs ds → OwnsAll (OwnV K (k + 1) H) xs ds []
  | _, [], _, .nil => .nil
  | _, d :: ds, h, .cons a t => OwnsAll.cons (S := []) (T := []) (.inl ⟨h d List.mem_cons_self, a, rfl⟩) (leaves_own (fun x hx => h x (List.mem_cons_of_mem _ hx)) t) (fun _ h => by cases h)
theorem noList_own {k : Nat} {v : V} {d : PyData} (n : noList d) (l : ∀ ds, d = .tuple ds → ds.length ≤ 1000) (h : Dp K H v d) : OwnV K (k + 2) H v d [] := by
  cases d with
  | none => exact .inl ⟨trivial, h, rfl⟩
  | bool b => exact .inl ⟨trivial, h, rfl⟩
  | int i => exact .inl ⟨trivial, h, rfl⟩
  | str s => exact .inl ⟨trivial, h, rfl⟩
  | list ds => exact n.elim
  | tuple ds =>
    cases h with
    | @tup a xs _ hs ha => exact .inr (.inr ⟨a, xs, ds, rfl, rfl, hs, l ds rfl, leaves_own n ha⟩)
  | dict e => exact n.elim
theorem noLists_own {k : Nat} : ∀ {xs : List V} {ds : List PyData}, (∀ d ∈ ds, noList d ∧ ∀ es, d = .tuple es → es.length ≤ 1000) → DpAll K H xs ds → OwnsAll (OwnV K (k + 2) H) xs ds []
  | _, [], _, .nil => .nil
  | _, d :: ds, h, .cons a t => OwnsAll.cons (S := []) (T := []) (noList_own (h d List.mem_cons_self).1 (h d List.mem_cons_self).2 a) (noLists_own (fun x hx => h x (List.mem_cons_of_mem _ hx)) t) (fun _ h => by cases h)
end
end Hk

set_option Elab.async false
set_option linter.all false
set_option maxRecDepth 100000
/-! a dict display with keys None, ints and texts, read at once -/
namespace Hk
open L2
open PySem PySem.Spec PyProof.Rows
def nkV : Option Key → V
  | none => .non
  | some k => kV k
theorem nkV_is {P : Program} {w : World} {k : Option Key} {u : Value} (r : RelV (nkV k) u) : (noneKind P w).is k u = true := by
  cases k with
  | none => cases (show u = Value.none from r); rfl
  | some k => exact kV_is (P := P) (w := w) r
def lookN (kvs : List (Option Key × V)) (k : Option Key) : Option V := (kvs.find? fun kv => kv.1 = k).map (·.2)
theorem n_carries {P : Program} {w : World} : ∀ {kvs : List (Option Key × V)} {ws : List (Value × Value)}, VV (kvs.map fun kv => (nkV kv.1, kv.2)) ws → ∃ rs, Carries (noneKind P w) ws rs ∧ Paired (fun (p : Option Key × V) (q : Option Key × Value) => p.1 = q.1 ∧ RelV p.2 q.2) kvs rs
  | [], _, r => by
    rw [List.map_nil] at r
    cases r
    exact ⟨[], trivial, Paired.nil⟩
  | p :: kvs, _, r => by
    rw [List.map_cons] at r
    cases r with
    | @cons a b as bs h t =>
      obtain ⟨rs, c, q⟩ := n_carries (P := P) (w := w) t
      obtain ⟨b1, b2⟩ := b
      exact ⟨(p.1, b2) :: rs, ⟨nkV_is h.1, rfl, c⟩, .cons ⟨rfl, h.2⟩ q⟩
theorem merged_nodup : ∀ (more acc : List (Option Key × Value)), ((acc ++ more).map (·.1)).Nodup → merged acc more = acc ++ more
  | [], acc, _ => by simp [merged]
  | p :: r, acc, h => by
    have e : stored acc p.1 p.2 = acc ++ [p] := by
      unfold stored
      rw [if_neg]
      intro z
      obtain ⟨q, hq, e⟩ := List.any_eq_true.mp z
      have e2 := of_decide_eq_true e
      rw [List.map_append, List.map_cons, List.nodup_append] at h
      exact h.2.2 q.1 (List.mem_map_of_mem hq) p.1 List.mem_cons_self e2
    show merged (stored acc p.1 p.2) r = _
    rw [e, merged_nodup r (acc ++ [p]) (by simpa using h)]
    simp
theorem n_value {kvs : List (Option Key × V)} {rs : List (Option Key × Value)} (h : Paired (fun (p : Option Key × V) (q : Option Key × Value) => p.1 = q.1 ∧ RelV p.2 q.2) kvs rs) {k : Option Key} {v : V} (e : lookN kvs k = some v) : ∃ u, valueAt rs k = some u ∧ RelV v u := by
  induction h with
  | nil => simp [lookN] at e
  | @cons p q ps qs r t ih =>
    unfold lookN at e
    unfold valueAt
    rw [List.find?_cons] at e ⊢
    obtain ⟨r1, r2⟩ := r
    by_cases c : p.1 = k
    · have c2 : q.1 = k := r1.symm.trans c
      rw [decide_eq_true c] at e
      rw [decide_eq_true c2]
      cases e
      exact ⟨_, rfl, r2⟩
    · have c2 : ¬ q.1 = k := fun z => c (r1.trans z)
      rw [decide_eq_false c] at e
      rw [decide_eq_false c2]
      exact ih e
theorem n_keys {kvs : List (Option Key × V)} {rs : List (Option Key × Value)} (h : Paired (fun (p : Option Key × V) (q : Option Key × Value) => p.1 = q.1 ∧ RelV p.2 q.2) kvs rs) : rs.map (·.1) = kvs.map (·.1) := by
  induction h with
  | nil => rfl
  | cons r t ih => rw [List.map_cons, List.map_cons, ih, r.1]
/-- {k: v, ..}[x] -/
def tNd (trs : List (TE × TE)) (te : TE) : TE := fun σ H Q => tPairs trs σ H fun ps H2 => ∃ kvs : List (Option Key × V), ps = kvs.map (fun kv => (nkV kv.1, kv.2)) ∧ (kvs.map (·.1)).Nodup ∧ te σ H2 fun x H3 => ∃ k v, x = nkV k ∧ lookN kvs k = some v ∧ Q v H3
theorem pe_ndIx {X : Cx} {pos pos2 : Pos} {keys : List (Option Expr)} {values : List Expr} {trs : List (TE × TE)} {b : Expr} {te : TE} (h : PPs X pos keys values trs) (hall : keys.all (·.isSome) = true) (hl : keys.length = values.length) (h0 : keys ≠ [])
    (h15 : keys.length ≤ 15) (hb : PE X b te) (hs : PlainIx b) : PE X (.Subscript (.Dict keys values pos) b pos2) (tNd trs te) := by
  constructor
  intro pins s σ H Q I q
  have unlaid : H s.heap.objs.size = none := I.hok.fresh (Nat.le_refl _)
  refine Subscript_ ?_
  have I1 : Inv X pins σ H { s with heap := s.heap.push { cls := .type "dict", data := .dict #[] } } := I.kept (h' := s.heap.push { cls := .type "dict", data := .dict #[] }) (t' := s.toks) fun _ _ q => Heap.get?_push_of_some _ q
  have J1 : Inv X (pins ++ [(s.heap.objs.size, { cls := .type "dict", data := .dict #[] })]) σ H { s with heap := s.heap.push { cls := .type "dict", data := .dict #[] } } := I1.pins_of fun p hp => by
    rcases List.mem_append.mp hp with hp | hp
    · exact I1.pin p (List.mem_append_right _ hp)
    · simp only [List.mem_cons, List.not_mem_nil, or_false] at hp
      subst hp
      exact ⟨Heap.get?_push_size _ rfl, unlaid, fun z => by have h1 := I.lt; rw [← (show s.heap.objs.size = X.env.locals from z)] at h1; exact Nat.lt_irrefl _ h1, I.nofs (Nat.le_refl _), fun v z => by cases z⟩
  refine wpAny_Dict_walk (knd := noneKind X.prog X.w) hall hl h0 h15 (thn (h.run _ _ σ _ _ J1 q) fun ws s2 ⟨ps, H2, I2, rel, kvs, ep, nd, q2⟩ => ?_)
  subst ep
  obtain ⟨rs, c, rk⟩ := n_carries (P := X.prog) (w := X.w) rel
  have pin2 := I2.pin (s.heap.objs.size, { cls := .type "dict", data := .dict #[] }) (by simp)
  refine ⟨rs, c, ⟨_, #[], 0, pin2.1, ⟨rfl, rfl, rfl⟩, rfl, ?_, ?_, List.nodup_nil⟩, fun h' dd' hsb => ?_⟩
  · intro e he
    simp at he
  · exact .nil
  · have I3p : Inv X pins σ H2 s2 := I2.unpinned
    have I3 : Inv X pins σ H2 { s2 with heap := h', toks := s2.toks + ws.length } := I3p.turned (it := s.heap.objs.size) (fun b o nb e => by first | exact (hsb.2 b nb).trans e | exact (hsb.get? nb).trans e) pin2.2.1 pin2.2.2.1 (.inr I.sz) (fun x c e z => by
      obtain ⟨_, oc, ho, _⟩ := I.cell x c e
      rw [z] at ho
      exact Nat.lt_irrefl _ (Heap.lt_size ho)) (fun p hp z => by
      have ho := (I.pin p hp).1
      rw [z] at ho
      exact Nat.lt_irrefl _ (Heap.lt_size ho))
    have mg : merged [] rs = rs := by
      have e := n_keys rk
      have z := merged_nodup rs [] (by rw [List.nil_append, e]; exact nd)
      simpa using z
    rw [mg] at dd'
    obtain ⟨o, es, ep, ho, hx, hd, hk, hp, hnd⟩ := dd'
    have J3 : Inv X (pins ++ [(s.heap.objs.size, o)]) σ H2 { s2 with heap := h', toks := s2.toks + ws.length } := I3.pins_of fun p hp => by
      rcases List.mem_append.mp hp with hp | hp
      · exact I3.pin p (List.mem_append_right _ hp)
      · simp only [List.mem_cons, List.not_mem_nil, or_false] at hp
        subst hp
        exact ⟨ho, pin2.2.1, pin2.2.2.1, pin2.2.2.2.1, fun v z => by
          have z2 : o.data = .cell v := z
          rw [hd] at z2; cases z2⟩
    refine thn (hb.run _ _ σ H2 _ J3 q2) fun u s3 ⟨x, H3, I4, rx, k, v, ex, lk, q3⟩ => ?_
    subst ex
    have pin3 := I4.pin (s.heap.objs.size, o) (by simp)
    have d3 : s3.heap.DictOf (noneKind X.prog X.w) s.heap.objs.size rs := ⟨o, es, ep, pin3.1, hx, hd, hk, hp, hnd⟩
    obtain ⟨uu, hv, ru⟩ := n_value rk lk
    have I5 : Inv X pins σ H3 s3 := I4.unpinned
    exact tail_any d3.mapOf.typeIs slot_dict_getitem.lookup (wpAny_getItem_of (nkV_is rx) d3.mapOf hv ⟨v, H3, I5.tok _, ru, q3⟩) (hs _ _)
end Hk

set_option Elab.async false
set_option linter.all false
set_option maxRecDepth 100000
/-! list + list, both only read -/
namespace Hk
open L2
open PySem PySem.Spec PyProof.Rows
section
variable {X : Cx}
def rCatR (K : PySem.W.Frag) : R2 := fun x y H Q => ∃ l b xs zs, x = .ref l ∧ y = .ref b ∧ SqL K H l xs ∧ SqL K H b zs ∧ xs.length + zs.length ≤ sizeLine ∧ ∀ p, H p = none → Q (.ref p) (upd H p (.lst (xs ++ zs)))
theorem op_catR : OpR X (binaryOp .Add) (rCatR X.K) := by
  intro pins s σ H x y v u Q I rx ry h
  obtain ⟨l, b, xs, zs, rfl, rfl, hH, hB, hz, q⟩ := h
  cases rx
  cases ry
  obtain ⟨its, r, pl, _⟩ := I.list hH
  obtain ⟨its2, r2, pl2, _⟩ := I.list hB
  obtain ⟨⟨cls, dd, data, sl⟩, ho, hc, n, hd⟩ := pl.isList
  obtain ⟨⟨cls2, dd2, data2, sl2⟩, ho2, hc2, n2, hd2⟩ := pl2.isList
  simp only at hc hd hc2 hd2
  subst hc hd hc2 hd2
  have hl := r.length
  have hl2 := r2.length
  have e : its.toArray ++ its2.toArray = (its ++ its2).toArray := by simp
  refine concat_meets ⟨_, ho, rfl⟩ ⟨_, ho2, rfl⟩ noFill_list_add seq_list_add PySem.F.slot_list_add PySem.F.entry_list_add (PySem.F.args_list_add_2 _ _)
    (list_addW l b its.toArray its2.toArray n n2 dd dd2 sl sl2 (by simp; omega)) ⟨ho, ho2, ?_⟩
  rw [e]
  exact ⟨.ref _, _, I.lnew (t' := s.toks) (r.append r2) (by rw [List.length_append]; omega), rfl, q _ I.fresh⟩
end
end Hk



namespace T
section
variable {P : Program} {w : World} {K : PySem.W.Frag} {mg : Str → Option Value} {base : Heap} {C : Addr}
section
variable {J : It} {n : Nat} {G : Hp → Prop} {Y : Nat → Hp → V → Hp → Prop} {g : TG} {te : TE} {vs : List Nat} {σ : L2.St} {H1 : Hp} {D : Addr} {Qd : Hp → Prop}
/-- as lc_rel; the body knows the list under way -/
theorem lc_relD (w : L2.Walk J n G Y) (R : Nat → V → Hp → Prop) (hD : H1 D = none) (few : n < sizeLine) (hG : ∀ H', Same H1 H' → G H') (hY : ∀ i H x H', Y i H x H' → Same H H')
    (hR : ∀ i y H H' acc, H D = some (.lst acc) → But D H H' → R i y H → R i y H')
    (body : ∀ i x H' H2 acc, i < n → Same H1 H' → Y i H' x H2 → H2 D = some (.lst acc) → ∀ Q' : VK, (∀ y H3, Same H2 H3 → R i y H3 → Q' y H3) → g x (wipe σ vs) H2 fun σ2 H3 => wipe σ2 vs = wipe σ vs ∧ te σ2 H3 Q')
    (done : ∀ ys H', Same H1 H' → H' D = some (.lst ys) → ys.length = n → (∀ i y, ys[i]? = some y → R i y H') → Qd H') :
    ∃ W : Nat → Nat → Hp → Prop, (∃ m, W 0 m (upd H1 D (.lst []))) ∧ ∀ i m H, W i m H →
      (J.stop i H ∧ Qd H) ∨ (J.go i H ∧ ∃ Nx : Hp → Prop, (∀ H', Nx H' → ∃ m', m' < m ∧ W (i + 1) m' H') ∧ ∀ x H', J.yld i H x H' → g x (wipe σ vs) H' fun σ2 H2 => wipe σ2 vs = wipe σ vs ∧ tYes σ2 H2 fun b H3 =>
        if b = true then te σ2 H3 fun y H4 => ∃ acc, H4 D = some (.lst acc) ∧ acc.length < sizeLine ∧ Nx (upd H4 D (.lst (acc ++ [y]))) else Nx H3) := by
  refine lc_it w (fun i H => Same H1 H ∧ ∃ ys, H D = some (.lst ys) ∧ ys.length = i ∧ ∀ j y, ys[j]? = some y → R j y H) ⟨same_new hD, [], upd_same, rfl, fun j y e => by simp at e⟩ (fun i H _ h => hG H h.1) ?_ ?_
  · rintro i x H H2 lt ⟨s1, ys, e, l, r⟩ y
    have s2 := hY i H x H2 y
    have z := body i x H H2 ys lt s1 y (s2 _ _ e) (fun y H4 => ∃ acc, H4 D = some (.lst acc) ∧ acc.length < sizeLine ∧ (Same H1 (upd H4 D (.lst (acc ++ [y]))) ∧ ∃ ys, upd H4 D (.lst (acc ++ [y])) D = some (.lst ys) ∧ ys.length = i + 1 ∧ ∀ j y', ys[j]? = some y' → R j y' (upd H4 D (.lst (acc ++ [y]))))) ?_
    · exact z
    · intro y H4 s4 ry
      have e4 : H4 D = some (.lst ys) := s4 _ _ (s2 _ _ e)
      have bt : ∀ o, But D H4 (upd H4 D o) := fun o b u h hb => by rw [upd_ne hb]; exact h
      refine ⟨ys, e4, by omega, fun b o h => ?_, ys ++ [y], upd_same, by simp [l], fun j y' hj => ?_⟩
      · have hb : b ≠ D := ne_of_none h hD
        rw [upd_ne hb]
        exact s4 _ _ (s2 _ _ (s1 _ _ h))
      · refine hR j y' H4 _ ys e4 (bt _) ?_
        rw [List.getElem?_append] at hj
        split at hj
        · refine hR j y' H H4 ys e (fun b o h hb => s4 _ _ (s2 _ _ h)) (r j y' hj)
        · rename_i hge
          have : j = i := by
            rcases Nat.lt_trichotomy j i with z | z | z
            · omega
            · exact z
            · rw [List.getElem?_eq_none (by simp; omega)] at hj; cases hj
          subst this
          simp [l] at hj
          subst hj
          exact ry
  · rintro H ⟨s1, ys, e, l, r⟩
    exact done ys H s1 e l r
end
abbrev rListOf (K : PySem.W.Frag) : List V → Hp → VK → Prop := fun xs H Q => ∃ p ys, xs = [V.ref p] ∧ (SqL K H p ys ∨ SqT K H p ys) ∧ ∀ l, H l = none → Q (.ref l) (upd H l (.lst ys))
theorem ok_Build_rights (B : Bl mg) (T : BCls K C) (d : MethAt K C "rights" "Build.rights" s_Build_rights ["self"]) : MCal P w K mg base 1 C "rights" ["self"] (spGet K C fun b H v H' => Dp K H' v b.rights) := d.cal fun f fd F => by
  refine F.ok sc_Build_rights (fun vs H Q E h => ?_) (fun cdv A outer s H vs Q E hr h => ?_)
  · obtain ⟨p, b, rfl, _⟩ := h; rfl
  · obtain ⟨p, b, rfl, ⟨ok, dx, fs, q0, kvs, e1, e2, e3, e4, e5⟩, q⟩ := h
    have hu := hu_of hr
    refine ⟨_, (pss_one (ps_ret (pe_lc (own := [("row", 1)]) (tt := tYes) rfl sc_Build_rights.nd (pi_tup (pe_dget hu (pe_fld (pv 0) rfl) pe_str (fun _ _ => rfl))) (blkOk_by (N := ["self", "row"]) (sc := defScope s_Build_rights) (by decide +kernel)) (fun _ _ _ _ _ => (pg_name (i := 1) sc_Build_rights.nd rfl (Or.inl rfl))) (fun _ _ _ _ _ => pts_nil) (fun _ _ _ _ _ => (pe_callTy (show CallR _ _ (rListOf K) from call_list_of) rfl B.list_ hb_list (pa_cons (pv 1) pa_nil)))))), ?_⟩
    walk_at "st0"
    obtain ⟨v, g1, g2⟩ := pairedKV_get (z := "rights") e4 rfl
    obtain ⟨rds, er, rl, rall⟩ := okRightsL ok.rights
    have ln : rds.length ≤ 1000 := by
      have z : cnt (cOf b) "task" ≤ 100 := by
        obtain ⟨tds, et, _, t4, _⟩ := okTasksL ok.tasks
        unfold cOf
        split
        · rename_i t p q l d h1 h2 h3 h4 h5
          rw [et] at h1; cases h1
          show (tds.length : Int) ≤ 100
          omega
        · show (0 : Int) ≤ 100
          omega
      omega
    rw [er] at g2
    cases g2 with
    | @tup a xs _ hs ha =>
    have lx := ha.length
    rw [List.length_map] at lx
    refine ⟨.ref p, rfl, ⟨p, C, dx, fs, _, rfl, e1, T.cls, T.n_parts, e2, ?_⟩⟩
    walk_at "st"
    refine ⟨q0, _, rfl, by rw [← g1]; exact DGet.k (k := Sum.inr "rights") e3, a, rfl, ⟨xs, hs⟩, fun D nD => lc_relD walk_tup (fun i y Hh => ∃ (l : Addr) (ys : List V) (es : List PyData), y = .ref l ∧ l ≠ D ∧ Hh l = some (.lst ys) ∧ rds[i]? = some (.list es) ∧ DpAll K H ys es) nD (sz1000 (by omega)) (fun H2 s => Same.sqT s hs) yat_same ?_ ?_ ?_⟩
    · rintro i y Ha Hb acc e bt ⟨l, ys, es, rfl, nl, h1, h2, h3⟩
      exact ⟨l, ys, es, rfl, nl, bt _ _ h1 nl, h2, h3⟩
    · rintro i x H' H2 acc lt s y eD Q' k
      obtain ⟨rfl, e⟩ := y
      obtain ⟨d2, ed, hd2⟩ := ha.get' e
      rw [List.getElem?_map] at ed
      cases er2 : rds[i]? with
      | none => rw [er2] at ed; cases ed
      | some d3 =>
        rw [er2] at ed
        cases ed
        obtain ⟨es, rfl⟩ := rall d3 (List.mem_of_getElem? er2)
        cases hd2 with
        | @tup ta ys _ ht hta =>
        refine q_gname ⟨rfl, ?_⟩
        walk_at "st"
        refine ⟨ta, ys, rfl, .inr (Same.sqT s ht), fun l nl => ?_⟩
        refine k _ _ (same_new nl) ⟨l, ys, es, rfl, fun z => ?_, upd_same, er2, hta⟩
        rw [z, eD] at nl; cases nl
    · intro ys H3 s3 eD lD hR
      refine q _ _ s3 ?_
      show Dp K H3 (.ref D) b.rights
      rw [er]
      refine .lst (SqL.of eD) (dpAll_of (by omega) fun i x d ex ed => ?_)
      obtain ⟨l, zs, es, rfl, _, h1, h2, h3⟩ := hR i x ex
      rw [h2] at ed; cases ed
      exact .lst (SqL.of h1) (L2.DpAll.mono s3 h3)
end
end T



namespace T
local macro_rules | `(tactic| walk_at "sm") => `(tactic| (repeat (first | (walk_at "s1"; try dsimp only [List.set_cons_zero, List.set_cons_succ, List.append_nil, List.cons_append, List.nil_append, cxOf]) | ((with_reducible refine iteT' ?hh ?_); (case hh => rfl)) | ((with_reducible refine iteF' ?hh ?_); (case hh => rfl)) | with_reducible refine q_eq rfl ?_)))
section
variable {P : Program} {w : World} {K : PySem.W.Frag} {mg : Str → Option Value} {base : Heap}
def rIxA (K : PySem.W.Frag) : R2 := fun x y H Q => rIxL K x y H Q ∨ rIxT K x y H Q
theorem ix_any {X : Cx} : IxR X (rIxA X.K) := fun value slice pins s σ H x y v u Q I rx ry h e => h.elim (fun h => ix_list value slice pins s σ H x y v u Q I rx ry h e) (fun h => ix_tup value slice pins s σ H x y v u Q I rx ry h e)
def spSame (K : PySem.W.Frag) (k : Nat) : Sp := fun vs H Q _ => ∃ (v1 v2 : V) (d1 d2 : PyData), vs = [v1, v2] ∧ Dp K H v1 d1 ∧ Dp K H v2 d2 ∧ depN k d2 ∧ ∀ b : Bool, (b = true ↔ d1 = d2) → Q (.bl b) H
theorem bl_dec {x y : V} {b : Bool} (h : b = decide (x = y)) : b = true ↔ x = y := by subst h; exact decide_eq_true_iff
/-- a list or a tuple -/
def SqA (K : PySem.W.Frag) (H : Hp) (v : V) (xs : List V) : Prop := ∃ a, v = .ref a ∧ (SqL K H a xs ∨ SqT K H a xs)
theorem q_lenA {K : PySem.W.Frag} {H : Hp} {Q : VK} {v : V} {xs : List V} (h : SqA K H v xs) (q : Q (.int xs.length) H) : ∃ p ys, [v] = [V.ref p] ∧ (SqL K H p ys ∨ SqT K H p ys) ∧ Q (.int ys.length) H := by
  obtain ⟨a, rfl, h⟩ := h
  exact ⟨a, xs, rfl, h, q⟩
theorem q_lenR {K : PySem.W.Frag} {H : Hp} {F : List V → Prop} {r : Addr} {xs : List V} (h : SqL K H r xs ∨ SqT K H r xs) (q : F xs) : ∃ p ys, [V.ref r] = [V.ref p] ∧ (SqL K H p ys ∨ SqT K H p ys) ∧ F ys := ⟨r, xs, rfl, h, q⟩
theorem q_ixA {K : PySem.W.Frag} {H : Hp} {Q : VK} {v z : V} {xs : List V} {i : Int} (h : SqA K H v xs) (e : atI xs i = some z) (q : Q z H) : rIxA K v (.int i) H Q := by
  obtain ⟨a, rfl, h | h⟩ := h
  · exact .inl ⟨a, xs, i, z, rfl, rfl, h, e, q⟩
  · exact .inr ⟨a, xs, i, z, rfl, rfl, h, e, q⟩
/-- behind the kinds: the lengths, the items -/
theorem take_eq {α : Type} {a b : List α} (l : a.length = b.length) : a = b ↔ ∀ i, i < b.length → a[i]? = b[i]? := by
  constructor
  · rintro rfl i _; rfl
  · intro h
    refine List.ext_getElem? fun i => ?_
    by_cases c : i < b.length
    · exact h i c
    · rw [List.getElem?_eq_none (by omega), List.getElem?_eq_none (by omega)]
theorem ok_law_same (B : Bl mg) (d : DefAt K mg "_law_same" s__law_same ["_law_one", "_law_two"]) : ∀ k, Cal P w K mg base k "_law_same" ["_law_one", "_law_two"] (spSame K k)
  | 0 => by
    obtain ⟨f, fd, F, g, b⟩ := d.ex
    exact ⟨f, fd, g, F.kp, b, ⟨fun vs H Q E h => by obtain ⟨v, _, d, _, _, _, _, h, _⟩ := h; exact h.elim, fun A outer s H args us vs Q E _ _ _ _ h => by obtain ⟨v, _, d, _, _, _, _, h, _⟩ := h; exact h.elim⟩⟩
  | k + 1 => by
    have c__law_same := ok_law_same B d k
    refine d.cal fun f fd F => ?_
    refine F.ok sc__law_same (fun vs H Q E h => ?_) (fun cdv A outer s H vs Q E hr h => ?_)
    · obtain ⟨v1, v2, d1, d2, rfl, _⟩ := h; rfl
    · obtain ⟨v1, v2, d1, d2, rfl, h1, h2, hk, q⟩ := h
      refine ⟨_, (pss_cons (ps_if (PW.pt (pw_or (pt_val (pe_callB call_isi rfl B.isinstance hb_isinstance (pa_cons (pv 0) (pa_cons (pe_bltn (v := .ty "bool") rfl B.bool_ hb_bool rfl) pa_nil)))) (pw_or1 (pt_val (pe_callB call_isi rfl B.isinstance hb_isinstance (pa_cons (pv 1) (pa_cons (pe_bltn (v := .ty "bool") rfl B.bool_ hb_bool rfl) pa_nil))))))) (pss_one (ps_ret (pe_and (pe_callB call_isi rfl B.isinstance hb_isinstance (pa_cons (pv 0) (pa_cons (pe_bltn (v := .ty "bool") rfl B.bool_ hb_bool rfl) pa_nil))) (pe_and (pe_callB call_isi rfl B.isinstance hb_isinstance (pa_cons (pv 1) (pa_cons (pe_bltn (v := .ty "bool") rfl B.bool_ hb_bool rfl) pa_nil))) (pe_one (pe_cmpR op_eq (pv 0) (pv 1) (nomark _))))))) pss_nil)
      (pss_cons (ps_if (pt_cmp (pc_isN (pv 1))) (pss_one (ps_ret (pe_cmp (pc_isN (pv 0))))) pss_nil)
      (pss_cons (ps_if (pt_val (pe_callB call_isi rfl B.isinstance hb_isinstance (pa_cons (pv 1) (pa_cons (pe_bltn (v := .ty "int") rfl B.int_ hb_int rfl) pa_nil)))) (pss_one (ps_ret (pe_and (pe_callB call_isi rfl B.isinstance hb_isinstance (pa_cons (pv 0) (pa_cons (pe_bltn (v := .ty "int") rfl B.int_ hb_int rfl) pa_nil))) (pe_one (pe_cmpR op_eq (pv 0) (pv 1) (nomark _)))))) pss_nil)
      (pss_cons (ps_if (pt_val (pe_callB call_isi rfl B.isinstance hb_isinstance (pa_cons (pv 1) (pa_cons (pe_bltn (v := .ty "str") rfl B.str_ hb_str rfl) pa_nil)))) (pss_one (ps_ret (pe_and (pe_callB call_isi rfl B.isinstance hb_isinstance (pa_cons (pv 0) (pa_cons (pe_bltn (v := .ty "str") rfl B.str_ hb_str rfl) pa_nil))) (pe_one (pe_cmpR op_eq (pv 0) (pv 1) (nomark _)))))) pss_nil)
      (pss_cons (ps_if (PW.pt (pw_and (pt_val (pe_callB call_isi rfl B.isinstance hb_isinstance (pa_cons (pv 1) (pa_cons (pe_bltn (v := .ty "list") rfl B.list_ hb_list rfl) pa_nil)))) (pw_and1 (pt_not (pt_val (pe_callB call_isi rfl B.isinstance hb_isinstance (pa_cons (pv 0) (pa_cons (pe_bltn (v := .ty "list") rfl B.list_ hb_list rfl) pa_nil)))))))) (pss_one (ps_ret pe_bl)) pss_nil)
      (pss_cons (ps_if (PW.pt (pw_and (pt_val (pe_callB call_isi rfl B.isinstance hb_isinstance (pa_cons (pv 1) (pa_cons (pe_bltn (v := .ty "tuple") rfl B.tuple_ hb_tuple rfl) pa_nil)))) (pw_and1 (pt_not (pt_val (pe_callB call_isi rfl B.isinstance hb_isinstance (pa_cons (pv 0) (pa_cons (pe_bltn (v := .ty "tuple") rfl B.tuple_ hb_tuple rfl) pa_nil)))))))) (pss_one (ps_ret pe_bl)) pss_nil)
      (pss_cons (ps_if (pt_cmpR op_ne (pe_callB call_len_seq rfl B.len hb_len (pa_cons (pv 0) pa_nil)) (pe_callB call_len_seq rfl B.len hb_len (pa_cons (pv 1) pa_nil)) (nomark _)) (pss_one (ps_ret pe_bl)) pss_nil)
      (pss_cons (ps_for PassesOwn.never rfl (pi_range1 rfl B.range (pa_cons (pe_callB call_len_seq rfl B.len hb_len (pa_cons (pv 1) pa_nil)) pa_nil)) (pg_name (i := 2) sc__law_same.nd rfl (Or.inl rfl)) (pss_one (ps_if (pt_not (pt_val (pe_cal c__law_same (hr.mono (by omega)) rfl (pa_cons (pe_ix ix_any (pv 0) (pv 2) (fun _ _ => rfl)) (pa_cons (pe_ix ix_any (pv 1) (pv 2) (fun _ _ => rfl)) pa_nil))))) (pss_one (ps_ret pe_bl)) pss_nil)))
      (pss_one (ps_ret pe_bl)))))))))), ?_⟩
      walk_at "st0"
      have a1 := h1
      have a2 := h2
      cases h2 with
      | non => cases h1 <;> (walk_at "sm"; exact q _ (by simp))
      | bl b => cases h1 <;> (walk_at "sm"; exact q _ (by simp))
      | int b => cases h1 <;> (walk_at "sm"; exact q _ (by simp))
      | str b => cases h1 <;> (walk_at "sm"; exact q _ (by simp))
      | @lst p ys es hs2 ha2 =>
        cases h1 with
        | @lst r xs ds hs1 ha1 =>
          walk_at "sm"
          have la := ha1.length
          have lb := ha2.length
          have few : es.length ≤ 1000 ∧ ∀ e ∈ es, depN k e := by
            rcases hk with h | ⟨ds', e, l, hall⟩
            · exact h.elim
            · rcases e with e | e
              all_goals first | (cases e; done) | (cases e; exact ⟨l, hall⟩)
          obtain ⟨l1000, hall⟩ := few
          refine q_lenR (.inl hs1) ?_
          walk_at "st"
          refine q_lenR (.inl hs2) ?_
          walk_at "st"
          refine q_ne rfl ?_
          walk_at "st"
          by_cases hc : xs.length = ys.length
          · have e0 : (V.int (xs.length : Int)) = V.int (ys.length : Int) := by rw [hc]
            rw [decide_eq_true e0]
            refine iteF ?_
            walk_at "st"
            refine q_forRA ?_
            walk_at "st"
            refine q_lenR (.inl hs2) ?_
            walk_at "st"
            refine ⟨_, rfl, by omega, by omega, forR (fun i σ H2 => ∃ o, σ = [some (.ref r), some (.ref p), o] ∧ H2 = H ∧ ∀ j, j < i → ds[j]? = es[j]?) ⟨_, rfl, rfl, fun j h => absurd h (Nat.not_lt_zero j)⟩ (fun i σ H2 lt hI => ?_) (fun σ H2 hI => ?_)⟩
            · obtain ⟨o, rfl, rfl, hj⟩ := hI
              replace lt : i < ys.length := by simpa using lt
              have ex : xs[i]? = some (xs[i]'(by omega)) := List.getElem?_eq_getElem (by omega)
              have ey : ys[i]? = some (ys[i]'(by omega)) := List.getElem?_eq_getElem (by omega)
              generalize xs[i]'(by omega) = x at ex
              generalize ys[i]'(by omega) = y at ey
              obtain ⟨dx, edx, hx⟩ := ha1.get' ex
              obtain ⟨dy, edy, hy⟩ := ha2.get' ey
              have ax : atI xs ((0 : Int) + (i : Int)) = some x := by rw [Int.zero_add]; exact atI_nat ex
              have ay : atI ys ((0 : Int) + (i : Int)) = some y := by rw [Int.zero_add]; exact atI_nat ey
              refine q_gname ?_
              walk_at "st"
              refine q_ixA (xs := xs) ⟨r, rfl, .inl hs1⟩ ax ?_
              walk_at "st"
              refine q_ixA (xs := ys) ⟨p, rfl, .inl hs2⟩ ay ?_
              walk_at "st"
              refine ⟨x, y, dx, dy, rfl, hx, hy, hall dy (List.mem_of_getElem? edy), fun b hb => ?_⟩
              walk_at "st"
              cases b with
              | true =>
                refine iteF ?_
                walk_at "st"
                refine ⟨_, rfl, rfl, fun j hj2 => ?_⟩
                rcases Nat.lt_or_ge j i with h | h
                · exact hj j h
                · have : j = i := by omega
                  subst this
                  rw [edx, edy, hb.mp rfl]
              | false =>
                refine iteT ?_
                walk_at "st"
                refine q _ ⟨(fun z => Bool.noConfusion z), fun z => ?_⟩
                cases z
                rw [edx] at edy
                cases edy
                exact absurd (hb.mpr rfl) (by simp)
            · obtain ⟨o, rfl, rfl, hj⟩ := hI
              walk_at "st"
              refine q _ ⟨fun _ => ?_, fun _ => rfl⟩
              have : ds = es := (take_eq (by omega)).mpr fun i hi => hj i (by simp; omega)
              rw [this]
          · have e0 : ¬ (V.int (xs.length : Int)) = V.int (ys.length : Int) := fun z => hc (by have := V.int.inj z; omega)
            rw [decide_eq_false e0]
            refine iteT ?_
            walk_at "st"
            exact q _ ⟨(fun z => Bool.noConfusion z), fun z => by cases z; omega⟩
        | _ => walk_at "sm"; exact q _ (by simp)
      | @tup p ys es hs2 ha2 =>
        cases h1 with
        | @tup r xs ds hs1 ha1 =>
          walk_at "sm"
          have la := ha1.length
          have lb := ha2.length
          have few : es.length ≤ 1000 ∧ ∀ e ∈ es, depN k e := by
            rcases hk with h | ⟨ds', e, l, hall⟩
            · exact h.elim
            · rcases e with e | e
              all_goals first | (cases e; done) | (cases e; exact ⟨l, hall⟩)
          obtain ⟨l1000, hall⟩ := few
          refine q_lenR (.inr hs1) ?_
          walk_at "st"
          refine q_lenR (.inr hs2) ?_
          walk_at "st"
          refine q_ne rfl ?_
          walk_at "st"
          by_cases hc : xs.length = ys.length
          · have e0 : (V.int (xs.length : Int)) = V.int (ys.length : Int) := by rw [hc]
            rw [decide_eq_true e0]
            refine iteF ?_
            walk_at "st"
            refine q_forRA ?_
            walk_at "st"
            refine q_lenR (.inr hs2) ?_
            walk_at "st"
            refine ⟨_, rfl, by omega, by omega, forR (fun i σ H2 => ∃ o, σ = [some (.ref r), some (.ref p), o] ∧ H2 = H ∧ ∀ j, j < i → ds[j]? = es[j]?) ⟨_, rfl, rfl, fun j h => absurd h (Nat.not_lt_zero j)⟩ (fun i σ H2 lt hI => ?_) (fun σ H2 hI => ?_)⟩
            · obtain ⟨o, rfl, rfl, hj⟩ := hI
              replace lt : i < ys.length := by simpa using lt
              have ex : xs[i]? = some (xs[i]'(by omega)) := List.getElem?_eq_getElem (by omega)
              have ey : ys[i]? = some (ys[i]'(by omega)) := List.getElem?_eq_getElem (by omega)
              generalize xs[i]'(by omega) = x at ex
              generalize ys[i]'(by omega) = y at ey
              obtain ⟨dx, edx, hx⟩ := ha1.get' ex
              obtain ⟨dy, edy, hy⟩ := ha2.get' ey
              have ax : atI xs ((0 : Int) + (i : Int)) = some x := by rw [Int.zero_add]; exact atI_nat ex
              have ay : atI ys ((0 : Int) + (i : Int)) = some y := by rw [Int.zero_add]; exact atI_nat ey
              refine q_gname ?_
              walk_at "st"
              refine q_ixA (xs := xs) ⟨r, rfl, .inr hs1⟩ ax ?_
              walk_at "st"
              refine q_ixA (xs := ys) ⟨p, rfl, .inr hs2⟩ ay ?_
              walk_at "st"
              refine ⟨x, y, dx, dy, rfl, hx, hy, hall dy (List.mem_of_getElem? edy), fun b hb => ?_⟩
              walk_at "st"
              cases b with
              | true =>
                refine iteF ?_
                walk_at "st"
                refine ⟨_, rfl, rfl, fun j hj2 => ?_⟩
                rcases Nat.lt_or_ge j i with h | h
                · exact hj j h
                · have : j = i := by omega
                  subst this
                  rw [edx, edy, hb.mp rfl]
              | false =>
                refine iteT ?_
                walk_at "st"
                refine q _ ⟨(fun z => Bool.noConfusion z), fun z => ?_⟩
                cases z
                rw [edx] at edy
                cases edy
                exact absurd (hb.mpr rfl) (by simp)
            · obtain ⟨o, rfl, rfl, hj⟩ := hI
              walk_at "st"
              refine q _ ⟨fun _ => ?_, fun _ => rfl⟩
              have : ds = es := (take_eq (by omega)).mpr fun i hi => hj i (by simp; omega)
              rw [this]
          · have e0 : ¬ (V.int (xs.length : Int)) = V.int (ys.length : Int) := fun z => hc (by have := V.int.inj z; omega)
            rw [decide_eq_false e0]
            refine iteT ?_
            walk_at "st"
            exact q _ ⟨(fun z => Bool.noConfusion z), fun z => by cases z; omega⟩
        | _ => walk_at "sm"; exact q _ (by simp)
end
end T



namespace T
section
variable {P : Program} {w : World} {K : PySem.W.Frag} {mg : Str → Option Value} {base : Heap}
theorem lc_ownG {J : It} {G : Hp → Prop} {xs : List V} {ds : List PyData} {g : TG} {te : TE} {vs : List Nat} {σ : L2.St} {H1 : Hp} {D : Addr} {Qd : Hp → Prop} {k : Nat} (w : L2.Walk J xs.length G (YAt xs)) (lx : xs.length = ds.length) (few : ds.length ≤ 1000) (hD : H1 D = none) (hG : ∀ H', Same H1 H' → G H')
    (body : ∀ (i : Nat) (x : V) (d : PyData) H', xs[i]? = some x → ds[i]? = some d → Same H1 H' → ∀ Q' : VK, (∀ y S H3, Same H' H3 → OwnV K k H3 y d S → (∀ a ∈ S, H' a = none) → Q' y H3) → g x (wipe σ vs) H' fun σ2 H3 => wipe σ2 vs = wipe σ vs ∧ te σ2 H3 Q')
    (done : ∀ ys T H', Same H1 H' → H' D = some (.lst ys) → OwnsAll (OwnV K k H') ys ds T → (∀ a ∈ T, H1 a = none ∧ a ≠ D) → Qd H') :
    ∃ W : Nat → Nat → Hp → Prop, (∃ m, W 0 m (upd H1 D (.lst []))) ∧ ∀ i m H, W i m H →
      (J.stop i H ∧ Qd H) ∨ (J.go i H ∧ ∃ Nx : Hp → Prop, (∀ H', Nx H' → ∃ m', m' < m ∧ W (i + 1) m' H') ∧ ∀ x H', J.yld i H x H' → g x (wipe σ vs) H' fun σ2 H2 => wipe σ2 vs = wipe σ vs ∧ tYes σ2 H2 fun b H3 =>
        if b = true then te σ2 H3 fun y H4 => ∃ acc, H4 D = some (.lst acc) ∧ acc.length < sizeLine ∧ Nx (upd H4 D (.lst (acc ++ [y]))) else Nx H3) := by
  refine lc_it w (fun i H => Same H1 H ∧ ∃ ys T, H D = some (.lst ys) ∧ OwnsAll (OwnV K k H) ys (ds.take i) T ∧ ∀ a ∈ T, H1 a = none ∧ a ≠ D) ⟨same_new hD, [], [], upd_same, by rw [List.take_zero]; exact .nil, fun _ h => by cases h⟩ (fun i H _ h => hG H h.1) ?_ ?_
  · rintro i x H H2 lt ⟨s1, ys, T, e, ow, nw⟩ ⟨rfl, ex⟩
    have ed : ds[i]? = some (ds[i]'(by omega)) := List.getElem?_eq_getElem (by omega)
    generalize ds[i]'(by omega) = d at ed
    have tk : ds.take (i + 1) = ds.take i ++ [d] := by rw [List.take_add_one, ed]; rfl
    have ly := ow.length
    rw [List.length_take] at ly
    have z := body i x d H2 ex ed s1 (fun y H4 => ∃ acc, H4 D = some (.lst acc) ∧ acc.length < sizeLine ∧ (Same H1 (upd H4 D (.lst (acc ++ [y]))) ∧ ∃ ys T, upd H4 D (.lst (acc ++ [y])) D = some (.lst ys) ∧ OwnsAll (OwnV K k (upd H4 D (.lst (acc ++ [y])))) ys (ds.take (i + 1)) T ∧ ∀ a ∈ T, H1 a = none ∧ a ≠ D)) ?_
    · exact z
    · intro y S H4 s4 oy ny
      have e4 := s4 _ _ e
      have nDS : D ∉ S := fun z => by rw [ny D z] at e; cases e
      have nDT : D ∉ T := fun z => (nw D z).2 rfl
      have hZ : ∀ x ∈ [D], ∃ zs, H4 x = some (.lst zs) := fun x hx => by
        simp only [List.mem_cons, List.not_mem_nil, or_false] at hx
        subst hx; exact ⟨_, e4⟩
      have oZ : OffZ [D] H4 (upd H4 D (.lst (ys ++ [y]))) := OffZ.upd List.mem_cons_self
      have nZ : ∀ {L : List Addr}, D ∉ L → ∀ a ∈ L, a ∉ [D] := fun n a ha hz => by
        simp only [List.mem_cons, List.not_mem_nil, or_false] at hz
        subst hz; exact n ha
      refine ⟨ys, e4, by rw [sizeLine_eq]; omega, fun b o hb => ?_, ys ++ [y], T ++ S, upd_same, ?_, fun a ha => ?_⟩
      · rw [upd_ne (ne_of_none hb hD)]; exact s4 _ _ (s1 _ _ hb)
      · rw [tk]
        refine OwnsAll.snoc ((ow.mono s4).off hZ oZ (nZ nDT)) (oy.off hZ oZ (nZ nDS)) fun a ha hs => ?_
        obtain ⟨zs, ez⟩ := ow.lists a ha
        rw [ny a hs] at ez; cases ez
      · rcases List.mem_append.mp ha with h | h
        · exact nw a h
        · exact ⟨s1.free (ny a h), fun z => nDS (z ▸ h)⟩
  · rintro H ⟨s1, ys, T, e, ow, nw⟩
    rw [lx, List.take_length] at ow
    exact done ys T H s1 e ow nw
theorem lc_own {J : It} {G : Hp → Prop} {xs : List V} {ds : List PyData} {g : TG} {te : TE} {vs : List Nat} {σ : L2.St} {H1 : Hp} {D : Addr} {Qd : Hp → Prop} {k : Nat} (w : L2.Walk J xs.length G (YAt xs)) (hd : DpAll K H1 xs ds) (few : ds.length ≤ 1000) (hD : H1 D = none) (hG : ∀ H', Same H1 H' → G H')
    (body : ∀ x d H', d ∈ ds → Same H1 H' → Dp K H' x d → ∀ Q' : VK, (∀ y S H3, Same H' H3 → OwnV K k H3 y d S → (∀ a ∈ S, H' a = none) → Q' y H3) → g x (wipe σ vs) H' fun σ2 H3 => wipe σ2 vs = wipe σ vs ∧ te σ2 H3 Q')
    (done : ∀ ys T H', Same H1 H' → H' D = some (.lst ys) → OwnsAll (OwnV K k H') ys ds T → (∀ a ∈ T, H1 a = none ∧ a ≠ D) → Qd H') :
    ∃ W : Nat → Nat → Hp → Prop, (∃ m, W 0 m (upd H1 D (.lst []))) ∧ ∀ i m H, W i m H →
      (J.stop i H ∧ Qd H) ∨ (J.go i H ∧ ∃ Nx : Hp → Prop, (∀ H', Nx H' → ∃ m', m' < m ∧ W (i + 1) m' H') ∧ ∀ x H', J.yld i H x H' → g x (wipe σ vs) H' fun σ2 H2 => wipe σ2 vs = wipe σ vs ∧ tYes σ2 H2 fun b H3 =>
        if b = true then te σ2 H3 fun y H4 => ∃ acc, H4 D = some (.lst acc) ∧ acc.length < sizeLine ∧ Nx (upd H4 D (.lst (acc ++ [y]))) else Nx H3) := by
  refine lc_ownG (k := k) w hd.length few hD hG (fun i x d H' ex ed s => ?_) done
  obtain ⟨d', ed', hx⟩ := hd.get' ex
  rw [ed] at ed'
  cases ed'
  exact body x d H' (List.mem_of_getElem? ed) s (L2.Dp.mono s hx)
def spCopyO (K : PySem.W.Frag) (k : Nat) : Sp := fun vs H Q _ => ∃ (v : V) (d : PyData), vs = [v] ∧ Dp K H v d ∧ depN k d ∧ ∀ v' S H', Same H H' → OwnV K k H' v' d S → (∀ a ∈ S, H a = none) → Q v' H'
theorem leafD_of {d : PyData} (h : leaf d) : leafD d := by cases d <;> first | trivial | exact h.elim
theorem ok_law_copyO (B : Bl mg) (d : DefAt K mg "_law_copy" s__law_copy ["_law_thing"]) : ∀ k, Cal P w K mg base k "_law_copy" ["_law_thing"] (spCopyO K k)
  | 0 => by
    obtain ⟨f, fd, F, g, b⟩ := d.ex
    exact ⟨f, fd, g, F.kp, b, ⟨fun vs H Q E h => by obtain ⟨v, d, _, _, h, _⟩ := h; exact h.elim, fun A outer s H args us vs Q E _ _ _ _ h => by obtain ⟨v, d, _, _, h, _⟩ := h; exact h.elim⟩⟩
  | k + 1 => by
    have c__law_copy := ok_law_copyO B d k
    refine d.cal fun f fd F => ?_
    refine F.ok sc__law_copy (fun vs H Q E h => ?_) (fun cdv A outer s H vs Q E hr h => ?_)
    · obtain ⟨v, d, rfl, _⟩ := h; rfl
    · obtain ⟨v, dv, rfl, hd, hk, q⟩ := h
      refine ⟨_, (pss_cons (ps_if (pt_val (pe_callB call_isi rfl B.isinstance hb_isinstance (pa_cons (pv 0) (pa_cons (pe_bltn (v := .ty "list") rfl B.list_ hb_list rfl) pa_nil)))) (pss_one (ps_ret (pe_lc (own := [("_law_part", 1)]) (tt := tYes) rfl sc__law_copy.nd (pi_list (pv 0)) (blkOk_by (N := ["_law_thing", "_law_part"]) (sc := defScope s__law_copy) (by decide +kernel)) (fun _ _ _ _ _ => (pg_name (i := 1) sc__law_copy.nd rfl (Or.inl rfl))) (fun _ _ _ _ _ => pts_nil) (fun _ _ _ _ _ => (pe_cal c__law_copy (hr.mono (by omega)) rfl (pa_cons (pv 1) pa_nil)))))) pss_nil)
      (pss_cons (ps_if (pt_val (pe_callB call_isi rfl B.isinstance hb_isinstance (pa_cons (pv 0) (pa_cons (pe_bltn (v := .ty "tuple") rfl B.tuple_ hb_tuple rfl) pa_nil)))) (pss_one (ps_ret (pe_callTy call_tuple_of rfl B.tuple_ hb_tuple (pa_cons (pe_lc (own := [("_law_part", 1)]) (tt := tYes) rfl sc__law_copy.nd (pi_tup (pv 0)) (blkOk_by (N := ["_law_thing", "_law_part"]) (sc := defScope s__law_copy) (by decide +kernel)) (fun _ _ _ _ _ => (pg_name (i := 1) sc__law_copy.nd rfl (Or.inl rfl))) (fun _ _ _ _ _ => pts_nil) (fun _ _ _ _ _ => (pe_cal c__law_copy (hr.mono (by omega)) rfl (pa_cons (pv 1) pa_nil)))) pa_nil)))) pss_nil)
      (pss_one (ps_ret (pv 0))))), ?_⟩
      walk_at "st0"
      rcases hk with hl | ⟨ds, hds, l, hall⟩
      · have e1 : isList dv = false := by cases dv <;> first | rfl | exact hl.elim
        have e2 : isTuple dv = false := by cases dv <;> first | rfl | exact hl.elim
        rw [e1]
        refine iteF ?_
        walk_at "st"
        rw [e2]
        refine iteF ?_
        walk_at "st"
        exact q _ [] _ (Same.refl _) (.inl ⟨leafD_of hl, hd, rfl⟩) (fun _ h => by cases h)
      · rcases hds with rfl | rfl
        · refine iteT ?_
          cases hd with
          | @lst a xs _ hs ha =>
          walk_at "st"
          refine ⟨_, rfl, a, rfl, ⟨xs, hs⟩, fun D nD => lc_own (k := k) walk_list ha l nD (fun H' s' => s'.seq hs) ?_ ?_⟩
          · intro x d2 H2 hm s2 hx Q' k'
            refine q_gname ⟨rfl, ?_⟩
            walk_at "st"
            exact ⟨x, d2, rfl, hx, hall d2 hm, k'⟩
          · intro ys T H2 s2 e2 ow nw
            refine q _ (D :: T) _ s2 (.inr (.inl ⟨D, ys, ds, T, rfl, rfl, e2, l, rfl, fun z => (nw D z).2 rfl, ow⟩)) fun a ha => ?_
            rcases List.mem_cons.mp ha with rfl | h
            · exact nD
            · exact (nw a h).1
        · refine iteF ?_
          walk_at "st"
          refine iteT ?_
          cases hd with
          | @tup a xs _ hs ha =>
          walk_at "st"
          refine ⟨_, rfl, a, rfl, ⟨xs, hs⟩, fun D nD => lc_own (k := k) walk_tup ha l nD (fun H' s' => Same.sqT s' hs) ?_ ?_⟩
          · intro x d2 H2 hm s2 hx Q' k'
            refine q_gname ⟨rfl, ?_⟩
            walk_at "st"
            exact ⟨x, d2, rfl, hx, hall d2 hm, k'⟩
          · intro ys T H2 s2 e2 ow nw
            refine ⟨D, ys, rfl, .inl ⟨SqL.of e2, fun t nt => ?_⟩⟩
            have st := same_new (o := .tup ys) nt
            exact q _ T _ (s2.trans st) (.inr (.inr ⟨t, ys, ds, rfl, rfl, SqT.of upd_same, l, ow.mono st⟩)) fun a ha => (nw a ha).1
end
end T



namespace T
section
variable {P : Program} {w : World} {K : PySem.W.Frag} {mg : Str → Option Value} {base : Heap} {C : Addr}
/-- data whose lists are new -/
def GetO (K : PySem.W.Frag) (H H' : Hp) (v : V) (d : PyData) : Prop := ∃ S, OwnV K 5 H' v d S ∧ ∀ a ∈ S, H a = none
def Acc (K : PySem.W.Frag) (H0 H : Hp) (vs : List V) (ds : List PyData) : Prop := Same H0 H ∧ ∃ S, OwnsAll (OwnV K 5 H) vs ds S ∧ ∀ a ∈ S, H0 a = none
theorem Acc.nil {H : Hp} : Acc K H H [] [] := ⟨Same.refl _, [], .nil, fun _ h => by cases h⟩
theorem Acc.mono {H0 H H' : Hp} {vs : List V} {ds : List PyData} (h : Acc K H0 H vs ds) (s : Same H H') : Acc K H0 H' vs ds := by
  obtain ⟨s0, S, ow, n⟩ := h
  exact ⟨s0.trans s, S, ow.mono s, n⟩
theorem Acc.step {H0 H H' : Hp} {vs : List V} {ds : List PyData} {v : V} {d : PyData} (h : Acc K H0 H vs ds) (s : Same H H') (g : GetO K H H' v d) : Acc K H0 H' (vs ++ [v]) (ds ++ [d]) := by
  obtain ⟨s0, S, ow, n⟩ := h
  obtain ⟨S', ow', n'⟩ := g
  refine ⟨s0.trans s, S ++ S', (ow.mono s).snoc ow' fun a ha hb => ?_, fun a ha => ?_⟩
  · obtain ⟨zs, ez⟩ := ow.lists a ha
    rw [n' a hb] at ez; cases ez
  · rcases List.mem_append.mp ha with h | h
    · exact n a h
    · exact s0.free (n' a h)
theorem getO_dp {H H' : Hp} {v : V} {d : PyData} (n : noList d) (l : ∀ ds, d = .tuple ds → ds.length ≤ 1000) (h : Dp K H' v d) : GetO K H H' v d := ⟨[], noList_own n l h, fun _ h => by cases h⟩
theorem getO_new {H H' : Hp} {v : V} {ds : List PyData} (few : ds.length ≤ 1000) (n : ∀ d ∈ ds, noList d ∧ ∀ es, d = .tuple es → es.length ≤ 1000) (h : NewL K H H' v (.list ds)) : GetO K H H' v (.list ds) := by
  obtain ⟨l, xs, ds', rfl, nl, el, e, da⟩ := h
  cases e
  exact ⟨[l], .inr (.inl ⟨l, xs, ds, [], rfl, rfl, el, few, rfl, by simp, noLists_own n da⟩), fun a ha => by
    simp only [List.mem_cons, List.not_mem_nil, or_false] at ha
    subst ha; exact nl⟩
theorem leaf_noList {d : PyData} (h : leafD d) : noList d ∧ ∀ es, d = .tuple es → es.length ≤ 1000 := by
  cases d <;> first | exact ⟨trivial, fun _ h => by cases h⟩ | exact h.elim
theorem getO_tasks {H H' : Hp} {v : V} {b : BD} (ok : BOk b) (h : NewL K H H' v b.tasks) : GetO K H H' v b.tasks := by
  obtain ⟨ds, e, _, l4, hall⟩ := okTasksL ok.tasks
  rw [e] at h ⊢
  refine getO_new (by omega) (fun d hd => ?_) h
  obtain ⟨s, l, rfl, _⟩ := okTask_shape (hall d hd)
  exact ⟨fun x hx => by simp at hx; rcases hx with rfl | rfl <;> trivial, fun es he => by cases he; simp⟩
theorem getO_nums {m lo hi : Int} (hm : m ≤ 100) {H H' : Hp} {v : V} {d : PyData} (ok : okNumbers d m lo hi = true) (h : NewL K H H' v d) : GetO K H H' v d := by
  obtain ⟨ds, e, l4, hall⟩ := okList ok
  rw [e] at h ⊢
  refine getO_new (by omega) (fun d hd => ?_) h
  obtain ⟨i, rfl, _⟩ := hall d hd
  exact leaf_noList trivial
theorem getO_lines {H H' : Hp} {v : V} {b : BD} (ok : BOk b) (h : NewL K H H' v b.lines) : GetO K H H' v b.lines := by
  obtain ⟨ds, e, l4, hall⟩ := okLinesL ok.lines
  rw [e] at h ⊢
  have few : ds.length ≤ 1000 := by
    have z : cnt (cOf b) "page" ≤ 100 := by
      obtain ⟨pds, ep, p3, _⟩ := okList ok.pages
      unfold cOf
      split
      · rename_i t p q l d h1 h2 h3 h4 h5
        rw [ep] at h2; cases h2
        show (pds.length : Int) ≤ 100
        omega
      · show (0 : Int) ≤ 100
        omega
    omega
  refine getO_new few (fun d hd => ?_) h
  have z := hall d hd
  cases d with
  | none => exact leaf_noList trivial
  | int i => exact leaf_noList trivial
  | bool i => exact leaf_noList trivial
  | str i => exact leaf_noList trivial
  | list i => simp [okLine, dBetween] at z
  | tuple i => simp [okLine, dBetween] at z
  | dict i => simp [okLine, dBetween] at z
theorem getO_int {H H' : Hp} {v : V} {d : PyData} {lo hi : Int} (ok : dBetween d lo hi = true) (h : Dp K H' v d) : GetO K H H' v d := by
  obtain ⟨i, rfl, _⟩ := okBetween ok
  exact getO_dp trivial (fun _ h => by cases h) h
theorem getO_bool {H H' : Hp} {v : V} {d : PyData} (ok : isBool d = true) (h : Dp K H' v d) : GetO K H H' v d := by
  cases d <;> first | exact getO_dp trivial (fun _ h => by cases h) h | cases ok
theorem getO_disk {H H' : Hp} {v : V} {d : PyData} (ok : okDisk d = true) (h : Dp K H' v d) : GetO K H H' v d := by
  unfold okDisk at ok
  rw [Bool.and_eq_true] at ok
  exact getO_int ok.1 h
theorem getO_outside {c : Cnt} {H H' : Hp} {v : V} {d : PyData} (ok : okOutside c d = true) (h : Dp K H' v d) : GetO K H H' v d := by
  rcases okOutsideL ok with rfl | ⟨p, e, rfl, _⟩
  · exact getO_dp trivial (fun _ h => by cases h) h
  · exact getO_dp (fun x hx => by simp at hx; rcases hx with rfl | rfl <;> trivial) (fun es he => by cases he; simp) h
theorem getO_costs {H H' : Hp} {v : V} {d : PyData} (ok : okCosts d = true) (h : Dp K H' v d) : GetO K H H' v d := by
  obtain ⟨x, y, z, rfl, _⟩ := okCostsL ok
  exact getO_dp (fun x hx => by simp at hx; rcases hx with rfl | rfl | rfl <;> trivial) (fun es he => by cases he; simp) h
theorem getO_slots {c : Cnt} {H H' : Hp} {l t : Addr} {ys : List V} {rs : List PyData} (nl : H l = none) (et : SqT K H' t [.str "slots", .ref l]) (el : H' l = some (.lst ys)) (hrs : 1 ≤ rs.length ∧ rs.length ≤ 4 ∧ ∀ r ∈ rs, ∃ t k, r = .tuple [.int t, .int k] ∧ 0 ≤ t ∧ t ≤ cnt c "task" - 1 ∧ 1 ≤ k ∧ k ≤ 12) (da : DpAll K H' ys rs) : GetO K H H' (.ref t) (.tuple [.str "slots", .list rs]) := by
  have e1 : OwnV K 4 H' (.str "slots") (.str "slots") [] := .inl ⟨trivial, .str _, rfl⟩
  have e2 : OwnV K 4 H' (.ref l) (.list rs) [l] := .inr (.inl ⟨l, ys, rs, [], rfl, rfl, el, by omega, rfl, by simp, noLists_own (fun d hd => by
    obtain ⟨t, k, rfl, _⟩ := hrs.2.2 d hd
    exact ⟨fun x hx => by simp at hx; rcases hx with rfl | rfl <;> trivial, fun es he => by cases he; simp⟩) da⟩)
  refine ⟨[] ++ ([l] ++ []), .inr (.inr ⟨t, _, _, rfl, rfl, et, by simp, .cons e1 (.cons e2 .nil fun _ _ h => by cases h) fun _ h => by cases h⟩), fun a ha => ?_⟩
  simp at ha
  subst ha; exact nl
theorem rows_flat {c : Cnt} {d : PyData} {rds : List PyData} (ok : okRights c d = true) (e : d = .list rds) : ∀ es, PyData.list es ∈ rds → es.length ≤ 1000 ∧ ∀ x ∈ es, noList x ∧ ∀ zs, x = .tuple zs → zs.length ≤ 1000 := by
  subst e
  intro es he
  unfold okRights at ok
  rw [Bool.and_eq_true] at ok
  have z := List.all_eq_true.mp ok.2 _ he
  unfold okRow at z
  rw [Bool.and_eq_true] at z
  obtain ⟨ds, e2, h0, h1⟩ := dListOf_list z.1
  cases e2
  obtain ⟨z1, z2⟩ := z
  have z3 := z2
  rw [Bool.and_eq_true] at z3
  refine ⟨by omega, fun x hx => ?_⟩
  obtain ⟨w, i, rfl⟩ := dRight_shape (List.all_eq_true.mp z3.1 x hx)
  exact ⟨fun y hy => by simp at hy; rcases hy with rfl | rfl <;> trivial, fun zs hz => by cases hz; simp⟩

theorem ok_Build_rightsO (B : Bl mg) (T : BCls K C) (d : MethAt K C "rights" "Build.rights" s_Build_rights ["self"]) : MCal P w K mg base 1 C "rights" ["self"] (spGet K C fun b H v H' => GetO K H H' v b.rights) := d.cal fun f fd F => by
  refine F.ok sc_Build_rights (fun vs H Q E h => ?_) (fun cdv A outer s H vs Q E hr h => ?_)
  · obtain ⟨p, b, rfl, _⟩ := h; rfl
  · obtain ⟨p, b, rfl, ⟨ok, dx, fs, q0, kvs, e1, e2, e3, e4, e5⟩, q⟩ := h
    have hu := hu_of hr
    refine ⟨_, (pss_one (ps_ret (pe_lc (own := [("row", 1)]) (tt := tYes) rfl sc_Build_rights.nd (pi_tup (pe_dget hu (pe_fld (pv 0) rfl) pe_str (fun _ _ => rfl))) (blkOk_by (N := ["self", "row"]) (sc := defScope s_Build_rights) (by decide +kernel)) (fun _ _ _ _ _ => (pg_name (i := 1) sc_Build_rights.nd rfl (Or.inl rfl))) (fun _ _ _ _ _ => pts_nil) (fun _ _ _ _ _ => (pe_callTy (show CallR _ _ (rListOf K) from call_list_of) rfl B.list_ hb_list (pa_cons (pv 1) pa_nil)))))), ?_⟩
    walk_at "st0"
    obtain ⟨v, g1, g2⟩ := pairedKV_get (z := "rights") e4 rfl
    obtain ⟨rds, er, rl, rall⟩ := okRightsL ok.rights
    have ln : rds.length ≤ 1000 := by
      have z : cnt (cOf b) "task" ≤ 100 := by
        obtain ⟨tds, et, _, t4, _⟩ := okTasksL ok.tasks
        unfold cOf
        split
        · rename_i t p q l d h1 h2 h3 h4 h5
          rw [et] at h1; cases h1
          show (tds.length : Int) ≤ 100
          omega
        · show (0 : Int) ≤ 100
          omega
      omega
    have hrow := rows_flat ok.rights er
    rw [er] at g2
    cases g2 with
    | @tup a xs _ hs ha =>
    have lx := ha.length
    rw [List.length_map] at lx
    refine ⟨.ref p, rfl, ⟨p, C, dx, fs, _, rfl, e1, T.cls, T.n_parts, e2, ?_⟩⟩
    walk_at "st"
    refine ⟨q0, _, rfl, by rw [← g1]; exact DGet.k (k := Sum.inr "rights") e3, a, rfl, ⟨xs, hs⟩, fun D nD => lc_ownG (K := K) (ds := rds) (k := 4) walk_tup lx ln nD (fun H2 s => Same.sqT s hs) ?_ ?_⟩
    · rintro i x d3 H2 ex er2 s Q' k
      obtain ⟨d2, ed, hd2⟩ := ha.get' ex
      rw [List.getElem?_map, er2] at ed
      cases ed
      obtain ⟨es, rfl⟩ := rall d3 (List.mem_of_getElem? er2)
      obtain ⟨few, hes⟩ := hrow es (List.mem_of_getElem? er2)
      cases hd2 with
      | @tup ta ys _ ht hta =>
      refine q_gname ⟨rfl, ?_⟩
      walk_at "st"
      refine ⟨ta, ys, rfl, .inr (Same.sqT s ht), fun l nl => ?_⟩
      have sl := same_new (o := .lst ys) nl
      refine k _ [l] _ sl (.inr (.inl ⟨l, ys, es, [], rfl, rfl, upd_same, few, rfl, by simp, noLists_own hes (L2.DpAll.mono (s.trans sl) hta)⟩)) fun a ha => ?_
      simp only [List.mem_cons, List.not_mem_nil, or_false] at ha
      subst ha; exact nl
    · intro ys T H3 s3 eD ow nw
      refine q _ _ s3 ?_
      show GetO K H H3 (.ref D) b.rights
      rw [er]
      refine ⟨D :: T, .inr (.inl ⟨D, ys, rds, T, rfl, rfl, eD, ln, rfl, fun z => (nw D z).2 rfl, ow⟩), fun a ha => ?_⟩
      rcases List.mem_cons.mp ha with rfl | h
      · exact nD
      · exact (nw a h).1

theorem ok_Build_planO (B : Bl mg) (T : BCls K C) (d : MethAt K C "plan" "Build.plan" s_Build_plan ["self"]) : MCal P w K mg base 1 C "plan" ["self"] (spGet K C fun b H v H' => GetO K H H' v b.plan) := d.cal fun f fd F => by
  refine F.ok sc_Build_plan (fun vs H Q E h => ?_) (fun cdv A outer s H vs Q E hr h => ?_)
  · obtain ⟨p, b, rfl, _⟩ := h; rfl
  · obtain ⟨p, b, rfl, ⟨ok, dx, fs, q0, kvs, e1, e2, e3, e4, e5⟩, q⟩ := h
    have hu := hu_of hr
    refine ⟨_, (pss_cons (ps_asg (pe_dget hu (pe_fld (pv 0) rfl) pe_str (fun _ _ => rfl)) (pg_tup rfl (pgs_cons (pg_name (i := 1) sc_Build_plan.nd rfl (Or.inl rfl)) (pgs_cons (pg_name (i := 2) sc_Build_plan.nd rfl (Or.inl rfl)) pgs_nil))))
      (pss_one (ps_ret (pe_ifExp (pt_cmpR op_eq (pv 1) pe_str (nomark _)) (pe_tup (pa_cons (pv 1) (pa_cons (pe_callTy call_list_of rfl B.list_ hb_list (pa_cons (pv 2) pa_nil)) pa_nil))) (pe_tup (pa_cons (pv 1) (pa_cons (pv 2) pa_nil))))))), ?_⟩
    walk_at "st0"
    refine ⟨p, C, dx, fs, _, rfl, e1, T.cls, T.n_parts, e2, ?_⟩
    walk_at "st"
    obtain ⟨v, g1, g2⟩ := pairedKV_get (z := "plan") e4 rfl
    refine ⟨q0, v, rfl, by rw [← g1]; exact DGet.k (k := Sum.inr "plan") e3, ?_⟩
    obtain ⟨z, e, ep, hz⟩ := okPlanL ok.plan
    simp only [ep] at q g2
    simp only [planT] at g2
    cases g2 with
    | @tup a xs _ hs ha =>
    cases ha with
    | @cons x0 r0 _ _ a0 ha => cases ha with
      | @cons x1 r1 _ _ a1 ha =>
        cases ha
        cases a0
        refine ⟨a, _, rfl, hs, rfl, _, _, rfl, _, _, rfl, rfl, ?_⟩
        walk_at "st"
        refine q_eq rfl ?_
        walk_at "st"
        rcases hz with ⟨rfl, i, rfl, _⟩ | ⟨rfl, hz⟩
        · rw [decide_eq_false (fun q => slots_ne (V.str.inj q))]
          refine iteF ?_
          walk_at "st"
          refine ⟨by show 2 ≤ sizeLine; decide, fun t nt => ?_⟩
          rw [if_neg slots_ne] at a1
          exact q _ _ (same_new nt) (getO_dp (fun x hx => by simp at hx; rcases hx with rfl | rfl <;> trivial) (fun es he => by cases he; simp) (.tup (SqT.of upd_same) (.cons (.str _) (.cons (L2.Dp.mono (same_new nt) a1) .nil))))
        · rw [decide_eq_true rfl]
          refine iteT ?_
          walk_at "st"
          obtain ⟨rs, rfl, hrs⟩ := okSlotsL hz
          rw [if_pos rfl] at a1
          cases a1 with
          | @tup a2 ys _ hs2 hb2 =>
          refine ⟨a2, ys, rfl, .inr hs2, fun l nl => ?_⟩
          have sm := same_new (o := .lst ys) nl
          walk_at "st"
          refine ⟨by show 2 ≤ sizeLine; decide, fun t nt => ?_⟩
          have st := same_new (o := .tup [V.str "slots", .ref l]) nt
          exact q _ _ (sm.trans st) (getO_slots nl (SqT.of upd_same) (st _ _ upd_same) hrs (L2.DpAll.mono (sm.trans st) hb2))

end
end T



namespace T
section
variable {P : Program} {w : World} {K : PySem.W.Frag} {mg : Str → Option Value} {base : Heap} {C : Addr}
def spTold (K : PySem.W.Frag) (C : Addr) : Sp := fun vs H Q _ => ∃ (p : Addr) (b : BD), vs = [.ref p] ∧ PartsAt K C H p b ∧ ∀ v S H', Same H H' → OwnV K 6 H' v (.list b.list) S → (∀ a ∈ S, H a = none) → Q v H'
theorem ok_law_told (B : Bl mg) (d : DefAt K mg "_law_told" s__law_told ["_law_build"]) (m_tasks : MCal P w K mg base 1 C "tasks" ["self"] (spGet K C fun b H v H' => NewL K H H' v b.tasks)) (m_pages : MCal P w K mg base 1 C "pages" ["self"] (spGet K C fun b H v H' => NewL K H H' v b.pages)) (m_ports : MCal P w K mg base 1 C "ports" ["self"] (spGet K C fun b H v H' => NewL K H H' v b.ports)) (m_locks : MCal P w K mg base 1 C "locks" ["self"] (spGet K C fun b H v H' => Dp K H' v b.locks)) (m_frames : MCal P w K mg base 1 C "frames" ["self"] (spGet K C fun b H v H' => Dp K H' v b.frames)) (m_disk : MCal P w K mg base 1 C "disk" ["self"] (spGet K C fun b H v H' => Dp K H' v b.disk)) (m_rights : MCal P w K mg base 1 C "rights" ["self"] (spGet K C fun b H v H' => GetO K H H' v b.rights)) (m_lines : MCal P w K mg base 1 C "lines" ["self"] (spGet K C fun b H v H' => NewL K H H' v b.lines)) (m_costs : MCal P w K mg base 1 C "costs" ["self"] (spGet K C fun b H v H' => Dp K H' v b.costs)) (m_plan : MCal P w K mg base 1 C "plan" ["self"] (spGet K C fun b H v H' => GetO K H H' v b.plan)) (m_outside : MCal P w K mg base 1 C "outside" ["self"] (spGet K C fun b H v H' => Dp K H' v b.outside)) (m_wipe : MCal P w K mg base 1 C "wipe" ["self"] (spGet K C fun b H v H' => Dp K H' v b.wipe)) (m_pad : MCal P w K mg base 1 C "pad" ["self"] (spGet K C fun b H v H' => Dp K H' v b.pad)) (m_lend : MCal P w K mg base 1 C "lend" ["self"] (spGet K C fun b H v H' => Dp K H' v b.lend)) (m_share : MCal P w K mg base 1 C "share" ["self"] (spGet K C fun b H v H' => Dp K H' v b.share)) : Cal P w K mg base 2 "_law_told" ["_law_build"] (spTold K C) := d.cal fun f fd F => by
  refine F.ok sc__law_told (fun vs H Q E h => ?_) (fun cdv A outer s H vs Q E hr h => ?_)
  · obtain ⟨p, b, rfl, _⟩ := h; rfl
  · obtain ⟨p, b, rfl, pa, q⟩ := h
    have ok := pa.ok
    refine ⟨_, (pss_cons (ps_set (i := 1) sc__law_told.nd rfl (Or.inl rfl) (pe_lst (pa_cons (pe_mcal0 m_tasks (hr.mono (by omega)) (pv 0)) (pa_cons (pe_mcal0 m_pages (hr.mono (by omega)) (pv 0)) (pa_cons (pe_mcal0 m_ports (hr.mono (by omega)) (pv 0)) (pa_cons (pe_mcal0 m_locks (hr.mono (by omega)) (pv 0)) (pa_cons (pe_mcal0 m_frames (hr.mono (by omega)) (pv 0)) (pa_cons (pe_mcal0 m_disk (hr.mono (by omega)) (pv 0)) pa_nil))))))))
      (pss_cons (ps_set (i := 1) sc__law_told.nd rfl (Or.inl rfl) (pe_op op_cat (pv 1) (pe_lst (pa_cons (pe_mcal0 m_rights (hr.mono (by omega)) (pv 0)) (pa_cons (pe_mcal0 m_lines (hr.mono (by omega)) (pv 0)) (pa_cons (pe_mcal0 m_costs (hr.mono (by omega)) (pv 0)) (pa_cons (pe_mcal0 m_plan (hr.mono (by omega)) (pv 0)) (pa_cons (pe_mcal0 m_outside (hr.mono (by omega)) (pv 0)) pa_nil))))))))
      (pss_one (ps_ret (pe_op op_cat (pv 1) (pe_lst (pa_cons (pe_mcal0 m_wipe (hr.mono (by omega)) (pv 0)) (pa_cons (pe_mcal0 m_pad (hr.mono (by omega)) (pv 0)) (pa_cons (pe_mcal0 m_lend (hr.mono (by omega)) (pv 0)) (pa_cons (pe_mcal0 m_share (hr.mono (by omega)) (pv 0)) pa_nil)))))))))), ?_⟩
    walk_at "st0"
    have acc := Acc.nil (K := K) (H := H)
    walk_at "st"
    refine q_get pa (by decide +kernel) (by decide +kernel) fun v_tasks H_tasks s r => ?_
    replace pa := pa.mono s
    replace acc := acc.step s (getO_tasks ok r)
    clear s r
    walk_at "st"
    refine q_get pa (by decide +kernel) (by decide +kernel) fun v_pages H_pages s r => ?_
    replace pa := pa.mono s
    replace acc := acc.step s (getO_nums (by omega) ok.pages r)
    clear s r
    walk_at "st"
    refine q_get pa (by decide +kernel) (by decide +kernel) fun v_ports H_ports s r => ?_
    replace pa := pa.mono s
    replace acc := acc.step s (getO_nums (by omega) ok.ports r)
    clear s r
    walk_at "st"
    refine q_get pa (by decide +kernel) (by decide +kernel) fun v_locks H_locks s r => ?_
    replace pa := pa.mono s
    replace acc := acc.step s (getO_int ok.locks r)
    clear s r
    walk_at "st"
    refine q_get pa (by decide +kernel) (by decide +kernel) fun v_frames H_frames s r => ?_
    replace pa := pa.mono s
    replace acc := acc.step s (getO_int ok.frames r)
    clear s r
    walk_at "st"
    refine q_get pa (by decide +kernel) (by decide +kernel) fun v_disk H_disk s r => ?_
    replace pa := pa.mono s
    replace acc := acc.step s (getO_disk ok.disk r)
    clear s r
    walk_at "st"
    refine ⟨by show 6 ≤ sizeLine; decide, fun La nLa => ?_⟩
    have sLa := same_new (o := .lst [v_tasks, v_pages, v_ports, v_locks, v_frames, v_disk]) nLa
    replace pa := pa.mono sLa
    replace acc := acc.mono sLa
    have eLa : upd H_disk La (.lst [v_tasks, v_pages, v_ports, v_locks, v_frames, v_disk]) La = _ := upd_same
    generalize upd H_disk La (.lst [v_tasks, v_pages, v_ports, v_locks, v_frames, v_disk]) = Ga at *
    walk_at "st"
    refine q_get pa (by decide +kernel) (by decide +kernel) fun v_rights H_rights s r => ?_
    replace pa := pa.mono s
    replace acc := acc.step s (r)
    replace eLa := s _ _ eLa
    clear s r
    walk_at "st"
    refine q_get pa (by decide +kernel) (by decide +kernel) fun v_lines H_lines s r => ?_
    replace pa := pa.mono s
    replace acc := acc.step s (getO_lines ok r)
    replace eLa := s _ _ eLa
    clear s r
    walk_at "st"
    refine q_get pa (by decide +kernel) (by decide +kernel) fun v_costs H_costs s r => ?_
    replace pa := pa.mono s
    replace acc := acc.step s (getO_costs ok.costs r)
    replace eLa := s _ _ eLa
    clear s r
    walk_at "st"
    refine q_get pa (by decide +kernel) (by decide +kernel) fun v_plan H_plan s r => ?_
    replace pa := pa.mono s
    replace acc := acc.step s (r)
    replace eLa := s _ _ eLa
    clear s r
    walk_at "st"
    refine q_get pa (by decide +kernel) (by decide +kernel) fun v_outside H_outside s r => ?_
    replace pa := pa.mono s
    replace acc := acc.step s (getO_outside ok.outside r)
    replace eLa := s _ _ eLa
    clear s r
    walk_at "st"
    refine ⟨by show 5 ≤ sizeLine; decide, fun Lb nLb => ?_⟩
    have sLb := same_new (o := .lst [v_rights, v_lines, v_costs, v_plan, v_outside]) nLb
    replace pa := pa.mono sLb
    replace acc := acc.mono sLb
    have eLb : upd H_outside Lb (.lst [v_rights, v_lines, v_costs, v_plan, v_outside]) Lb = _ := upd_same
    replace eLa := sLb _ _ eLa
    generalize upd H_outside Lb (.lst [v_rights, v_lines, v_costs, v_plan, v_outside]) = Gb at *
    refine ⟨_, _, _, _, rfl, rfl, eLa, eLb, by rw [sizeLine_eq]; simp, fun Lc nLc => ?_⟩
    dsimp only [List.cons_append, List.nil_append]
    have sLc := same_new (o := .lst [v_tasks, v_pages, v_ports, v_locks, v_frames, v_disk, v_rights, v_lines, v_costs, v_plan, v_outside]) nLc
    replace pa := pa.mono sLc
    replace acc := acc.mono sLc
    have eLc : upd Gb Lc (.lst [v_tasks, v_pages, v_ports, v_locks, v_frames, v_disk, v_rights, v_lines, v_costs, v_plan, v_outside]) Lc = _ := upd_same
    generalize upd Gb Lc (.lst [v_tasks, v_pages, v_ports, v_locks, v_frames, v_disk, v_rights, v_lines, v_costs, v_plan, v_outside]) = Gc at *
    clear eLa eLb sLa sLb sLc
    walk_at "st"
    refine q_get pa (by decide +kernel) (by decide +kernel) fun v_wipe H_wipe s r => ?_
    replace pa := pa.mono s
    replace acc := acc.step s (getO_bool ok.wipe r)
    replace eLc := s _ _ eLc
    clear s r
    walk_at "st"
    refine q_get pa (by decide +kernel) (by decide +kernel) fun v_pad H_pad s r => ?_
    replace pa := pa.mono s
    replace acc := acc.step s (getO_bool ok.pad r)
    replace eLc := s _ _ eLc
    clear s r
    walk_at "st"
    refine q_get pa (by decide +kernel) (by decide +kernel) fun v_lend H_lend s r => ?_
    replace pa := pa.mono s
    replace acc := acc.step s (getO_bool ok.lend r)
    replace eLc := s _ _ eLc
    clear s r
    walk_at "st"
    refine q_get pa (by decide +kernel) (by decide +kernel) fun v_share H_share s r => ?_
    replace pa := pa.mono s
    replace acc := acc.step s (getO_bool ok.share r)
    replace eLc := s _ _ eLc
    clear s r
    walk_at "st"
    refine ⟨by show 4 ≤ sizeLine; decide, fun Ld nLd => ?_⟩
    have sLd := same_new (o := .lst [v_wipe, v_pad, v_lend, v_share]) nLd
    replace pa := pa.mono sLd
    replace acc := acc.mono sLd
    have eLd : upd H_share Ld (.lst [v_wipe, v_pad, v_lend, v_share]) Ld = _ := upd_same
    replace eLc := sLd _ _ eLc
    generalize upd H_share Ld (.lst [v_wipe, v_pad, v_lend, v_share]) = Gd at *
    refine ⟨_, _, _, _, rfl, rfl, eLc, eLd, by rw [sizeLine_eq]; simp, fun Le nLe => ?_⟩
    have sLe := same_new (o := .lst ([v_tasks, v_pages, v_ports, v_locks, v_frames, v_disk, v_rights, v_lines, v_costs, v_plan, v_outside] ++ [v_wipe, v_pad, v_lend, v_share])) nLe
    obtain ⟨s0, S, ow, nw⟩ := acc
    have n0 := s0.free nLe
    have nS : Le ∉ S := fun z => by
      obtain ⟨zs, ez⟩ := ow.lists Le z
      rw [nLe] at ez; cases ez
    refine q _ (Le :: S) _ (s0.trans sLe) (.inr (.inl ⟨Le, _, _, S, rfl, rfl, upd_same, by simp [BD.list], rfl, nS, ow.mono sLe⟩)) fun a ha => ?_
    rcases List.mem_cons.mp ha with rfl | h
    · exact n0
    · exact nw a h
end
end T



namespace T
/-! how things are written -/
def numS (i : Int) : Str := Str.ofString (toString i)
mutual
def spell : PyData → Str
  | .none => "none"
  | .int i => numS i
  | .str s => s
  | .tuple xs => Str.join " " (spells xs)
  | .bool _ => Str.empty
  | .list _ => Str.empty
  | .dict _ => Str.empty
def spells : List PyData → List Str
  | [] => []
  | d :: ds => spell d :: spells ds
end
theorem spells_map : ∀ ds, spells ds = ds.map spell
  | [] => rfl
  | d :: ds => by rw [spells, spells_map ds]; rfl
def sD : Nat → PyData → Prop
  | 0, _ => False
  | k + 1, d => d = .none ∨ (∃ i, d = .int i ∧ 0 ≤ i ∧ i ≤ 12) ∨ (∃ s, d = .str s ∧ s.length ≤ 10) ∨ ∃ w ds, d = .tuple (.str w :: ds) ∧ w.length ≤ 10 ∧ ds.length ≤ 4 ∧ ∀ e ∈ ds, sD k e
theorem numS_len {i : Int} (h0 : 0 ≤ i) (h1 : i ≤ 12) : (numS i).length ≤ 2 := by
  have c : i = 0 ∨ i = 1 ∨ i = 2 ∨ i = 3 ∨ i = 4 ∨ i = 5 ∨ i = 6 ∨ i = 7 ∨ i = 8 ∨ i = 9 ∨ i = 10 ∨ i = 11 ∨ i = 12 := by omega
  rcases c with rfl | rfl | rfl | rfl | rfl | rfl | rfl | rfl | rfl | rfl | rfl | rfl | rfl <;> decide +kernel
theorem num_log {i : Int} (h0 : 0 ≤ i) (h1 : i ≤ 12) : i.natAbs.log2 < 1920 := by
  have c : i = 0 ∨ i = 1 ∨ i = 2 ∨ i = 3 ∨ i = 4 ∨ i = 5 ∨ i = 6 ∨ i = 7 ∨ i = 8 ∨ i = 9 ∨ i = 10 ∨ i = 11 ∨ i = 12 := by omega
  rcases c with rfl | rfl | rfl | rfl | rfl | rfl | rfl | rfl | rfl | rfl | rfl | rfl | rfl <;> decide +kernel
theorem join_len (sep : Str) (m : Nat) : ∀ (l : List Str), (∀ x ∈ l, x.length ≤ m) → (Str.join sep l).length ≤ l.length * (m + sep.length) ∧ (l.map (·.length)).sum ≤ l.length * m
  | [], _ => ⟨by show (Str.empty).length ≤ _; have : Str.empty.length = 0 := rfl; omega, by simp⟩
  | [x], h => ⟨by
      have := h x List.mem_cons_self
      show x.length ≤ 1 * (m + sep.length)
      omega, by have := h x List.mem_cons_self; simp; omega⟩
  | x :: y :: r, h => by
    obtain ⟨i1, i2⟩ := join_len sep m (y :: r) fun z hz => h z (List.mem_cons_of_mem _ hz)
    have hx := h x List.mem_cons_self
    constructor
    · show ((x ++ sep) ++ Str.join sep (y :: r)).length ≤ _
      rw [Str.length_append, Str.length_append]
      have e : (x :: y :: r).length * (m + sep.length) = (m + sep.length) + (y :: r).length * (m + sep.length) := by
        rw [List.length_cons, Nat.add_mul, Nat.one_mul, Nat.add_comm]
      omega
    · have e : (x :: y :: r).length * m = m + (y :: r).length * m := by
        rw [List.length_cons, Nat.add_mul, Nat.one_mul, Nat.add_comm]
      rw [List.map_cons, List.sum_cons]
      omega
theorem spell_len : ∀ (k : Nat) (d : PyData), k ≤ 3 → sD k d → (spell d).length ≤ 10 * 10 ^ k
  | 0, _, _, h => h.elim
  | k + 1, d, hk, h => by
    have p1 : 1 ≤ 10 ^ k := Nat.one_le_pow _ _ (by decide)
    have e : 10 ^ (k + 1) = 10 * 10 ^ k := by rw [Nat.pow_succ, Nat.mul_comm]
    rcases h with rfl | ⟨i, rfl, h0, h1⟩ | ⟨s, rfl, l⟩ | ⟨w, ds, rfl, lw, ld, hall⟩
    · have : (spell .none).length = 4 := by decide +kernel
      omega
    · have := numS_len h0 h1
      show (numS i).length ≤ _
      omega
    · show s.length ≤ _
      omega
    · show (Str.join " " (spells (.str w :: ds))).length ≤ _
      rw [spells_map]
      have z := (join_len " " (10 * 10 ^ k) ((.str w :: ds).map spell) fun x hx => by
        obtain ⟨y, hy, rfl⟩ := List.mem_map.mp hx
        rcases List.mem_cons.mp hy with rfl | hy
        · show w.length ≤ _; omega
        · exact spell_len k y (by omega) (hall y hy)).1
      have s1 : (" " : Str).length = 1 := by decide +kernel
      rw [List.length_map, List.length_cons, s1] at z
      have : (ds.length + 1) * (10 * 10 ^ k + 1) ≤ 5 * (10 * 10 ^ k + 1) := Nat.mul_le_mul_right _ (by omega)
      omega
section
variable {P : Program} {w : World} {K : PySem.W.Frag} {mg : Str → Option Value} {base : Heap} {C : Addr}
/-- str of an int or of a text -/
def rStrA : List V → Hp → VK → Prop := fun xs H Q => (∃ i : Int, xs = [.int i] ∧ i.natAbs.log2 < 1920 ∧ Q (.str (numS i)) H) ∨ ∃ a, xs = [.str a] ∧ Q (.str a) H
theorem call_strA {X : Cx} : CallR X (.type "str") rStrA := by
  intro pins s σ H xs us Q I r h
  rcases h with h | h
  · exact call_str_int pins s σ H xs us Q I r h
  · exact SkE.call_str_str pins s σ H xs us Q I r h
theorem q_m1 {r : V → List V → Hp → VK → Prop} {to te : TE} {σ : L2.St} {H : Hp} {Q : VK} (h : to σ H fun x H1 => (∃ a, x = .str a) ∧ te σ H1 fun y H2 => r x [y] H2 Q) : tM1 r to te σ H Q := h
theorem q_star {te : TE} {t : TA} {σ : L2.St} {H : Hp} {Q : List V → Hp → Prop} (h : te σ H fun x H1 => ∃ p xs, x = V.ref p ∧ (SqT K H1 p xs ∨ SqL K H1 p xs) ∧ t σ H1 fun ys H2 => Q (xs ++ ys) H2) : StX.tStar K te t σ H Q := h
def spSpelled (K : PySem.W.Frag) (k : Nat) : Sp := fun vs H Q _ => ∃ (v : V) (d : PyData), vs = [v] ∧ Dp K H v d ∧ sD k d ∧ k ≤ 3 ∧ ∀ H', Same H H' → Q (.str (spell d)) H'
def spWorded (K : PySem.W.Frag) (k : Nat) : Sp := fun vs H Q _ => ∃ (w : Str) (v : V) (ds : List PyData), vs = [.str w, v] ∧ Dp K H v (.tuple ds) ∧ w.length ≤ 10 ∧ ds.length ≤ 4 ∧ (∀ e ∈ ds, sD k e) ∧ k ≤ 3 ∧ ∀ H', Same H H' → Q (.str (Str.join " " (w :: spells ds))) H'
theorem ok_worded (B : Bl mg) (d : DefAt K mg "worded" s_worded ["word", "items"]) (k : Nat) (c_spelled : Cal P w K mg base (2 * k) "spelled" ["item"] (spSpelled K k)) : Cal P w K mg base (2 * k + 1) "worded" ["word", "items"] (spWorded K k) := d.cal fun f fd F => by
  refine F.ok sc_worded (fun vs H Q E h => ?_) (fun cdv A outer s H vs Q E hr h => ?_)
  · obtain ⟨w, v, ds, rfl, _⟩ := h; rfl
  · obtain ⟨wd, v, ds, rfl, hd, lw, ld, hs, hk, q⟩ := h
    refine ⟨_, (pss_one (ps_ret (pe_join pe_str (pe_lst (pa_cons (pv 0) (StX.pa_star (pe_lc (own := [("item", 2)]) (tt := tYes) rfl sc_worded.nd (pi_tup (pv 1)) (blkOk_by (N := ["word", "items", "item"]) (sc := defScope s_worded) (by decide +kernel)) (fun _ _ _ _ _ => (pg_name (i := 2) sc_worded.nd rfl (Or.inl rfl))) (fun _ _ _ _ _ => pts_nil) (fun _ _ _ _ _ => (pe_cal c_spelled (hr.mono (by omega)) rfl (pa_cons (pv 2) pa_nil)))) pa_nil)))))), ?_⟩
    walk_at "st0"
    cases hd with
    | @tup a xs _ hs2 ha =>
    refine q_m1 ?_
    walk_at "st"
    refine ⟨⟨_, rfl⟩, ?_⟩
    walk_at "st"
    refine q_star ?_
    refine ⟨_, rfl, a, rfl, ⟨xs, hs2⟩, fun D nD => lc_mapT (fun d => V.str (spell d)) hs2 ha (by omega) nD ?_ ?_⟩
    · rintro x d H2 hx hmem s2 Q' kq
      refine q_gname ⟨rfl, ?_⟩
      walk_at "st"
      exact ⟨x, d, rfl, hx, hs d hmem, hk, fun H' s' => kq H' s'⟩
    · intro H' s' e
      refine ⟨D, _, rfl, .inr (SqL.of e), ?_⟩
      walk_at "st"
      have le : (V.str wd :: (ds.map (fun d => V.str (spell d)) ++ ([] : List V))).length ≤ sizeLine := by rw [sizeLine_eq]; simp; omega
      refine ⟨le, fun p np => ?_⟩
      refine ⟨" ", p, wd :: spells ds, rfl, rfl, .inl (SqL.of ?_), ?_, ?_⟩
      · rw [upd_same, spells_map]; simp [List.map_map, Function.comp_def]
      · have s1 : (" " : Str).length = 1 := by decide +kernel
        have z := (join_len " " (10 * 10 ^ k) (wd :: spells ds) fun x hx => by
          rw [spells_map] at hx
          have p1 : 1 ≤ 10 ^ k := Nat.one_le_pow _ _ (by decide)
          rcases List.mem_cons.mp hx with rfl | hx
          · omega
          · obtain ⟨y, hy, rfl⟩ := List.mem_map.mp hx
            exact spell_len k y hk (hs y hy)).2
        have l5 : (wd :: spells ds).length ≤ 5 := by rw [spells_map, List.length_cons, List.length_map]; omega
        have pk : 10 ^ k ≤ 10 ^ 3 := Nat.pow_le_pow_right (by decide) hk
        have m5 : (wd :: spells ds).length * (10 * 10 ^ k) ≤ 5 * (10 * 10 ^ 3) := Nat.mul_le_mul l5 (by omega)
        rw [s1]
        omega
      · rw [TL.join_eq]
        exact q _ (s'.trans (same_new np))
local macro_rules | `(tactic| walk_at "sm") => `(tactic| (repeat (first | (walk_at "s1"; try dsimp only [List.set_cons_zero, List.set_cons_succ, List.append_nil, List.cons_append, List.nil_append, cxOf]) | ((with_reducible refine iteT' ?hh ?_); (case hh => rfl)) | ((with_reducible refine iteF' ?hh ?_); (case hh => rfl)) | with_reducible refine q_eq rfl ?_)))
theorem ok_spelled0 (d : DefAt K mg "spelled" s_spelled ["item"]) : Cal P w K mg base (2 * 0) "spelled" ["item"] (spSpelled K 0) := by
  obtain ⟨f, fd, F, g, b⟩ := d.ex
  exact ⟨f, fd, g, F.kp, b, ⟨fun vs H Q E h => by obtain ⟨v, d, _, _, h, _⟩ := h; exact h.elim, fun A outer s H args us vs Q E _ _ _ _ h => by obtain ⟨v, d, _, _, h, _⟩ := h; exact h.elim⟩⟩
theorem ok_spelled1 (B : Bl mg) (d : DefAt K mg "spelled" s_spelled ["item"]) (k : Nat) (c_worded : Cal P w K mg base (2 * k + 1) "worded" ["word", "items"] (spWorded K k)) : Cal P w K mg base (2 * k + 1 + 1) "spelled" ["item"] (spSpelled K (k + 1)) := d.cal fun f fd F => by
  refine F.ok sc_spelled (fun vs H Q E h => ?_) (fun cdv A outer s H vs Q E hr h => ?_)
  · obtain ⟨v, d, rfl, _⟩ := h; rfl
  · obtain ⟨v, d, rfl, hd, hs, hk, q⟩ := h
    refine ⟨_, (pss_cons (ps_if (pt_cmp (pc_isN (pv 0))) (pss_one (ps_ret pe_str)) pss_nil)
      (pss_cons (ps_if (pt_val (pe_callB call_isi rfl B.isinstance hb_isinstance (pa_cons (pv 0) (pa_cons (pe_bltn (v := .ty "tuple") rfl B.tuple_ hb_tuple rfl) pa_nil)))) (pss_one (ps_ret (pe_cal c_worded (hr.mono (by omega)) rfl (pa_cons (pe_ix ix_tup (pv 0) pe_int (fun _ _ => rfl)) (pa_cons (pe_slice sl_tup (pv 0) (po_some pe_int) po_none) pa_nil))))) pss_nil)
      (pss_one (ps_ret (pe_callTy call_strA rfl B.str_ hb_str (pa_cons (pv 0) pa_nil)))))), ?_⟩
    walk_at "st0"
    rcases hs with rfl | ⟨i, rfl, h0, h1⟩ | ⟨z, rfl, lz⟩ | ⟨wd, ds, rfl, lw, ld, hall⟩
    · have hd' := hd
      cases hd
      walk_at "sm"
      exact q _ (Same.refl _)
    · have hd' := hd
      cases hd
      walk_at "sm"
      exact .inl ⟨i, rfl, num_log h0 h1, q _ (Same.refl _)⟩
    · have hd' := hd
      cases hd
      walk_at "sm"
      exact .inr ⟨z, rfl, q _ (Same.refl _)⟩
    · have hd' := hd
      cases hd with
      | @tup a xs _ hs2 ha =>
      cases ha with
      | @cons x0 xs _ _ b0 ha =>
      cases b0
      have lx := ha.length
      walk_at "sm"
      refine q_ixT hs2 (i := 0) (atI_nat (j := 0) rfl) ?_
      walk_at "sm"
      refine ⟨_, rfl, 1, rfl, a, _, rfl, hs2, ?_, fun p np => ?_⟩
      · rw [show HT.sIx (V.str wd :: xs).length 0 (some 1) = min 1 (V.str wd :: xs).length from HT.sIx_nat _ 0 1]
        rw [List.length_cons]; omega
      rw [cut1]
      have s1 := same_new (o := .tup xs) np
      walk_at "st"
      refine ⟨wd, .ref p, ds, rfl, .tup (SqT.of upd_same) (L2.DpAll.mono s1 ha), lw, ld, hall, by omega, fun H' s' => ?_⟩
      exact q _ (s1.trans s')
/-- .. of flat things -/
theorem ok_wordings (B : Bl mg) (dw : DefAt K mg "worded" s_worded ["word", "items"]) (ds : DefAt K mg "spelled" s_spelled ["item"]) : Cal P w K mg base 5 "worded" ["word", "items"] (spWorded K 2) :=
  ok_worded B dw 2 (ok_spelled1 B ds 1 (ok_worded B dw 1 (ok_spelled1 B ds 0 (ok_worded B dw 0 (ok_spelled0 ds)))))
end
end T



namespace T
/-! the lines -/
def itemsOf : PyData → List PyData | .list l => l | .tuple l => l | _ => []
def wrd (w : Str) (ds : List PyData) : Str := Str.join " " (w :: spells ds)
def pageL (p d : PyData) : Str := wrd "page" (match d with | .none => [p] | d => [p, .str "line", d])
def slotL (d : PyData) : Str := match d with | .tuple [.int t, .int k] => (((Str.empty ++ "  ") ++ numS t) ++ " ") ++ numS k | _ => Str.empty
def planL (d : PyData) : List Str := match d with
  | .tuple [.str z, e] => if z = "levels" then [wrd z [e]] else z :: (itemsOf e).map slotL
  | _ => []
def rightsL : Nat → List PyData → List Str
  | _, [] => []
  | n, r :: rs => (itemsOf r).map (fun d => wrd "right" [.int n, d]) ++ rightsL (n + 1) rs
def okR (d : PyData) : Prop := ∃ (z : Str) (i : Int), d = .tuple [.str z, .int i] ∧ z.length ≤ 10 ∧ 0 ≤ i ∧ i ≤ 12
theorem cOf_forms6 {b : BD} (ok : BOk b) : ∃ (tds pds qds : List PyData) (l d : Int), b.tasks = .list tds ∧ b.pages = .list pds ∧ b.ports = .list qds ∧ b.locks = .int l ∧ b.disk = .int d ∧ cOf b = cntOf tds.length pds.length qds.length l d ∧ 2 ≤ tds.length ∧ tds.length ≤ 4 ∧ 0 ≤ l ∧ l ≤ 2 ∧ 0 ≤ d ∧ d ≤ 4 ∧ d ≠ 1 := by
  obtain ⟨tds, et, t2, t4, _⟩ := okTasksL ok.tasks
  obtain ⟨pds, ep, _, _⟩ := okList ok.pages
  obtain ⟨qds, eq, _, _⟩ := okList ok.ports
  obtain ⟨l, el, l0, l2⟩ := okBetween ok.locks
  have okd := ok.disk
  unfold okDisk at okd
  rw [Bool.and_eq_true] at okd
  obtain ⟨d, ed, d0, d4⟩ := okBetween okd.1
  refine ⟨tds, pds, qds, l, d, et, ep, eq, el, ed, by unfold cOf; rw [et, ep, eq, el, ed], t2, t4, l0, l2, d0, d4, fun z => ?_⟩
  have z2 := okd.2
  rw [ed, z] at z2
  simp at z2
theorem cnt_le {b : BD} (ok : BOk b) {k : Str} (nv : k = "page" ∨ k = "port" ∨ k = "lock" ∨ k = "task" ∨ k = "disk") : ((cOf b).lookup k).getD 0 ≤ 4 := by
  obtain ⟨tds, pds, qds, l, d, et, ep, eq, el, ed, ec, t2, t4, l0, l2, d0, d4, _⟩ := cOf_forms6 ok
  obtain ⟨pds', ep', pl, _⟩ := okList ok.pages
  obtain ⟨qds', eq', ql, _⟩ := okList ok.ports
  rw [ep] at ep'
  cases ep'
  rw [eq] at eq'
  cases eq'
  rw [ec]
  rcases nv with rfl | rfl | rfl | rfl | rfl
  · show (pds.length : Int) ≤ 4; omega
  · show (qds.length : Int) ≤ 4; omega
  · show l ≤ 4; omega
  · show (tds.length : Int) ≤ 4; omega
  · show (if 1 < d then 1 else d) ≤ 4; split <;> omega
theorem right_shape {b : BD} (ok : BOk b) {d : PyData} (h : dRight (cOf b) d = true) : okR d := by
  unfold dRight dFormed at h
  cases e : rTab.lookup (dWord d) with
  | none => rw [e] at h; cases h
  | some ks =>
    rw [e] at h
    cases d with
    | tuple ds =>
      simp only at h
      rw [Bool.and_eq_true] at h
      have m : (dWord (.tuple ds), ks) ∈ rTab := lookup_mem e
      have hl := of_decide_eq_true h.1
      have key : ∃ k : Str, ks = [k] ∧ (k = "page" ∨ k = "port" ∨ k = "lock" ∨ k = "task" ∨ k = "disk") ∧ (dWord (.tuple ds)).length ≤ 10 ∧ dWord (.tuple ds) ≠ "" := by
        simp only [rTab, List.mem_cons, List.not_mem_nil, or_false, Prod.mk.injEq] at m
        rcases m with ⟨m1, rfl⟩ | ⟨m1, rfl⟩ | ⟨m1, rfl⟩ | ⟨m1, rfl⟩ | ⟨m1, rfl⟩ | ⟨m1, rfl⟩ | ⟨m1, rfl⟩ | ⟨m1, rfl⟩ <;> rw [m1] <;> exact ⟨_, rfl, by simp, by decide +kernel, by decide +kernel⟩
      obtain ⟨k, rfl, hk, lw, nw⟩ := key
      match ds, hl with
      | [x, y], _ =>
        have hw : ∃ z, x = .str z := by
          cases x with
          | str z => exact ⟨z, rfl⟩
          | _ => exact absurd rfl nw
        obtain ⟨z, rfl⟩ := hw
        have h2 := h.2
        have hy : kf1 (cOf b) k y = true := by
          unfold dKinds at h2
          exact List.all_eq_true.mp h2 0 (by simp)
        have nt : k ≠ "ticks" := by rcases hk with rfl | rfl | rfl | rfl | rfl <;> decide +kernel
        unfold kf1 at hy
        rw [if_neg nt] at hy
        obtain ⟨i, rfl, i0, i1⟩ := okBetween hy
        have := cnt_le ok hk
        exact ⟨z, i, rfl, lw, i0, by omega⟩
    | _ => simp at h
theorem rights_shape {b : BD} (ok : BOk b) {rds : List PyData} (e : b.rights = .list rds) : ∀ r ∈ rds, ∃ es, r = .list es ∧ es.length ≤ 8 ∧ ∀ x ∈ es, okR x := by
  intro r hr
  obtain ⟨rds', e', _, rall⟩ := okRightsL ok.rights
  rw [e] at e'
  cases e'
  obtain ⟨es, rfl⟩ := rall r hr
  have z := ok.rights
  rw [e] at z
  unfold okRights at z
  rw [Bool.and_eq_true] at z
  have z2 := List.all_eq_true.mp z.2 _ hr
  unfold okRow at z2
  rw [Bool.and_eq_true] at z2
  have z3 := z2.1
  simp only [dListOf, Bool.and_eq_true, decide_eq_true_eq] at z3
  have z4 := z2.2
  simp only [Bool.and_eq_true] at z4
  exact ⟨es, rfl, by omega, fun x hx => right_shape ok (List.all_eq_true.mp z4.1 x hx)⟩
theorem sD_int {k : Nat} {i : Int} (h0 : 0 ≤ i) (h1 : i ≤ 12) : sD (k + 1) (.int i) := .inr (.inl ⟨i, rfl, h0, h1⟩)
theorem sD_right {k : Nat} {d : PyData} (h : okR d) : sD (k + 2) d := by
  obtain ⟨z, i, rfl, lz, i0, i1⟩ := h
  exact .inr (.inr (.inr ⟨z, [.int i], rfl, lz, by simp, fun e he => by
    simp only [List.mem_cons, List.not_mem_nil, or_false] at he
    subst he; exact sD_int i0 i1⟩))
section
variable {P : Program} {w : World} {K : PySem.W.Frag} {mg : Str → Option Value} {base : Heap} {C : Addr}
local macro_rules | `(tactic| walk_at "sb") => `(tactic| (repeat (first | (walk_at "s1"; try dsimp only [List.set_cons_zero, List.set_cons_succ, List.append_nil, List.cons_append, List.nil_append, cxOf]) | ((with_reducible refine iteT' ?hh ?_); (case hh => rfl)) | ((with_reducible refine iteF' ?hh ?_); (case hh => rfl)) | with_reducible refine q_eqI ?_)))
/-- [f(x) for x in xs], xs a list of data -/
theorem lc_mapL {K : PySem.W.Frag} {a : Addr} {xs : List V} {ds : List PyData} {g : TG} {te : TE} {vs : List Nat} {σ : L2.St} {H1 : Hp} {D : Addr} {Qd : Hp → Prop} (f : PyData → V) (hx : SqL K H1 a xs) (hd : DpAll K H1 xs ds) (few : ds.length < 100000) (hD : H1 D = none)
    (body : ∀ x d H2, Dp K H2 x d → d ∈ ds → Same H1 H2 → ∀ Q' : VK, (∀ H3, Same H2 H3 → Q' (f d) H3) → g x (wipe σ vs) H2 fun σ2 H3 => wipe σ2 vs = wipe σ vs ∧ te σ2 H3 Q')
    (done : ∀ H', Same H1 H' → H' D = some (.lst (ds.map f)) → Qd H') :
    ∃ W : Nat → Nat → Hp → Prop, (∃ m, W 0 m (upd H1 D (.lst []))) ∧ ∀ i m H, W i m H →
      ((Itl K a).stop i H ∧ Qd H) ∨ ((Itl K a).go i H ∧ ∃ Nx : Hp → Prop, (∀ H', Nx H' → ∃ m', m' < m ∧ W (i + 1) m' H') ∧ ∀ x H', (Itl K a).yld i H x H' → g x (wipe σ vs) H' fun σ2 H2 => wipe σ2 vs = wipe σ vs ∧ tYes σ2 H2 fun b H3 =>
        if b = true then te σ2 H3 fun y H4 => ∃ acc, H4 D = some (.lst acc) ∧ acc.length < sizeLine ∧ Nx (upd H4 D (.lst (acc ++ [y]))) else Nx H3) := by
  have l := hd.length
  refine lc_val (n := xs.length) walk_list (fun i => f (ds.getD i .none)) hD (sz1000 (by omega)) (fun H2 s => s.seq hx) yat_same ?_ ?_
  · rintro i x H2 H3 lt s ⟨rfl, e⟩ Q2 k
    obtain ⟨d, e2, hd2⟩ := hd.get' e
    refine body x d H3 (L2.Dp.mono s hd2) (List.mem_of_getElem? e2) s Q2 fun H4 s4 => ?_
    have z := k H4 s4
    rw [List.getD_eq_getElem?_getD, e2] at z
    exact z
  · intro H2 s e
    refine done H2 s ?_
    rw [e]
    congr 2
    refine List.ext_getElem (by simp [l]) fun i h1 h2 => ?_
    have lt : i < ds.length := by simpa using h2
    simp [List.getD_eq_getElem?_getD, List.getElem?_eq_getElem lt]
/-- all but instances is as it was -/
def Keep (H H' : Hp) : Prop := ∀ b o, H b = some o → (∀ C dx fs, o ≠ .ins C dx fs) → H' b = some o
theorem But.keep {r C dx : Addr} {fs : List (Str × V)} {H H' : Hp} (e : H r = some (.ins C dx fs)) (s : But r H H') : Keep H H' := fun b o h n => s b o h fun z => by
  subst z; rw [e] at h; cases h; exact n C dx fs rfl
theorem Keep.sqL {K : PySem.W.Frag} {H H' : Hp} {a : Addr} {xs : List V} (s : Keep H H') (h : SqL K H a xs) : SqL K H' a xs := by
  rcases h with (h | ⟨o, h⟩) | h
  · exact .inl (.inl (s _ _ h (by simp)))
  · exact .inl (.inr ⟨o, s _ _ h (by simp)⟩)
  · exact .inr h
theorem Keep.sqT {K : PySem.W.Frag} {H H' : Hp} {a : Addr} {xs : List V} (s : Keep H H') (h : SqT K H a xs) : SqT K H' a xs := by
  rcases h with (h | ⟨o, h⟩) | h
  · exact .inl (.inl (s _ _ h (by simp)))
  · exact .inl (.inr ⟨o, s _ _ h (by simp)⟩)
  · exact .inr h
mutual
theorem dpKeep {K : PySem.W.Frag} {H H' : Hp} (s : Keep H H') : ∀ {v : V} {d : PyData}, Dp K H v d → Dp K H' v d
  | _, _, .non => .non
  | _, _, .bl b => .bl b
  | _, _, .int i => .int i
  | _, _, .str x => .str x
  | _, _, .lst h a => .lst (Keep.sqL s h) (dpAllKeep s a)
  | _, _, .tup h a => .tup (Keep.sqT s h) (dpAllKeep s a)
theorem dpAllKeep {K : PySem.W.Frag} {H H' : Hp} (s : Keep H H') : ∀ {vs : List V} {ds : List PyData}, DpAll K H vs ds → DpAll K H' vs ds
  | _, _, .nil => .nil
  | _, _, .cons h t => .cons (dpKeep s h) (dpAllKeep s t)
end
theorem But.refl {r : Addr} {H : Hp} : But r H H := fun _ _ h _ => h
theorem But.trans {r : Addr} {H H1 H2 : Hp} (a : But r H H1) (b : But r H1 H2) : But r H H2 := fun x o h n => b x o (a x o h n) n
theorem But.same {r : Addr} {H H1 : Hp} (a : Same H H1) : But r H H1 := fun x o h _ => a x o h
theorem But.put {r : Addr} {H : Hp} {o : HO} : But r H (upd H r o) := fun x u h n => by rw [upd_ne n]; exact h
/-- no other fields -/
def Only (fs : List (Str × V)) (L : List Str) : Prop := ∀ m, m ∉ L → fs.lookup m = none
theorem Only.put {fs : List (Str × V)} {L : List Str} (h : Only fs L) {f : Str} {v : V} (hf : f ∈ L) : Only (putF f v fs) L := fun m hm => by
  rw [put_ne v fs (fun e => hm (by rw [e]; exact hf))]; exact h m hm
def spPageLine (K : PySem.W.Frag) : Sp := fun vs H Q _ => ∃ (i : Int) (v : V) (d : PyData), vs = [.int i, v] ∧ 0 ≤ i ∧ i ≤ 12 ∧ Dp K H v d ∧ okLine d = true ∧ ∀ H', Same H H' → Q (.str (pageL (.int i) d)) H'
theorem ok_page_line (B : Bl mg) (d : DefAt K mg "page_line" s_page_line ["page", "line"]) (c_worded : Cal P w K mg base 5 "worded" ["word", "items"] (spWorded K 2)) : Cal P w K mg base 6 "page_line" ["page", "line"] (spPageLine K) := d.cal fun f fd F => by
  refine F.ok sc_page_line (fun vs H Q E h => ?_) (fun cdv A outer s H vs Q E hr h => ?_)
  · obtain ⟨i, v, d, rfl, _⟩ := h; rfl
  · obtain ⟨i, v, d, rfl, i0, i1, hd, ok, q⟩ := h
    refine ⟨_, (pss_one (ps_ret (pe_cal c_worded (hr.mono (by omega)) rfl (pa_cons pe_str (pa_cons (pe_ifExp (pt_cmp (pc_isN (pv 1))) (pe_tup (pa_cons (pv 0) pa_nil)) (pe_tup (pa_cons (pv 0) (pa_cons pe_str (pa_cons (pv 1) pa_nil))))) pa_nil))))), ?_⟩
    walk_at "st0"
    cases d with
    | none =>
      cases hd
      walk_at "sb"
      refine ⟨by show 1 ≤ sizeLine; decide, fun t nt => ?_⟩
      walk_at "st"
      exact ⟨"page", .ref t, [.int i], rfl, .tup (SqT.of upd_same) (.cons (.int _) .nil), by decide +kernel, by simp, fun e he => by
        simp only [List.mem_cons, List.not_mem_nil, or_false] at he
        subst he; exact sD_int i0 i1, by omega, fun H' s' => q _ ((same_new nt).trans s')⟩
    | int j =>
      cases hd
      have oj : 0 ≤ j ∧ j ≤ 1 := by simp [okLine, dBetween] at ok; exact ok
      rw [show decide (V.int j = V.non) = false from rfl]
      walk_at "sb"
      refine ⟨by show 3 ≤ sizeLine; decide, fun t nt => ?_⟩
      walk_at "st"
      exact ⟨"page", .ref t, [.int i, .str "line", .int j], rfl, .tup (SqT.of upd_same) (.cons (.int _) (.cons (.str _) (.cons (.int _) .nil))), by decide +kernel, by simp, fun e he => by
        simp only [List.mem_cons, List.not_mem_nil, or_false] at he
        rcases he with rfl | rfl | rfl
        · exact sD_int i0 i1
        · exact .inr (.inr (.inl ⟨_, rfl, by decide +kernel⟩))
        · exact sD_int oj.1 (by omega), by omega, fun H' s' => q _ ((same_new nt).trans s')⟩
    | _ => simp [okLine, dBetween] at ok
theorem q_fmt {te : TE} {σ : L2.St} {H : Hp} {Q : VK} (h : te σ H fun x H1 => (∃ y : Str, x = .str y ∧ y.length ≤ sizeLine ∧ Q (.str y) H1) ∨ ∃ i : Int, x = .int i ∧ i.natAbs.log2 < 1920 ∧ Q (.str (numS i)) H1) : tFmt te σ H Q := h
theorem q_js {t : TE} {ts : List TE} {acc : Str} {σ : L2.St} {H : Hp} {Q : Str → Hp → Prop} (h : t σ H fun x H1 => ∃ y : Str, x = .str y ∧ (acc ++ y).length ≤ sizeLine ∧ tJs ts (acc ++ y) σ H1 Q) : tJs (t :: ts) acc σ H Q := h
def spSlotLine (K : PySem.W.Frag) : Sp := fun vs H Q _ => ∃ (v : V) (t k : Int), vs = [v] ∧ Dp K H v (.tuple [.int t, .int k]) ∧ 0 ≤ t ∧ t ≤ 12 ∧ 0 ≤ k ∧ k ≤ 12 ∧ Q (.str (slotL (.tuple [.int t, .int k]))) H
theorem ok_slot_line (B : Bl mg) (d : DefAt K mg "slot_line" s_slot_line ["row"]) : Cal P w K mg base 1 "slot_line" ["row"] (spSlotLine K) := d.cal fun f fd F => by
  refine F.ok sc_slot_line (fun vs H Q E h => ?_) (fun cdv A outer s H vs Q E hr h => ?_)
  · obtain ⟨v, t, k, rfl, _⟩ := h; rfl
  · obtain ⟨v, t, k, rfl, hd, t0, t1, k0, k1, q⟩ := h
    cases hd with
    | @tup a xs _ ht hta =>
    cases hta with | cons b0 hta =>
    cases hta with | cons b1 hta =>
    cases hta; cases b0; cases b1
    refine ⟨_, (pss_one (ps_ret (pe_joined (PJ.cons pe_str (PJ.cons (pe_fmt (pe_ix ix_tup (pv 0) pe_int (fun _ _ => rfl))) (PJ.cons pe_str (PJ.cons (pe_fmt (pe_ix ix_tup (pv 0) pe_int (fun _ _ => rfl))) PJ.nil))))))), ?_⟩
    walk_at "st0"
    have n1 := numS_len t0 t1
    have n2 := numS_len k0 k1
    have e0 : Str.empty.length = 0 := rfl
    have s2 : ("  " : Str).length = 2 := by decide +kernel
    have s1 : (" " : Str).length = 1 := by decide +kernel
    refine q_js ?_
    walk_at "st"
    refine ⟨"  ", rfl, by rw [Str.length_append, sizeLine_eq]; omega, q_js (q_fmt ?_)⟩
    walk_at "st"
    refine q_ixT ht (i := 0) rfl ?_
    refine .inr ⟨t, rfl, num_log t0 t1, _, rfl, by rw [Str.length_append, Str.length_append, sizeLine_eq]; omega, q_js ?_⟩
    walk_at "st"
    refine ⟨" ", rfl, by rw [Str.length_append, Str.length_append, Str.length_append, sizeLine_eq]; omega, q_js (q_fmt ?_)⟩
    walk_at "st"
    refine q_ixT ht (i := 1) rfl ?_
    exact .inr ⟨k, rfl, num_log k0 k1, _, rfl, by rw [Str.length_append, Str.length_append, Str.length_append, Str.length_append, sizeLine_eq]; omega, q⟩
def spPlanLines (K : PySem.W.Frag) : Sp := fun vs H Q _ => ∃ (v : V) (d : PyData) (c : Cnt), vs = [v] ∧ Dp K H v d ∧ okPlan c d = true ∧ cnt c "task" ≤ 4 ∧ ∀ l H', Same H H' → H' l = some (.lst ((planL d).map V.str)) → Q (.ref l) H'
theorem ok_plan_lines (B : Bl mg) (d : DefAt K mg "plan_lines" s_plan_lines ["plan"]) (c_worded : Cal P w K mg base 5 "worded" ["word", "items"] (spWorded K 2)) (c_slot_line : Cal P w K mg base 1 "slot_line" ["row"] (spSlotLine K)) : Cal P w K mg base 6 "plan_lines" ["plan"] (spPlanLines K) := d.cal fun f fd F => by
  refine F.ok sc_plan_lines (fun vs H Q E h => ?_) (fun cdv A outer s H vs Q E hr h => ?_)
  · obtain ⟨v, d, c, rfl, _⟩ := h; rfl
  · obtain ⟨v, d, c, rfl, hd, ok, ct, q⟩ := h
    refine ⟨_, (pss_cons (ps_asg (pv 0) (pg_tup rfl (pgs_cons (pg_name (i := 1) sc_plan_lines.nd rfl (Or.inl rfl)) (pgs_cons (pg_name (i := 2) sc_plan_lines.nd rfl (Or.inl rfl)) pgs_nil))))
      (pss_cons (ps_if (pt_cmpR op_eq (pv 1) pe_str (nomark _)) (pss_one (ps_ret (pe_lst (pa_cons (pe_cal c_worded (hr.mono (by omega)) rfl (pa_cons (pv 1) (pa_cons (pe_tup (pa_cons (pv 2) pa_nil)) pa_nil))) pa_nil)))) pss_nil)
      (pss_one (ps_ret (pe_lst (pa_cons (pv 1) (StX.pa_star (pe_lc (own := [("row", 3)]) (tt := tYes) rfl sc_plan_lines.nd (pi_list (pv 2)) (blkOk_by (N := ["plan", "word", "how", "row"]) (sc := defScope s_plan_lines) (by decide +kernel)) (fun _ _ _ _ _ => (pg_name (i := 3) sc_plan_lines.nd rfl (Or.inl rfl))) (fun _ _ _ _ _ => pts_nil) (fun _ _ _ _ _ => (pe_cal c_slot_line (hr.mono (by omega)) rfl (pa_cons (pv 3) pa_nil)))) pa_nil))))))), ?_⟩
    obtain ⟨z, e, rfl, hz⟩ := okPlanL ok
    cases hd with
    | @tup a xs _ ht hta =>
    cases hta with | cons b0 hta =>
    cases hta with | @cons ye _ _ _ b1 hta =>
    cases hta; cases b0
    walk_at "st0"
    refine ⟨a, _, rfl, ht, rfl, _, _, rfl, _, _, rfl, rfl, ?_⟩
    walk_at "st"
    refine q_eq rfl ?_
    walk_at "st"
    rcases hz with ⟨rfl, i, rfl, i1, i8⟩ | ⟨rfl, hz⟩
    · cases b1
      rw [show decide (V.str "levels" = V.str (Str.ofString "levels")) = true from decide_eq_true rfl]
      refine iteT ?_
      walk_at "st"
      refine ⟨by show 1 ≤ sizeLine; decide, fun t nt => ?_⟩
      walk_at "st"
      refine ⟨"levels", .ref t, [.int i], rfl, .tup (SqT.of upd_same) (.cons (.int _) .nil), by decide +kernel, by simp, fun e he => by
        simp only [List.mem_cons, List.not_mem_nil, or_false] at he
        subst he; exact sD_int (by omega) (by omega), by omega, fun H1 s1 => ?_⟩
      walk_at "st"
      refine ⟨by show 1 ≤ sizeLine; decide, fun l nl => ?_⟩
      have e : planL (.tuple [.str "levels", .int i]) = [wrd "levels" [.int i]] := by
        show (if ("levels" : Str) = "levels" then [wrd "levels" [.int i]] else ("levels" : Str) :: (itemsOf (.int i)).map slotL) = _
        rw [if_pos rfl]
      exact q l _ (((same_new nt).trans s1).trans (same_new nl)) (by rw [upd_same, e]; rfl)
    · rw [show decide (V.str "slots" = V.str (Str.ofString "levels")) = false from decide_eq_false (fun q => slots_ne (V.str.inj q).symm)]
      refine iteF ?_
      obtain ⟨rs, rfl, r1, r4, rall⟩ := okSlotsL hz
      cases b1 with
      | @lst b ys _ hb gb =>
      walk_at "st"
      refine q_star ?_
      refine ⟨_, rfl, b, rfl, ⟨ys, hb⟩, fun D nD => lc_mapL (fun d => V.str (slotL d)) hb gb (by omega) nD ?_ ?_⟩
      · rintro x d H2 hx hmem s2 Q' kq
        refine q_gname ⟨rfl, ?_⟩
        walk_at "st"
        obtain ⟨t, k, rfl, t0, t1, k1, k12⟩ := rall d hmem
        exact ⟨x, t, k, rfl, hx, t0, by omega, by omega, k12, kq H2 (Same.refl _)⟩
      · intro H' s' e
        refine ⟨D, _, rfl, .inr (SqL.of e), ?_⟩
        walk_at "st"
        have le : (V.str "slots" :: (rs.map (fun d => V.str (slotL d)) ++ ([] : List V))).length ≤ sizeLine := by rw [sizeLine_eq]; simp; omega
        refine ⟨le, fun p np => ?_⟩
        have e2 : planL (.tuple [.str "slots", .list rs]) = ("slots" : Str) :: rs.map slotL := by
          show (if ("slots" : Str) = "levels" then [wrd "slots" [.list rs]] else ("slots" : Str) :: rs.map slotL) = _
          rw [if_neg (fun z => slots_ne z.symm)]
        refine q p _ (s'.trans (same_new np)) ?_
        rw [upd_same, e2]; simp [List.map_map, Function.comp_def]
end
end T



namespace T
section
variable {J J1 : It} {n : Nat} {G : Hp → Prop} {Y : Nat → Hp → V → Hp → Prop}
/-- the outer loop of a comprehension with two fors -/
theorem lc2_it (w : L2.Walk J n G Y) {g g1 : TG} {tt tt1 : TT} {wi1 : TI} {te : TE} {vs vs1 : List Nat} {σ : L2.St} {H1 : Hp} {D : Addr} {Qd : Hp → Prop} (Pv : Nat → Hp → Prop) (h0 : Pv 0 (upd H1 D (.lst []))) (hG : ∀ i H, i ≤ n → Pv i H → G H)
    (hs : ∀ i x H H', i < n → Pv i H → Y i H x H' → g x (wipe σ vs) H' fun σ2 H2 => wipe σ2 vs = wipe σ vs ∧ tt σ2 H2 fun b H3 =>
      if b = true then wi1 σ2 H3 fun J1 H4 => ∃ W1 : Nat → Nat → Hp → Prop, (∃ m, W1 0 m H4) ∧ ∀ j k H, W1 j k H →
        (J1.stop j H ∧ Pv (i + 1) H) ∨ (J1.go j H ∧ ∃ Nx1 : Hp → Prop, (∀ H', Nx1 H' → ∃ k', k' < k ∧ W1 (j + 1) k' H') ∧ ∀ x H', J1.yld j H x H' → g1 x (wipe σ2 vs1) H' fun σ3 H5 => wipe σ3 vs1 = wipe σ2 vs1 ∧ tt1 σ3 H5 fun b H6 =>
          if b = true then te σ3 H6 fun y H7 => ∃ acc, H7 D = some (.lst acc) ∧ acc.length < sizeLine ∧ Nx1 (upd H7 D (.lst (acc ++ [y]))) else Nx1 H6)
      else Pv (i + 1) H3) (hd : ∀ H, Pv n H → Qd H) :
    ∃ W : Nat → Nat → Hp → Prop, (∃ m, W 0 m (upd H1 D (.lst []))) ∧ ∀ i m H, W i m H →
      (J.stop i H ∧ Qd H) ∨ (J.go i H ∧ ∃ Nx : Hp → Prop, (∀ H', Nx H' → ∃ m', m' < m ∧ W (i + 1) m' H') ∧ ∀ x H', J.yld i H x H' → g x (wipe σ vs) H' fun σ2 H2 => wipe σ2 vs = wipe σ vs ∧ tt σ2 H2 fun b H3 =>
        if b = true then wi1 σ2 H3 fun J1 H4 => ∃ W1 : Nat → Nat → Hp → Prop, (∃ m, W1 0 m H4) ∧ ∀ j k H, W1 j k H →
          (J1.stop j H ∧ Nx H) ∨ (J1.go j H ∧ ∃ Nx1 : Hp → Prop, (∀ H', Nx1 H' → ∃ k', k' < k ∧ W1 (j + 1) k' H') ∧ ∀ x H', J1.yld j H x H' → g1 x (wipe σ2 vs1) H' fun σ3 H5 => wipe σ3 vs1 = wipe σ2 vs1 ∧ tt1 σ3 H5 fun b H6 =>
            if b = true then te σ3 H6 fun y H7 => ∃ acc, H7 D = some (.lst acc) ∧ acc.length < sizeLine ∧ Nx1 (upd H7 D (.lst (acc ++ [y]))) else Nx1 H6)
        else Nx H3) := by
  refine ⟨fun i m H => m = n - i ∧ i ≤ n ∧ Pv i H, ⟨n, by simp, Nat.zero_le _, h0⟩, ?_⟩
  rintro i m H ⟨rfl, hi, p⟩
  have q := hG i H hi p
  by_cases hlt : i < n
  · exact .inr ⟨w.goes i H hlt q, Pv (i + 1), fun H' p' => ⟨n - (i + 1), by omega, rfl, hlt, p'⟩, fun x H' y => hs i x H H' hlt p (w.yields i H x H' hlt q y)⟩
  · have e : i = n := by omega
    subst e
    exact .inl ⟨w.stops H q, hd H p⟩
/-- .. the inner one -/
theorem in_it (w : L2.Walk J n G Y) {g1 : TG} {tt1 : TT} {te : TE} {vs1 : List Nat} {σ2 : L2.St} {H4 : Hp} {D : Addr} {Qd : Hp → Prop} (Pv : Nat → Hp → Prop) (h0 : Pv 0 H4) (hG : ∀ i H, i ≤ n → Pv i H → G H)
    (hs : ∀ i x H H', i < n → Pv i H → Y i H x H' → g1 x (wipe σ2 vs1) H' fun σ3 H5 => wipe σ3 vs1 = wipe σ2 vs1 ∧ tt1 σ3 H5 fun b H6 =>
      if b = true then te σ3 H6 fun y H7 => ∃ acc, H7 D = some (.lst acc) ∧ acc.length < sizeLine ∧ Pv (i + 1) (upd H7 D (.lst (acc ++ [y]))) else Pv (i + 1) H6) (hd : ∀ H, Pv n H → Qd H) :
    ∃ W1 : Nat → Nat → Hp → Prop, (∃ m, W1 0 m H4) ∧ ∀ j k H, W1 j k H →
      (J.stop j H ∧ Qd H) ∨ (J.go j H ∧ ∃ Nx1 : Hp → Prop, (∀ H', Nx1 H' → ∃ k', k' < k ∧ W1 (j + 1) k' H') ∧ ∀ x H', J.yld j H x H' → g1 x (wipe σ2 vs1) H' fun σ3 H5 => wipe σ3 vs1 = wipe σ2 vs1 ∧ tt1 σ3 H5 fun b H6 =>
        if b = true then te σ3 H6 fun y H7 => ∃ acc, H7 D = some (.lst acc) ∧ acc.length < sizeLine ∧ Nx1 (upd H7 D (.lst (acc ++ [y]))) else Nx1 H6) := by
  refine ⟨fun i m H => m = n - i ∧ i ≤ n ∧ Pv i H, ⟨n, by simp, Nat.zero_le _, h0⟩, ?_⟩
  rintro i m H ⟨rfl, hi, p⟩
  have q := hG i H hi p
  by_cases hlt : i < n
  · exact .inr ⟨w.goes i H hlt q, Pv (i + 1), fun H' p' => ⟨n - (i + 1), by omega, rfl, hlt, p'⟩, fun x H' y => hs i x H H' hlt p (w.yields i H x H' hlt q y)⟩
  · have e : i = n := by omega
    subst e
    exact .inl ⟨w.stops H q, hd H p⟩
end
section
variable {P : Program} {w : World} {K : PySem.W.Frag} {mg : Str → Option Value} {base : Heap} {C : Addr}
theorem q_lc2 {wi wi1 : TI} {g g1 : TG} {tt tt1 : TT} {te : TE} {vs vs1 : List Nat} {σ : L2.St} {H : Hp} {Q : VK} (h : wi σ H fun J H1 => ∀ D, H1 D = none → ∃ W : Nat → Nat → Hp → Prop, (∃ m, W 0 m (upd H1 D (.lst []))) ∧ ∀ i m H, W i m H →
  (J.stop i H ∧ Q (.ref D) H) ∨ (J.go i H ∧ ∃ Nx : Hp → Prop, (∀ H', Nx H' → ∃ m', m' < m ∧ W (i + 1) m' H') ∧ ∀ x H', J.yld i H x H' → g x (wipe σ vs) H' fun σ2 H2 => wipe σ2 vs = wipe σ vs ∧ tt σ2 H2 fun b H3 =>
    if b = true then wi1 σ2 H3 fun J1 H4 => ∃ W1 : Nat → Nat → Hp → Prop, (∃ m, W1 0 m H4) ∧ ∀ j k H, W1 j k H →
      (J1.stop j H ∧ Nx H) ∨ (J1.go j H ∧ ∃ Nx1 : Hp → Prop, (∀ H', Nx1 H' → ∃ k', k' < k ∧ W1 (j + 1) k' H') ∧ ∀ x H', J1.yld j H x H' → g1 x (wipe σ2 vs1) H' fun σ3 H5 => wipe σ3 vs1 = wipe σ2 vs1 ∧ tt1 σ3 H5 fun b H6 =>
        if b = true then te σ3 H6 fun y H7 => ∃ acc, H7 D = some (.lst acc) ∧ acc.length < sizeLine ∧ Nx1 (upd H7 D (.lst (acc ++ [y]))) else Nx1 H6)
    else Nx H3)) : tLc2 wi g tt wi1 g1 tt1 te vs vs1 σ H Q := h
theorem rightsL_snoc : ∀ (rs : List PyData) (n : Nat) (r : PyData), rightsL n (rs ++ [r]) = rightsL n rs ++ (itemsOf r).map fun d => wrd "right" [.int (n + rs.length : Nat), d]
  | [], n, r => by simp [rightsL]
  | x :: rs, n, r => by
    have e : n + 1 + rs.length = n + (x :: rs).length := by rw [List.length_cons]; omega
    rw [List.cons_append, rightsL, rightsL, rightsL_snoc rs (n + 1) r, List.append_assoc, e]
def spRightLines (K : PySem.W.Frag) : Sp := fun vs H Q _ => ∃ (v : V) (rds : List PyData), vs = [v] ∧ Dp K H v (.list rds) ∧ rds.length ≤ 4 ∧ (∀ r ∈ rds, ∃ es, r = .list es ∧ es.length ≤ 8 ∧ ∀ x ∈ es, okR x) ∧ ∀ l H', Same H H' → H' l = some (.lst ((rightsL 0 rds).map V.str)) → Q (.ref l) H'
theorem ok_right_lines (B : Bl mg) (g_enum : mg "enumerate" = none) (d : DefAt K mg "right_lines" s_right_lines ["rows"]) (c_worded : Cal P w K mg base 5 "worded" ["word", "items"] (spWorded K 2)) : Cal P w K mg base 6 "right_lines" ["rows"] (spRightLines K) := d.cal fun f fd F => by
  refine F.ok sc_right_lines (fun vs H Q E h => ?_) (fun cdv A outer s H vs Q E hr h => ?_)
  · obtain ⟨v, rds, rfl, _⟩ := h; rfl
  · obtain ⟨v, rds, rfl, hd, l4, hall, q⟩ := h
    refine ⟨_, (pss_one (ps_ret (pe_lc2 (own := [("task", 1), ("row", 2), ("right", 3)]) (vs1 := [3]) (tt := tYes) (tt1 := tYes) rfl sc_right_lines.nd (pi_enum rfl g_enum (pa_cons (pv 0) pa_nil)) (blkOk_by (N := ["rows", "task", "row", "right"]) (sc := defScope s_right_lines) (by decide +kernel)) (by decide) (fun _ _ _ _ _ => (show PG _ _ (gTup K 2 _) from pg_tup rfl (pgs_cons (pg_name (i := 1) sc_right_lines.nd rfl (Or.inl rfl)) (pgs_cons (pg_name (i := 2) sc_right_lines.nd rfl (Or.inl rfl)) pgs_nil)))) (fun _ _ _ _ _ => pts_nil) (fun _ _ _ _ _ => (show PI _ _ _ (iList K _) from (pi_list (pv 2)))) (fun _ _ _ _ _ => (pg_name (i := 3) sc_right_lines.nd rfl (Or.inl rfl))) (fun _ _ _ _ _ => pts_nil) (fun _ _ _ _ _ => (pe_cal c_worded (hr.mono (by omega)) rfl (pa_cons pe_str (pa_cons (pe_tup (pa_cons (pv 1) (pa_cons (pv 3) pa_nil))) pa_nil))))))), ?_⟩
    cases hd with
    | @lst a xs _ hx ha =>
    have lx := ha.length
    walk_at "st0"
    refine q_lc2 ?_
    have l8 : ∀ i, (rightsL 0 (rds.take i)).length ≤ 8 * i := fun i => by
      induction i with
      | zero => simp [rightsL]
      | succ i ih =>
        by_cases c : i < rds.length
        · have ei : rds[i]? = some (rds[i]'c) := List.getElem?_eq_getElem c
          obtain ⟨es, er, le, _⟩ := hall _ (List.getElem_mem c)
          rw [List.take_add_one, ei, er]
          show (rightsL 0 (rds.take i ++ [.list es])).length ≤ _
          rw [rightsL_snoc, List.length_append, List.length_map]
          show (rightsL 0 (rds.take i)).length + es.length ≤ _
          omega
        · rw [List.take_of_length_le (by omega)] at ih ⊢
          omega
    refine ⟨_, rfl, a, xs, rfl, hx, fun D nD => lc2_it (n := xs.length) walk_enum (fun i H' => Same H H' ∧ H' D = some (.lst ((rightsL 0 (rds.take i)).map V.str))) ⟨same_new nD, by rw [upd_same]; rfl⟩ (fun i H' _ h => h.1.seq hx) ?_ ?_⟩
    · rintro i x H1 H2 lt ⟨s1, e1⟩ ⟨T, y1, y2, rfl, nT, rfl, ey1, ey2⟩
      cases ey1
      have sT := same_new (o := .tup [.int (i : Nat), y2]) nT
      have ei : rds[i]? = some (rds[i]'(by omega)) := List.getElem?_eq_getElem (by omega)
      obtain ⟨es, er, le, hes⟩ := hall _ (List.getElem_mem (show i < rds.length by omega))
      rw [er] at ei
      obtain ⟨dy, edy, hy⟩ := ha.get' ey2
      rw [ei] at edy
      cases edy
      cases hy with
      | @lst b zs _ hb hz =>
      have lz := hz.length
      refine ⟨T, _, rfl, SqT.of upd_same, rfl, _, _, rfl, _, _, rfl, rfl, rfl, ?_⟩
      refine q_yes ?_
      rw [if_pos rfl]
      have eD := sT _ _ e1
      have s0 := s1.trans sT
      generalize upd H1 T (.tup [.int (i : Nat), .ref b]) = H2 at *
      refine ⟨_, rfl, b, rfl, ⟨zs, s0.seq hb⟩, in_it (n := zs.length) walk_list (fun j H' => Same H H' ∧ H' D = some (.lst ((rightsL 0 (rds.take i) ++ (es.take j).map fun d => wrd "right" [.int (i : Nat), d]).map V.str))) ⟨s0, by rw [eD]; simp⟩ (fun j H' _ h => h.1.seq hb) ?_ ?_⟩
      · rintro j z H3 H4 lj ⟨s3, e3⟩ ⟨rfl, ez⟩
        obtain ⟨dz, edz, hdz⟩ := hz.get' ez
        have okz := hes dz (List.mem_of_getElem? edz)
        have hdz3 := L2.Dp.mono s3 hdz
        refine q_gname ⟨rfl, ?_⟩
        refine q_yes ?_
        rw [if_pos rfl]
        walk_at "st"
        refine ⟨by show 2 ≤ sizeLine; decide, fun p np => ?_⟩
        have sp := same_new (o := .tup [.int (i : Nat), z]) np
        refine ⟨"right", .ref p, [.int (i : Nat), dz], rfl, .tup (SqT.of upd_same) (.cons (.int _) (.cons (L2.Dp.mono sp hdz3) .nil)), by decide +kernel, by simp, fun e he => ?_, by omega, fun H5 s5 => ?_⟩
        · simp only [List.mem_cons, List.not_mem_nil, or_false] at he
          rcases he with rfl | rfl
          · exact sD_int (by omega) (by omega)
          · exact sD_right okz
        · have s35 := sp.trans s5
          refine ⟨_, s35 _ _ e3, ?_, fun b o hb => ?_, ?_⟩
          · have l1 := l8 i
            rw [List.length_map, List.length_append, List.length_map, List.length_take, sizeLine_eq]
            omega
          · rw [upd_ne (ne_of_none hb nD)]; exact s35 _ _ (s3 _ _ hb)
          · rw [upd_same, List.take_add_one, edz]
            simp [wrd, Option.toList]
      · rintro H3 ⟨s3, e3⟩
        refine ⟨s3, ?_⟩
        rw [e3, List.take_add_one, ei]
        show _ = some (HO.lst ((rightsL 0 (rds.take i ++ [.list es])).map V.str))
        have lt2 : (rds.take i).length = i := by rw [List.length_take]; omega
        rw [rightsL_snoc, lt2, lz, List.take_length, Nat.zero_add]
        rfl
    · rintro H1 ⟨s1, e1⟩
      rw [lx, List.take_length] at e1
      exact q D H1 s1 e1
end
end T



namespace T
def outL (d : PyData) : List Str := match d with | .none => [] | d => [wrd "outside" (itemsOf d)]
def isTr (d : PyData) : Bool := match d with | .bool c => c | _ => false
def flT (b : BD) (i : Nat) : List Str := ((((["wipe", "pad", "lend", "share"] : List Str).zip [b.wipe, b.pad, b.lend, b.share]).take i).filter fun p => isTr p.2).map (·.1)
def linesOf (b : BD) : List Str := (itemsOf b.tasks).map (fun d => wrd "task" (itemsOf d)) ++ ((itemsOf b.pages).zip (itemsOf b.lines)).map (fun p => pageL p.1 p.2) ++ (itemsOf b.ports).map (fun d => wrd "port" [d]) ++ [wrd "locks" [b.locks]] ++ [wrd "frames" [b.frames]] ++ [wrd "disk" [b.disk]] ++ [wrd "costs" (itemsOf b.costs)] ++ planL b.plan ++ outL b.outside ++ flT b 4 ++ rightsL 0 (itemsOf b.rights)
section
variable {P : Program} {w : World} {K : PySem.W.Frag} {mg : Str → Option Value} {base : Heap} {C : Addr}
local macro_rules | `(tactic| walk_at "sb") => `(tactic| (repeat (first | (walk_at "s1"; try dsimp only [List.set_cons_zero, List.set_cons_succ, List.append_nil, List.cons_append, List.nil_append, cxOf]) | ((with_reducible refine iteT' ?hh ?_); (case hh => rfl)) | ((with_reducible refine iteF' ?hh ?_); (case hh => rfl)) | with_reducible refine q_eqI ?_)))
theorem wrd_len {w : Str} {ds : List PyData} (lw : w.length ≤ 10) (ld : ds.length ≤ 4) (h : ∀ e ∈ ds, sD 2 e) : (wrd w ds).length ≤ 6000 := by
  unfold wrd
  rw [spells_map]
  have z := (join_len " " (10 * 10 ^ 2) (w :: ds.map spell) fun x hx => by
    rcases List.mem_cons.mp hx with rfl | hx
    · omega
    · obtain ⟨y, hy, rfl⟩ := List.mem_map.mp hx
      exact spell_len 2 y (by omega) (h y hy)).1
  have s1 : (" " : Str).length = 1 := by decide +kernel
  rw [List.length_cons, List.length_map, s1] at z
  have : (ds.length + 1) * (10 * 10 ^ 2 + 1) ≤ 5 * (10 * 10 ^ 2 + 1) := Nat.mul_le_mul_right _ (by omega)
  omega
/-- the lines so far -/
structure Bt (H0 H : Hp) (L : Addr) (X : List Str) (m : Nat) : Prop where
  s : Same H0 H
  eL : H L = some (.lst (X.map V.str))
  new : H0 L = none
  len : X.length ≤ m
  short : ∀ x ∈ X, x.length ≤ 6000
theorem Bt.mono {H0 H H' : Hp} {L : Addr} {X : List Str} {m : Nat} (h : Bt H0 H L X m) (s : Same H H') : Bt H0 H' L X m := ⟨h.s.trans s, s _ _ h.eL, h.new, h.len, h.short⟩
theorem Bt.add {H0 H : Hp} {L : Addr} {X Y : List Str} {m k : Nat} (h : Bt H0 H L X m) (ly : Y.length ≤ k) (sh : ∀ x ∈ Y, x.length ≤ 6000) : Bt H0 (upd H L (.lst (X.map V.str ++ Y.map V.str))) L (X ++ Y) (m + k) :=
  ⟨fun b o e => by rw [upd_ne (ne_of_none e h.new)]; exact h.s _ _ e, by rw [upd_same, List.map_append], h.new, by rw [List.length_append]; have := h.len; omega, fun x hx => (List.mem_append.mp hx).elim (h.short x) (sh x)⟩
theorem q_lcG {wi : TI} {g : TG} {tt : TT} {te : TE} {vs : List Nat} {σ : L2.St} {H : Hp} {Q : VK} (h : wi σ H fun J H1 => ∀ D, H1 D = none → ∃ W : Nat → Nat → Hp → Prop, (∃ m, W 0 m (upd H1 D (.lst []))) ∧ ∀ i m H, W i m H →
    (J.stop i H ∧ Q (.ref D) H) ∨ (J.go i H ∧ ∃ Nx : Hp → Prop, (∀ H', Nx H' → ∃ m', m' < m ∧ W (i + 1) m' H') ∧ ∀ x H', J.yld i H x H' → g x (wipe σ vs) H' fun σ2 H2 => wipe σ2 vs = wipe σ vs ∧ tt σ2 H2 fun b H3 =>
      if b = true then te σ2 H3 fun y H4 => ∃ acc, H4 D = some (.lst acc) ∧ acc.length < sizeLine ∧ Nx (upd H4 D (.lst (acc ++ [y]))) else Nx H3)) : tLc wi g tt te vs σ H Q := h
theorem q_iZ {ta : TA} {σ : L2.St} {H : Hp} {R : It → Hp → Prop} (h : ta σ H fun vs H1 => ∃ a b xs ys, vs = [.ref a, .ref b] ∧ SqL K H1 a xs ∧ SqL K H1 b ys ∧ R (Itz K a b) H1) : iZip K ta σ H R := h
theorem pageL_len {j : Int} {d : PyData} (h0 : 0 ≤ j) (h1 : j ≤ 12) (h : okLine d = true) : (pageL (.int j) d).length ≤ 6000 := by
  cases d with
  | none =>
    exact wrd_len (ds := [.int j]) (by decide +kernel) (by simp) fun e he => by
      simp only [List.mem_cons, List.not_mem_nil, or_false] at he
      subst he; exact sD_int h0 h1
  | int i =>
    have oi : 0 ≤ i ∧ i ≤ 1 := by simp [okLine, dBetween] at h; exact h
    exact wrd_len (ds := [.int j, .str "line", .int i]) (by decide +kernel) (by simp) fun e he => by
      simp only [List.mem_cons, List.not_mem_nil, or_false] at he
      rcases he with rfl | rfl | rfl
      · exact sD_int h0 h1
      · exact .inr (.inr (.inl ⟨_, rfl, by decide +kernel⟩))
      · exact sD_int oi.1 (by omega)
  | _ => simp [okLine, dBetween] at h
theorem slotL_len {t k : Int} (t0 : 0 ≤ t) (t1 : t ≤ 12) (k0 : 0 ≤ k) (k1 : k ≤ 12) : (slotL (.tuple [.int t, .int k])).length ≤ 6000 := by
  have n1 := numS_len t0 t1
  have n2 := numS_len k0 k1
  have e0 : Str.empty.length = 0 := rfl
  have s2 : ("  " : Str).length = 2 := by decide +kernel
  have s1 : (" " : Str).length = 1 := by decide +kernel
  show ((((Str.empty ++ "  ") ++ numS t) ++ " ") ++ numS k).length ≤ 6000
  rw [Str.length_append, Str.length_append, Str.length_append, Str.length_append]
  omega
theorem planL_len {c : Cnt} {d : PyData} (ok : okPlan c d = true) (ct : cnt c "task" ≤ 4) : (planL d).length ≤ 5 ∧ ∀ x ∈ planL d, x.length ≤ 6000 := by
  obtain ⟨z, e, rfl, hz⟩ := okPlanL ok
  rcases hz with ⟨rfl, i, rfl, i1, i8⟩ | ⟨rfl, hz⟩
  · have e : planL (.tuple [.str "levels", .int i]) = [wrd "levels" [.int i]] := by
      show (if ("levels" : Str) = "levels" then [wrd "levels" [.int i]] else ("levels" : Str) :: (itemsOf (.int i)).map slotL) = _
      rw [if_pos rfl]
    rw [e]
    refine ⟨by simp, fun x hx => ?_⟩
    simp only [List.mem_cons, List.not_mem_nil, or_false] at hx
    subst hx
    exact wrd_len (by decide +kernel) (by simp) fun e he => by
      simp only [List.mem_cons, List.not_mem_nil, or_false] at he
      subst he; exact sD_int (by omega) (by omega)
  · obtain ⟨rs, rfl, r1, r4, rall⟩ := okSlotsL hz
    have e2 : planL (.tuple [.str "slots", .list rs]) = ("slots" : Str) :: rs.map slotL := by
      show (if ("slots" : Str) = "levels" then [wrd "slots" [.list rs]] else ("slots" : Str) :: rs.map slotL) = _
      rw [if_neg (fun z => slots_ne z.symm)]
    rw [e2]
    refine ⟨by rw [List.length_cons, List.length_map]; omega, fun x hx => ?_⟩
    rcases List.mem_cons.mp hx with rfl | hx
    · have : ("slots" : Str).length = 5 := by decide +kernel
      omega
    · obtain ⟨y, hy, rfl⟩ := List.mem_map.mp hx
      obtain ⟨t, k, rfl, t0, t1, k1, k12⟩ := rall y hy
      exact slotL_len t0 (by omega) (by omega) k12
theorem rightsL_len : ∀ (rds : List PyData) (n : Nat), n + rds.length ≤ 12 → (∀ r ∈ rds, ∃ es, r = .list es ∧ es.length ≤ 8 ∧ ∀ x ∈ es, okR x) → (rightsL n rds).length ≤ 8 * rds.length ∧ ∀ x ∈ rightsL n rds, x.length ≤ 6000
  | [], n, _, _ => ⟨by simp [rightsL], fun x hx => by simp [rightsL] at hx⟩
  | r :: rs, n, hn, h => by
    obtain ⟨es, rfl, le, hes⟩ := h r List.mem_cons_self
    obtain ⟨i1, i2⟩ := rightsL_len rs (n + 1) (by rw [List.length_cons] at hn; omega) fun x hx => h x (List.mem_cons_of_mem _ hx)
    rw [List.length_cons] at hn ⊢
    constructor
    · show ((es.map fun d => wrd "right" [.int (n : Nat), d]) ++ rightsL (n + 1) rs).length ≤ _
      rw [List.length_append, List.length_map]
      omega
    · intro x hx
      rcases List.mem_append.mp (show x ∈ (es.map fun d => wrd "right" [.int (n : Nat), d]) ++ rightsL (n + 1) rs from hx) with hx | hx
      · obtain ⟨y, hy, rfl⟩ := List.mem_map.mp hx
        exact wrd_len (by decide +kernel) (by simp) fun e he => by
          simp only [List.mem_cons, List.not_mem_nil, or_false] at he
          rcases he with rfl | rfl
          · exact sD_int (by omega) (by omega)
          · exact sD_right (hes e hy)
      · exact i2 x hx
theorem isBoolL {d : PyData} (h : isBool d = true) : ∃ c, d = .bool c := by
  cases d with
  | bool c => exact ⟨c, rfl⟩
  | _ => cases h
theorem flT_succ {b : BD} {i : Nat} {z : Str} {d : PyData} (h : (((["wipe", "pad", "lend", "share"] : List Str).zip [b.wipe, b.pad, b.lend, b.share]))[i]? = some (z, d)) : flT b (i + 1) = flT b i ++ (if isTr d = true then [z] else []) := by
  unfold flT
  rw [List.take_add_one, h, List.filter_append, List.map_append]
  congr 1
  show (List.filter (fun p => isTr p.2) [(z, d)]).map (·.1) = _
  cases e : isTr d <;> simp [List.filter, e]
theorem flT_len (b : BD) (i : Nat) : (flT b i).length ≤ 4 ∧ ∀ x ∈ flT b i, x.length ≤ 6000 := by
  unfold flT
  constructor
  · rw [List.length_map]
    refine Nat.le_trans (List.length_filter_le _ _) ?_
    rw [List.length_take]
    simp
    omega
  · intro x hx
    obtain ⟨y, hy, rfl⟩ := List.mem_map.mp hx
    have m := List.mem_of_mem_take (List.mem_filter.mp hy).1
    obtain ⟨y1, y2⟩ := y
    have m2 := (List.of_mem_zip m).1
    simp only [List.mem_cons, List.not_mem_nil, or_false] at m2
    rcases m2 with rfl | rfl | rfl | rfl
    · show ("wipe" : Str).length ≤ 6000; decide +kernel
    · show ("pad" : Str).length ≤ 6000; decide +kernel
    · show ("lend" : Str).length ≤ 6000; decide +kernel
    · show ("share" : Str).length ≤ 6000; decide +kernel
theorem q_iL {tl : TE} {σ : L2.St} {H : Hp} {R : It → Hp → Prop} (h : tl σ H fun x H1 => ∃ a, x = .ref a ∧ (∃ xs, SqL K H1 a xs) ∧ R (Itl K a) H1) : iList K tl σ H R := h
theorem task_items {d : PyData} (h : okTask d = true) : ∃ s l : Int, d = .tuple [.int s, .int l] ∧ 0 ≤ s ∧ s ≤ 3 ∧ 0 ≤ l ∧ l ≤ 2 := okTask_shape h
def spText (K : PySem.W.Frag) (C : Addr) : Sp := fun vs H Q _ => ∃ (p : Addr) (b : BD), vs = [.ref p] ∧ PartsAt K C H p b ∧ ∀ H', Same H H' → Q (.str (Str.join "\n" (linesOf b))) H'
theorem ok_build_text (B : Bl mg) {aF : Addr} (gF : mg "FLAGS" = some (.ref aF)) (hF : ∀ H, SqT K H aF [.str "wipe", .str "pad", .str "lend", .str "share"]) (d : DefAt K mg "build_text" s_build_text ["build"]) (c_worded : Cal P w K mg base 5 "worded" ["word", "items"] (spWorded K 2))
    (c_page_line : Cal P w K mg base 6 "page_line" ["page", "line"] (spPageLine K)) (c_plan_lines : Cal P w K mg base 6 "plan_lines" ["plan"] (spPlanLines K)) (c_right_lines : Cal P w K mg base 6 "right_lines" ["rows"] (spRightLines K))
    (m_tasks : MCal P w K mg base 1 C "tasks" ["self"] (spGet K C fun b H v H' => NewL K H H' v b.tasks)) (m_pages : MCal P w K mg base 1 C "pages" ["self"] (spGet K C fun b H v H' => NewL K H H' v b.pages)) (m_ports : MCal P w K mg base 1 C "ports" ["self"] (spGet K C fun b H v H' => NewL K H H' v b.ports)) (m_locks : MCal P w K mg base 1 C "locks" ["self"] (spGet K C fun b H v H' => Dp K H' v b.locks)) (m_frames : MCal P w K mg base 1 C "frames" ["self"] (spGet K C fun b H v H' => Dp K H' v b.frames)) (m_disk : MCal P w K mg base 1 C "disk" ["self"] (spGet K C fun b H v H' => Dp K H' v b.disk)) (m_rights : MCal P w K mg base 1 C "rights" ["self"] (spGet K C fun b H v H' => GetO K H H' v b.rights)) (m_lines : MCal P w K mg base 1 C "lines" ["self"] (spGet K C fun b H v H' => NewL K H H' v b.lines)) (m_costs : MCal P w K mg base 1 C "costs" ["self"] (spGet K C fun b H v H' => Dp K H' v b.costs)) (m_plan : MCal P w K mg base 1 C "plan" ["self"] (spGet K C fun b H v H' => GetO K H H' v b.plan)) (m_outside : MCal P w K mg base 1 C "outside" ["self"] (spGet K C fun b H v H' => Dp K H' v b.outside)) (m_wipe : MCal P w K mg base 1 C "wipe" ["self"] (spGet K C fun b H v H' => Dp K H' v b.wipe)) (m_pad : MCal P w K mg base 1 C "pad" ["self"] (spGet K C fun b H v H' => Dp K H' v b.pad)) (m_lend : MCal P w K mg base 1 C "lend" ["self"] (spGet K C fun b H v H' => Dp K H' v b.lend)) (m_share : MCal P w K mg base 1 C "share" ["self"] (spGet K C fun b H v H' => Dp K H' v b.share)) :
    Cal P w K mg base 7 "build_text" ["build"] (spText K C) := d.cal fun f fd F => by
  refine F.ok sc_build_text (fun vs H Q E h => ?_) (fun cdv A outer s H vs Q E hr h => ?_)
  · obtain ⟨p, b, rfl, _⟩ := h; rfl
  · obtain ⟨p, b, rfl, pa, q⟩ := h
    have ok := pa.ok
    refine ⟨_, (pss_cons (ps_setLc (i := 1) (own := [("task", 3)]) (tt := tYes) rfl sc_build_text.nd rfl rfl (sw_true rfl rfl rfl (by decide +kernel)) (pi_list (pe_mcal0 m_tasks (hr.mono (by omega)) (pv 0))) (blkOk_by (N := ["build", "lines", "flags", "task", "page", "line", "size", "name", "flag"]) (sc := defScope s_build_text) (by decide +kernel)) (fun _ _ _ _ _ => (pg_name (i := 3) sc_build_text.nd rfl (Or.inl rfl))) (fun _ _ _ _ _ => pts_nil) (fun _ _ _ _ _ => (pe_cal c_worded (hr.mono (by omega)) rfl (pa_cons pe_str (pa_cons (pv 3) pa_nil)))))
      (pss_cons (ps_expr (pe_bm PySem.F.plainAttrs_list PySem.F.slot_list_extend PySem.F.type_list_extend mt_extend (pv 1) (pa_cons (pe_lc (own := [("page", 4), ("line", 5)]) (tt := tYes) rfl sc_build_text.nd (pi_zip rfl B.zip (pa_cons (pe_mcal0 m_pages (hr.mono (by omega)) (pv 0)) (pa_cons (pe_mcal0 m_lines (hr.mono (by omega)) (pv 0)) pa_nil))) (blkOk_by (N := ["build", "lines", "flags", "task", "page", "line", "size", "name", "flag"]) (sc := defScope s_build_text) (by decide +kernel)) (fun _ _ _ _ _ => (show PG _ _ (gTup K 2 _) from pg_tup rfl (pgs_cons (pg_name (i := 4) sc_build_text.nd rfl (Or.inl rfl)) (pgs_cons (pg_name (i := 5) sc_build_text.nd rfl (Or.inl rfl)) pgs_nil)))) (fun _ _ _ _ _ => pts_nil) (fun _ _ _ _ _ => (pe_cal c_page_line (hr.mono (by omega)) rfl (pa_cons (pv 4) (pa_cons (pv 5) pa_nil))))) pa_nil)))
      (pss_cons (ps_expr (pe_bm PySem.F.plainAttrs_list PySem.F.slot_list_extend PySem.F.type_list_extend mt_extend (pv 1) (pa_cons (pe_lc (own := [("size", 6)]) (tt := tYes) rfl sc_build_text.nd (pi_list (pe_mcal0 m_ports (hr.mono (by omega)) (pv 0))) (blkOk_by (N := ["build", "lines", "flags", "task", "page", "line", "size", "name", "flag"]) (sc := defScope s_build_text) (by decide +kernel)) (fun _ _ _ _ _ => (pg_name (i := 6) sc_build_text.nd rfl (Or.inl rfl))) (fun _ _ _ _ _ => pts_nil) (fun _ _ _ _ _ => (pe_cal c_worded (hr.mono (by omega)) rfl (pa_cons pe_str (pa_cons (pe_tup (pa_cons (pv 6) pa_nil)) pa_nil))))) pa_nil)))
      (pss_cons (ps_expr (pe_bm PySem.F.plainAttrs_list PySem.F.slot_list_append PySem.F.type_list_append mt_append (pv 1) (pa_cons (pe_cal c_worded (hr.mono (by omega)) rfl (pa_cons pe_str (pa_cons (pe_tup (pa_cons (pe_mcal0 m_locks (hr.mono (by omega)) (pv 0)) pa_nil)) pa_nil))) pa_nil)))
      (pss_cons (ps_expr (pe_bm PySem.F.plainAttrs_list PySem.F.slot_list_append PySem.F.type_list_append mt_append (pv 1) (pa_cons (pe_cal c_worded (hr.mono (by omega)) rfl (pa_cons pe_str (pa_cons (pe_tup (pa_cons (pe_mcal0 m_frames (hr.mono (by omega)) (pv 0)) pa_nil)) pa_nil))) pa_nil)))
      (pss_cons (ps_expr (pe_bm PySem.F.plainAttrs_list PySem.F.slot_list_append PySem.F.type_list_append mt_append (pv 1) (pa_cons (pe_cal c_worded (hr.mono (by omega)) rfl (pa_cons pe_str (pa_cons (pe_tup (pa_cons (pe_mcal0 m_disk (hr.mono (by omega)) (pv 0)) pa_nil)) pa_nil))) pa_nil)))
      (pss_cons (ps_expr (pe_bm PySem.F.plainAttrs_list PySem.F.slot_list_append PySem.F.type_list_append mt_append (pv 1) (pa_cons (pe_cal c_worded (hr.mono (by omega)) rfl (pa_cons pe_str (pa_cons (pe_mcal0 m_costs (hr.mono (by omega)) (pv 0)) pa_nil))) pa_nil)))
      (pss_cons (ps_expr (pe_bm PySem.F.plainAttrs_list PySem.F.slot_list_extend PySem.F.type_list_extend mt_extend (pv 1) (pa_cons (pe_cal c_plan_lines (hr.mono (by omega)) rfl (pa_cons (pe_mcal0 m_plan (hr.mono (by omega)) (pv 0)) pa_nil)) pa_nil)))
      (pss_cons (ps_if (pt_cmp (pc_notN (pe_mcal0 m_outside (hr.mono (by omega)) (pv 0)))) (pss_one (ps_expr (pe_bm PySem.F.plainAttrs_list PySem.F.slot_list_append PySem.F.type_list_append mt_append (pv 1) (pa_cons (pe_cal c_worded (hr.mono (by omega)) rfl (pa_cons pe_str (pa_cons (pe_mcal0 m_outside (hr.mono (by omega)) (pv 0)) pa_nil))) pa_nil)))) pss_nil)
      (pss_cons (ps_set (i := 2) sc_build_text.nd rfl (Or.inl rfl) (pe_tup (pa_cons (pe_mcal0 m_wipe (hr.mono (by omega)) (pv 0)) (pa_cons (pe_mcal0 m_pad (hr.mono (by omega)) (pv 0)) (pa_cons (pe_mcal0 m_lend (hr.mono (by omega)) (pv 0)) (pa_cons (pe_mcal0 m_share (hr.mono (by omega)) (pv 0)) pa_nil))))))
      (pss_cons (ps_expr (pe_bm PySem.F.plainAttrs_list PySem.F.slot_list_extend PySem.F.type_list_extend mt_extend (pv 1) (pa_cons (pe_lc (own := [("name", 7), ("flag", 8)]) rfl sc_build_text.nd (RZ.pi_zipA rfl B.zip (pa_cons (pe_glob (v := .ref aF) rfl gF rfl) (pa_cons (pv 2) pa_nil))) (blkOk_by (N := ["build", "lines", "flags", "task", "page", "line", "size", "name", "flag"]) (sc := defScope s_build_text) (by decide +kernel)) (fun _ _ _ _ _ => (show PG _ _ (gTup K 2 _) from pg_tup rfl (pgs_cons (pg_name (i := 7) sc_build_text.nd rfl (Or.inl rfl)) (pgs_cons (pg_name (i := 8) sc_build_text.nd rfl (Or.inl rfl)) pgs_nil)))) (fun _ _ _ _ _ => (pts_one (pt_val (pv 8)))) (fun _ _ _ _ _ => (pv 7))) pa_nil)))
      (pss_cons (ps_expr (pe_bm PySem.F.plainAttrs_list PySem.F.slot_list_extend PySem.F.type_list_extend mt_extend (pv 1) (pa_cons (pe_cal c_right_lines (hr.mono (by omega)) rfl (pa_cons (pe_mcal0 m_rights (hr.mono (by omega)) (pv 0)) pa_nil)) pa_nil)))
      (pss_one (ps_ret (pe_join pe_str (pv 1)))))))))))))))), ?_⟩
    walk_at "st0"
    obtain ⟨tds, et, t2, t4, tall⟩ := okTasksL ok.tasks
    refine q_lcG (q_iL ?_)
    walk_at "st"
    refine q_get pa (by decide +kernel) (by decide +kernel) fun v H1 s1 hv => ?_
    obtain ⟨l1, xs1, ds1, rfl, _, el1, ed1, da1⟩ := hv
    rw [et] at ed1
    cases ed1
    refine ⟨l1, rfl, ⟨_, SqL.of el1⟩, fun L nL => lc_mapL (fun d => V.str (wrd "task" (itemsOf d))) (SqL.of el1) da1 (by omega) nL ?_ ?_⟩
    · rintro x d H2 hx hmem s2 Q' kq
      refine q_gname ⟨rfl, ?_⟩
      walk_at "st"
      obtain ⟨sd, lv, rfl, a0, a1, a2, a3⟩ := task_items (tall d hmem)
      exact ⟨"task", x, [.int sd, .int lv], rfl, hx, by decide +kernel, by simp, fun e he => by
        simp only [List.mem_cons, List.not_mem_nil, or_false] at he
        rcases he with rfl | rfl
        · exact sD_int a0 (by omega)
        · exact sD_int a2 (by omega), by omega, fun H' s' => kq H' s'⟩
    · intro H2 s2 e2
      have bt : Bt H H2 L ((itemsOf b.tasks).map fun d => wrd "task" (itemsOf d)) 4 := ⟨s1.trans s2, by rw [e2, et]; simp [itemsOf, List.map_map, Function.comp_def], s1.free nL, by rw [et, List.length_map]; exact t4, fun x hx => by
        obtain ⟨d, hd, rfl⟩ := List.mem_map.mp hx
        rw [et] at hd
        obtain ⟨sd, lv, rfl, a0, a1, a2, a3⟩ := task_items (tall d hd)
        exact wrd_len (by decide +kernel) (by simp [itemsOf]) fun e he => by
          simp only [itemsOf, List.mem_cons, List.not_mem_nil, or_false] at he
          rcases he with rfl | rfl
          · exact sD_int a0 (by omega)
          · exact sD_int a2 (by omega)⟩
      clear e2 da1 el1 s2 s1
      obtain ⟨X1, hX1⟩ : ∃ X, X = (itemsOf b.tasks).map (fun d => wrd "task" (itemsOf d)) := ⟨_, rfl⟩
      rw [← hX1] at bt
      obtain ⟨pds, ep, pl, pall⟩ := okList ok.pages
      obtain ⟨lds, el, ll, lall⟩ := okLinesL ok.lines
      have lpl : lds.length = pds.length := by
        obtain ⟨tds', pds', qds', l, d, et', ep', eq', el', ed', ec', _⟩ := cOf_forms6 ok
        rw [ep] at ep'
        cases ep'
        rw [ec'] at ll
        have z : (lds.length : Int) = pds.length := ll
        omega
      walk_at "st"
      refine ⟨.inl ⟨rfl, _, SqL.of bt.eL⟩, ?_⟩
      walk_at "st"
      refine q_lcG ?_
      refine q_iZ ?_
      walk_at "st"
      refine q_get (pa.mono bt.s) (by decide +kernel) (by decide +kernel) fun v3 H3 s3 hv => ?_
      obtain ⟨l3, xs3, ds3, rfl, _, el3, ed3, da3⟩ := hv
      rw [ep] at ed3
      cases ed3
      walk_at "st"
      refine q_get (pa.mono (bt.s.trans s3)) (by decide +kernel) (by decide +kernel) fun v4 H4 s4 hv => ?_
      obtain ⟨l4, xs4, ds4, rfl, _, el4, ed4, da4⟩ := hv
      rw [el] at ed4
      cases ed4
      walk_at "st"
      have lx3 := da3.length
      have lx4 := da4.length
      replace el3 := s4 _ _ el3
      replace da3 := L2.DpAll.mono s4 da3
      refine ⟨l3, l4, xs3, xs4, rfl, SqL.of el3, SqL.of el4, fun D nD => lc_val (n := pds.length) (walk_zip (by omega)) (fun i => .str (pageL (pds.getD i .none) (lds.getD i .none))) nD (by exact sz1000 (by omega)) (fun H2 s => ⟨SqL.of (s _ _ el3), SqL.of (s _ _ el4)⟩) ypair_same ?_ ?_⟩
      · rintro i x H2 H3 lt s2 ⟨T, u, v, rfl, nt, rfl, e1, e2⟩ Q2 k
        obtain ⟨d1, f1, h1⟩ := da3.get' e1
        obtain ⟨d2, f2, h2⟩ := da4.get' e2
        obtain ⟨j, rfl, j0, j1⟩ := pall d1 (List.mem_of_getElem? f1)
        have okl := lall d2 (List.mem_of_getElem? f2)
        cases h1
        have sT := same_new (o := .tup [.int j, v]) nt
        refine ⟨T, _, rfl, SqT.of upd_same, rfl, _, _, rfl, _, _, rfl, rfl, rfl, ?_⟩
        walk_at "st"
        refine ⟨j, v, d2, rfl, j0, by omega, L2.Dp.mono (s2.trans sT) h2, okl, fun H' s' => ?_⟩
        have z := k H' s'
        simpa [List.getD_eq_getElem?_getD, f1, f2] using z
      · intro H5 s5 e5
        have bt5 := (bt.mono (s3.trans s4)).mono s5
        walk_at "st"
        have ey : (List.range pds.length).map (fun i => V.str (pageL (pds.getD i .none) (lds.getD i .none))) = (((itemsOf b.pages).zip (itemsOf b.lines)).map fun p => pageL p.1 p.2).map V.str := by
          rw [ep, el]
          refine List.ext_getElem (by simp [itemsOf]; omega) fun i h1 h2 => ?_
          have i1 : i < pds.length := by simpa using h1
          have i2 : i < lds.length := by omega
          simp [itemsOf, List.getD_eq_getElem?_getD, i1, i2]
        rw [ey] at e5
        have lY : (((itemsOf b.pages).zip (itemsOf b.lines)).map fun p => pageL p.1 p.2).length ≤ 3 := by rw [ep]; simp [itemsOf]; omega
        have sY : ∀ x ∈ ((itemsOf b.pages).zip (itemsOf b.lines)).map (fun p => pageL p.1 p.2), x.length ≤ 6000 := fun x hx => by
          obtain ⟨⟨y1, y2⟩, hy, rfl⟩ := List.mem_map.mp hx
          rw [ep, el] at hy
          obtain ⟨m1, m2⟩ := List.of_mem_zip hy
          obtain ⟨j, rfl, j0, j1⟩ := pall y1 m1
          exact pageL_len j0 (by omega) (lall y2 m2)
        refine ⟨L, D, _, _, rfl, rfl, bt5.eL, e5, by have := bt5.len; rw [List.length_map, List.length_map, sizeLine_eq]; omega, ?_⟩
        have bt6 := bt5.add lY sY
        clear bt5 bt e5 ey da3 da4 el3 el4 s5 s4 s3
        obtain ⟨X2, hX2⟩ : ∃ X, X = ((itemsOf b.pages).zip (itemsOf b.lines)).map (fun p => pageL p.1 p.2) := ⟨_, rfl⟩
        rw [← hX2] at bt6 lY sY
        rw [← hX2]
        generalize upd H5 L (.lst (X1.map V.str ++ X2.map V.str)) = H6 at *
        clear lY sY
        obtain ⟨qds, eq, ql, qall⟩ := okList ok.ports
        walk_at "st"
        refine ⟨.inl ⟨rfl, _, SqL.of bt6.eL⟩, ?_⟩
        walk_at "st"
        refine q_lcG (q_iL ?_)
        walk_at "st"
        refine q_get (pa.mono bt6.s) (by decide +kernel) (by decide +kernel) fun v7 H7 s7 hv => ?_
        obtain ⟨l7, xs7, ds7, rfl, _, el7, ed7, da7⟩ := hv
        rw [eq] at ed7
        cases ed7
        refine ⟨l7, rfl, ⟨_, SqL.of el7⟩, fun D nD => lc_mapL (fun d => V.str (wrd "port" [d])) (SqL.of el7) da7 (by omega) nD ?_ ?_⟩
        · rintro x d H2 hx hmem s2 Q' kq
          refine q_gname ⟨rfl, ?_⟩
          walk_at "st"
          obtain ⟨j, rfl, j0, j1⟩ := qall d hmem
          refine ⟨by show 1 ≤ sizeLine; decide, fun t nt => ?_⟩
          walk_at "st"
          exact ⟨"port", .ref t, [.int j], rfl, .tup (SqT.of upd_same) (.cons (L2.Dp.mono (same_new nt) hx) .nil), by decide +kernel, by simp, fun e he => by
            simp only [List.mem_cons, List.not_mem_nil, or_false] at he
            subst he; exact sD_int (by omega) (by omega), by omega, fun H' s' => kq H' ((same_new nt).trans s')⟩
        intro H8 s8 e8
        have bt8 := (bt6.mono s7).mono s8
        have ey : qds.map (fun d => V.str (wrd "port" [d])) = ((itemsOf b.ports).map fun d => wrd "port" [d]).map V.str := by rw [eq]; simp [itemsOf, List.map_map, Function.comp_def]
        rw [ey] at e8
        have lY : ((itemsOf b.ports).map fun d => wrd "port" [d]).length ≤ 2 := by rw [eq, List.length_map]; show qds.length ≤ 2; omega
        have sY : ∀ x ∈ (itemsOf b.ports).map (fun d => wrd "port" [d]), x.length ≤ 6000 := fun x hx => by
          obtain ⟨y, hy, rfl⟩ := List.mem_map.mp hx
          rw [eq] at hy
          obtain ⟨j, rfl, j0, j1⟩ := qall y hy
          exact wrd_len (by decide +kernel) (by simp) fun e he => by
            simp only [List.mem_cons, List.not_mem_nil, or_false] at he
            subst he; exact sD_int (by omega) (by omega)
        walk_at "st"
        refine ⟨L, D, _, _, rfl, rfl, bt8.eL, e8, by have := bt8.len; rw [List.length_map, List.length_map, sizeLine_eq]; omega, ?_⟩
        have b0 := bt8.add lY sY
        clear bt8 bt6 e8 ey da7 el7 s8 s7
        obtain ⟨X3, hX3⟩ : ∃ X, X = (itemsOf b.ports).map (fun d => wrd "port" [d]) := ⟨_, rfl⟩
        rw [← hX3] at b0 lY sY
        rw [← hX3]
        generalize upd H8 L (.lst ((X1 ++ X2).map V.str ++ X3.map V.str)) = G0 at *
        clear lY sY
        obtain ⟨kn, ek, k0, k2⟩ := okBetween ok.locks
        obtain ⟨fn, ef, f0, f3⟩ := okBetween ok.frames
        have okd := ok.disk
        unfold okDisk at okd
        rw [Bool.and_eq_true] at okd
        obtain ⟨dn, ed, d0, d4⟩ := okBetween okd.1
        obtain ⟨c1, c2, c3, ec, c10, c13, c20, c23, c30, c32⟩ := okCostsL ok.costs
        walk_at "st"
        refine ⟨.inl ⟨rfl, _, SqL.of b0.eL⟩, ?_⟩
        walk_at "st"
        refine q_get (pa.mono b0.s) (by decide +kernel) (by decide +kernel) fun v H1 s1 hv => ?_
        walk_at "st"
        refine ⟨by show 1 ≤ sizeLine; decide, fun t nt => ?_⟩
        have st := same_new (o := .tup [v]) nt
        walk_at "st"
        refine ⟨"locks", .ref t, [b.locks], rfl, .tup (SqT.of upd_same) (.cons (L2.Dp.mono st hv) .nil), by decide +kernel, by simp, (fun e he => by simp only [List.mem_cons, List.not_mem_nil, or_false] at he; subst he; rw [ek]; exact sD_int (by omega) (by omega)), by omega, fun H2 s2 => ?_⟩
        have b0' := b0.mono (s1.trans (st.trans s2))
        refine ⟨L, _, _, rfl, rfl, b0'.eL, by have := b0'.len; rw [List.length_map, sizeLine_eq]; omega, ?_⟩
        have b1 := b0'.add (Y := [wrd "locks" [b.locks]]) (k := 1) (by simp) (fun x hx => by
          simp only [List.mem_cons, List.not_mem_nil, or_false] at hx
          subst hx
          exact wrd_len (by decide +kernel) (by first | (simp; done) | (rw [ec]; simp [itemsOf])) (fun e he => by simp only [List.mem_cons, List.not_mem_nil, or_false] at he; subst he; rw [ek]; exact sD_int (by omega) (by omega)))
        clear b0' b0
        have hg : upd H2 L (.lst ((X1 ++ X2 ++ X3).map V.str ++ [V.str (wrd "locks" [b.locks])])) = upd H2 L (.lst ((X1 ++ X2 ++ X3).map V.str ++ ([wrd "locks" [b.locks]] : List Str).map V.str)) := rfl
        rw [show V.str (Str.join " " ("locks" :: spells [b.locks])) = V.str (wrd "locks" [b.locks]) from rfl, hg]
        generalize upd H2 L (.lst ((X1 ++ X2 ++ X3).map V.str ++ ([wrd "locks" [b.locks]] : List Str).map V.str)) = G1 at *
        clear hg
        walk_at "st"
        refine ⟨.inl ⟨rfl, _, SqL.of b1.eL⟩, ?_⟩
        walk_at "st"
        refine q_get (pa.mono b1.s) (by decide +kernel) (by decide +kernel) fun v H1 s1 hv => ?_
        walk_at "st"
        refine ⟨by show 1 ≤ sizeLine; decide, fun t nt => ?_⟩
        have st := same_new (o := .tup [v]) nt
        walk_at "st"
        refine ⟨"frames", .ref t, [b.frames], rfl, .tup (SqT.of upd_same) (.cons (L2.Dp.mono st hv) .nil), by decide +kernel, by simp, (fun e he => by simp only [List.mem_cons, List.not_mem_nil, or_false] at he; subst he; rw [ef]; exact sD_int (by omega) (by omega)), by omega, fun H2 s2 => ?_⟩
        have b1' := b1.mono (s1.trans (st.trans s2))
        refine ⟨L, _, _, rfl, rfl, b1'.eL, by have := b1'.len; rw [List.length_map, sizeLine_eq]; omega, ?_⟩
        have b2 := b1'.add (Y := [wrd "frames" [b.frames]]) (k := 1) (by simp) (fun x hx => by
          simp only [List.mem_cons, List.not_mem_nil, or_false] at hx
          subst hx
          exact wrd_len (by decide +kernel) (by first | (simp; done) | (rw [ec]; simp [itemsOf])) (fun e he => by simp only [List.mem_cons, List.not_mem_nil, or_false] at he; subst he; rw [ef]; exact sD_int (by omega) (by omega)))
        clear b1' b1
        have hg : upd H2 L (.lst ((X1 ++ X2 ++ X3 ++ [wrd "locks" [b.locks]]).map V.str ++ [V.str (wrd "frames" [b.frames])])) = upd H2 L (.lst ((X1 ++ X2 ++ X3 ++ [wrd "locks" [b.locks]]).map V.str ++ ([wrd "frames" [b.frames]] : List Str).map V.str)) := rfl
        rw [show V.str (Str.join " " ("frames" :: spells [b.frames])) = V.str (wrd "frames" [b.frames]) from rfl, hg]
        generalize upd H2 L (.lst ((X1 ++ X2 ++ X3 ++ [wrd "locks" [b.locks]]).map V.str ++ ([wrd "frames" [b.frames]] : List Str).map V.str)) = G2 at *
        clear hg
        walk_at "st"
        refine ⟨.inl ⟨rfl, _, SqL.of b2.eL⟩, ?_⟩
        walk_at "st"
        refine q_get (pa.mono b2.s) (by decide +kernel) (by decide +kernel) fun v H1 s1 hv => ?_
        walk_at "st"
        refine ⟨by show 1 ≤ sizeLine; decide, fun t nt => ?_⟩
        have st := same_new (o := .tup [v]) nt
        walk_at "st"
        refine ⟨"disk", .ref t, [b.disk], rfl, .tup (SqT.of upd_same) (.cons (L2.Dp.mono st hv) .nil), by decide +kernel, by simp, (fun e he => by simp only [List.mem_cons, List.not_mem_nil, or_false] at he; subst he; rw [ed]; exact sD_int (by omega) (by omega)), by omega, fun H2 s2 => ?_⟩
        have b2' := b2.mono (s1.trans (st.trans s2))
        refine ⟨L, _, _, rfl, rfl, b2'.eL, by have := b2'.len; rw [List.length_map, sizeLine_eq]; omega, ?_⟩
        have b3 := b2'.add (Y := [wrd "disk" [b.disk]]) (k := 1) (by simp) (fun x hx => by
          simp only [List.mem_cons, List.not_mem_nil, or_false] at hx
          subst hx
          exact wrd_len (by decide +kernel) (by first | (simp; done) | (rw [ec]; simp [itemsOf])) (fun e he => by simp only [List.mem_cons, List.not_mem_nil, or_false] at he; subst he; rw [ed]; exact sD_int (by omega) (by omega)))
        clear b2' b2
        have hg : upd H2 L (.lst ((X1 ++ X2 ++ X3 ++ [wrd "locks" [b.locks]] ++ [wrd "frames" [b.frames]]).map V.str ++ [V.str (wrd "disk" [b.disk])])) = upd H2 L (.lst ((X1 ++ X2 ++ X3 ++ [wrd "locks" [b.locks]] ++ [wrd "frames" [b.frames]]).map V.str ++ ([wrd "disk" [b.disk]] : List Str).map V.str)) := rfl
        rw [show V.str (Str.join " " ("disk" :: spells [b.disk])) = V.str (wrd "disk" [b.disk]) from rfl, hg]
        generalize upd H2 L (.lst ((X1 ++ X2 ++ X3 ++ [wrd "locks" [b.locks]] ++ [wrd "frames" [b.frames]]).map V.str ++ ([wrd "disk" [b.disk]] : List Str).map V.str)) = G3 at *
        clear hg
        walk_at "st"
        refine ⟨.inl ⟨rfl, _, SqL.of b3.eL⟩, ?_⟩
        walk_at "st"
        refine q_get (pa.mono b3.s) (by decide +kernel) (by decide +kernel) fun v H1 s1 hv => ?_
        walk_at "st"
        refine ⟨"costs", v, itemsOf b.costs, rfl, by rw [ec] at hv ⊢; exact hv, by decide +kernel, by rw [ec]; simp [itemsOf], (fun e he => by rw [ec] at he; simp only [itemsOf, List.mem_cons, List.not_mem_nil, or_false] at he; rcases he with rfl | rfl | rfl <;> exact sD_int (by omega) (by omega)), by omega, fun H2 s2 => ?_⟩
        have b3' := b3.mono (s1.trans s2)
        refine ⟨L, _, _, rfl, rfl, b3'.eL, by have := b3'.len; rw [List.length_map, sizeLine_eq]; omega, ?_⟩
        have b4 := b3'.add (Y := [wrd "costs" (itemsOf b.costs)]) (k := 1) (by simp) (fun x hx => by
          simp only [List.mem_cons, List.not_mem_nil, or_false] at hx
          subst hx
          exact wrd_len (by decide +kernel) (by first | (simp; done) | (rw [ec]; simp [itemsOf])) (fun e he => by rw [ec] at he; simp only [itemsOf, List.mem_cons, List.not_mem_nil, or_false] at he; rcases he with rfl | rfl | rfl <;> exact sD_int (by omega) (by omega)))
        clear b3' b3
        have hg : upd H2 L (.lst ((X1 ++ X2 ++ X3 ++ [wrd "locks" [b.locks]] ++ [wrd "frames" [b.frames]] ++ [wrd "disk" [b.disk]]).map V.str ++ [V.str (wrd "costs" (itemsOf b.costs))])) = upd H2 L (.lst ((X1 ++ X2 ++ X3 ++ [wrd "locks" [b.locks]] ++ [wrd "frames" [b.frames]] ++ [wrd "disk" [b.disk]]).map V.str ++ ([wrd "costs" (itemsOf b.costs)] : List Str).map V.str)) := rfl
        rw [show V.str (Str.join " " ("costs" :: spells (itemsOf b.costs))) = V.str (wrd "costs" (itemsOf b.costs)) from rfl, hg]
        generalize upd H2 L (.lst ((X1 ++ X2 ++ X3 ++ [wrd "locks" [b.locks]] ++ [wrd "frames" [b.frames]] ++ [wrd "disk" [b.disk]]).map V.str ++ ([wrd "costs" (itemsOf b.costs)] : List Str).map V.str)) = G4 at *
        clear hg
        have ct : cnt (cOf b) "task" ≤ 4 := cnt_le ok (.inr (.inr (.inr (.inl rfl))))
        obtain ⟨pl5, pl6⟩ := planL_len ok.plan ct
        walk_at "st"
        refine ⟨.inl ⟨rfl, _, SqL.of b4.eL⟩, ?_⟩
        walk_at "st"
        refine q_get (pa.mono b4.s) (by decide +kernel) (by decide +kernel) fun v H1 s1 hv => ?_
        obtain ⟨Sv, ov, _⟩ := hv
        walk_at "st"
        refine ⟨v, b.plan, cOf b, rfl, ov.dp, ok.plan, ct, fun l H2 s2 e2 => ?_⟩
        have b4' := b4.mono (s1.trans s2)
        walk_at "st"
        refine ⟨L, l, _, _, rfl, rfl, b4'.eL, e2, by have := b4'.len; rw [List.length_map, List.length_map, sizeLine_eq]; omega, ?_⟩
        have b5 := b4'.add pl5 pl6
        clear b4' b4 e2 ov
        generalize upd H2 L (.lst ((X1 ++ X2 ++ X3 ++ [wrd "locks" [b.locks]] ++ [wrd "frames" [b.frames]] ++ [wrd "disk" [b.disk]] ++ [wrd "costs" (itemsOf b.costs)]).map V.str ++ (planL b.plan).map V.str)) = G5 at *
        refine seq_if (fun σ H' => ∃ m, m ≤ 60 ∧ σ = [some (.ref p), some (.ref L), none, none, none, none, none, none, none] ∧ Bt H H' L (X1 ++ X2 ++ X3 ++ [wrd "locks" [b.locks]] ++ [wrd "frames" [b.frames]] ++ [wrd "disk" [b.disk]] ++ [wrd "costs" (itemsOf b.costs)] ++ planL b.plan ++ outL b.outside) m) ?_ fun N hN => ?_
        · rintro σ H' ⟨m, hm, rfl, b6⟩
          walk_at "st"
          refine q_get (pa.mono b6.s) (by decide +kernel) (by decide +kernel) fun w1 H1 s1 h1 => ?_
          walk_at "st"
          refine q_get (pa.mono (b6.s.trans s1)) (by decide +kernel) (by decide +kernel) fun w2 H2 s2 h2 => ?_
          walk_at "st"
          refine q_get (pa.mono ((b6.s.trans s1).trans s2)) (by decide +kernel) (by decide +kernel) fun w3 H3 s3 h3 => ?_
          walk_at "st"
          refine q_get (pa.mono (((b6.s.trans s1).trans s2).trans s3)) (by decide +kernel) (by decide +kernel) fun w4 H4 s4 h4 => ?_
          obtain ⟨f1, g1⟩ := isBoolL ok.wipe
          obtain ⟨f2, g2⟩ := isBoolL ok.pad
          obtain ⟨f3, g3⟩ := isBoolL ok.lend
          obtain ⟨f4, g4⟩ := isBoolL ok.share
          rw [g1] at h1
          rw [g2] at h2
          rw [g3] at h3
          rw [g4] at h4
          cases h1; cases h2; cases h3; cases h4
          walk_at "st"
          refine ⟨by show 4 ≤ sizeLine; decide, fun T nT => ?_⟩
          have sT := same_new (o := .tup [.bl f1, .bl f2, .bl f3, .bl f4]) nT
          have eT : upd H4 T (.tup [.bl f1, .bl f2, .bl f3, .bl f4]) T = some (.tup [.bl f1, .bl f2, .bl f3, .bl f4]) := upd_same
          have b7 := b6.mono ((((s1.trans s2).trans s3).trans s4).trans sT)
          generalize upd H4 T (.tup [.bl f1, .bl f2, .bl f3, .bl f4]) = H5 at *
          clear b6 s1 s2 s3 s4 sT nT
          walk_at "st"
          refine ⟨.inl ⟨rfl, _, SqL.of b7.eL⟩, ?_⟩
          walk_at "st"
          refine q_lcG ?_
          refine ⟨_, rfl, aF, T, _, _, rfl, .inr ⟨hF _, SqT.of eT, fun D nD => lc_it (walk_zipT (n := 4) rfl) (fun i H' => Same H5 H' ∧ H' D = some (.lst ((flT b i).map V.str))) ⟨same_new nD, by rw [upd_same]; rfl⟩ (fun i H' _ h => ⟨hF _, SqT.of (h.1 _ _ eT)⟩) ?_ ?_⟩⟩
          · rintro i x H6 H7 lt ⟨s6, e6⟩ ⟨T2, y1, y2, rfl, nT2, rfl, ey1, ey2⟩
            have sT2 := same_new (o := .tup [y1, y2]) nT2
            refine ⟨T2, _, rfl, SqT.of upd_same, rfl, _, _, rfl, _, _, rfl, rfl, rfl, ?_⟩
            have e7 := sT2 _ _ e6
            have s7 := s6.trans sT2
            generalize upd H6 T2 (.tup [y1, y2]) = H7 at *
            have c : i = 0 ∨ i = 1 ∨ i = 2 ∨ i = 3 := by omega
            rcases c with rfl | rfl | rfl | rfl
            · cases ey1; cases ey2
              have su : flT b (0 + 1) = flT b 0 ++ (if f1 = true then [("wipe" : Str)] else []) := by
                rw [flT_succ (z := "wipe") (d := b.wipe) rfl, g1]; rfl
              walk_at "st"
              cases f1 with
              | true =>
                rw [if_pos rfl] at su
                refine iteT ?_
                walk_at "st"
                refine ⟨_, e7, by have := (flT_len b 0).1; rw [List.length_map, sizeLine_eq]; omega, fun a o he => ?_, ?_⟩
                · rw [upd_ne (ne_of_none he nD)]; exact s7 _ _ he
                · rw [upd_same, su]; simp
              | false =>
                rw [if_neg (by simp), List.append_nil] at su
                refine iteF ?_
                exact ⟨s7, by rw [su]; exact e7⟩
            · cases ey1; cases ey2
              have su : flT b (1 + 1) = flT b 1 ++ (if f2 = true then [("pad" : Str)] else []) := by
                rw [flT_succ (z := "pad") (d := b.pad) rfl, g2]; rfl
              walk_at "st"
              cases f2 with
              | true =>
                rw [if_pos rfl] at su
                refine iteT ?_
                walk_at "st"
                refine ⟨_, e7, by have := (flT_len b 1).1; rw [List.length_map, sizeLine_eq]; omega, fun a o he => ?_, ?_⟩
                · rw [upd_ne (ne_of_none he nD)]; exact s7 _ _ he
                · rw [upd_same, su]; simp
              | false =>
                rw [if_neg (by simp), List.append_nil] at su
                refine iteF ?_
                exact ⟨s7, by rw [su]; exact e7⟩
            · cases ey1; cases ey2
              have su : flT b (2 + 1) = flT b 2 ++ (if f3 = true then [("lend" : Str)] else []) := by
                rw [flT_succ (z := "lend") (d := b.lend) rfl, g3]; rfl
              walk_at "st"
              cases f3 with
              | true =>
                rw [if_pos rfl] at su
                refine iteT ?_
                walk_at "st"
                refine ⟨_, e7, by have := (flT_len b 2).1; rw [List.length_map, sizeLine_eq]; omega, fun a o he => ?_, ?_⟩
                · rw [upd_ne (ne_of_none he nD)]; exact s7 _ _ he
                · rw [upd_same, su]; simp
              | false =>
                rw [if_neg (by simp), List.append_nil] at su
                refine iteF ?_
                exact ⟨s7, by rw [su]; exact e7⟩
            · cases ey1; cases ey2
              have su : flT b (3 + 1) = flT b 3 ++ (if f4 = true then [("share" : Str)] else []) := by
                rw [flT_succ (z := "share") (d := b.share) rfl, g4]; rfl
              walk_at "st"
              cases f4 with
              | true =>
                rw [if_pos rfl] at su
                refine iteT ?_
                walk_at "st"
                refine ⟨_, e7, by have := (flT_len b 3).1; rw [List.length_map, sizeLine_eq]; omega, fun a o he => ?_, ?_⟩
                · rw [upd_ne (ne_of_none he nD)]; exact s7 _ _ he
                · rw [upd_same, su]; simp
              | false =>
                rw [if_neg (by simp), List.append_nil] at su
                refine iteF ?_
                exact ⟨s7, by rw [su]; exact e7⟩
          · rintro H6 ⟨s6, e6⟩
            have b8 := b7.mono s6
            obtain ⟨fl4, fl6⟩ := flT_len b 4
            walk_at "st"
            refine ⟨L, D, _, _, rfl, rfl, b8.eL, e6, by have := b8.len; rw [List.length_map, List.length_map, sizeLine_eq]; omega, ?_⟩
            have b9 := b8.add fl4 fl6
            clear b8 b7 e6 s6
            generalize hX : X1 ++ X2 ++ X3 ++ [wrd "locks" [b.locks]] ++ [wrd "frames" [b.frames]] ++ [wrd "disk" [b.disk]] ++ [wrd "costs" (itemsOf b.costs)] ++ planL b.plan ++ outL b.outside = XX at *
            generalize upd H6 L (.lst (XX.map V.str ++ (flT b 4).map V.str)) = H7 at *
            obtain ⟨rds, er, lm, rall⟩ := okRightsL ok.rights
            have sh := rights_shape ok er
            have lr : rds.length ≤ 4 := by
              have z : (rds.length : Int) ≤ 4 := by rw [lm]; exact ct
              omega
            obtain ⟨rl1, rl2⟩ := rightsL_len rds 0 (by omega) sh
            walk_at "st"
            refine ⟨.inl ⟨rfl, _, SqL.of b9.eL⟩, ?_⟩
            walk_at "st"
            refine q_get (pa.mono b9.s) (by decide +kernel) (by decide +kernel) fun v8 H8 s8 hv => ?_
            obtain ⟨Sv, ov, _⟩ := hv
            walk_at "st"
            have dv := ov.dp
            rw [er] at dv
            refine ⟨v8, rds, rfl, dv, lr, sh, fun l H9 s9 e9 => ?_⟩
            have bA := b9.mono (s8.trans s9)
            walk_at "st"
            refine ⟨L, l, _, _, rfl, rfl, bA.eL, e9, by have := bA.len; rw [List.length_map, List.length_map, sizeLine_eq]; omega, ?_⟩
            have bB := bA.add (Nat.le_trans rl1 (show 8 * rds.length ≤ 32 by omega)) rl2
            have eX : linesOf b = XX ++ flT b 4 ++ rightsL 0 rds := by
              rw [← hX, hX1, hX2, hX3, ← show itemsOf b.rights = rds from by rw [er]; rfl]
              simp only [linesOf, List.append_assoc]
            rw [← List.map_append]
            rw [← List.map_append, ← eX] at bB
            rw [← eX]
            generalize upd H9 L (.lst ((linesOf b).map V.str)) = HZ at *
            refine q_m1 ?_
            walk_at "st"
            refine ⟨⟨_, rfl⟩, ?_⟩
            walk_at "st"
            have lb := bB.len
            refine ⟨"\n", L, linesOf b, rfl, rfl, .inl (SqL.of bB.eL), ?_, ?_⟩
            · have s1 : ("\n" : Str).length = 1 := by decide +kernel
              have z := (join_len "\n" 6000 (linesOf b) bB.short).2
              have : (linesOf b).length * 6000 ≤ 100 * 6000 := Nat.mul_le_mul_right _ (by omega)
              rw [s1]
              omega
            · rw [TL.join_eq]
              exact q _ bB.s
        · walk_at "st"
          refine q_get (pa.mono b5.s) (by decide +kernel) (by decide +kernel) fun v H1 s1 hv => ?_
          have b5' := b5.mono s1
          rcases okOutsideL ok.outside with h | ⟨po, ev, h, p0, p1, v1, v4⟩
          · rw [h] at hv
            cases hv
            walk_at "sb"
            refine hN _ _ ⟨4 + 3 + 2 + 1 + 1 + 1 + 1 + 5, by omega, rfl, ?_⟩
            rw [h, show outL .none = [] from rfl, List.append_nil]
            exact b5'
          · rw [h] at hv
            have hv' := hv
            cases hv with
            | @tup t10 ts _ h10 g10 =>
            walk_at "sb"
            refine ⟨.inl ⟨rfl, _, SqL.of b5'.eL⟩, ?_⟩
            walk_at "st"
            refine q_get (pa.mono b5'.s) (by decide +kernel) (by decide +kernel) fun v2 H2 s2 hv2 => ?_
            rw [h] at hv2
            walk_at "st"
            have p12 : po ≤ 12 := by
              have := cnt_le ok (k := "port") (.inr (.inl rfl))
              have z : po ≤ ((cOf b).lookup ("port" : Str)).getD 0 - 1 := p1
              omega
            have hs : ∀ e ∈ [PyData.int po, PyData.int ev], sD 2 e := fun e he => by
              simp only [List.mem_cons, List.not_mem_nil, or_false] at he
              rcases he with rfl | rfl <;> exact sD_int (by omega) (by omega)
            refine ⟨"outside", v2, [.int po, .int ev], rfl, hv2, by decide +kernel, by simp, hs, by omega, fun H3 s3 => ?_⟩
            have b6 := b5'.mono (s2.trans s3)
            refine ⟨L, _, _, rfl, rfl, b6.eL, by have := b6.len; rw [List.length_map, sizeLine_eq]; omega, ?_⟩
            refine hN _ _ ⟨4 + 3 + 2 + 1 + 1 + 1 + 1 + 5 + 1, by omega, rfl, ?_⟩
            · have z := b6.add (Y := [wrd "outside" [.int po, .int ev]]) (k := 1) (by simp) (fun x hx => by
                simp only [List.mem_cons, List.not_mem_nil, or_false] at hx
                subst hx
                exact wrd_len (by decide +kernel) (by simp) hs)
              rw [h]
              exact z
end
end T



namespace T
/-! the law's own lines are the same -/
theorem emptyS (x : Str) : Str.empty ++ x = x := Str.empty_append x
theorem s_one {w w' : Str} {i : Int} (h : w' = w ++ " ") : w' ++ numS i = wrd w [.int i] := by rw [h]; rfl
theorem s_two {w w' : Str} {i j : Int} (h : w' = w ++ " ") : ((w' ++ numS i) ++ " ") ++ numS j = wrd w [.int i, .int j] := by
  rw [h]
  show _ = (w ++ " ") ++ ((numS i ++ " ") ++ numS j)
  simp only [Str.append_assoc]
theorem s_page {i j : Int} : (("page " ++ numS i) ++ " line ") ++ numS j = pageL (.int i) (.int j) := by
  show _ = ("page" ++ " ") ++ ((numS i ++ " ") ++ (("line" ++ " ") ++ numS j))
  rw [show ("page " : Str) = "page" ++ " " from by decide +kernel, show (" line " : Str) = " " ++ ("line" ++ " ") from by decide +kernel]
  simp only [Str.append_assoc]
theorem s_slot {i j : Int} : (("  " ++ numS i) ++ " ") ++ numS j = slotL (.tuple [.int i, .int j]) := by
  show _ = (((Str.empty ++ "  ") ++ numS i) ++ " ") ++ numS j
  rw [emptyS]
theorem s_right {n i : Int} {z : Str} : ((((("right " ++ numS n) ++ " ") ++ z) ++ " ") ++ numS i) = wrd "right" [.int n, .tuple [.str z, .int i]] := by
  show _ = ("right" ++ " ") ++ ((numS n ++ " ") ++ ((z ++ " ") ++ numS i))
  rw [show ("right " : Str) = "right" ++ " " from by decide +kernel]
  simp only [Str.append_assoc]
section
variable {P : Program} {w : World} {K : PySem.W.Frag} {mg : Str → Option Value} {base : Heap} {C : Addr}
local macro_rules | `(tactic| walk_at "sb") => `(tactic| (repeat (first | (walk_at "s1"; try dsimp only [List.set_cons_zero, List.set_cons_succ, List.append_nil, List.cons_append, List.nil_append, cxOf]) | ((with_reducible refine iteT' ?hh ?_); (case hh => rfl)) | ((with_reducible refine iteF' ?hh ?_); (case hh => rfl)) | with_reducible refine q_eqI ?_)))
theorem parts15 {F : Hp} {xs : List V} {b : BD} (h : DpAll K F xs b.list) : ∃ x0 x1 x2 x3 x4 x5 x6 x7 x8 x9 x10 x11 x12 x13 x14, xs = [x0, x1, x2, x3, x4, x5, x6, x7, x8, x9, x10, x11, x12, x13, x14] ∧ Dp K F x0 b.tasks ∧ Dp K F x1 b.pages ∧ Dp K F x2 b.ports ∧ Dp K F x3 b.locks ∧ Dp K F x4 b.frames ∧ Dp K F x5 b.disk ∧ Dp K F x6 b.rights ∧ Dp K F x7 b.lines ∧ Dp K F x8 b.costs ∧ Dp K F x9 b.plan ∧ Dp K F x10 b.outside ∧ Dp K F x11 b.wipe ∧ Dp K F x12 b.pad ∧ Dp K F x13 b.lend ∧ Dp K F x14 b.share := by
  cases h with | cons a0 h =>
  cases h with | cons a1 h =>
  cases h with | cons a2 h =>
  cases h with | cons a3 h =>
  cases h with | cons a4 h =>
  cases h with | cons a5 h =>
  cases h with | cons a6 h =>
  cases h with | cons a7 h =>
  cases h with | cons a8 h =>
  cases h with | cons a9 h =>
  cases h with | cons a10 h =>
  cases h with | cons a11 h =>
  cases h with | cons a12 h =>
  cases h with | cons a13 h =>
  cases h with | cons a14 h =>
  cases h
  exact ⟨_, _, _, _, _, _, _, _, _, _, _, _, _, _, _, rfl, a0, a1, a2, a3, a4, a5, a6, a7, a8, a9, a10, a11, a12, a13, a14⟩
theorem Bt.le {H0 H : Hp} {L : Addr} {X : List Str} {m n : Nat} (h : Bt H0 H L X m) (l : m ≤ n) : Bt H0 H L X n := ⟨h.s, h.eL, h.new, Nat.le_trans h.len l, h.short⟩
theorem q_iT {tl : TE} {σ : L2.St} {H : Hp} {R : It → Hp → Prop} (h : tl σ H fun x H1 => ∃ a, x = .ref a ∧ (∃ xs, SqT K H1 a xs) ∧ R (Itt K a) H1) : iTup K tl σ H R := h
theorem q_ix0 {i : Nat} {j : Int} {a : Addr} {xs : List V} {z : V} {σ : L2.St} {H : Hp} {Q : VK} (hv : σ[i]? = some (some (.ref a))) (hs : SqL K H a xs) (e : atI xs j = some z) (q : Q z H) : tOp (rIxL K) (tVar i) (tC (.int j)) σ H Q := ⟨_, hv, q_ixL hs e q⟩
theorem q_ix1 {i : Nat} {j k : Int} {a c : Addr} {xs ys : List V} {z : V} {σ : L2.St} {H : Hp} {Q : VK} (hv : σ[i]? = some (some (.ref a))) (hs : SqL K H a xs) (e : atI xs j = some (.ref c)) (ht : SqT K H c ys) (e2 : atI ys k = some z) (q : Q z H) : tOp (rIxT K) (tOp (rIxL K) (tVar i) (tC (.int j))) (tC (.int k)) σ H Q := ⟨_, hv, q_ixL (Q := fun x H1 => rIxT K x (.int k) H1 Q) hs e (q_ixT ht e2 q)⟩
theorem q_ix2 {i i2 : Nat} {j k : Int} {a c : Addr} {xs ys : List V} {z : V} {σ : L2.St} {H : Hp} {Q : VK} (hv : σ[i]? = some (some (.ref a))) (hs : SqL K H a xs) (e : atI xs j = some (.ref c)) (hk : σ[i2]? = some (some (.int k))) (ht : SqL K H c ys) (e2 : atI ys k = some z) (q : Q z H) : tOp (rIxL K) (tOp (rIxL K) (tVar i) (tC (.int j))) (tVar i2) σ H Q := ⟨_, hv, q_ixL (Q := fun x H1 => tVar i2 σ H1 fun y H2 => rIxL K x y H2 Q) hs e ⟨_, hk, q_ixL ht e2 q⟩⟩
def spRows (K : PySem.W.Frag) : Sp := fun vs H Q _ => ∃ (v : V) (b : BD), vs = [v] ∧ Dp K H v (.list b.list) ∧ BOk b ∧ ∀ l H', Same H H' → H' l = some (.lst ((linesOf b).map V.str)) → (∃ m, m ≤ 100 ∧ (linesOf b).length ≤ m ∧ ∀ x ∈ linesOf b, x.length ≤ 6000) → Q (.ref l) H'
theorem ok_law_rows (B : Bl mg) (d : DefAt K mg "_law_rows" s__law_rows ["_law_parts_here"]) : Cal P w K mg base 1 "_law_rows" ["_law_parts_here"] (spRows K) := d.cal fun f fd F => by
  refine F.ok sc__law_rows (fun vs H Q E h => ?_) (fun cdv A outer s H vs Q E hr h => ?_)
  · obtain ⟨v, b, rfl, _⟩ := h; rfl
  · obtain ⟨v, b, rfl, hd, ok, q⟩ := h
    refine ⟨_, (pss_cons (ps_setLc (i := 1) (own := [("_law_row", 3)]) (tt := tYes) rfl sc__law_rows.nd rfl rfl (sw_true rfl rfl rfl (by decide +kernel)) (pi_list (pe_ix ix_list (pv 0) pe_int (fun _ _ => rfl))) (blkOk_by (N := ["_law_parts_here", "_law_rows_here", "_law_k", "_law_row", "_law_size", "_law_task", "_law_right", "_law_ticks"]) (sc := defScope s__law_rows) (by decide +kernel)) (fun _ _ _ _ _ => (pg_name (i := 3) sc__law_rows.nd rfl (Or.inl rfl))) (fun _ _ _ _ _ => pts_nil) (fun _ _ _ _ _ => (pe_op op_add_str (pe_op op_add_str (pe_op op_add_str pe_str (pe_callTy call_str_int rfl B.str_ hb_str (pa_cons (pe_ix (show IxR _ (rIxT K) from ix_tup) (pv 3) pe_int (fun _ _ => rfl)) pa_nil))) pe_str) (pe_callTy call_str_int rfl B.str_ hb_str (pa_cons (pe_ix (show IxR _ (rIxT K) from ix_tup) (pv 3) pe_int (fun _ _ => rfl)) pa_nil)))))
      (pss_cons (ps_for PassesOwn.never rfl (pi_range1 rfl B.range (pa_cons (pe_callB call_len_seq rfl B.len hb_len (pa_cons (pe_ix ix_list (pv 0) pe_int (fun _ _ => rfl)) pa_nil)) pa_nil)) (pg_name (i := 2) sc__law_rows.nd rfl (Or.inl rfl)) (pss_cons (ps_set (i := 3) sc__law_rows.nd rfl (Or.inl rfl) (pe_op op_add_str pe_str (pe_callTy call_str_int rfl B.str_ hb_str (pa_cons (pe_ix ix_list (pe_ix ix_list (pv 0) pe_int (fun _ _ => rfl)) (pv 2) (fun _ _ => rfl)) pa_nil))))
      (pss_cons (ps_if (pt_cmp (pc_notN (pe_ix ix_list (pe_ix ix_list (pv 0) pe_int (fun _ _ => rfl)) (pv 2) (fun _ _ => rfl)))) (pss_one (ps_set (i := 3) sc__law_rows.nd rfl (Or.inl rfl) (pe_op op_add_str (pe_op op_add_str (pv 3) pe_str) (pe_callTy call_str_int rfl B.str_ hb_str (pa_cons (pe_ix ix_list (pe_ix ix_list (pv 0) pe_int (fun _ _ => rfl)) (pv 2) (fun _ _ => rfl)) pa_nil))))) pss_nil)
      (pss_one (ps_expr (pe_bm PySem.F.plainAttrs_list PySem.F.slot_list_append PySem.F.type_list_append mt_append (pv 1) (pa_cons (pv 3) pa_nil)))))))
      (pss_cons (ps_for PassesOwn.never rfl (pi_list (pe_ix ix_list (pv 0) pe_int (fun _ _ => rfl))) (pg_name (i := 4) sc__law_rows.nd rfl (Or.inl rfl)) (pss_one (ps_expr (pe_bm PySem.F.plainAttrs_list PySem.F.slot_list_append PySem.F.type_list_append mt_append (pv 1) (pa_cons (pe_op op_add_str pe_str (pe_callTy call_str_int rfl B.str_ hb_str (pa_cons (pv 4) pa_nil))) pa_nil)))))
      (pss_cons (ps_expr (pe_bm PySem.F.plainAttrs_list PySem.F.slot_list_append PySem.F.type_list_append mt_append (pv 1) (pa_cons (pe_op op_add_str pe_str (pe_callTy call_str_int rfl B.str_ hb_str (pa_cons (pe_ix ix_list (pv 0) pe_int (fun _ _ => rfl)) pa_nil))) pa_nil)))
      (pss_cons (ps_expr (pe_bm PySem.F.plainAttrs_list PySem.F.slot_list_append PySem.F.type_list_append mt_append (pv 1) (pa_cons (pe_op op_add_str pe_str (pe_callTy call_str_int rfl B.str_ hb_str (pa_cons (pe_ix ix_list (pv 0) pe_int (fun _ _ => rfl)) pa_nil))) pa_nil)))
      (pss_cons (ps_expr (pe_bm PySem.F.plainAttrs_list PySem.F.slot_list_append PySem.F.type_list_append mt_append (pv 1) (pa_cons (pe_op op_add_str pe_str (pe_callTy call_str_int rfl B.str_ hb_str (pa_cons (pe_ix ix_list (pv 0) pe_int (fun _ _ => rfl)) pa_nil))) pa_nil)))
      (pss_cons (ps_expr (pe_bm PySem.F.plainAttrs_list PySem.F.slot_list_append PySem.F.type_list_append mt_append (pv 1) (pa_cons (pe_join pe_str (pe_op op_cat (pe_lst (pa_cons pe_str pa_nil)) (pe_lc (own := [("_law_ticks", 7)]) (tt := tYes) rfl sc__law_rows.nd (pi_tup (pe_ix ix_list (pv 0) pe_int (fun _ _ => rfl))) (blkOk_by (N := ["_law_parts_here", "_law_rows_here", "_law_k", "_law_row", "_law_size", "_law_task", "_law_right", "_law_ticks"]) (sc := defScope s__law_rows) (by decide +kernel)) (fun _ _ _ _ _ => (pg_name (i := 7) sc__law_rows.nd rfl (Or.inl rfl))) (fun _ _ _ _ _ => pts_nil) (fun _ _ _ _ _ => (pe_callTy call_str_int rfl B.str_ hb_str (pa_cons (pv 7) pa_nil)))))) pa_nil)))
      (pss_cons (ps_if (pt_cmpR op_eq (pe_ix ix_tup (pe_ix ix_list (pv 0) pe_int (fun _ _ => rfl)) pe_int (fun _ _ => rfl)) pe_str (nomark _)) (pss_one (ps_expr (pe_bm PySem.F.plainAttrs_list PySem.F.slot_list_append PySem.F.type_list_append mt_append (pv 1) (pa_cons (pe_op op_add_str pe_str (pe_callTy call_str_int rfl B.str_ hb_str (pa_cons (pe_ix ix_tup (pe_ix ix_list (pv 0) pe_int (fun _ _ => rfl)) pe_int (fun _ _ => rfl)) pa_nil))) pa_nil)))) (pss_cons (ps_expr (pe_bm PySem.F.plainAttrs_list PySem.F.slot_list_append PySem.F.type_list_append mt_append (pv 1) (pa_cons pe_str pa_nil)))
      (pss_one (ps_for PassesOwn.never rfl (pi_list (pe_ix ix_tup (pe_ix ix_list (pv 0) pe_int (fun _ _ => rfl)) pe_int (fun _ _ => rfl))) (pg_name (i := 3) sc__law_rows.nd rfl (Or.inl rfl)) (pss_one (ps_expr (pe_bm PySem.F.plainAttrs_list PySem.F.slot_list_append PySem.F.type_list_append mt_append (pv 1) (pa_cons (pe_op op_add_str (pe_op op_add_str (pe_op op_add_str pe_str (pe_callTy call_str_int rfl B.str_ hb_str (pa_cons (pe_ix ix_tup (pv 3) pe_int (fun _ _ => rfl)) pa_nil))) pe_str) (pe_callTy call_str_int rfl B.str_ hb_str (pa_cons (pe_ix ix_tup (pv 3) pe_int (fun _ _ => rfl)) pa_nil))) pa_nil))))))))
      (pss_cons (ps_if (pt_cmp (pc_notN (pe_ix ix_list (pv 0) pe_int (fun _ _ => rfl)))) (pss_one (ps_expr (pe_bm PySem.F.plainAttrs_list PySem.F.slot_list_append PySem.F.type_list_append mt_append (pv 1) (pa_cons (pe_op op_add_str (pe_op op_add_str (pe_op op_add_str pe_str (pe_callTy call_str_int rfl B.str_ hb_str (pa_cons (pe_ix ix_tup (pe_ix ix_list (pv 0) pe_int (fun _ _ => rfl)) pe_int (fun _ _ => rfl)) pa_nil))) pe_str) (pe_callTy call_str_int rfl B.str_ hb_str (pa_cons (pe_ix ix_tup (pe_ix ix_list (pv 0) pe_int (fun _ _ => rfl)) pe_int (fun _ _ => rfl)) pa_nil))) pa_nil)))) pss_nil)
      (pss_cons (ps_for PassesOwn.never rfl (pi_range1 rfl B.range (pa_cons pe_int pa_nil)) (pg_name (i := 2) sc__law_rows.nd rfl (Or.inl rfl)) (pss_one (ps_if (pt_val (pe_ix ix_list (pv 0) (pe_op op_add pe_int (pv 2)) (fun _ _ => rfl))) (pss_one (ps_expr (pe_bm PySem.F.plainAttrs_list PySem.F.slot_list_append PySem.F.type_list_append mt_append (pv 1) (pa_cons (pe_ix ix_list (pe_lst (pa_cons pe_str (pa_cons pe_str (pa_cons pe_str (pa_cons pe_str pa_nil))))) (pv 2) (fun _ _ => rfl)) pa_nil)))) pss_nil)))
      (pss_cons (ps_for PassesOwn.never rfl (pi_range1 rfl B.range (pa_cons (pe_callB call_len_seq rfl B.len hb_len (pa_cons (pe_ix ix_list (pv 0) pe_int (fun _ _ => rfl)) pa_nil)) pa_nil)) (pg_name (i := 5) sc__law_rows.nd rfl (Or.inl rfl)) (pss_one (ps_for PassesOwn.never rfl (pi_list (pe_ix ix_list (pe_ix ix_list (pv 0) pe_int (fun _ _ => rfl)) (pv 5) (fun _ _ => rfl))) (pg_name (i := 6) sc__law_rows.nd rfl (Or.inl rfl)) (pss_one (ps_expr (pe_bm PySem.F.plainAttrs_list PySem.F.slot_list_append PySem.F.type_list_append mt_append (pv 1) (pa_cons (pe_op op_add_str (pe_op op_add_str (pe_op op_add_str (pe_op op_add_str (pe_op op_add_str pe_str (pe_callTy call_str_int rfl B.str_ hb_str (pa_cons (pv 5) pa_nil))) pe_str) (pe_ix ix_tup (pv 6) pe_int (fun _ _ => rfl))) pe_str) (pe_callTy call_str_int rfl B.str_ hb_str (pa_cons (pe_ix ix_tup (pv 6) pe_int (fun _ _ => rfl)) pa_nil))) pa_nil)))))))
      (pss_one (ps_ret (pv 1)))))))))))))), ?_⟩
    cases hd with
    | @lst a xs _ ha da =>
    obtain ⟨x0, x1, x2, x3, x4, x5, x6, x7, x8, x9, x10, x11, x12, x13, x14, rfl, d0, d1, d2, d3, d4, d5, d6, d7, d8, d9, d10, d11, d12, d13, d14⟩ := parts15 da
    obtain ⟨tds, et, t2, t4, tall⟩ := okTasksL ok.tasks
    obtain ⟨pds, ep, pl, pall⟩ := okList ok.pages
    obtain ⟨lds, el, ll, lall⟩ := okLinesL ok.lines
    obtain ⟨qds, eq, ql, qall⟩ := okList ok.ports
    have lpl : lds.length = pds.length := by
      obtain ⟨tds', pds', qds', l, d, et', ep', eq', el', ed', ec', _⟩ := cOf_forms6 ok
      rw [ep] at ep'
      cases ep'
      rw [ec'] at ll
      have z : (lds.length : Int) = pds.length := ll
      omega
    obtain ⟨kn, ek, k0, k2⟩ := okBetween ok.locks
    obtain ⟨fn, ef, f0, f3⟩ := okBetween ok.frames
    have okd := ok.disk
    unfold okDisk at okd
    rw [Bool.and_eq_true] at okd
    obtain ⟨dn, ed, e0, e4⟩ := okBetween okd.1
    obtain ⟨c1, c2, c3, ec, c10, c13, c20, c23, c30, c32⟩ := okCostsL ok.costs
    have ct : cnt (cOf b) "task" ≤ 4 := cnt_le ok (.inr (.inr (.inr (.inl rfl))))
    have cp : cnt (cOf b) "port" ≤ 4 := cnt_le ok (.inr (.inl rfl))
    obtain ⟨pl5, pl6⟩ := planL_len ok.plan ct
    rw [et] at d0
    rw [ep] at d1
    rw [eq] at d2
    rw [ek] at d3
    rw [ef] at d4
    rw [ed] at d5
    rw [el] at d7
    rw [ec] at d8
    cases d3; cases d4; cases d5
    walk_at "st0"
    have q0 : ("task " : Str).length = 5 := by decide +kernel
    have q1 : ("page " : Str).length = 5 := by decide +kernel
    have q2 : (" line " : Str).length = 6 := by decide +kernel
    have q3 : ("port " : Str).length = 5 := by decide +kernel
    have q4 : ("locks " : Str).length = 6 := by decide +kernel
    have q5 : ("frames " : Str).length = 7 := by decide +kernel
    have q6 : ("disk " : Str).length = 5 := by decide +kernel
    have q7 : ("levels " : Str).length = 7 := by decide +kernel
    have q8 : ("  " : Str).length = 2 := by decide +kernel
    have q9 : ("outside " : Str).length = 8 := by decide +kernel
    have q10 : ("right " : Str).length = 6 := by decide +kernel
    have q11 : (" " : Str).length = 1 := by decide +kernel
    refine q_lcG (q_iL ?_)
    walk_at "st"
    cases d0 with
    | @lst l0 zs0 _ hs0 ga0 =>
    refine q_ixL ha (i := 0) (atI_nat (j := 0) rfl) ?_
    refine ⟨l0, rfl, ⟨_, hs0⟩, fun L nL => lc_mapL (fun d => V.str (wrd "task" (itemsOf d))) hs0 ga0 (by omega) nL ?_ ?_⟩
    · rintro x d H2 hx hmem s2 Q' kq
      refine q_gname ⟨rfl, ?_⟩
      obtain ⟨sd, lv, rfl, a0, a1, a2, a3⟩ := task_items (tall d hmem)
      have n1 : (Str.ofString (toString sd)).length ≤ 2 := numS_len a0 (by omega)
      have n2 : (Str.ofString (toString lv)).length ≤ 2 := numS_len a2 (by omega)
      cases hx with
      | @tup ty ts _ ht hta =>
      cases hta with | cons b0 hta =>
      cases hta with | cons b1 hta =>
      cases hta; cases b0; cases b1
      walk_at "st"
      refine q_ixT ht (i := 0) rfl ?_
      walk_at "st"
      refine ⟨_, rfl, num_log a0 (by omega), ?_⟩
      walk_at "st"
      refine ⟨_, _, rfl, rfl, by simp only [Str.length_append, sizeLine_eq]; omega, ?_⟩
      walk_at "st"
      refine ⟨_, _, rfl, rfl, by simp only [Str.length_append, sizeLine_eq]; omega, ?_⟩
      walk_at "st"
      refine q_ixT ht (i := 1) rfl ?_
      walk_at "st"
      refine ⟨_, rfl, num_log a2 (by omega), ?_⟩
      walk_at "st"
      refine ⟨_, _, rfl, rfl, by simp only [Str.length_append, sizeLine_eq]; omega, ?_⟩
      show Q' (V.str ((("task " ++ numS sd) ++ " ") ++ numS lv)) H2
      rw [s_two (w := "task") (by decide +kernel)]
      exact kq _ (Same.refl _)
    intro H2 s2 e2
    have bt : Bt H H2 L ((itemsOf b.tasks).map fun d => wrd "task" (itemsOf d)) 4 := ⟨s2, by rw [e2, et]; simp [itemsOf, List.map_map, Function.comp_def], nL, by rw [et, List.length_map]; exact t4, fun x hx => by
      obtain ⟨d, hd, rfl⟩ := List.mem_map.mp hx
      rw [et] at hd
      obtain ⟨sd, lv, rfl, a0, a1, a2, a3⟩ := task_items (tall d hd)
      exact wrd_len (by decide +kernel) (by simp [itemsOf]) fun e he => by
        simp only [itemsOf, List.mem_cons, List.not_mem_nil, or_false] at he
        rcases he with rfl | rfl
        · exact sD_int a0 (by omega)
        · exact sD_int a2 (by omega)⟩
    clear e2 s2
    obtain ⟨X1, hX1⟩ : ∃ X, X = (itemsOf b.tasks).map (fun d => wrd "task" (itemsOf d)) := ⟨_, rfl⟩
    rw [← hX1] at bt
    cases d1 with
    | @lst l1 zs1 _ hs1 ga1 =>
    cases d7 with
    | @lst l7 zs7 _ hs7 ga7 =>
    have lz1 := ga1.length
    have lz7 := ga7.length
    have ziplen : (pds.zip lds).length = pds.length := by rw [List.length_zip]; omega
    refine q_seq (q_forRA ?_)
    walk_at "st"
    refine q_ixL (bt.s.seq ha) (i := 1) (atI_nat (j := 1) rfl) ?_
    walk_at "st"
    refine ⟨l1, zs1, rfl, .inl (bt.s.seq hs1), ?_⟩
    walk_at "st"
    refine ⟨_, rfl, by omega, by omega, forR (fun k σ H' => ∃ u2 u3, σ = [some (.ref a), some (.ref L), u2, u3, none, none, none, none] ∧ Bt H H' L (X1 ++ ((pds.zip lds).take k).map fun p => pageL p.1 p.2) (4 + k)) ⟨_, _, rfl, by simpa using bt⟩ ?_ ?_⟩
    · rintro k σ H3 hk ⟨u2, u3, rfl, b3⟩
      have k3 : k < pds.length := by omega
      refine q_gname ?_
      rw [Int.zero_add]
      have e1 : zs1[k]? = some (zs1[k]'(by omega)) := List.getElem?_eq_getElem (by omega)
      generalize zs1[k]'(by omega) = y1 at e1
      have e7 : zs7[k]? = some (zs7[k]'(by omega)) := List.getElem?_eq_getElem (by omega)
      generalize zs7[k]'(by omega) = y7 at e7
      obtain ⟨dp, edp, hp⟩ := ga1.get' e1
      obtain ⟨dl, edl, hl⟩ := ga7.get' e7
      obtain ⟨j, rfl, j0, j1⟩ := pall dp (List.mem_of_getElem? edp)
      have okl := lall dl (List.mem_of_getElem? edl)
      have n1 : (Str.ofString (toString j)).length ≤ 2 := numS_len j0 (by omega)
      have ez : (pds.zip lds)[k]? = some (.int j, dl) := by rw [List.getElem?_zip_eq_some]; exact ⟨edp, edl⟩
      have lb := b3.len
      have stp : ∀ (H' : Hp) (ln : Str), Same H3 H' → ln = pageL (.int j) dl → Bt H (upd H' L (.lst (((X1 ++ ((pds.zip lds).take k).map fun p => pageL p.1 p.2).map V.str) ++ [.str ln]))) L (X1 ++ ((pds.zip lds).take (k + 1)).map fun p => pageL p.1 p.2) (4 + (k + 1)) := fun H' ln s' e => by
        have z := (b3.mono s').add (Y := [pageL (.int j) dl]) (k := 1) (by simp) (fun x hx => by
          simp only [List.mem_cons, List.not_mem_nil, or_false] at hx
          subst hx
          exact pageL_len j0 (by omega) okl)
        rw [e, List.take_add_one, ez]
        rw [List.append_assoc] at z
        simpa [Nat.add_assoc] using z
      cases hp
      walk_at "st"
      refine q_ixL (b3.s.seq ha) (i := 1) (atI_nat (j := 1) rfl) ?_
      walk_at "st"
      refine q_ixL (b3.s.seq hs1) (atI_nat e1) ?_
      walk_at "st"
      refine ⟨_, rfl, num_log j0 (by omega), ?_⟩
      walk_at "st"
      refine ⟨_, _, rfl, rfl, by simp only [Str.length_append, sizeLine_eq]; omega, ?_⟩
      walk_at "st"
      refine q_ixL (b3.s.seq ha) (i := 7) (atI_nat (j := 7) rfl) ?_
      walk_at "st"
      refine q_ixL (b3.s.seq hs7) (atI_nat e7) ?_
      cases dl with
      | none =>
        cases hl
        walk_at "sb"
        refine ⟨.inl ⟨rfl, _, SqL.of b3.eL⟩, ?_⟩
        walk_at "st"
        refine ⟨L, _, _, rfl, rfl, b3.eL, by rw [List.length_map, sizeLine_eq]; omega, ?_⟩
        exact ⟨_, _, rfl, stp H3 _ (Same.refl _) (s_one (w := "page") (by decide +kernel))⟩
      | int i =>
        cases hl
        have oi : 0 ≤ i ∧ i ≤ 1 := by simp [okLine, dBetween] at okl; exact okl
        have n2 : (Str.ofString (toString i)).length ≤ 2 := numS_len oi.1 (by omega)
        walk_at "sb"
        refine ⟨_, _, rfl, rfl, by simp only [Str.length_append, sizeLine_eq]; omega, ?_⟩
        walk_at "st"
        refine q_ixL (b3.s.seq ha) (i := 7) (atI_nat (j := 7) rfl) ?_
        walk_at "st"
        refine q_ixL (b3.s.seq hs7) (atI_nat e7) ?_
        walk_at "st"
        refine ⟨_, rfl, num_log oi.1 (by omega), ?_⟩
        walk_at "st"
        refine ⟨_, _, rfl, rfl, by simp only [Str.length_append, sizeLine_eq]; omega, ?_⟩
        walk_at "st"
        refine ⟨.inl ⟨rfl, _, SqL.of b3.eL⟩, ?_⟩
        walk_at "st"
        refine ⟨L, _, _, rfl, rfl, b3.eL, by rw [List.length_map, sizeLine_eq]; omega, ?_⟩
        exact ⟨_, _, rfl, stp H3 _ (Same.refl _) s_page⟩
      | _ => simp [okLine, dBetween] at okl
    rintro σ H3 ⟨u2, u3, rfl, b3⟩
    have hfull : ((pds.zip lds).take ((zs1.length : Int)).toNat) = (itemsOf b.pages).zip (itemsOf b.lines) := by
      rw [List.take_of_length_le (by omega), ep, el]; rfl
    rw [hfull] at b3
    obtain ⟨X2, hX2⟩ : ∃ X, X = ((itemsOf b.pages).zip (itemsOf b.lines)).map (fun p => pageL p.1 p.2) := ⟨_, rfl⟩
    rw [← hX2] at b3
    have lb3 := b3.len
    clear bt hfull
    cases d2 with
    | @lst l2 zs2 _ hs2 ga2 =>
    have lz2 := ga2.length
    dsimp only
    refine q_seq (q_for (q_iL (q_ix0 rfl (b3.s.seq ha) (atI_nat (j := 2) rfl) ?_)))
    refine ⟨l2, rfl, ⟨_, b3.s.seq hs2⟩, L2.for_list (xs := zs2) (fun k σ H' => ∃ u2 u3 u4, σ = [some (.ref a), some (.ref L), u2, u3, u4, none, none, none] ∧ Bt H H' L (X1 ++ X2 ++ (qds.take k).map fun d => wrd "port" [d]) (8 + k)) ⟨_, _, _, rfl, ?_⟩ (fun i σ H' _ h => by obtain ⟨_, _, _, _, z⟩ := h; exact z.s.seq hs2) ?_ ?_⟩
    · simp only [List.take_zero, List.map_nil, List.append_nil]
      exact ⟨b3.s, b3.eL, b3.new, by omega, b3.short⟩
    · rintro k x σ H4 ex ⟨u2, u3, u4, rfl, b4⟩
      obtain ⟨dq, edq, hq⟩ := ga2.get' ex
      obtain ⟨j, rfl, j0, j1⟩ := qall dq (List.mem_of_getElem? edq)
      have kl : k < zs2.length := (List.getElem?_eq_some_iff.mp ex).1
      cases hq
      have n1 : (Str.ofString (toString j)).length ≤ 2 := numS_len (by omega) (by omega)
      have lb := b4.len
      refine q_gname ?_
      walk_at "st"
      refine ⟨.inl ⟨rfl, _, SqL.of b4.eL⟩, ?_⟩
      walk_at "st"
      refine ⟨_, rfl, num_log (by omega) (by omega), ?_⟩
      walk_at "st"
      refine ⟨_, _, rfl, rfl, by simp only [Str.length_append, sizeLine_eq]; omega, ?_⟩
      walk_at "st"
      refine ⟨L, _, _, rfl, rfl, b4.eL, by rw [List.length_map, sizeLine_eq]; omega, ?_⟩
      refine ⟨_, _, _, rfl, ?_⟩
      have z := b4.add (Y := [wrd "port" [.int j]]) (k := 1) (by simp) (fun x hx => by
        simp only [List.mem_cons, List.not_mem_nil, or_false] at hx
        subst hx
        exact wrd_len (by decide +kernel) (by simp) fun e he => by
          simp only [List.mem_cons, List.not_mem_nil, or_false] at he
          subst he; exact sD_int (by omega) (by omega))
      rw [List.append_assoc] at z
      rw [List.take_add_one, edq, show ("port " ++ Str.ofString (toString j) : Str) = wrd "port" [.int j] from s_one (w := "port") (by decide +kernel)]
      simpa [Nat.add_assoc] using z
    rintro σ H4 ⟨u2, u3, u4, rfl, b4⟩
    rw [lz2, List.take_length] at b4
    obtain ⟨X3, hX3⟩ : ∃ X, X = (itemsOf b.ports).map (fun d => wrd "port" [d]) := ⟨_, rfl⟩
    have b0 : Bt H H4 L (X1 ++ X2 ++ X3) 10 := ⟨b4.s, by rw [hX3, eq]; exact b4.eL, b4.new, by rw [hX3, eq]; have := b4.len; show (X1 ++ X2 ++ qds.map fun d => wrd "port" [d]).length ≤ 10; omega, by rw [hX3, eq]; exact b4.short⟩
    clear b4 b3
    have nk : (Str.ofString (toString kn)).length ≤ 2 := numS_len k0 (by omega)
    have nf : (Str.ofString (toString fn)).length ≤ 2 := numS_len f0 (by omega)
    have nd : (Str.ofString (toString dn)).length ≤ 2 := numS_len e0 (by omega)
    dsimp only
    generalize H4 = G0 at *
    walk_at "st"
    refine ⟨.inl ⟨rfl, _, SqL.of b0.eL⟩, ?_⟩
    walk_at "st"
    refine q_ixL (b0.s.seq ha) (i := 3) (atI_nat (j := 3) rfl) ?_
    walk_at "st"
    refine ⟨_, rfl, num_log k0 (by omega), ?_⟩
    walk_at "st"
    refine ⟨_, _, rfl, rfl, by simp only [Str.length_append, sizeLine_eq]; omega, ?_⟩
    walk_at "st"
    refine ⟨L, _, _, rfl, rfl, b0.eL, by have := b0.len; rw [List.length_map, sizeLine_eq]; omega, ?_⟩
    have b1 := b0.add (Y := [wrd "locks" [b.locks]]) (k := 1) (by simp) (fun x hx => by
      simp only [List.mem_cons, List.not_mem_nil, or_false] at hx
      subst hx
      exact wrd_len (by decide +kernel) (by simp) (fun e he => by simp only [List.mem_cons, List.not_mem_nil, or_false] at he; subst he; rw [ek]; exact sD_int (by omega) (by omega)))
    rw [show ("locks " ++ Str.ofString (toString kn) : Str) = wrd "locks" [b.locks] from by rw [ek]; exact s_one (w := "locks") (by decide +kernel)]
    have hg : upd G0 L (.lst ((X1 ++ X2 ++ X3).map V.str ++ [V.str (wrd "locks" [b.locks])])) = upd G0 L (.lst ((X1 ++ X2 ++ X3).map V.str ++ ([wrd "locks" [b.locks]] : List Str).map V.str)) := rfl
    rw [hg]
    clear hg b0
    generalize upd G0 L (.lst ((X1 ++ X2 ++ X3).map V.str ++ ([wrd "locks" [b.locks]] : List Str).map V.str)) = G1 at *
    walk_at "st"
    refine ⟨.inl ⟨rfl, _, SqL.of b1.eL⟩, ?_⟩
    walk_at "st"
    refine q_ixL (b1.s.seq ha) (i := 4) (atI_nat (j := 4) rfl) ?_
    walk_at "st"
    refine ⟨_, rfl, num_log f0 (by omega), ?_⟩
    walk_at "st"
    refine ⟨_, _, rfl, rfl, by simp only [Str.length_append, sizeLine_eq]; omega, ?_⟩
    walk_at "st"
    refine ⟨L, _, _, rfl, rfl, b1.eL, by have := b1.len; rw [List.length_map, sizeLine_eq]; omega, ?_⟩
    have b2 := b1.add (Y := [wrd "frames" [b.frames]]) (k := 1) (by simp) (fun x hx => by
      simp only [List.mem_cons, List.not_mem_nil, or_false] at hx
      subst hx
      exact wrd_len (by decide +kernel) (by simp) (fun e he => by simp only [List.mem_cons, List.not_mem_nil, or_false] at he; subst he; rw [ef]; exact sD_int (by omega) (by omega)))
    rw [show ("frames " ++ Str.ofString (toString fn) : Str) = wrd "frames" [b.frames] from by rw [ef]; exact s_one (w := "frames") (by decide +kernel)]
    have hg : upd G1 L (.lst ((X1 ++ X2 ++ X3 ++ [wrd "locks" [b.locks]]).map V.str ++ [V.str (wrd "frames" [b.frames])])) = upd G1 L (.lst ((X1 ++ X2 ++ X3 ++ [wrd "locks" [b.locks]]).map V.str ++ ([wrd "frames" [b.frames]] : List Str).map V.str)) := rfl
    rw [hg]
    clear hg b1
    generalize upd G1 L (.lst ((X1 ++ X2 ++ X3 ++ [wrd "locks" [b.locks]]).map V.str ++ ([wrd "frames" [b.frames]] : List Str).map V.str)) = G2 at *
    walk_at "st"
    refine ⟨.inl ⟨rfl, _, SqL.of b2.eL⟩, ?_⟩
    walk_at "st"
    refine q_ixL (b2.s.seq ha) (i := 5) (atI_nat (j := 5) rfl) ?_
    walk_at "st"
    refine ⟨_, rfl, num_log e0 (by omega), ?_⟩
    walk_at "st"
    refine ⟨_, _, rfl, rfl, by simp only [Str.length_append, sizeLine_eq]; omega, ?_⟩
    walk_at "st"
    refine ⟨L, _, _, rfl, rfl, b2.eL, by have := b2.len; rw [List.length_map, sizeLine_eq]; omega, ?_⟩
    have b3 := b2.add (Y := [wrd "disk" [b.disk]]) (k := 1) (by simp) (fun x hx => by
      simp only [List.mem_cons, List.not_mem_nil, or_false] at hx
      subst hx
      exact wrd_len (by decide +kernel) (by simp) (fun e he => by simp only [List.mem_cons, List.not_mem_nil, or_false] at he; subst he; rw [ed]; exact sD_int (by omega) (by omega)))
    rw [show ("disk " ++ Str.ofString (toString dn) : Str) = wrd "disk" [b.disk] from by rw [ed]; exact s_one (w := "disk") (by decide +kernel)]
    have hg : upd G2 L (.lst ((X1 ++ X2 ++ X3 ++ [wrd "locks" [b.locks]] ++ [wrd "frames" [b.frames]]).map V.str ++ [V.str (wrd "disk" [b.disk])])) = upd G2 L (.lst ((X1 ++ X2 ++ X3 ++ [wrd "locks" [b.locks]] ++ [wrd "frames" [b.frames]]).map V.str ++ ([wrd "disk" [b.disk]] : List Str).map V.str)) := rfl
    rw [hg]
    clear hg b2
    generalize upd G2 L (.lst ((X1 ++ X2 ++ X3 ++ [wrd "locks" [b.locks]] ++ [wrd "frames" [b.frames]]).map V.str ++ ([wrd "disk" [b.disk]] : List Str).map V.str)) = G3 at *
    walk_at "st"
    refine ⟨.inl ⟨rfl, _, SqL.of b3.eL⟩, ?_⟩
    walk_at "st"
    refine q_m1 ?_
    walk_at "st"
    refine ⟨⟨_, rfl⟩, ?_⟩
    walk_at "st"
    refine ⟨by show 1 ≤ sizeLine; decide, fun L1 nL1 => ?_⟩
    have sL1 := same_new (o := .lst [.str "costs"]) nL1
    have eL1 : upd G3 L1 (.lst [.str "costs"]) L1 = some (.lst [.str "costs"]) := upd_same
    have b3' := b3.mono sL1
    generalize upd G3 L1 (.lst [.str "costs"]) = G3' at *
    walk_at "st"
    cases d8 with
    | @tup t8 ys8 _ h8 g8 =>
    refine q_lcG (q_iT ?_)
    walk_at "st"
    refine q_ixL (b3'.s.seq ha) (i := 8) (atI_nat (j := 8) rfl) ?_
    have g8' := L2.DpAll.mono b3'.s g8
    refine ⟨t8, rfl, ⟨_, Same.sqT b3'.s h8⟩, fun D nD => lc_mapT (fun d => V.str (spell d)) (Same.sqT b3'.s h8) g8' (by simp) nD ?_ ?_⟩
    · rintro x d H2 hx hmem s2 Q' kq
      refine q_gname ⟨rfl, ?_⟩
      walk_at "st"
      simp only [List.mem_cons, List.not_mem_nil, or_false] at hmem
      rcases hmem with rfl | rfl | rfl
      · cases hx
        exact ⟨_, rfl, num_log (by omega) (by omega), kq _ (Same.refl _)⟩
      · cases hx
        exact ⟨_, rfl, num_log (by omega) (by omega), kq _ (Same.refl _)⟩
      · cases hx
        exact ⟨_, rfl, num_log (by omega) (by omega), kq _ (Same.refl _)⟩
    intro H2 s2 e2
    refine ⟨L1, D, _, _, rfl, rfl, s2 _ _ eL1, e2, by rw [sizeLine_eq]; simp, fun pc npc => ?_⟩
    have hcs : ∀ e ∈ itemsOf b.costs, sD 2 e := fun e he => by
      rw [ec] at he
      simp only [itemsOf, List.mem_cons, List.not_mem_nil, or_false] at he
      rcases he with rfl | rfl | rfl <;> exact sD_int (by omega) (by omega)
    have lcs : (itemsOf b.costs).length ≤ 4 := by rw [ec]; simp [itemsOf]
    refine ⟨" ", pc, "costs" :: spells [.int c1, .int c2, .int c3], rfl, rfl, .inl (SqL.of upd_same), ?_, ?_⟩
    · have z := (join_len " " 10 ("costs" :: spells [.int c1, .int c2, .int c3]) fun x hx => by
        simp only [spells, spell, List.mem_cons, List.not_mem_nil, or_false] at hx
        rcases hx with rfl | rfl | rfl | rfl
        · decide +kernel
        · have := numS_len (i := c1) (by omega) (by omega); omega
        · have := numS_len (i := c2) (by omega) (by omega); omega
        · have := numS_len (i := c3) (by omega) (by omega); omega).2
      have e4 : ("costs" :: spells [.int c1, .int c2, .int c3] : List Str).length = 4 := rfl
      have s1 : (" " : Str).length = 1 := by decide +kernel
      rw [e4] at z ⊢
      rw [s1]
      omega
    rw [TL.join_eq, show Str.join " " ("costs" :: spells [.int c1, .int c2, .int c3]) = wrd "costs" (itemsOf b.costs) from by rw [ec]; rfl]
    have b3n := b3'.mono (s2.trans (same_new (o := .lst ([.str "costs"] ++ [PyData.int c1, .int c2, .int c3].map fun d => V.str (spell d))) npc))
    generalize hHp : upd H2 pc _ = Hp5 at *
    refine ⟨L, _, _, rfl, rfl, b3n.eL, by have := b3n.len; rw [List.length_map, sizeLine_eq]; omega, ?_⟩
    have b4 := b3n.add (Y := [wrd "costs" (itemsOf b.costs)]) (k := 1) (by simp) (fun x hx => by
      simp only [List.mem_cons, List.not_mem_nil, or_false] at hx
      subst hx
      exact wrd_len (by decide +kernel) lcs hcs)
    clear b3n b3' b3
    have hg : upd Hp5 L (.lst ((X1 ++ X2 ++ X3 ++ [wrd "locks" [b.locks]] ++ [wrd "frames" [b.frames]] ++ [wrd "disk" [b.disk]]).map V.str ++ [V.str (wrd "costs" (itemsOf b.costs))])) = upd Hp5 L (.lst ((X1 ++ X2 ++ X3 ++ [wrd "locks" [b.locks]] ++ [wrd "frames" [b.frames]] ++ [wrd "disk" [b.disk]]).map V.str ++ ([wrd "costs" (itemsOf b.costs)] : List Str).map V.str)) := rfl
    rw [hg]
    clear hg
    generalize upd Hp5 L (.lst ((X1 ++ X2 ++ X3 ++ [wrd "locks" [b.locks]] ++ [wrd "frames" [b.frames]] ++ [wrd "disk" [b.disk]]).map V.str ++ ([wrd "costs" (itemsOf b.costs)] : List Str).map V.str)) = G4 at *
    clear hHp
    generalize hPR : X1 ++ X2 ++ X3 ++ [wrd "locks" [b.locks]] ++ [wrd "frames" [b.frames]] ++ [wrd "disk" [b.disk]] ++ [wrd "costs" (itemsOf b.costs)] = PR at *
    have lb4 := b4.len
    dsimp only
    refine seq_if (fun σ H' => ∃ u3, σ = [some (.ref a), some (.ref L), u2, u3, u4, none, none, none] ∧ Bt H H' L (PR ++ planL b.plan) 19) ?_ fun N hN => ?_
    rotate_left 1
    · obtain ⟨z, e, epl, hz⟩ := okPlanL ok.plan
      rw [epl] at d9
      cases d9 with
      | @tup t9 ts _ h9 g9 =>
      cases g9 with | cons b0 g9 =>
      cases g9 with | @cons y9 _ _ _ b1 g9 =>
      cases g9; cases b0
      walk_at "st"
      refine q_ixL (b4.s.seq ha) (i := 9) (atI_nat (j := 9) rfl) ?_
      walk_at "st"
      refine q_ixT (Same.sqT b4.s h9) (i := 0) rfl ?_
      walk_at "st"
      refine q_eq rfl ?_
      rcases hz with ⟨rfl, i9, rfl, i1, i8⟩ | ⟨rfl, hz⟩
      · cases b1
        rw [show decide (V.str "levels" = V.str (Str.ofString "levels")) = true from decide_eq_true rfl]
        have n9 : (Str.ofString (toString i9)).length ≤ 2 := numS_len (by omega) (by omega)
        walk_at "sb"
        refine ⟨.inl ⟨rfl, _, SqL.of b4.eL⟩, ?_⟩
        walk_at "st"
        refine q_ixL (b4.s.seq ha) (i := 9) (atI_nat (j := 9) rfl) ?_
        walk_at "st"
        refine q_ixT (Same.sqT b4.s h9) (i := 1) rfl ?_
        walk_at "st"
        refine ⟨_, rfl, num_log (by omega) (by omega), ?_⟩
        walk_at "st"
        refine ⟨_, _, rfl, rfl, by simp only [Str.length_append, sizeLine_eq]; omega, ?_⟩
        walk_at "st"
        refine ⟨L, _, _, rfl, rfl, b4.eL, by rw [List.length_map, sizeLine_eq]; omega, ?_⟩
        refine hN _ _ ⟨_, rfl, ?_⟩
        have z := (b4.add pl5 pl6).le (show _ ≤ 19 by omega)
        have e : planL b.plan = [wrd "levels" [.int i9]] := by
          rw [epl]
          show (if ("levels" : Str) = "levels" then [wrd "levels" [.int i9]] else ("levels" : Str) :: (itemsOf (.int i9)).map slotL) = _
          rw [if_pos rfl]
        rw [e] at z ⊢
        rw [show ("levels " ++ Str.ofString (toString i9) : Str) = wrd "levels" [.int i9] from s_one (w := "levels") (by decide +kernel)]
        exact z
      · rw [show decide (V.str "slots" = V.str (Str.ofString "levels")) = false from decide_eq_false (fun q => slots_ne (V.str.inj q).symm)]
        obtain ⟨rs, rfl, r1, r4, rall⟩ := okSlotsL hz
        cases b1 with
        | @lst a9 ys _ hb gb =>
        have ly := gb.length
        have e2 : planL b.plan = ("slots" : Str) :: rs.map slotL := by
          rw [epl]
          show (if ("slots" : Str) = "levels" then [wrd "slots" [.list rs]] else ("slots" : Str) :: rs.map slotL) = _
          rw [if_neg (fun z => slots_ne z.symm)]
        walk_at "sb"
        refine ⟨.inl ⟨rfl, _, SqL.of b4.eL⟩, ?_⟩
        walk_at "st"
        refine ⟨L, _, _, rfl, rfl, b4.eL, by rw [List.length_map, sizeLine_eq]; omega, ?_⟩
        have b5 := b4.add (Y := ["slots"]) (k := 1) (by simp) (fun x hx => by
          simp only [List.mem_cons, List.not_mem_nil, or_false] at hx
          subst hx
          have : ("slots" : Str).length = 5 := by decide +kernel
          omega)
        have hg : upd G4 L (.lst (PR.map V.str ++ [V.str "slots"])) = upd G4 L (.lst (PR.map V.str ++ (["slots"] : List Str).map V.str)) := rfl
        rw [hg]
        clear hg
        generalize upd G4 L (.lst (PR.map V.str ++ (["slots"] : List Str).map V.str)) = G5 at *
        dsimp only
        refine q_for (q_iL (q_ix1 rfl (b5.s.seq ha) (atI_nat (j := 9) rfl) (Same.sqT b5.s h9) (atI_nat (j := 1) rfl) ?_))
        have lb5 := b5.len
        refine ⟨a9, rfl, ⟨_, b5.s.seq hb⟩, L2.for_list (xs := ys) (fun k σ H' => ∃ u3, σ = [some (.ref a), some (.ref L), u2, u3, u4, none, none, none] ∧ Bt H H' L (PR ++ (["slots"] : List Str) ++ (rs.take k).map slotL) (15 + k)) ⟨_, rfl, ?_⟩ (fun i σ H' _ h => by obtain ⟨_, _, z⟩ := h; exact z.s.seq hb) ?_ ?_⟩
        · simp only [List.take_zero, List.map_nil, List.append_nil]
          exact b5.le (by omega)
        · rintro k x σ H6 ex ⟨u3', rfl, b6⟩
          obtain ⟨dr, edr, hr6⟩ := gb.get' ex
          have kl : k < ys.length := (List.getElem?_eq_some_iff.mp ex).1
          obtain ⟨tk, ti, rfl, v0, v1, v2, v3⟩ := rall dr (List.mem_of_getElem? edr)
          have t12 : tk ≤ 12 := by omega
          have n1 : (Str.ofString (toString tk)).length ≤ 2 := numS_len v0 t12
          have n2 : (Str.ofString (toString ti)).length ≤ 2 := numS_len (by omega) v3
          have lb6 := b6.len
          have hr6' := L2.Dp.mono b6.s hr6
          cases hr6' with
          | @tup ty ts _ ht hta =>
          cases hta with | cons b0 hta =>
          cases hta with | cons b1 hta =>
          cases hta; cases b0; cases b1
          refine q_gname ?_
          walk_at "st"
          refine ⟨.inl ⟨rfl, _, SqL.of b6.eL⟩, ?_⟩
          walk_at "st"
          refine q_ixT ht (i := 0) rfl ?_
          walk_at "st"
          refine ⟨_, rfl, num_log v0 t12, ?_⟩
          walk_at "st"
          refine ⟨_, _, rfl, rfl, by simp only [Str.length_append, sizeLine_eq]; omega, ?_⟩
          walk_at "st"
          refine ⟨_, _, rfl, rfl, by simp only [Str.length_append, sizeLine_eq]; omega, ?_⟩
          walk_at "st"
          refine q_ixT ht (i := 1) rfl ?_
          walk_at "st"
          refine ⟨_, rfl, num_log (by omega) v3, ?_⟩
          walk_at "st"
          refine ⟨_, _, rfl, rfl, by simp only [Str.length_append, sizeLine_eq]; omega, ?_⟩
          walk_at "st"
          refine ⟨L, _, _, rfl, rfl, b6.eL, by rw [List.length_map, sizeLine_eq]; omega, ?_⟩
          refine ⟨_, rfl, ?_⟩
          have z := b6.add (Y := [slotL (.tuple [.int tk, .int ti])]) (k := 1) (by simp) (fun x hx => by
            simp only [List.mem_cons, List.not_mem_nil, or_false] at hx
            subst hx
            exact slotL_len v0 t12 (by omega) v3)
          rw [List.append_assoc] at z
          rw [List.take_add_one, edr, show ((("  " ++ Str.ofString (toString tk)) ++ " ") ++ Str.ofString (toString ti) : Str) = slotL (.tuple [.int tk, .int ti]) from s_slot]
          simpa [Nat.add_assoc] using z
        · rintro σ H6 ⟨u3', rfl, b6⟩
          refine hN _ _ ⟨_, rfl, ?_⟩
          rw [ly, List.take_length] at b6
          rw [e2]
          have z := b6.le (show _ ≤ 19 by omega)
          rw [List.append_assoc] at z
          exact z
    · rintro σ H' ⟨u3, rfl, b5⟩
      clear b4
      have lb5 := b5.len
      refine seq_if (fun σ H' => ∃ u3, σ = [some (.ref a), some (.ref L), u2, u3, u4, none, none, none] ∧ Bt H H' L (PR ++ planL b.plan ++ outL b.outside) 20) ?_ fun N hN => ?_
      rotate_left 1
      · walk_at "st"
        refine q_ixL (b5.s.seq ha) (i := 10) (atI_nat (j := 10) rfl) ?_
        rcases okOutsideL ok.outside with h | ⟨po, ev, h, p0, p1, v1, v4⟩
        · rw [h] at d10
          cases d10
          walk_at "sb"
          refine hN _ _ ⟨_, rfl, ?_⟩
          rw [h, show outL .none = [] from rfl, List.append_nil]
          exact b5.le (by omega)
        · rw [h] at d10
          cases d10 with
          | @tup t10 ts _ h10 g10 =>
          cases g10 with | cons b0 g10 =>
          cases g10 with | cons b1 g10 =>
          cases g10; cases b0; cases b1
          have p12 : po ≤ 12 := by omega
          have n1 : (Str.ofString (toString po)).length ≤ 2 := numS_len p0 p12
          have n2 : (Str.ofString (toString ev)).length ≤ 2 := numS_len (by omega) (by omega)
          have hs : ∀ e ∈ [PyData.int po, PyData.int ev], sD 2 e := fun e he => by
            simp only [List.mem_cons, List.not_mem_nil, or_false] at he
            rcases he with rfl | rfl <;> exact sD_int (by omega) (by omega)
          walk_at "sb"
          refine ⟨.inl ⟨rfl, _, SqL.of b5.eL⟩, ?_⟩
          walk_at "st"
          refine q_ixL (b5.s.seq ha) (i := 10) (atI_nat (j := 10) rfl) ?_
          walk_at "st"
          refine q_ixT (Same.sqT b5.s h10) (i := 0) rfl ?_
          walk_at "st"
          refine ⟨_, rfl, num_log p0 p12, ?_⟩
          walk_at "st"
          refine ⟨_, _, rfl, rfl, by simp only [Str.length_append, sizeLine_eq]; omega, ?_⟩
          walk_at "st"
          refine ⟨_, _, rfl, rfl, by simp only [Str.length_append, sizeLine_eq]; omega, ?_⟩
          walk_at "st"
          refine q_ixL (b5.s.seq ha) (i := 10) (atI_nat (j := 10) rfl) ?_
          walk_at "st"
          refine q_ixT (Same.sqT b5.s h10) (i := 1) rfl ?_
          walk_at "st"
          refine ⟨_, rfl, num_log (by omega) (by omega), ?_⟩
          walk_at "st"
          refine ⟨_, _, rfl, rfl, by simp only [Str.length_append, sizeLine_eq]; omega, ?_⟩
          walk_at "st"
          refine ⟨L, _, _, rfl, rfl, b5.eL, by rw [List.length_map, sizeLine_eq]; omega, ?_⟩
          refine hN _ _ ⟨_, rfl, ?_⟩
          have z := b5.add (Y := [wrd "outside" [.int po, .int ev]]) (k := 1) (by simp) (fun x hx => by
            simp only [List.mem_cons, List.not_mem_nil, or_false] at hx
            subst hx
            exact wrd_len (by decide +kernel) (by simp) hs)
          rw [h, show ((("outside " ++ Str.ofString (toString po)) ++ " ") ++ Str.ofString (toString ev) : Str) = wrd "outside" [.int po, .int ev] from s_two (w := "outside") (by decide +kernel)]
          exact z
      · rintro σ H' ⟨u3, rfl, b6⟩
        clear b5
        obtain ⟨f1, g1⟩ := isBoolL ok.wipe
        obtain ⟨f2, g2⟩ := isBoolL ok.pad
        obtain ⟨f3, g3⟩ := isBoolL ok.lend
        obtain ⟨f4, g4⟩ := isBoolL ok.share
        rw [g1] at d11
        rw [g2] at d12
        rw [g3] at d13
        rw [g4] at d14
        cases d11; cases d12; cases d13; cases d14
        have lb6 := b6.len
        refine q_seq (q_forRA ?_)
        walk_at "st"
        refine ⟨_, rfl, by decide, by decide, forR (fun k σ H' => ∃ u2, σ = [some (.ref a), some (.ref L), u2, u3, u4, none, none, none] ∧ Bt H H' L (PR ++ planL b.plan ++ outL b.outside ++ flT b k) (20 + k)) ⟨_, rfl, ?_⟩ ?_ ?_⟩
        · rw [show flT b 0 = [] from rfl, List.append_nil]; exact b6
        · rintro k σ H7 hk ⟨u2', rfl, b7⟩
          have lb7 := b7.len
          have k4 : k < 4 := hk
          refine q_gname ?_
          have c : k = 0 ∨ k = 1 ∨ k = 2 ∨ k = 3 := by omega
          rcases c with rfl | rfl | rfl | rfl
          · have su : flT b (0 + 1) = flT b 0 ++ (if f1 = true then [("wipe" : Str)] else []) := by
              rw [flT_succ (z := "wipe") (d := b.wipe) rfl, g1]; rfl
            walk_at "st"
            refine q_ixL (b7.s.seq ha) (i := 11) (atI_nat (j := 11) rfl) ?_
            refine ⟨f1, rfl, ?_⟩
            cases f1 with
            | true =>
              rw [if_pos rfl] at su
              refine iteT ?_
              walk_at "st"
              refine ⟨.inl ⟨rfl, _, SqL.of b7.eL⟩, ?_⟩
              walk_at "st"
              refine ⟨by show 4 ≤ sizeLine; decide, fun l nl => ?_⟩
              have sl := same_new (o := .lst [.str "wipe", .str "pad", .str "lend", .str "share"]) nl
              have b8 := b7.mono sl
              have el8 : upd H7 l (.lst [.str "wipe", .str "pad", .str "lend", .str "share"]) l = some (.lst [.str "wipe", .str "pad", .str "lend", .str "share"]) := upd_same
              generalize upd H7 l (.lst [.str "wipe", .str "pad", .str "lend", .str "share"]) = H8 at *
              walk_at "st"
              refine q_ixL (SqL.of el8) (i := 0) rfl ?_
              walk_at "st"
              refine ⟨L, _, _, rfl, rfl, b8.eL, by rw [List.length_map, sizeLine_eq]; omega, ?_⟩
              refine ⟨_, rfl, ?_⟩
              have y := b8.add (Y := ["wipe"]) (k := 1) (by simp) (fun x hx => by
                simp only [List.mem_cons, List.not_mem_nil, or_false] at hx
                subst hx
                show ("wipe" : Str).length ≤ 6000
                decide +kernel)
              rw [su, ← List.append_assoc]
              exact y
            | false =>
              rw [if_neg (by simp), List.append_nil] at su
              refine iteF ?_
              refine ⟨_, rfl, ?_⟩
              rw [su]
              exact b7.le (by omega)
          · have su : flT b (1 + 1) = flT b 1 ++ (if f2 = true then [("pad" : Str)] else []) := by
              rw [flT_succ (z := "pad") (d := b.pad) rfl, g2]; rfl
            walk_at "st"
            refine q_ixL (b7.s.seq ha) (i := 12) (atI_nat (j := 12) rfl) ?_
            refine ⟨f2, rfl, ?_⟩
            cases f2 with
            | true =>
              rw [if_pos rfl] at su
              refine iteT ?_
              walk_at "st"
              refine ⟨.inl ⟨rfl, _, SqL.of b7.eL⟩, ?_⟩
              walk_at "st"
              refine ⟨by show 4 ≤ sizeLine; decide, fun l nl => ?_⟩
              have sl := same_new (o := .lst [.str "wipe", .str "pad", .str "lend", .str "share"]) nl
              have b8 := b7.mono sl
              have el8 : upd H7 l (.lst [.str "wipe", .str "pad", .str "lend", .str "share"]) l = some (.lst [.str "wipe", .str "pad", .str "lend", .str "share"]) := upd_same
              generalize upd H7 l (.lst [.str "wipe", .str "pad", .str "lend", .str "share"]) = H8 at *
              walk_at "st"
              refine q_ixL (SqL.of el8) (i := 1) rfl ?_
              walk_at "st"
              refine ⟨L, _, _, rfl, rfl, b8.eL, by rw [List.length_map, sizeLine_eq]; omega, ?_⟩
              refine ⟨_, rfl, ?_⟩
              have y := b8.add (Y := ["pad"]) (k := 1) (by simp) (fun x hx => by
                simp only [List.mem_cons, List.not_mem_nil, or_false] at hx
                subst hx
                show ("pad" : Str).length ≤ 6000
                decide +kernel)
              rw [su, ← List.append_assoc]
              exact y
            | false =>
              rw [if_neg (by simp), List.append_nil] at su
              refine iteF ?_
              refine ⟨_, rfl, ?_⟩
              rw [su]
              exact b7.le (by omega)
          · have su : flT b (2 + 1) = flT b 2 ++ (if f3 = true then [("lend" : Str)] else []) := by
              rw [flT_succ (z := "lend") (d := b.lend) rfl, g3]; rfl
            walk_at "st"
            refine q_ixL (b7.s.seq ha) (i := 13) (atI_nat (j := 13) rfl) ?_
            refine ⟨f3, rfl, ?_⟩
            cases f3 with
            | true =>
              rw [if_pos rfl] at su
              refine iteT ?_
              walk_at "st"
              refine ⟨.inl ⟨rfl, _, SqL.of b7.eL⟩, ?_⟩
              walk_at "st"
              refine ⟨by show 4 ≤ sizeLine; decide, fun l nl => ?_⟩
              have sl := same_new (o := .lst [.str "wipe", .str "pad", .str "lend", .str "share"]) nl
              have b8 := b7.mono sl
              have el8 : upd H7 l (.lst [.str "wipe", .str "pad", .str "lend", .str "share"]) l = some (.lst [.str "wipe", .str "pad", .str "lend", .str "share"]) := upd_same
              generalize upd H7 l (.lst [.str "wipe", .str "pad", .str "lend", .str "share"]) = H8 at *
              walk_at "st"
              refine q_ixL (SqL.of el8) (i := 2) rfl ?_
              walk_at "st"
              refine ⟨L, _, _, rfl, rfl, b8.eL, by rw [List.length_map, sizeLine_eq]; omega, ?_⟩
              refine ⟨_, rfl, ?_⟩
              have y := b8.add (Y := ["lend"]) (k := 1) (by simp) (fun x hx => by
                simp only [List.mem_cons, List.not_mem_nil, or_false] at hx
                subst hx
                show ("lend" : Str).length ≤ 6000
                decide +kernel)
              rw [su, ← List.append_assoc]
              exact y
            | false =>
              rw [if_neg (by simp), List.append_nil] at su
              refine iteF ?_
              refine ⟨_, rfl, ?_⟩
              rw [su]
              exact b7.le (by omega)
          · have su : flT b (3 + 1) = flT b 3 ++ (if f4 = true then [("share" : Str)] else []) := by
              rw [flT_succ (z := "share") (d := b.share) rfl, g4]; rfl
            walk_at "st"
            refine q_ixL (b7.s.seq ha) (i := 14) (atI_nat (j := 14) rfl) ?_
            refine ⟨f4, rfl, ?_⟩
            cases f4 with
            | true =>
              rw [if_pos rfl] at su
              refine iteT ?_
              walk_at "st"
              refine ⟨.inl ⟨rfl, _, SqL.of b7.eL⟩, ?_⟩
              walk_at "st"
              refine ⟨by show 4 ≤ sizeLine; decide, fun l nl => ?_⟩
              have sl := same_new (o := .lst [.str "wipe", .str "pad", .str "lend", .str "share"]) nl
              have b8 := b7.mono sl
              have el8 : upd H7 l (.lst [.str "wipe", .str "pad", .str "lend", .str "share"]) l = some (.lst [.str "wipe", .str "pad", .str "lend", .str "share"]) := upd_same
              generalize upd H7 l (.lst [.str "wipe", .str "pad", .str "lend", .str "share"]) = H8 at *
              walk_at "st"
              refine q_ixL (SqL.of el8) (i := 3) rfl ?_
              walk_at "st"
              refine ⟨L, _, _, rfl, rfl, b8.eL, by rw [List.length_map, sizeLine_eq]; omega, ?_⟩
              refine ⟨_, rfl, ?_⟩
              have y := b8.add (Y := ["share"]) (k := 1) (by simp) (fun x hx => by
                simp only [List.mem_cons, List.not_mem_nil, or_false] at hx
                subst hx
                show ("share" : Str).length ≤ 6000
                decide +kernel)
              rw [su, ← List.append_assoc]
              exact y
            | false =>
              rw [if_neg (by simp), List.append_nil] at su
              refine iteF ?_
              refine ⟨_, rfl, ?_⟩
              rw [su]
              exact b7.le (by omega)
        · rintro σ H7 ⟨u2', rfl, b7⟩
          clear b6
          have b7' : Bt H H7 L (PR ++ planL b.plan ++ outL b.outside ++ flT b 4) 24 := b7
          clear b7
          generalize hP2 : PR ++ planL b.plan ++ outL b.outside ++ flT b 4 = P2 at *
          obtain ⟨rds, er, lm, rall⟩ := okRightsL ok.rights
          have sh := rights_shape ok er
          rw [er] at d6
          cases d6 with
          | @lst l6 zs6 _ hs6 ga6 =>
          have lz6 := ga6.length
          have lr : rds.length ≤ 4 := by
            have z : (rds.length : Int) ≤ 4 := by rw [lm]; exact ct
            omega
          have len8 : ∀ i, i ≤ rds.length → (rightsL 0 (rds.take i)).length ≤ 8 * i ∧ ∀ x ∈ rightsL 0 (rds.take i), x.length ≤ 6000 := fun i hi => by
            have z := rightsL_len (rds.take i) 0 (by rw [List.length_take]; omega) fun r hr => sh r (List.mem_of_mem_take hr)
            rw [List.length_take, Nat.min_eq_left hi] at z
            exact z
          dsimp only
          refine q_seq (q_forRA ?_)
          walk_at "st"
          refine q_ixL (b7'.s.seq ha) (i := 6) (atI_nat (j := 6) rfl) ?_
          walk_at "st"
          refine ⟨l6, zs6, rfl, .inl (b7'.s.seq hs6), ?_⟩
          walk_at "st"
          refine ⟨_, rfl, by omega, by omega, forR (fun i σ H' => ∃ u5 u6, σ = [some (.ref a), some (.ref L), u2', u3, u4, u5, u6, none] ∧ Bt H H' L (P2 ++ rightsL 0 (rds.take i)) (24 + 8 * i)) ⟨_, _, rfl, ?_⟩ ?_ ?_⟩
          · rw [List.take_zero, show rightsL 0 [] = [] from rfl, List.append_nil]; exact b7'
          · rintro i σ H8 hi ⟨u5, u6, rfl, b8⟩
            have i4 : i < rds.length := by omega
            have ei : rds[i]? = some (rds[i]'i4) := List.getElem?_eq_getElem i4
            obtain ⟨es, ees, le, hes⟩ := sh _ (List.getElem_mem i4)
            rw [ees] at ei
            have ez : zs6[i]? = some (zs6[i]'(by omega)) := List.getElem?_eq_getElem (by omega)
            generalize zs6[i]'(by omega) = y6 at ez
            obtain ⟨dy, edy, hy⟩ := ga6.get' ez
            rw [ei] at edy
            cases edy
            cases hy with
            | @lst r9 zs9 _ hs9 ga9 =>
            have lz9 := ga9.length
            have ni : (Str.ofString (toString (i : Int))).length ≤ 2 := numS_len (by omega) (by omega)
            have lb8 := b8.len
            refine q_gname ?_
            rw [Int.zero_add]
            refine q_for (q_iL (q_ix2 rfl (b8.s.seq ha) (atI_nat (j := 6) rfl) rfl (b8.s.seq hs6) (atI_nat ez) ?_))
            refine ⟨r9, rfl, ⟨_, b8.s.seq hs9⟩, L2.for_list (xs := zs9) (fun j σ H' => ∃ u6, σ = [some (.ref a), some (.ref L), u2', u3, u4, some (.int (i : Int)), u6, none] ∧ Bt H H' L (P2 ++ rightsL 0 (rds.take i) ++ (es.take j).map fun d => wrd "right" [.int (i : Nat), d]) (24 + 8 * i + j)) ⟨_, rfl, ?_⟩ (fun j σ H' _ h => by obtain ⟨_, _, z⟩ := h; exact z.s.seq hs9) ?_ ?_⟩
            · simp only [List.take_zero, List.map_nil, List.append_nil]
              exact b8
            · rintro j x σ H9 ex ⟨u6', rfl, b9⟩
              obtain ⟨dx, edx, hx9⟩ := ga9.get' ex
              have jl : j < zs9.length := (List.getElem?_eq_some_iff.mp ex).1
              obtain ⟨z, i9, rfl, lzz, z0, z1⟩ := hes dx (List.mem_of_getElem? edx)
              have n9 : (Str.ofString (toString i9)).length ≤ 2 := numS_len z0 z1
              have lb9 := b9.len
              have hx9' := L2.Dp.mono b9.s hx9
              cases hx9' with
              | @tup ty ts _ ht hta =>
              cases hta with | cons b0 hta =>
              cases hta with | cons b1 hta =>
              cases hta; cases b0; cases b1
              refine q_gname ?_
              walk_at "st"
              refine ⟨.inl ⟨rfl, _, SqL.of b9.eL⟩, ?_⟩
              walk_at "st"
              refine ⟨_, rfl, num_log (by omega) (by omega), ?_⟩
              walk_at "st"
              refine ⟨_, _, rfl, rfl, by simp only [Str.length_append, sizeLine_eq]; omega, ?_⟩
              walk_at "st"
              refine ⟨_, _, rfl, rfl, by simp only [Str.length_append, sizeLine_eq]; omega, ?_⟩
              walk_at "st"
              refine q_ixT ht (i := 0) rfl ?_
              refine ⟨_, _, rfl, rfl, by simp only [Str.length_append, sizeLine_eq]; omega, ?_⟩
              walk_at "st"
              refine ⟨_, _, rfl, rfl, by simp only [Str.length_append, sizeLine_eq]; omega, ?_⟩
              walk_at "st"
              refine q_ixT ht (i := 1) rfl ?_
              walk_at "st"
              refine ⟨_, rfl, num_log z0 z1, ?_⟩
              walk_at "st"
              refine ⟨_, _, rfl, rfl, by simp only [Str.length_append, sizeLine_eq]; omega, ?_⟩
              walk_at "st"
              refine ⟨L, _, _, rfl, rfl, b9.eL, by rw [List.length_map, sizeLine_eq]; omega, ?_⟩
              refine ⟨_, rfl, ?_⟩
              have y := b9.add (Y := [wrd "right" [.int (i : Nat), .tuple [.str z, .int i9]]]) (k := 1) (by simp) (fun x hx => by
                simp only [List.mem_cons, List.not_mem_nil, or_false] at hx
                subst hx
                exact wrd_len (by decide +kernel) (by simp) fun e he => by
                  simp only [List.mem_cons, List.not_mem_nil, or_false] at he
                  rcases he with rfl | rfl
                  · exact sD_int (by omega) (by omega)
                  · exact sD_right ⟨z, i9, rfl, lzz, z0, z1⟩)
              rw [List.append_assoc] at y
              rw [List.take_add_one, edx, show ((((("right " ++ Str.ofString (toString (i : Int))) ++ " ") ++ z) ++ " ") ++ Str.ofString (toString i9) : Str) = wrd "right" [.int (i : Nat), .tuple [.str z, .int i9]] from s_right]
              simpa [Nat.add_assoc] using y
            · rintro σ H9 ⟨u6', rfl, b9⟩
              refine ⟨_, _, rfl, ?_⟩
              rw [lz9, List.take_length] at b9
              have lt2 : (rds.take i).length = i := by rw [List.length_take]; omega
              rw [List.take_add_one, ei]
              show Bt H H9 L (P2 ++ rightsL 0 (rds.take i ++ [.list es])) _
              rw [rightsL_snoc, lt2, Nat.zero_add, ← List.append_assoc]
              exact b9.le (by omega)
          · rintro σ H8 ⟨u5, u6, rfl, b8⟩
            rw [show ((zs6.length : Int)).toNat = rds.length from by omega, List.take_length] at b8
            have eX : linesOf b = P2 ++ rightsL 0 rds := by
              rw [← hP2, ← hPR, hX1, hX2, hX3, ← show itemsOf b.rights = rds from by rw [er]; rfl]
              simp only [linesOf, List.append_assoc]
            rw [← eX] at b8
            walk_at "st"
            exact q L H8 b8.s b8.eL ⟨_, by omega, b8.len, b8.short⟩
end
end T



namespace T
section
variable {P : Program} {w : World} {K : PySem.W.Frag} {mg : Str → Option Value} {base : Heap} {C : Addr}
/-! what holds no list stays where lists change -/
mutual
def nlD : PyData → Bool
  | .none | .int _ | .str _ | .bool _ => true
  | .tuple xs => nlAll xs
  | .list _ => false
  | .dict _ => false
def nlAll : List PyData → Bool
  | [] => true
  | x :: xs => nlD x && nlAll xs
end
theorem nlAll_of : ∀ {xs : List PyData}, (∀ x ∈ xs, nlD x = true) → nlAll xs = true
  | [], _ => rfl
  | x :: xs, h => by simp only [nlAll, Bool.and_eq_true]; exact ⟨h x List.mem_cons_self, nlAll_of fun y hy => h y (List.mem_cons_of_mem _ hy)⟩
section
variable {H H' : Hp} {Z : List Addr}
mutual
theorem dp_off (hZ : ∀ x ∈ Z, ∃ ys, H x = some (.lst ys)) (o : OffZ Z H H') : ∀ (d : PyData) (v : V), nlD d = true → Dp K H v d → Dp K H' v d
  | .none, _, _, h => by cases h; exact .non
  | .int i, _, _, h => by cases h; exact .int i
  | .str i, _, _, h => by cases h; exact .str i
  | .bool i, _, _, h => by cases h; exact .bl i
  | .list _, _, n, _ => by simp [nlD] at n
  | .dict _, _, n, _ => by simp [nlD] at n
  | .tuple ds, _, n, h => by
    cases h with
    | tup hs ha => exact .tup (offZ_seqT hZ o hs) (dpAll_off hZ o ds _ (by simpa [nlD] using n) ha)
theorem dpAll_off (hZ : ∀ x ∈ Z, ∃ ys, H x = some (.lst ys)) (o : OffZ Z H H') : ∀ (ds : List PyData) (vs : List V), nlAll ds = true → DpAll K H vs ds → DpAll K H' vs ds
  | [], _, _, h => by cases h; exact .nil
  | d :: ds, _, n, h => by
    simp only [nlAll, Bool.and_eq_true] at n
    cases h with
    | cons a t => exact .cons (dp_off hZ o d _ n.1 a) (dpAll_off hZ o ds _ n.2 t)
end
end
theorem nl_leaf {d : PyData} (h : leafD d) : nlD d = true := by cases d <;> first | rfl | exact h.elim
theorem nl_flat {d : PyData} (h : noList d) : nlD d = true := by
  cases d <;> first | rfl | exact h.elim | skip
  exact nlAll_of fun x hx => nl_leaf (h x hx)
theorem parts_nl {b : BD} (ok : BOk b) : ∀ p ∈ b.parts, nlD p.2 = true := by
  obtain ⟨tds, et, _, _, tall⟩ := okTasksL ok.tasks
  obtain ⟨pds, ep, _, pall⟩ := okList ok.pages
  obtain ⟨qds, eq, _, qall⟩ := okList ok.ports
  obtain ⟨kn, ek, _⟩ := okBetween ok.locks
  obtain ⟨fn, ef, _⟩ := okBetween ok.frames
  have okd := ok.disk
  unfold okDisk at okd
  rw [Bool.and_eq_true] at okd
  obtain ⟨dn, ed, _⟩ := okBetween okd.1
  obtain ⟨lds, el, _, lall⟩ := okLinesL ok.lines
  obtain ⟨c1, c2, c3, ec, _⟩ := okCostsL ok.costs
  obtain ⟨z, e, epl, hz⟩ := okPlanL ok.plan
  obtain ⟨rds, er, rl, rall⟩ := okRightsL ok.rights
  have hrow := rows_flat ok.rights er
  have bl : ∀ {d : PyData}, isBool d = true → nlD d = true := fun {d} h => by cases d <;> first | rfl | cases h
  intro p hp
  unfold BD.parts at hp
  rw [et, ep, eq, ek, ef, ed, er, el, ec, epl] at hp
  simp only [List.mem_cons, List.not_mem_nil, or_false] at hp
  rcases hp with rfl | rfl | rfl | rfl | rfl | rfl | rfl | rfl | rfl | rfl | rfl | rfl | rfl | rfl | rfl
  · refine nlAll_of fun d hd => ?_
    obtain ⟨s, l, rfl, _⟩ := okTask_shape (tall d hd)
    rfl
  · refine nlAll_of fun d hd => ?_
    obtain ⟨i, rfl, _⟩ := pall d hd
    rfl
  · refine nlAll_of fun d hd => ?_
    obtain ⟨i, rfl, _⟩ := qall d hd
    rfl
  · rfl
  · rfl
  · rfl
  · show nlAll (rds.map tupOf) = true
    refine nlAll_of fun d hd => ?_
    obtain ⟨r, hr, rfl⟩ := List.mem_map.mp hd
    obtain ⟨es, rfl⟩ := rall r hr
    show nlAll es = true
    exact nlAll_of fun x hx => nl_flat ((hrow es hr).2 x hx).1
  · refine nlAll_of fun d hd => ?_
    have z := lall d hd
    cases d <;> first | rfl | (simp [okLine, dBetween] at z; done)
  · rfl
  · rcases hz with ⟨rfl, i, rfl, _⟩ | ⟨rfl, hz⟩
    · show nlD (PyData.tuple [.str "levels", _]) = true
      rw [if_neg slots_ne]; rfl
    · obtain ⟨rs, rfl, hrs⟩ := okSlotsL hz
      show nlD (PyData.tuple [.str "slots", _]) = true
      rw [if_pos rfl]
      have : nlAll rs = true := nlAll_of fun d hd => by
        obtain ⟨t, k, rfl, _⟩ := hrs.2.2 d hd
        rfl
      simp [nlD, nlAll, tupOf, this]
  · show nlD b.outside = true
    rcases okOutsideL ok.outside with h | ⟨p, e, h, _⟩ <;> rw [h] <;> rfl
  · exact bl ok.wipe
  · exact bl ok.pad
  · exact bl ok.lend
  · exact bl ok.share
theorem pairedKV_off {H H' : Hp} {Z : List Addr} (hZ : ∀ x ∈ Z, ∃ ys, H x = some (.lst ys)) (o : OffZ Z H H') {kvs : List (Key × V)} {l : List (Str × PyData)} (h : Paired (fun p q => p.1 = Sum.inr q.1 ∧ Dp K H p.2 q.2) kvs l) : (∀ p ∈ l, nlD p.2 = true) → Paired (fun p q => p.1 = Sum.inr q.1 ∧ Dp K H' p.2 q.2) kvs l := by
  induction h with
  | nil => intro _; exact .nil
  | cons r t ih => intro n; exact .cons ⟨r.1, dp_off hZ o _ _ (n _ List.mem_cons_self) r.2⟩ (ih fun p hp => n p (List.mem_cons_of_mem _ hp))
/-- a build stays where lists change -/
theorem PartsAt.off {H H' : Hp} {Z : List Addr} {p : Addr} {b : BD} (hZ : ∀ x ∈ Z, ∃ ys, H x = some (.lst ys)) (o : OffZ Z H H') (h : PartsAt K C H p b) : PartsAt K C H' p b := by
  obtain ⟨ok, dx, fs, q, kvs, e1, e2, e3, e4, e5⟩ := h
  have n1 : p ∉ Z := fun z => by obtain ⟨ys, e⟩ := hZ p z; rw [e1] at e; cases e
  have n2 : q ∉ Z := fun z => by obtain ⟨ys, e⟩ := hZ q z; rw [e3] at e; cases e
  exact ⟨ok, dx, fs, q, kvs, o _ _ e1 n1, e2, o _ _ e3 n2, pairedKV_off hZ o e4 (parts_nl ok), e5⟩
/-! changes within owned data -/
theorem owns_set {F : V → PyData → List Addr → Prop} {v' : V} {d' : PyData} {Sv : List Addr} (f : F v' d' Sv) {xs : List V} {ds : List PyData} {T : List Addr} (h : OwnsAll F xs ds T) : ∀ (i : Nat), i < xs.length → (∀ a ∈ Sv, a ∉ T) → ∃ T', OwnsAll F (xs.set i v') (ds.set i d') T' ∧ ∀ a ∈ T', a ∈ T ∨ a ∈ Sv := by
  induction h with
  | nil => intro i hi _; exact absurd hi (Nat.not_lt_zero i)
  | @cons x xs d ds S T g t n ih =>
    intro i hi ns
    cases i with
    | zero => exact ⟨Sv ++ T, .cons f t fun a ha hb => ns a ha (List.mem_append_right _ hb), fun a ha => (List.mem_append.mp ha).elim .inr fun h => .inl (List.mem_append_right _ h)⟩
    | succ i =>
      obtain ⟨T', t', sub⟩ := ih i (by simpa using hi) fun a ha hb => ns a ha (List.mem_append_right _ hb)
      refine ⟨S ++ T', .cons g t' fun a ha hb => ?_, fun a ha => ?_⟩
      · rcases sub a hb with h | h
        · exact n a ha h
        · exact ns a h (List.mem_append_left _ ha)
      · rcases List.mem_append.mp ha with h | h
        · exact .inl (List.mem_append_left _ h)
        · rcases sub a h with h | h
          · exact .inl (List.mem_append_right _ h)
          · exact .inr h
/-- item i, told apart: whatever it becomes, where only its own lists change -/
theorem owns_at {k : Nat} {H : Hp} {xs : List V} {ds : List PyData} {T : List Addr} (h : OwnsAll (OwnV K k H) xs ds T) : ∀ (i : Nat) (x : V), xs[i]? = some x → ∃ d S, ds[i]? = some d ∧ OwnV K k H x d S ∧ (∀ a ∈ S, a ∈ T) ∧
    ∀ (H' : Hp) (d' : PyData) (S' : List Addr), OffZ S H H' → OwnV K k H' x d' S' → (∀ a ∈ S', a ∈ S ∨ H a = none) → ∃ T', OwnsAll (OwnV K k H') xs (ds.set i d') T' ∧ ∀ a ∈ T', a ∈ T ∨ H a = none := by
  induction h with
  | nil => intro i x e; simp at e
  | @cons x xs d ds S T g t n ih =>
    intro i y e
    cases i with
    | zero =>
      simp at e
      subst e
      refine ⟨d, S, rfl, g, fun a ha => List.mem_append_left _ ha, fun H' d' S' o g' sub => ⟨S' ++ T, .cons g' (t.off g.lists o fun a ha hb => n a hb ha) fun a ha hb => ?_, fun a ha => ?_⟩⟩
      · rcases sub a ha with h | h
        · exact n a h hb
        · obtain ⟨zs, ez⟩ := t.lists a hb
          rw [h] at ez; cases ez
      · rcases List.mem_append.mp ha with h | h
        · rcases sub a h with h | h
          · exact .inl (List.mem_append_left _ h)
          · exact .inr h
        · exact .inl (List.mem_append_right _ h)
    | succ i =>
      obtain ⟨d2, S2, e2, g2, sub2, k2⟩ := ih i y (by simpa using e)
      refine ⟨d2, S2, by simpa using e2, g2, fun a ha => List.mem_append_right _ (sub2 a ha), fun H' d' S' o g' sub => ?_⟩
      obtain ⟨T', t', s'⟩ := k2 H' d' S' o g' sub
      refine ⟨S ++ T', .cons (g.off g2.lists o fun a ha hb => n a ha (sub2 a hb)) t' fun a ha hb => ?_, fun a ha => ?_⟩
      · rcases s' a hb with h | h
        · exact n a ha h
        · obtain ⟨zs, ez⟩ := g.lists a ha
          rw [h] at ez; cases ez
      · rcases List.mem_append.mp ha with h | h
        · exact .inl (List.mem_append_left _ h)
        · rcases s' a h with h | h
          · exact .inl (List.mem_append_right _ h)
          · exact .inr h
end
end T



namespace T
section
variable {P : Program} {w : World} {K : PySem.W.Frag} {mg : Str → Option Value} {base : Heap} {C : Addr}
local macro_rules | `(tactic| walk_at "sb") => `(tactic| (repeat (first | (walk_at "s1"; try dsimp only [List.set_cons_zero, List.set_cons_succ, List.append_nil, List.cons_append, List.nil_append, cxOf]) | ((with_reducible refine iteT' ?hh ?_); (case hh => rfl)) | ((with_reducible refine iteF' ?hh ?_); (case hh => rfl)) | with_reducible refine q_eqI ?_)))
def spLaw (K : PySem.W.Frag) : Sp := fun vs H Q _ => ∃ (a : Addr) (ns : List Int), vs = [.ref a] ∧ SqL K H a (ns.map V.int) ∧ ns.length ≤ 63 ∧ ∀ H', Q (.bl true) H'
theorem ok_law (B : Bl mg) (c__law_source : Cal P w K mg base 1 "_law_source" ["_law_script"] (spSource K)) (c__law_parts : Cal P w K mg base 3 "_law_parts" ["_law_source_here"] (spParts K))
    (c__law_copy : Cal P w K mg base 5 "_law_copy" ["_law_thing"] (spCopyO K 5)) (c__law_made : Cal P w K mg base 12 "_law_made" ["_law_parts_here"] (spMade K C)) (c__law_same : Cal P w K mg base 5 "_law_same" ["_law_one", "_law_two"] (spSame K 5))
    (c__law_told : Cal P w K mg base 2 "_law_told" ["_law_build"] (spTold K C)) (c__law_rows : Cal P w K mg base 1 "_law_rows" ["_law_parts_here"] (spRows K)) (c_build_text : Cal P w K mg base 7 "build_text" ["build"] (spText K C)) :
    ∀ f fd, Fun K "law" "law" s_law f fd → FnOk P w K mg base CX0 14 f fd ["_law_script"] (spLaw K) := fun f fd F => by
  refine F.ok sc_law (fun vs H Q E h => ?_) (fun cdv A outer s H vs Q E hr h => ?_)
  · obtain ⟨a, ns, rfl, _⟩ := h; rfl
  · obtain ⟨a0, ns, rfl, hs, l63, q⟩ := h
    refine ⟨_, (pss_cons (ps_set (i := 1) sc_law.nd rfl (Or.inl rfl) (pe_cal c__law_source (hr.mono (by omega)) rfl (pa_cons (pv 0) pa_nil)))
      (pss_cons (ps_set (i := 2) sc_law.nd rfl (Or.inl rfl) (pe_lst (pa_cons (pe_cal c__law_parts (hr.mono (by omega)) rfl (pa_cons (pv 1) pa_nil)) (pa_cons (pe_cal c__law_parts (hr.mono (by omega)) rfl (pa_cons (pv 1) pa_nil)) pa_nil))))
      (pss_cons (ps_setLc (i := 3) (own := [("_law_due", 6)]) (tt := tYes) rfl sc_law.nd rfl rfl (sw_true rfl rfl rfl (by decide +kernel)) (pi_list (pv 2)) (blkOk_by (N := ["_law_script", "_law_source_here", "_law_dues", "_law_builds", "_law_k", "_law_text", "_law_due"]) (sc := defScope s_law) (by decide +kernel)) (fun _ _ _ _ _ => (pg_name (i := 6) sc_law.nd rfl (Or.inl rfl))) (fun _ _ _ _ _ => pts_nil) (fun _ _ _ _ _ => (pe_cal c__law_made (hr.mono (by omega)) rfl (pa_cons (pe_cal c__law_copy (hr.mono (by omega)) rfl (pa_cons (pv 6) pa_nil)) pa_nil))))
      (pss_cons (ps_for PassesOwn.never rfl (pi_list (pe_lst (pa_cons pe_int (pa_cons pe_int (pa_cons pe_int pa_nil))))) (pg_name (i := 4) sc_law.nd rfl (Or.inl rfl)) (pss_cons (ps_set (i := 5) sc_law.nd rfl (Or.inl rfl) (pe_cal c_build_text (hr.mono (by omega)) rfl (pa_cons (pe_ix ix_list (pv 3) (pv 4) (fun _ _ => rfl)) pa_nil)))
      (pss_cons (ps_if (pt_not (pt_val (pe_cal c__law_same (hr.mono (by omega)) rfl (pa_cons (pv 5) (pa_cons (pe_join pe_str (pe_cal c__law_rows (hr.mono (by omega)) rfl (pa_cons (pe_ix ix_list (pv 2) (pv 4) (fun _ _ => rfl)) pa_nil))) pa_nil))))) (pss_one (ps_ret pe_bl)) pss_nil)
      (pss_one (ps_if (pt_not (pt_val (pe_cal c__law_same (hr.mono (by omega)) rfl (pa_cons (pe_cal c__law_told (hr.mono (by omega)) rfl (pa_cons (pe_ix ix_list (pv 3) (pv 4) (fun _ _ => rfl)) pa_nil)) (pa_cons (pe_ix ix_list (pv 2) (pv 4) (fun _ _ => rfl)) pa_nil))))) (pss_one (ps_ret pe_bl)) pss_nil)))))
      (pss_one (ps_ret pe_bl)))))), ?_⟩
    walk_at "st0"
    refine ⟨a0, ns, rfl, hs, l63, fun p g H1 s1 np ng S1 => ?_⟩
    walk_at "st"
    refine ⟨p, g, 0, rfl, S1, by omega, fun a1 xs1 b1 H3 o3 S3 n1 e1 d1 ok1 dep1 => ?_⟩
    walk_at "st"
    refine ⟨p, g, 400, rfl, S3, by omega, fun a2 xs2 b2 H4 o4 S4 n2 e2 d2 ok2 dep2 => ?_⟩
    walk_at "st"
    refine ⟨by show 2 ≤ sizeLine; decide, fun D nD => ?_⟩
    have ne1 := off_new S1 n1
    have e1' : H4 a1 = some (.lst xs1) := o4 _ _ e1 ne1.1 ne1.2
    have D1 : Dp K H4 (.ref a1) (.list b1.list) := .lst (SqL.of e1') (L2.DpAll.mono ((view_step o4).trans view_to) d1)
    have D2 : Dp K H4 (.ref a2) (.list b2.list) := .lst (SqL.of e2) (L2.DpAll.mono view_to d2)
    have sD := same_new (o := .lst [.ref a1, .ref a2]) nD
    have eD : upd H4 D (.lst [.ref a1, .ref a2]) D = some (.lst [.ref a1, .ref a2]) := upd_same
    replace D1 := L2.Dp.mono sD D1
    replace D2 := L2.Dp.mono sD D2
    generalize upd H4 D (.lst [.ref a1, .ref a2]) = H5 at *
    clear d1 d2 e1 e2 e1' sD nD S1 S3 S4 o3 o4 ne1
    walk_at "st"
    obtain ⟨as, has⟩ : ∃ as : Nat → Addr, as = fun j => if j = 0 then a1 else a2 := ⟨_, rfl⟩
    obtain ⟨bs, hbs⟩ : ∃ bs : Nat → BD, bs = fun j => if j = 0 then b1 else b2 := ⟨_, rfl⟩
    have due : ∀ j, j < 2 → Dp K H5 (.ref (as j)) (.list (bs j).list) ∧ BOk (bs j) ∧ depN 5 (.list (bs j).list) ∧ ([V.ref a1, .ref a2])[j]? = some (.ref (as j)) := fun j hj => by
      have c : j = 0 ∨ j = 1 := by omega
      rw [has, hbs]
      rcases c with rfl | rfl
      · exact ⟨D1, ok1, dep1, rfl⟩
      · exact ⟨D2, ok2, dep2, rfl⟩
    clear has hbs
    refine q_lcG (q_iL ?_)
    refine ⟨_, rfl, D, rfl, ⟨_, SqL.of eD⟩, fun L nL => lc_rel (n := 2) (walk_list (xs := [V.ref a1, .ref a2])) (fun i y H => ∃ x, y = .ref x ∧ PartsAt K C H x (bs i)) nL (by rw [sizeLine_eq]; omega) (fun H' s => SqL.of (s _ _ eD)) yat_same (fun i y H H' acc e bt hr => ?_) ?_ ?_⟩
    · obtain ⟨x, rfl, hx⟩ := hr
      exact ⟨x, rfl, hx.off (Z := [L]) (fun z hz => by
        simp only [List.mem_cons, List.not_mem_nil, or_false] at hz
        subst hz; exact ⟨_, e⟩) (fun b o h n => bt b o h (by simpa using n))⟩
    · rintro i x H6 H7 li s6 ⟨rfl, ex⟩ Q' kq
      obtain ⟨hd, okb, dep, ei⟩ := due i li
      rw [ex] at ei
      cases ei
      have hd6 := L2.Dp.mono s6 hd
      refine q_gname ⟨rfl, ?_⟩
      walk_at "st"
      refine ⟨_, _, rfl, hd6, dep, fun v8 S8 H8 s8 ow8 nw8 => ?_⟩
      walk_at "st"
      refine ⟨v8, bs i, rfl, ow8.dp, okb, fun x9 H9 s9 pa => ?_⟩
      exact kq _ H9 (s8.trans s9) ⟨x9, rfl, pa⟩
    intro ys H6 s6 eL ly hy
    obtain ⟨y0, y1, rfl⟩ : ∃ y0 y1, ys = [y0, y1] := by
      match ys, ly with
      | [a, b], _ => exact ⟨a, b, rfl⟩
    obtain ⟨x0, rfl, pa0⟩ := hy 0 y0 rfl
    obtain ⟨x1, rfl, pa1⟩ := hy 1 y1 rfl
    have built : ∀ j, j < 2 → ∃ x, ([V.ref x0, .ref x1])[j]? = some (.ref x) ∧ PartsAt K C H6 x (bs j) := fun j hj => by
      have c : j = 0 ∨ j = 1 := by omega
      rcases c with rfl | rfl
      · exact ⟨x0, rfl, pa0⟩
      · exact ⟨x1, rfl, pa1⟩
    have eD6 := s6 _ _ eD
    refine q_seq (q_for (q_iL ?_))
    refine ⟨by show 3 ≤ sizeLine; decide, fun N nN => ?_⟩
    have sN := same_new (o := .lst [.int 0, .int 1, .int 0]) nN
    have eN : upd H6 N (.lst [.int 0, .int 1, .int 0]) N = some (.lst [.int 0, .int 1, .int 0]) := upd_same
    refine ⟨N, rfl, ⟨_, SqL.of eN⟩, L2.for_list (xs := [V.int 0, .int 1, .int 0]) (fun i σ H' => ∃ u4 u5 u6, σ = [some (.ref a0), some (.ref p), some (.ref D), some (.ref L), u4, u5, u6] ∧ Same (upd H6 N (.lst [.int 0, .int 1, .int 0])) H') ⟨_, _, _, rfl, Same.refl _⟩ (fun i σ H' _ h => by obtain ⟨_, _, _, _, z⟩ := h; exact SqL.of (z _ _ eN)) ?_ ?_⟩
    · rintro i x σ H7 ex ⟨u4, u5, u6, rfl, s7⟩
      have s67 := sN.trans s7
      obtain ⟨k, rfl, k2⟩ : ∃ k : Nat, x = .int (k : Int) ∧ k < 2 := by
        match i, ex with
        | 0, ex => exact ⟨0, by simpa using ex.symm, by omega⟩
        | 1, ex => exact ⟨1, by simpa using ex.symm, by omega⟩
        | 2, ex => exact ⟨0, by simpa using ex.symm, by omega⟩
      obtain ⟨hd, okb, dep, ek⟩ := due k k2
      obtain ⟨y, ey, pa⟩ := built k k2
      refine q_gname ?_
      walk_at "st"
      refine q_ixL (SqL.of (s67 _ _ eL)) (atI_nat ey) ?_
      walk_at "st"
      refine ⟨y, bs k, rfl, pa.mono s67, fun H8 s8 => ?_⟩
      have s68 := s67.trans s8
      walk_at "st"
      refine q_m1 ?_
      walk_at "st"
      refine ⟨⟨_, rfl⟩, ?_⟩
      walk_at "st"
      refine q_ixL (SqL.of (s68 _ _ eD6)) (atI_nat ek) ?_
      walk_at "st"
      have hd8 := L2.Dp.mono (s6.trans s68) hd
      refine ⟨_, bs k, rfl, hd8, okb, fun l H9 s9 e9 hm => ?_⟩
      obtain ⟨m, m100, lm, short⟩ := hm
      have s69 := s68.trans s9
      refine ⟨"\n", l, linesOf (bs k), rfl, rfl, .inl (SqL.of e9), ?_, ?_⟩
      · have z := (join_len "\n" 6000 (linesOf (bs k)) short).2
        have : (linesOf (bs k)).length * 6000 ≤ 100 * 6000 := Nat.mul_le_mul_right _ (by omega)
        have n1 : ("\n" : Str).length = 1 := by decide +kernel
        rw [n1]
        omega
      rw [TL.join_eq]
      walk_at "st"
      refine ⟨_, _, _, _, rfl, .str _, .str _, depN_leaf trivial, fun r hr2 => ?_⟩
      obtain rfl : r = true := hr2.mpr rfl
      refine ⟨true, rfl, ?_⟩
      walk_at "sb"
      refine q_ixL (SqL.of (s69 _ _ eL)) (atI_nat ey) ?_
      walk_at "st"
      refine ⟨y, bs k, rfl, pa.mono s69, fun v3 S3 H10 s10 ow3 nw3 => ?_⟩
      have s610 := s69.trans s10
      walk_at "st"
      refine q_ixL (SqL.of (s610 _ _ eD6)) (atI_nat ek) ?_
      walk_at "st"
      refine ⟨v3, _, .list (bs k).list, .list (bs k).list, rfl, ow3.dp, L2.Dp.mono (s6.trans s610) hd, dep, fun r hr3 => ?_⟩
      obtain rfl : r = true := hr3.mpr rfl
      refine ⟨true, rfl, ?_⟩
      walk_at "sb"
      exact ⟨_, _, _, rfl, ((s7.trans s8).trans s9).trans s10⟩
    · rintro σ H7 ⟨u4, u5, u6, rfl, s7⟩
      dsimp only
      walk_at "st"
      exact q _
end
end T



namespace T
/-- what the top has written of a def -/
structure DefF (K : PySem.W.Frag) (x qual : Str) (st : Stmt) (f : Addr) : Prop where
  ex : ∃ (oc : Value) (od : Option Addr) (kV doc pm : Value) (an : Option Addr) (cd ct : Value) (sl : Array (Option Value)), K.lookup f = some ⟨oc, od, .func (PySem.W.fnOf x qual (defArgs st) (defBody st) (defScope st) .none kV doc pm an cd ct), sl⟩ ∧ PySem.W.codeIn K cd qual = true
  kp : PySem.W.keepIn K (.ref f) = true
theorem DefF.mk' {K : PySem.W.Frag} {x qual : Str} {st : Stmt} {f : Addr} {oc : Value} {od : Option Addr} {kV doc pm : Value} {an : Option Addr} {cd ct : Value} {sl : Array (Option Value)} (l : K.lookup f = some ⟨oc, od, .func (PySem.W.fnOf x qual (defArgs st) (defBody st) (defScope st) .none kV doc pm an cd ct), sl⟩) (c : PySem.W.codeIn K cd qual = true) (k : PySem.W.keepIn K (.ref f) = true) : DefF K x qual st f := ⟨⟨oc, od, kV, doc, pm, an, cd, ct, sl, l, c⟩, k⟩
theorem DefF.fn {K : PySem.W.Frag} {x qual : Str} {st : Stmt} {f : Addr} (d : DefF K x qual st f) : ∃ fd, Fun K x qual st f fd := by
  obtain ⟨⟨oc, od, kV, doc, pm, an, cd, ct, sl, l, c⟩, k⟩ := d
  exact ⟨_, fun_mk l c k⟩
theorem DefF.at {K : PySem.W.Frag} {mg : Str → Option Value} {h : Heap} {x : Str} {st : Stmt} {f : Addr} {ps : List Str} (X : K.In h) (G : h.Ns mainGlobals mg) (a : PySem.W.nsIn K mainGlobals x = some (some (.ref f))) (d : DefF K x x st f)
    (b : ∀ fd, Fun K x x st f fd → Binds K fd ps []) : DefAt K mg x st ps := by
  obtain ⟨fd, F⟩ := d.fn
  exact ⟨f, fd, F, PySem.W.mg_of X G a, b fd F⟩
theorem DefF.meth {K : PySem.W.Frag} {m qual : Str} {st : Stmt} {f C : Addr} {ps : List Str} (cl : Cls K C) (a : PySem.W.findIn K (.ref C) m = some (some (.ref f))) (i : PySem.W.isFn K (.ref f) = true) (d : DefF K m qual st f)
    (b : ∀ fd, Fun K m qual st f fd → Binds K fd ps []) : MethAt K C m qual st ps := by
  obtain ⟨fd, F⟩ := d.fn
  exact ⟨cl, f, fd, F, ⟨a, i, F.kp⟩, b fd F⟩
theorem bind1 {K : PySem.W.Frag} {x qual a : Str} {st : Stmt} {f : Addr} (h : ∀ (kV doc pm : Value) (an : Option Addr) (cdv ct : Value) (u : Value), bindArgs (PySem.W.fnOf x qual (defArgs st) (defBody st) (defScope st) .none kV doc pm an cdv ct) ⟨[u], []⟩ = pure ([a].zip [u])) : ∀ fd, Fun K x qual st f fd → Binds K fd [a] [] := fun fd F => F.binds fun kV doc pm an cdv ct us hl => match us, hl with | [u], _ => h kV doc pm an cdv ct u
theorem bind2 {K : PySem.W.Frag} {x qual a b : Str} {st : Stmt} {f : Addr} (h : ∀ (kV doc pm : Value) (an : Option Addr) (cdv ct : Value) (u v : Value), bindArgs (PySem.W.fnOf x qual (defArgs st) (defBody st) (defScope st) .none kV doc pm an cdv ct) ⟨[u, v], []⟩ = pure ([a, b].zip [u, v])) : ∀ fd, Fun K x qual st f fd → Binds K fd [a, b] [] := fun fd F => F.binds fun kV doc pm an cdv ct us hl => match us, hl with | [u, v], _ => h kV doc pm an cdv ct u v
theorem build_binds {K : PySem.W.Frag} {f : Addr} : ∀ fd, Fun K "__init__" "Build.__init__" s_Build___init__ f fd → KBn K fd ["self", "tasks", "pages", "ports", "locks", "frames", "disk", "rights", "lines", "costs", "plan", "outside", "wipe", "pad", "lend", "share"] (11 + 1) ["wipe", "pad", "lend", "share"] (fun us ws => us ++ ws) (fun vs zs => vs ++ zs) := fun fd F => by
  obtain ⟨oc, od, kV, doc, pm, an, cdv, ct, osl, rfl, lk, hcd⟩ := F.ex
  refine ⟨fun s us ws _ h1 h2 => ?_, fun r1 r2 => r1.append r2⟩
  match us, h1, ws, h2 with
  | [a0, a1, a2, a3, a4, a5, a6, a7, a8, a9, a10, a11], _, [w0, w1, w2, w3], _ => exact .of_eq rfl
/-- RIGHT_FORMS as it stands -/
theorem find_forms {K : PySem.W.Frag} {tab : List (Str × List Str)} : ∀ {l : List DictEntry} {tab : List (Str × List Str)}, Paired (fun (e : DictEntry) (p : Str × List Str) => ∃ t r, e.key = .str p.1 t ∧ e.val = .ref r ∧ ∀ H, SqT K H r (p.2.map V.str)) l tab → ∀ z,
    (∃ ks t e, tab.lookup z = some ks ∧ l.find? (·.key.isStr z) = some e ∧ e.val = .ref t ∧ ∀ H, SqT K H t (ks.map V.str)) ∨ (tab.lookup z = none ∧ l.find? (·.key.isStr z) = none)
  | [], [], .nil, z => .inr ⟨rfl, rfl⟩
  | e :: l, p :: tab, .cons h t, z => by
    obtain ⟨tk, r, e1, e2, e3⟩ := h
    by_cases hz : z = p.1
    · left
      refine ⟨p.2, r, e, by rw [List.lookup_cons, hz]; simp, by rw [List.find?_cons, e1, hz]; simp [Value.isStr], e2, e3⟩
    · have n1 : (z == p.1) = false := by simpa using hz
      have n2 : e.key.isStr z = false := by rw [e1]; simp [Value.isStr]; exact fun q => hz q.symm
      rw [List.lookup_cons, n1, List.find?_cons, n2]
      exact find_forms (tab := tab) (l := l) t z
theorem forms_mk {K : PySem.W.Frag} {w : World} {d : Addr} {tab : List (Str × List Str)} {es : Array DictEntry} {n : Nat} (hl : K.lookup d = some ⟨.type "dict", none, .dict es n, #[]⟩) (hk : PySem.W.KeysLit w.params es.toList) (low : (d == sysModules) = false)
    (hp : Paired (fun (e : DictEntry) (p : Str × List Str) => ∃ t r, e.key = .str p.1 t ∧ e.val = .ref r ∧ ∀ H, SqT K H r (p.2.map V.str)) es.toList tab) : FormsAt K w d tab := by
  refine ⟨⟨es, n, hl, hk⟩, low, fun z => ?_⟩
  rcases find_forms (K := K) (tab := tab) hp z with ⟨ks, t, e, h1, h2, h3, h4⟩ | ⟨h1, h2⟩
  · left
    refine ⟨ks, t, h1, ?_, h4⟩
    unfold PySem.W.nsIn
    rw [hl]
    simp only [h2, h3]
  · right
    refine ⟨h1, ?_⟩
    unfold PySem.W.nsIn
    rw [hl]
    have nr : es.toList.any (·.refKey) = false := by
      rw [List.any_eq_false]
      intro e he
      obtain ⟨x, t, e1, _⟩ := hk.all e he
      simp [DictEntry.refKey, e1]
    simp only [h2, nr]
    rfl
theorem tupK {K : PySem.W.Frag} {r : Addr} {oc : Value} {od : Option Addr} {its : Array Value} {n : Nat} {sl : Array (Option Value)} {xs : List V} (l : K.lookup r = some ⟨oc, od, .seq its n, sl⟩) (hc : oc = .type "tuple") (hs : its.size ≤ 100) (v : Vals xs its.toList) : ∀ H, SqT K H r xs :=
  fun _ => .inr ⟨_, its, n, l, hc, rfl, Nat.le_trans hs (by decide), v⟩
end T



namespace T
theorem all_ok {P : Program} {w : World} {K : PySem.W.Frag} {mg : Str → Option Value} {base : Heap} {C CR dF aF fR fB : Addr} {fdR fdB : FuncData}
    (B : Bl mg) (LL : LG mg) (TB : BCls K C) (R : RCls K CR) (RF : RForms K w mg dF)
    (d_is_integer : DefAt K mg "is_integer" s_is_integer ["thing"])
    (d_is_between : DefAt K mg "is_between" s_is_between ["thing", "low", "high"])
    (d_is_index : DefAt K mg "is_index" s_is_index ["thing", "many"])
    (d_is_tuple : DefAt K mg "is_tuple" s_is_tuple ["thing", "many"])
    (d_is_list : DefAt K mg "is_list" s_is_list ["thing", "low", "high"])
    (d_is_ascending : DefAt K mg "is_ascending" s_is_ascending ["items"])
    (d_counted : DefAt K mg "counted" s_counted ["tasks", "pages", "ports", "locks", "disk"])
    (d_word_of : DefAt K mg "word_of" s_word_of ["thing"])
    (d_is_formed : DefAt K mg "is_formed" s_is_formed ["counts", "kinds", "thing"])
    (d_is_of_kind : DefAt K mg "is_of_kind" s_is_of_kind ["counts", "kind", "item"])
    (d_is_right : DefAt K mg "is_right" s_is_right ["counts", "thing"])
    (d_fit_as_numbers : DefAt K mg "fit_as_numbers" s_fit_as_numbers ["numbers", "most", "low", "high"])
    (d_fit_as_row : DefAt K mg "fit_as_row" s_fit_as_row ["counts", "row"])
    (d_fit_as_rights : DefAt K mg "fit_as_rights" s_fit_as_rights ["counts", "rights"])
    (d_fit_as_lines : DefAt K mg "fit_as_lines" s_fit_as_lines ["counts", "lines"])
    (d_fit_as_costs : DefAt K mg "fit_as_costs" s_fit_as_costs ["costs"])
    (d_fits_as_slot : DefAt K mg "fits_as_slot" s_fits_as_slot ["counts", "row"])
    (d_fits_as_outside : DefAt K mg "fits_as_outside" s_fits_as_outside ["counts", "outside"])
    (d_fit_as_plan : DefAt K mg "fit_as_plan" s_fit_as_plan ["counts", "plan"])
    (d_fit_as_tasks : DefAt K mg "fit_as_tasks" s_fit_as_tasks ["tasks"])
    (d_things_fault : DefAt K mg "things_fault" s_things_fault ["tasks", "pages", "ports", "locks", "frames", "disk"])
    (d_ways_fault : DefAt K mg "ways_fault" s_ways_fault ["counts", "rights", "lines", "costs", "plan", "outside"])
    (d_flags_fault : DefAt K mg "flags_fault" s_flags_fault ["flags"])
    (d_worded : DefAt K mg "worded" s_worded ["word", "items"])
    (d_spelled : DefAt K mg "spelled" s_spelled ["item"])
    (d_page_line : DefAt K mg "page_line" s_page_line ["page", "line"])
    (d_slot_line : DefAt K mg "slot_line" s_slot_line ["row"])
    (d_plan_lines : DefAt K mg "plan_lines" s_plan_lines ["plan"])
    (d_right_lines : DefAt K mg "right_lines" s_right_lines ["rows"])
    (d_build_text : DefAt K mg "build_text" s_build_text ["build"])
    (d__law_source : DefAt K mg "_law_source" s__law_source ["_law_script"])
    (d__law_draw : DefAt K mg "_law_draw" s__law_draw ["_law_source_here", "_law_many"])
    (d__law_pool : DefAt K mg "_law_pool" s__law_pool ["_law_parts_here"])
    (d__law_rights : DefAt K mg "_law_rights" s__law_rights ["_law_source_here", "_law_pool_here"])
    (d__law_plan : DefAt K mg "_law_plan" s__law_plan ["_law_source_here", "_law_many"])
    (d__law_parts : DefAt K mg "_law_parts" s__law_parts ["_law_source_here"])
    (d__law_copy : DefAt K mg "_law_copy" s__law_copy ["_law_thing"])
    (d__law_made : DefAt K mg "_law_made" s__law_made ["_law_parts_here"])
    (d__law_told : DefAt K mg "_law_told" s__law_told ["_law_build"])
    (d__law_same : DefAt K mg "_law_same" s__law_same ["_law_one", "_law_two"])
    (d__law_rows : DefAt K mg "_law_rows" s__law_rows ["_law_parts_here"])
    (b_tasks : MethAt K C "tasks" "Build.tasks" s_Build_tasks ["self"])
    (b_pages : MethAt K C "pages" "Build.pages" s_Build_pages ["self"])
    (b_ports : MethAt K C "ports" "Build.ports" s_Build_ports ["self"])
    (b_lines : MethAt K C "lines" "Build.lines" s_Build_lines ["self"])
    (b_locks : MethAt K C "locks" "Build.locks" s_Build_locks ["self"])
    (b_frames : MethAt K C "frames" "Build.frames" s_Build_frames ["self"])
    (b_disk : MethAt K C "disk" "Build.disk" s_Build_disk ["self"])
    (b_costs : MethAt K C "costs" "Build.costs" s_Build_costs ["self"])
    (b_outside : MethAt K C "outside" "Build.outside" s_Build_outside ["self"])
    (b_wipe : MethAt K C "wipe" "Build.wipe" s_Build_wipe ["self"])
    (b_pad : MethAt K C "pad" "Build.pad" s_Build_pad ["self"])
    (b_lend : MethAt K C "lend" "Build.lend" s_Build_lend ["self"])
    (b_share : MethAt K C "share" "Build.share" s_Build_share ["self"])
    (b_plan : MethAt K C "plan" "Build.plan" s_Build_plan ["self"])
    (b_sides : MethAt K C "sides" "Build.sides" s_Build_sides ["self"])
    (b_rights : MethAt K C "rights" "Build.rights" s_Build_rights ["self"])
    (r_set_costs : MethAt K CR "set_costs" "Rules.set_costs" s_Rules_set_costs ["self", "costs"])
    (r_set_frames : MethAt K CR "set_frames" "Rules.set_frames" s_Rules_set_frames ["self", "build"])
    (r_slot_ticks : MethAt K CR "slot_ticks" "Rules.slot_ticks" s_Rules_slot_ticks ["self", "rows"])
    (r_set_plan : MethAt K CR "set_plan" "Rules.set_plan" s_Rules_set_plan ["self", "plan"])
    (r_set_letters : MethAt K CR "set_letters" "Rules.set_letters" s_Rules_set_letters ["self", "outside"])
    (gR : mg "Rules" = some (.ref CR)) (MR : Mk K CR fR) (FR : Fun K "__init__" "Rules.__init__" s_Rules___init__ fR fdR) (bR : Binds K fdR ["self", "build"] [])
    (gB : mg "Build" = some (.ref C)) (MB : Mk K C fB) (FB : Fun K "__init__" "Build.__init__" s_Build___init__ fB fdB) (g_enum : mg "enumerate" = none) (gF : mg "FLAGS" = some (.ref aF)) (hF : ∀ H, SqT K H aF [.str "wipe", .str "pad", .str "lend", .str "share"]) :
    ∀ f fd, Fun K "law" "law" s_law f fd → FnOk P w K mg base CX0 14 f fd ["_law_script"] (spLaw K) := by
  have c_is_integer := ok_is_integer (P := P) (w := w) (base := base) B d_is_integer 
  have c_is_between := ok_is_between (P := P) (w := w) (base := base) B d_is_between c_is_integer
  have c_is_index := ok_is_index (P := P) (w := w) (base := base) B d_is_index c_is_between
  have c_is_tuple := ok_is_tuple (P := P) (w := w) (base := base) B d_is_tuple 
  have c_is_list := ok_is_list (P := P) (w := w) (base := base) B d_is_list 
  have c_is_ascending := ok_is_ascending (P := P) (w := w) (base := base) B d_is_ascending 
  have c_counted := ok_counted (P := P) (w := w) (base := base) B d_counted 
  have c_word_of := ok_word_of (P := P) (w := w) (base := base) B d_word_of 
  have c_is_of_kind := ok_is_of_kind1 (P := P) (w := w) (base := base) B d_is_of_kind c_is_between c_is_index
  have c_is_formed := ok_is_formed (P := P) (w := w) (base := base) B d_is_formed c_is_of_kind
  have c_is_right := ok_is_right (P := P) (base := base) B RF d_is_right c_word_of c_is_formed
  have c_fit_as_numbers := ok_fit_as_numbers (P := P) (w := w) (base := base) B d_fit_as_numbers c_is_list c_is_between
  have c_fit_as_row := ok_fit_as_row (P := P) (w := w) (base := base) B d_fit_as_row c_is_list c_is_right c_is_ascending
  have c_fit_as_rights := ok_fit_as_rights (P := P) (w := w) (base := base) B d_fit_as_rights c_is_list c_fit_as_row
  have c_fit_as_lines := ok_fit_as_lines (P := P) (w := w) (base := base) B d_fit_as_lines c_is_list c_is_between
  have c_fit_as_costs := ok_fit_as_costs (P := P) (w := w) (base := base) B d_fit_as_costs c_is_tuple c_is_between
  have c_fits_as_slot := ok_fits_as_slot (P := P) (w := w) (base := base) B d_fits_as_slot c_is_tuple c_is_between c_is_index
  have c_fits_as_outside := ok_fits_as_outside (P := P) (w := w) (base := base) B d_fits_as_outside c_is_tuple c_is_between c_is_index
  have c_fit_as_plan := ok_fit_as_plan (P := P) (w := w) (base := base) B d_fit_as_plan c_is_tuple c_is_between c_is_list c_fits_as_slot
  have c_fit_as_tasks := ok_fit_as_tasks (P := P) (w := w) (base := base) B d_fit_as_tasks c_is_list c_is_tuple c_is_between
  have c_things_fault := ok_things_fault (P := P) (w := w) (base := base) B d_things_fault c_fit_as_tasks c_fit_as_numbers c_is_between
  have c_ways_fault := ok_ways_fault (P := P) (w := w) (base := base) B d_ways_fault c_fit_as_rights c_fit_as_lines c_fit_as_costs c_fit_as_plan c_fits_as_outside
  have c_flags_fault := ok_flags_fault (P := P) (w := w) (base := base) B d_flags_fault 
  have m_tasks := ok_Build_tasks (P := P) (w := w) (base := base) B TB b_tasks
  have m_pages := ok_Build_pages (P := P) (w := w) (base := base) B TB b_pages
  have m_ports := ok_Build_ports (P := P) (w := w) (base := base) B TB b_ports
  have m_lines := ok_Build_lines (P := P) (w := w) (base := base) B TB b_lines
  have m_locks := ok_Build_locks (P := P) (w := w) (base := base) B TB b_locks
  have m_frames := ok_Build_frames (P := P) (w := w) (base := base) B TB b_frames
  have m_disk := ok_Build_disk (P := P) (w := w) (base := base) B TB b_disk
  have m_costs := ok_Build_costs (P := P) (w := w) (base := base) B TB b_costs
  have m_outside := ok_Build_outside (P := P) (w := w) (base := base) B TB b_outside
  have m_wipe := ok_Build_wipe (P := P) (w := w) (base := base) B TB b_wipe
  have m_pad := ok_Build_pad (P := P) (w := w) (base := base) B TB b_pad
  have m_lend := ok_Build_lend (P := P) (w := w) (base := base) B TB b_lend
  have m_share := ok_Build_share (P := P) (w := w) (base := base) B TB b_share
  have m_plan := ok_Build_plan (P := P) (w := w) (base := base) B TB b_plan
  have m_sides := ok_Build_sides (P := P) (w := w) (base := base) B TB b_sides
  have m_rights := ok_Build_rightsO (P := P) (w := w) (base := base) B TB b_rights
  have m_planO := ok_Build_planO (P := P) (w := w) (base := base) B TB b_plan
  have m_set_costs := ok_set_costs (P := P) (w := w) (base := base) B R r_set_costs
  have m_set_frames := ok_set_frames (P := P) (w := w) (base := base) B R m_frames m_share m_sides r_set_frames
  have m_slot_ticks := ok_slot_ticks (P := P) (w := w) (base := base) B R r_slot_ticks
  have m_set_plan := ok_set_plan (P := P) (w := w) (base := base) B R m_slot_ticks r_set_plan
  have m_set_letters := ok_set_letters (P := P) (w := w) (base := base) B LL R r_set_letters
  have i_Rules := ok_Rules (P := P) (w := w) (base := base) B R c_counted m_tasks m_pages m_ports m_lines m_locks m_disk m_costs m_plan m_outside m_wipe m_pad m_lend m_set_costs m_set_frames m_set_plan m_set_letters fR fdR FR
  have c_Rules : MkCal P w K mg base 3 CR "Rules" ["self", "build"] (spRules K C CR) := ⟨gR, fR, fdR, MR, bR, i_Rules⟩
  have i_Build := ok_Build (P := P) (w := w) (base := base) B TB c_counted c_things_fault c_ways_fault c_flags_fault c_Rules fB fdB FB
  have c_Build : MkKCal P w K mg base 10 C "Build" ["self", "tasks", "pages", "ports", "locks", "frames", "disk", "rights", "lines", "costs", "plan", "outside", "wipe", "pad", "lend", "share"] 11 ["wipe", "pad", "lend", "share"] (spBuild K C) := ⟨gB, fB, fdB, MB, build_binds fdB FB, i_Build⟩
  have c__law_source := ok_law_source (P := P) (w := w) (base := base) B d__law_source 
  have c__law_draw := ok_law_draw (P := P) (w := w) (base := base) B d__law_draw 
  have c__law_pool := ok_law_pool (P := P) (w := w) (base := base) B d__law_pool 
  have c__law_rights := ok_law_rights (P := P) (w := w) (base := base) B d__law_rights c__law_draw
  have c__law_plan := ok_law_plan (P := P) (w := w) (base := base) B d__law_plan c__law_draw
  have c__law_parts := ok_law_parts (P := P) (w := w) (base := base) B d__law_parts c__law_draw c__law_pool c__law_rights c__law_plan
  have c__law_copy := ok_law_copyO (P := P) (w := w) (base := base) B d__law_copy 5
  have c__law_same := ok_law_same (P := P) (w := w) (base := base) B d__law_same 5
  have c__law_made := ok_law_made (P := P) (w := w) (base := base) B d__law_made c_Build
  have c__law_told := ok_law_told (P := P) (w := w) (base := base) B d__law_told m_tasks m_pages m_ports m_locks m_frames m_disk m_rights m_lines m_costs m_planO m_outside m_wipe m_pad m_lend m_share
  have c_worded := ok_wordings (P := P) (w := w) (base := base) B d_worded d_spelled
  have c_page_line := ok_page_line (P := P) (w := w) (base := base) B d_page_line c_worded
  have c_slot_line := ok_slot_line (P := P) (w := w) (base := base) B d_slot_line 
  have c_plan_lines := ok_plan_lines (P := P) (w := w) (base := base) B d_plan_lines c_worded c_slot_line
  have c_right_lines := ok_right_lines (P := P) (w := w) (base := base) B g_enum d_right_lines c_worded
  have c_build_text := ok_build_text (P := P) (w := w) (base := base) B gF hF d_build_text c_worded c_page_line c_plan_lines c_right_lines m_tasks m_pages m_ports m_locks m_frames m_disk m_rights m_lines m_costs m_planO m_outside m_wipe m_pad m_lend m_share
  have c__law_rows := ok_law_rows (P := P) (w := w) (base := base) B d__law_rows 
  exact ok_law B c__law_source c__law_parts c__law_copy c__law_made c__law_same c__law_told c__law_rows c_build_text
theorem all_mk {l : PySem.W.OpenLaw} {w : World} {K : PySem.W.Frag} {h : Heap} {mg : Str → Option Value} {fa C CR dF aF f_is_integer f_is_between f_is_index f_is_tuple f_is_list f_is_ascending f_counted f_word_of f_is_formed f_is_of_kind f_is_right f_fit_as_numbers f_fit_as_row f_fit_as_rights f_fit_as_lines f_fit_as_costs f_fits_as_slot f_fits_as_outside f_fit_as_plan f_fit_as_tasks f_things_fault f_ways_fault f_flags_fault f_worded f_spelled f_page_line f_slot_line f_plan_lines f_right_lines f_build_text f__law_source f__law_draw f__law_pool f__law_rights f__law_plan f__law_parts f__law_copy f__law_made f__law_told f__law_same f__law_rows f_law f_Build___init__ f_Build_tasks f_Build_pages f_Build_ports f_Build_lines f_Build_locks f_Build_frames f_Build_disk f_Build_costs f_Build_outside f_Build_wipe f_Build_pad f_Build_lend f_Build_share f_Build_plan f_Build_sides f_Build_rights f_Rules___init__ f_Rules_set_costs f_Rules_set_frames f_Rules_slot_ticks f_Rules_set_plan f_Rules_set_letters : Addr} (X : K.In h) (G : h.Ns mainGlobals mg) (hfa : mg "law" = some (.ref fa))
    (z_int : PySem.W.nsIn K mainGlobals "int" = some none)
    (z_str : PySem.W.nsIn K mainGlobals "str" = some none)
    (z_bool : PySem.W.nsIn K mainGlobals "bool" = some none)
    (z_list : PySem.W.nsIn K mainGlobals "list" = some none)
    (z_tuple : PySem.W.nsIn K mainGlobals "tuple" = some none)
    (z_dict : PySem.W.nsIn K mainGlobals "dict" = some none)
    (z_set : PySem.W.nsIn K mainGlobals "set" = some none)
    (z_len : PySem.W.nsIn K mainGlobals "len" = some none)
    (z_isinstance : PySem.W.nsIn K mainGlobals "isinstance" = some none)
    (z_all : PySem.W.nsIn K mainGlobals "all" = some none)
    (z_any : PySem.W.nsIn K mainGlobals "any" = some none)
    (z_min : PySem.W.nsIn K mainGlobals "min" = some none)
    (z_max : PySem.W.nsIn K mainGlobals "max" = some none)
    (z_sorted : PySem.W.nsIn K mainGlobals "sorted" = some none)
    (z_range : PySem.W.nsIn K mainGlobals "range" = some none)
    (z_zip : PySem.W.nsIn K mainGlobals "zip" = some none)
    (a_lcm : PySem.W.nsIn K mainGlobals "lcm" = some (some (.builtin "math.lcm")))
    (a_RF : PySem.W.nsIn K mainGlobals "RIGHT_FORMS" = some (some (.ref dF)))
    (RFF : FormsAt K w dF rTab)
    (z_enumerate : PySem.W.nsIn K mainGlobals "enumerate" = some none)
    (a_FL : PySem.W.nsIn K mainGlobals "FLAGS" = some (some (.ref aF)))
    (FF : ∀ H, SqT K H aF [.str "wipe", .str "pad", .str "lend", .str "share"])
    (a_Build : PySem.W.nsIn K mainGlobals "Build" = some (some (.ref C)))
    (a_Rules : PySem.W.nsIn K mainGlobals "Rules" = some (some (.ref CR)))
    (pg_Build : PySem.W.plainGet K C Str.empty = true)
    (hd_Build : PySem.W.hasDictIn K C = true)
    (po_Build : PySem.W.plainOver K C = true)
    (sa_Build : PySem.W.findIn K (.ref C) "__setattr__" = some (some (.builtin "object.__setattr__")))
    (mk_Build : PySem.W.makesIn K C = true)
    (kc_Build : PySem.W.keepIn K (.ref C) = true)
    (pg_Rules : PySem.W.plainGet K CR Str.empty = true)
    (hd_Rules : PySem.W.hasDictIn K CR = true)
    (po_Rules : PySem.W.plainOver K CR = true)
    (sa_Rules : PySem.W.findIn K (.ref CR) "__setattr__" = some (some (.builtin "object.__setattr__")))
    (mk_Rules : PySem.W.makesIn K CR = true)
    (kc_Rules : PySem.W.keepIn K (.ref CR) = true)
    (nB__parts : PySem.W.findIn K (.ref C) "_parts" = some none)
    (nB_rules : PySem.W.findIn K (.ref C) "rules" = some none)
    (nR_task_count : PySem.W.findIn K (.ref CR) "task_count" = some none)
    (nR_levels : PySem.W.findIn K (.ref CR) "levels" = some none)
    (nR_side_of : PySem.W.findIn K (.ref CR) "side_of" = some none)
    (nR_sizes : PySem.W.findIn K (.ref CR) "sizes" = some none)
    (nR_line_of : PySem.W.findIn K (.ref CR) "line_of" = some none)
    (nR_places : PySem.W.findIn K (.ref CR) "places" = some none)
    (nR_counts : PySem.W.findIn K (.ref CR) "counts" = some none)
    (nR_wipes : PySem.W.findIn K (.ref CR) "wipes" = some none)
    (nR_pads : PySem.W.findIn K (.ref CR) "pads" = some none)
    (nR_lends : PySem.W.findIn K (.ref CR) "lends" = some none)
    (nR_plain : PySem.W.findIn K (.ref CR) "plain" = some none)
    (nR_miss : PySem.W.findIn K (.ref CR) "miss" = some none)
    (nR_switch : PySem.W.findIn K (.ref CR) "switch" = some none)
    (nR_greatest : PySem.W.findIn K (.ref CR) "greatest" = some none)
    (nR_all_frames : PySem.W.findIn K (.ref CR) "all_frames" = some none)
    (nR_side_frames : PySem.W.findIn K (.ref CR) "side_frames" = some none)
    (nR_has_slots : PySem.W.findIn K (.ref CR) "has_slots" = some none)
    (nR_span : PySem.W.findIn K (.ref CR) "span" = some none)
    (nR_slots : PySem.W.findIn K (.ref CR) "slots" = some none)
    (nR_letter_port : PySem.W.findIn K (.ref CR) "letter_port" = some none)
    (nR_every : PySem.W.findIn K (.ref CR) "every" = some none)
    (nR_period : PySem.W.findIn K (.ref CR) "period" = some none)
    (a_is_integer : PySem.W.nsIn K mainGlobals "is_integer" = some (some (.ref f_is_integer)))
    (d_is_integer : DefF K "is_integer" "is_integer" s_is_integer f_is_integer)
    (a_is_between : PySem.W.nsIn K mainGlobals "is_between" = some (some (.ref f_is_between)))
    (d_is_between : DefF K "is_between" "is_between" s_is_between f_is_between)
    (a_is_index : PySem.W.nsIn K mainGlobals "is_index" = some (some (.ref f_is_index)))
    (d_is_index : DefF K "is_index" "is_index" s_is_index f_is_index)
    (a_is_tuple : PySem.W.nsIn K mainGlobals "is_tuple" = some (some (.ref f_is_tuple)))
    (d_is_tuple : DefF K "is_tuple" "is_tuple" s_is_tuple f_is_tuple)
    (a_is_list : PySem.W.nsIn K mainGlobals "is_list" = some (some (.ref f_is_list)))
    (d_is_list : DefF K "is_list" "is_list" s_is_list f_is_list)
    (a_is_ascending : PySem.W.nsIn K mainGlobals "is_ascending" = some (some (.ref f_is_ascending)))
    (d_is_ascending : DefF K "is_ascending" "is_ascending" s_is_ascending f_is_ascending)
    (a_counted : PySem.W.nsIn K mainGlobals "counted" = some (some (.ref f_counted)))
    (d_counted : DefF K "counted" "counted" s_counted f_counted)
    (a_word_of : PySem.W.nsIn K mainGlobals "word_of" = some (some (.ref f_word_of)))
    (d_word_of : DefF K "word_of" "word_of" s_word_of f_word_of)
    (a_is_formed : PySem.W.nsIn K mainGlobals "is_formed" = some (some (.ref f_is_formed)))
    (d_is_formed : DefF K "is_formed" "is_formed" s_is_formed f_is_formed)
    (a_is_of_kind : PySem.W.nsIn K mainGlobals "is_of_kind" = some (some (.ref f_is_of_kind)))
    (d_is_of_kind : DefF K "is_of_kind" "is_of_kind" s_is_of_kind f_is_of_kind)
    (a_is_right : PySem.W.nsIn K mainGlobals "is_right" = some (some (.ref f_is_right)))
    (d_is_right : DefF K "is_right" "is_right" s_is_right f_is_right)
    (a_fit_as_numbers : PySem.W.nsIn K mainGlobals "fit_as_numbers" = some (some (.ref f_fit_as_numbers)))
    (d_fit_as_numbers : DefF K "fit_as_numbers" "fit_as_numbers" s_fit_as_numbers f_fit_as_numbers)
    (a_fit_as_row : PySem.W.nsIn K mainGlobals "fit_as_row" = some (some (.ref f_fit_as_row)))
    (d_fit_as_row : DefF K "fit_as_row" "fit_as_row" s_fit_as_row f_fit_as_row)
    (a_fit_as_rights : PySem.W.nsIn K mainGlobals "fit_as_rights" = some (some (.ref f_fit_as_rights)))
    (d_fit_as_rights : DefF K "fit_as_rights" "fit_as_rights" s_fit_as_rights f_fit_as_rights)
    (a_fit_as_lines : PySem.W.nsIn K mainGlobals "fit_as_lines" = some (some (.ref f_fit_as_lines)))
    (d_fit_as_lines : DefF K "fit_as_lines" "fit_as_lines" s_fit_as_lines f_fit_as_lines)
    (a_fit_as_costs : PySem.W.nsIn K mainGlobals "fit_as_costs" = some (some (.ref f_fit_as_costs)))
    (d_fit_as_costs : DefF K "fit_as_costs" "fit_as_costs" s_fit_as_costs f_fit_as_costs)
    (a_fits_as_slot : PySem.W.nsIn K mainGlobals "fits_as_slot" = some (some (.ref f_fits_as_slot)))
    (d_fits_as_slot : DefF K "fits_as_slot" "fits_as_slot" s_fits_as_slot f_fits_as_slot)
    (a_fits_as_outside : PySem.W.nsIn K mainGlobals "fits_as_outside" = some (some (.ref f_fits_as_outside)))
    (d_fits_as_outside : DefF K "fits_as_outside" "fits_as_outside" s_fits_as_outside f_fits_as_outside)
    (a_fit_as_plan : PySem.W.nsIn K mainGlobals "fit_as_plan" = some (some (.ref f_fit_as_plan)))
    (d_fit_as_plan : DefF K "fit_as_plan" "fit_as_plan" s_fit_as_plan f_fit_as_plan)
    (a_fit_as_tasks : PySem.W.nsIn K mainGlobals "fit_as_tasks" = some (some (.ref f_fit_as_tasks)))
    (d_fit_as_tasks : DefF K "fit_as_tasks" "fit_as_tasks" s_fit_as_tasks f_fit_as_tasks)
    (a_things_fault : PySem.W.nsIn K mainGlobals "things_fault" = some (some (.ref f_things_fault)))
    (d_things_fault : DefF K "things_fault" "things_fault" s_things_fault f_things_fault)
    (a_ways_fault : PySem.W.nsIn K mainGlobals "ways_fault" = some (some (.ref f_ways_fault)))
    (d_ways_fault : DefF K "ways_fault" "ways_fault" s_ways_fault f_ways_fault)
    (a_flags_fault : PySem.W.nsIn K mainGlobals "flags_fault" = some (some (.ref f_flags_fault)))
    (d_flags_fault : DefF K "flags_fault" "flags_fault" s_flags_fault f_flags_fault)
    (a_worded : PySem.W.nsIn K mainGlobals "worded" = some (some (.ref f_worded)))
    (d_worded : DefF K "worded" "worded" s_worded f_worded)
    (a_spelled : PySem.W.nsIn K mainGlobals "spelled" = some (some (.ref f_spelled)))
    (d_spelled : DefF K "spelled" "spelled" s_spelled f_spelled)
    (a_page_line : PySem.W.nsIn K mainGlobals "page_line" = some (some (.ref f_page_line)))
    (d_page_line : DefF K "page_line" "page_line" s_page_line f_page_line)
    (a_slot_line : PySem.W.nsIn K mainGlobals "slot_line" = some (some (.ref f_slot_line)))
    (d_slot_line : DefF K "slot_line" "slot_line" s_slot_line f_slot_line)
    (a_plan_lines : PySem.W.nsIn K mainGlobals "plan_lines" = some (some (.ref f_plan_lines)))
    (d_plan_lines : DefF K "plan_lines" "plan_lines" s_plan_lines f_plan_lines)
    (a_right_lines : PySem.W.nsIn K mainGlobals "right_lines" = some (some (.ref f_right_lines)))
    (d_right_lines : DefF K "right_lines" "right_lines" s_right_lines f_right_lines)
    (a_build_text : PySem.W.nsIn K mainGlobals "build_text" = some (some (.ref f_build_text)))
    (d_build_text : DefF K "build_text" "build_text" s_build_text f_build_text)
    (a__law_source : PySem.W.nsIn K mainGlobals "_law_source" = some (some (.ref f__law_source)))
    (d__law_source : DefF K "_law_source" "_law_source" s__law_source f__law_source)
    (a__law_draw : PySem.W.nsIn K mainGlobals "_law_draw" = some (some (.ref f__law_draw)))
    (d__law_draw : DefF K "_law_draw" "_law_draw" s__law_draw f__law_draw)
    (a__law_pool : PySem.W.nsIn K mainGlobals "_law_pool" = some (some (.ref f__law_pool)))
    (d__law_pool : DefF K "_law_pool" "_law_pool" s__law_pool f__law_pool)
    (a__law_rights : PySem.W.nsIn K mainGlobals "_law_rights" = some (some (.ref f__law_rights)))
    (d__law_rights : DefF K "_law_rights" "_law_rights" s__law_rights f__law_rights)
    (a__law_plan : PySem.W.nsIn K mainGlobals "_law_plan" = some (some (.ref f__law_plan)))
    (d__law_plan : DefF K "_law_plan" "_law_plan" s__law_plan f__law_plan)
    (a__law_parts : PySem.W.nsIn K mainGlobals "_law_parts" = some (some (.ref f__law_parts)))
    (d__law_parts : DefF K "_law_parts" "_law_parts" s__law_parts f__law_parts)
    (a__law_copy : PySem.W.nsIn K mainGlobals "_law_copy" = some (some (.ref f__law_copy)))
    (d__law_copy : DefF K "_law_copy" "_law_copy" s__law_copy f__law_copy)
    (a__law_made : PySem.W.nsIn K mainGlobals "_law_made" = some (some (.ref f__law_made)))
    (d__law_made : DefF K "_law_made" "_law_made" s__law_made f__law_made)
    (a__law_told : PySem.W.nsIn K mainGlobals "_law_told" = some (some (.ref f__law_told)))
    (d__law_told : DefF K "_law_told" "_law_told" s__law_told f__law_told)
    (a__law_same : PySem.W.nsIn K mainGlobals "_law_same" = some (some (.ref f__law_same)))
    (d__law_same : DefF K "_law_same" "_law_same" s__law_same f__law_same)
    (a__law_rows : PySem.W.nsIn K mainGlobals "_law_rows" = some (some (.ref f__law_rows)))
    (d__law_rows : DefF K "_law_rows" "_law_rows" s__law_rows f__law_rows)
    (a_law : PySem.W.nsIn K mainGlobals "law" = some (some (.ref f_law)))
    (d_law : DefF K "law" "law" s_law f_law)
    (a_Build___init__ : PySem.W.findIn K (.ref C) "__init__" = some (some (.ref f_Build___init__)))
    (i_Build___init__ : PySem.W.isFn K (.ref f_Build___init__) = true)
    (d_Build___init__ : DefF K "__init__" "Build.__init__" s_Build___init__ f_Build___init__)
    (a_Build_tasks : PySem.W.findIn K (.ref C) "tasks" = some (some (.ref f_Build_tasks)))
    (i_Build_tasks : PySem.W.isFn K (.ref f_Build_tasks) = true)
    (d_Build_tasks : DefF K "tasks" "Build.tasks" s_Build_tasks f_Build_tasks)
    (a_Build_pages : PySem.W.findIn K (.ref C) "pages" = some (some (.ref f_Build_pages)))
    (i_Build_pages : PySem.W.isFn K (.ref f_Build_pages) = true)
    (d_Build_pages : DefF K "pages" "Build.pages" s_Build_pages f_Build_pages)
    (a_Build_ports : PySem.W.findIn K (.ref C) "ports" = some (some (.ref f_Build_ports)))
    (i_Build_ports : PySem.W.isFn K (.ref f_Build_ports) = true)
    (d_Build_ports : DefF K "ports" "Build.ports" s_Build_ports f_Build_ports)
    (a_Build_lines : PySem.W.findIn K (.ref C) "lines" = some (some (.ref f_Build_lines)))
    (i_Build_lines : PySem.W.isFn K (.ref f_Build_lines) = true)
    (d_Build_lines : DefF K "lines" "Build.lines" s_Build_lines f_Build_lines)
    (a_Build_locks : PySem.W.findIn K (.ref C) "locks" = some (some (.ref f_Build_locks)))
    (i_Build_locks : PySem.W.isFn K (.ref f_Build_locks) = true)
    (d_Build_locks : DefF K "locks" "Build.locks" s_Build_locks f_Build_locks)
    (a_Build_frames : PySem.W.findIn K (.ref C) "frames" = some (some (.ref f_Build_frames)))
    (i_Build_frames : PySem.W.isFn K (.ref f_Build_frames) = true)
    (d_Build_frames : DefF K "frames" "Build.frames" s_Build_frames f_Build_frames)
    (a_Build_disk : PySem.W.findIn K (.ref C) "disk" = some (some (.ref f_Build_disk)))
    (i_Build_disk : PySem.W.isFn K (.ref f_Build_disk) = true)
    (d_Build_disk : DefF K "disk" "Build.disk" s_Build_disk f_Build_disk)
    (a_Build_costs : PySem.W.findIn K (.ref C) "costs" = some (some (.ref f_Build_costs)))
    (i_Build_costs : PySem.W.isFn K (.ref f_Build_costs) = true)
    (d_Build_costs : DefF K "costs" "Build.costs" s_Build_costs f_Build_costs)
    (a_Build_outside : PySem.W.findIn K (.ref C) "outside" = some (some (.ref f_Build_outside)))
    (i_Build_outside : PySem.W.isFn K (.ref f_Build_outside) = true)
    (d_Build_outside : DefF K "outside" "Build.outside" s_Build_outside f_Build_outside)
    (a_Build_wipe : PySem.W.findIn K (.ref C) "wipe" = some (some (.ref f_Build_wipe)))
    (i_Build_wipe : PySem.W.isFn K (.ref f_Build_wipe) = true)
    (d_Build_wipe : DefF K "wipe" "Build.wipe" s_Build_wipe f_Build_wipe)
    (a_Build_pad : PySem.W.findIn K (.ref C) "pad" = some (some (.ref f_Build_pad)))
    (i_Build_pad : PySem.W.isFn K (.ref f_Build_pad) = true)
    (d_Build_pad : DefF K "pad" "Build.pad" s_Build_pad f_Build_pad)
    (a_Build_lend : PySem.W.findIn K (.ref C) "lend" = some (some (.ref f_Build_lend)))
    (i_Build_lend : PySem.W.isFn K (.ref f_Build_lend) = true)
    (d_Build_lend : DefF K "lend" "Build.lend" s_Build_lend f_Build_lend)
    (a_Build_share : PySem.W.findIn K (.ref C) "share" = some (some (.ref f_Build_share)))
    (i_Build_share : PySem.W.isFn K (.ref f_Build_share) = true)
    (d_Build_share : DefF K "share" "Build.share" s_Build_share f_Build_share)
    (a_Build_plan : PySem.W.findIn K (.ref C) "plan" = some (some (.ref f_Build_plan)))
    (i_Build_plan : PySem.W.isFn K (.ref f_Build_plan) = true)
    (d_Build_plan : DefF K "plan" "Build.plan" s_Build_plan f_Build_plan)
    (a_Build_sides : PySem.W.findIn K (.ref C) "sides" = some (some (.ref f_Build_sides)))
    (i_Build_sides : PySem.W.isFn K (.ref f_Build_sides) = true)
    (d_Build_sides : DefF K "sides" "Build.sides" s_Build_sides f_Build_sides)
    (a_Build_rights : PySem.W.findIn K (.ref C) "rights" = some (some (.ref f_Build_rights)))
    (i_Build_rights : PySem.W.isFn K (.ref f_Build_rights) = true)
    (d_Build_rights : DefF K "rights" "Build.rights" s_Build_rights f_Build_rights)
    (a_Rules___init__ : PySem.W.findIn K (.ref CR) "__init__" = some (some (.ref f_Rules___init__)))
    (i_Rules___init__ : PySem.W.isFn K (.ref f_Rules___init__) = true)
    (d_Rules___init__ : DefF K "__init__" "Rules.__init__" s_Rules___init__ f_Rules___init__)
    (a_Rules_set_costs : PySem.W.findIn K (.ref CR) "set_costs" = some (some (.ref f_Rules_set_costs)))
    (i_Rules_set_costs : PySem.W.isFn K (.ref f_Rules_set_costs) = true)
    (d_Rules_set_costs : DefF K "set_costs" "Rules.set_costs" s_Rules_set_costs f_Rules_set_costs)
    (a_Rules_set_frames : PySem.W.findIn K (.ref CR) "set_frames" = some (some (.ref f_Rules_set_frames)))
    (i_Rules_set_frames : PySem.W.isFn K (.ref f_Rules_set_frames) = true)
    (d_Rules_set_frames : DefF K "set_frames" "Rules.set_frames" s_Rules_set_frames f_Rules_set_frames)
    (a_Rules_slot_ticks : PySem.W.findIn K (.ref CR) "slot_ticks" = some (some (.ref f_Rules_slot_ticks)))
    (i_Rules_slot_ticks : PySem.W.isFn K (.ref f_Rules_slot_ticks) = true)
    (d_Rules_slot_ticks : DefF K "slot_ticks" "Rules.slot_ticks" s_Rules_slot_ticks f_Rules_slot_ticks)
    (a_Rules_set_plan : PySem.W.findIn K (.ref CR) "set_plan" = some (some (.ref f_Rules_set_plan)))
    (i_Rules_set_plan : PySem.W.isFn K (.ref f_Rules_set_plan) = true)
    (d_Rules_set_plan : DefF K "set_plan" "Rules.set_plan" s_Rules_set_plan f_Rules_set_plan)
    (a_Rules_set_letters : PySem.W.findIn K (.ref CR) "set_letters" = some (some (.ref f_Rules_set_letters)))
    (i_Rules_set_letters : PySem.W.isFn K (.ref f_Rules_set_letters) = true)
    (d_Rules_set_letters : DefF K "set_letters" "Rules.set_letters" s_Rules_set_letters f_Rules_set_letters) :
    ∃ fd : FuncData, (∀ (s : Shared) (v : Value), BindsTo s fd ⟨[v], []⟩ [("_law_script", v)]) ∧ ∀ base : Heap, K.In base → base.Ns mainGlobals mg → FnOk l.prog w K mg base CX0 14 fa fd ["_law_script"] (spLaw K) := by
  have e := hfa.symm.trans (PySem.W.mg_of X G a_law)
  cases e
  have B : Bl mg := ⟨PySem.W.mg_none_of X G z_int, PySem.W.mg_none_of X G z_str, PySem.W.mg_none_of X G z_bool, PySem.W.mg_none_of X G z_list, PySem.W.mg_none_of X G z_tuple, PySem.W.mg_none_of X G z_dict, PySem.W.mg_none_of X G z_set, PySem.W.mg_none_of X G z_len, PySem.W.mg_none_of X G z_isinstance, PySem.W.mg_none_of X G z_all, PySem.W.mg_none_of X G z_any, PySem.W.mg_none_of X G z_min, PySem.W.mg_none_of X G z_max, PySem.W.mg_none_of X G z_sorted, PySem.W.mg_none_of X G z_range, PySem.W.mg_none_of X G z_zip⟩
  have cB : Cls K C := ⟨pg_Build, hd_Build, po_Build, sa_Build⟩
  have cR : Cls K CR := ⟨pg_Rules, hd_Rules, po_Rules, sa_Rules⟩
  have R : RCls K CR := ⟨cR, fun f hf => by
    simp only [RN, List.mem_cons, List.not_mem_nil, or_false] at hf
    rcases hf with rfl | rfl | rfl | rfl | rfl | rfl | rfl | rfl | rfl | rfl | rfl | rfl | rfl | rfl | rfl | rfl | rfl | rfl | rfl | rfl | rfl | rfl
    · exact nR_task_count
    · exact nR_levels
    · exact nR_side_of
    · exact nR_sizes
    · exact nR_line_of
    · exact nR_places
    · exact nR_counts
    · exact nR_wipes
    · exact nR_pads
    · exact nR_lends
    · exact nR_plain
    · exact nR_miss
    · exact nR_switch
    · exact nR_greatest
    · exact nR_all_frames
    · exact nR_side_frames
    · exact nR_has_slots
    · exact nR_span
    · exact nR_slots
    · exact nR_letter_port
    · exact nR_every
    · exact nR_period⟩
  obtain ⟨⟨oc, od, kV, doc, pm, an, cd, ct, sl, ll, lc⟩, lk⟩ := d_law
  obtain ⟨fdR, FR⟩ := d_Rules___init__.fn
  obtain ⟨fdB, FB⟩ := d_Build___init__.fn
  have bR : Binds K fdR ["self", "build"] [] := FR.binds fun _ _ _ _ _ _ us hl => match us, hl with | [_, _], _ => rfl
  have D_is_integer : DefAt K mg "is_integer" s_is_integer ["thing"] := d_is_integer.at X G a_is_integer (fun fd F => F.binds fun _ _ _ _ _ _ us hl => match us, hl with | [_], _ => rfl)
  have D_is_between : DefAt K mg "is_between" s_is_between ["thing", "low", "high"] := d_is_between.at X G a_is_between (fun fd F => F.binds fun _ _ _ _ _ _ us hl => match us, hl with | [_, _, _], _ => rfl)
  have D_is_index : DefAt K mg "is_index" s_is_index ["thing", "many"] := d_is_index.at X G a_is_index (fun fd F => F.binds fun _ _ _ _ _ _ us hl => match us, hl with | [_, _], _ => rfl)
  have D_is_tuple : DefAt K mg "is_tuple" s_is_tuple ["thing", "many"] := d_is_tuple.at X G a_is_tuple (fun fd F => F.binds fun _ _ _ _ _ _ us hl => match us, hl with | [_, _], _ => rfl)
  have D_is_list : DefAt K mg "is_list" s_is_list ["thing", "low", "high"] := d_is_list.at X G a_is_list (fun fd F => F.binds fun _ _ _ _ _ _ us hl => match us, hl with | [_, _, _], _ => rfl)
  have D_is_ascending : DefAt K mg "is_ascending" s_is_ascending ["items"] := d_is_ascending.at X G a_is_ascending (fun fd F => F.binds fun _ _ _ _ _ _ us hl => match us, hl with | [_], _ => rfl)
  have D_counted : DefAt K mg "counted" s_counted ["tasks", "pages", "ports", "locks", "disk"] := d_counted.at X G a_counted (fun fd F => F.binds fun _ _ _ _ _ _ us hl => match us, hl with | [_, _, _, _, _], _ => rfl)
  have D_word_of : DefAt K mg "word_of" s_word_of ["thing"] := d_word_of.at X G a_word_of (fun fd F => F.binds fun _ _ _ _ _ _ us hl => match us, hl with | [_], _ => rfl)
  have D_is_formed : DefAt K mg "is_formed" s_is_formed ["counts", "kinds", "thing"] := d_is_formed.at X G a_is_formed (fun fd F => F.binds fun _ _ _ _ _ _ us hl => match us, hl with | [_, _, _], _ => rfl)
  have D_is_of_kind : DefAt K mg "is_of_kind" s_is_of_kind ["counts", "kind", "item"] := d_is_of_kind.at X G a_is_of_kind (fun fd F => F.binds fun _ _ _ _ _ _ us hl => match us, hl with | [_, _, _], _ => rfl)
  have D_is_right : DefAt K mg "is_right" s_is_right ["counts", "thing"] := d_is_right.at X G a_is_right (fun fd F => F.binds fun _ _ _ _ _ _ us hl => match us, hl with | [_, _], _ => rfl)
  have D_fit_as_numbers : DefAt K mg "fit_as_numbers" s_fit_as_numbers ["numbers", "most", "low", "high"] := d_fit_as_numbers.at X G a_fit_as_numbers (fun fd F => F.binds fun _ _ _ _ _ _ us hl => match us, hl with | [_, _, _, _], _ => rfl)
  have D_fit_as_row : DefAt K mg "fit_as_row" s_fit_as_row ["counts", "row"] := d_fit_as_row.at X G a_fit_as_row (fun fd F => F.binds fun _ _ _ _ _ _ us hl => match us, hl with | [_, _], _ => rfl)
  have D_fit_as_rights : DefAt K mg "fit_as_rights" s_fit_as_rights ["counts", "rights"] := d_fit_as_rights.at X G a_fit_as_rights (fun fd F => F.binds fun _ _ _ _ _ _ us hl => match us, hl with | [_, _], _ => rfl)
  have D_fit_as_lines : DefAt K mg "fit_as_lines" s_fit_as_lines ["counts", "lines"] := d_fit_as_lines.at X G a_fit_as_lines (fun fd F => F.binds fun _ _ _ _ _ _ us hl => match us, hl with | [_, _], _ => rfl)
  have D_fit_as_costs : DefAt K mg "fit_as_costs" s_fit_as_costs ["costs"] := d_fit_as_costs.at X G a_fit_as_costs (fun fd F => F.binds fun _ _ _ _ _ _ us hl => match us, hl with | [_], _ => rfl)
  have D_fits_as_slot : DefAt K mg "fits_as_slot" s_fits_as_slot ["counts", "row"] := d_fits_as_slot.at X G a_fits_as_slot (fun fd F => F.binds fun _ _ _ _ _ _ us hl => match us, hl with | [_, _], _ => rfl)
  have D_fits_as_outside : DefAt K mg "fits_as_outside" s_fits_as_outside ["counts", "outside"] := d_fits_as_outside.at X G a_fits_as_outside (fun fd F => F.binds fun _ _ _ _ _ _ us hl => match us, hl with | [_, _], _ => rfl)
  have D_fit_as_plan : DefAt K mg "fit_as_plan" s_fit_as_plan ["counts", "plan"] := d_fit_as_plan.at X G a_fit_as_plan (fun fd F => F.binds fun _ _ _ _ _ _ us hl => match us, hl with | [_, _], _ => rfl)
  have D_fit_as_tasks : DefAt K mg "fit_as_tasks" s_fit_as_tasks ["tasks"] := d_fit_as_tasks.at X G a_fit_as_tasks (fun fd F => F.binds fun _ _ _ _ _ _ us hl => match us, hl with | [_], _ => rfl)
  have D_things_fault : DefAt K mg "things_fault" s_things_fault ["tasks", "pages", "ports", "locks", "frames", "disk"] := d_things_fault.at X G a_things_fault (fun fd F => F.binds fun _ _ _ _ _ _ us hl => match us, hl with | [_, _, _, _, _, _], _ => rfl)
  have D_ways_fault : DefAt K mg "ways_fault" s_ways_fault ["counts", "rights", "lines", "costs", "plan", "outside"] := d_ways_fault.at X G a_ways_fault (fun fd F => F.binds fun _ _ _ _ _ _ us hl => match us, hl with | [_, _, _, _, _, _], _ => rfl)
  have D_flags_fault : DefAt K mg "flags_fault" s_flags_fault ["flags"] := d_flags_fault.at X G a_flags_fault (fun fd F => F.binds fun _ _ _ _ _ _ us hl => match us, hl with | [_], _ => rfl)
  have D_worded : DefAt K mg "worded" s_worded ["word", "items"] := d_worded.at X G a_worded (fun fd F => F.binds fun _ _ _ _ _ _ us hl => match us, hl with | [_, _], _ => rfl)
  have D_spelled : DefAt K mg "spelled" s_spelled ["item"] := d_spelled.at X G a_spelled (fun fd F => F.binds fun _ _ _ _ _ _ us hl => match us, hl with | [_], _ => rfl)
  have D_page_line : DefAt K mg "page_line" s_page_line ["page", "line"] := d_page_line.at X G a_page_line (fun fd F => F.binds fun _ _ _ _ _ _ us hl => match us, hl with | [_, _], _ => rfl)
  have D_slot_line : DefAt K mg "slot_line" s_slot_line ["row"] := d_slot_line.at X G a_slot_line (fun fd F => F.binds fun _ _ _ _ _ _ us hl => match us, hl with | [_], _ => rfl)
  have D_plan_lines : DefAt K mg "plan_lines" s_plan_lines ["plan"] := d_plan_lines.at X G a_plan_lines (fun fd F => F.binds fun _ _ _ _ _ _ us hl => match us, hl with | [_], _ => rfl)
  have D_right_lines : DefAt K mg "right_lines" s_right_lines ["rows"] := d_right_lines.at X G a_right_lines (fun fd F => F.binds fun _ _ _ _ _ _ us hl => match us, hl with | [_], _ => rfl)
  have D_build_text : DefAt K mg "build_text" s_build_text ["build"] := d_build_text.at X G a_build_text (fun fd F => F.binds fun _ _ _ _ _ _ us hl => match us, hl with | [_], _ => rfl)
  have D__law_source : DefAt K mg "_law_source" s__law_source ["_law_script"] := d__law_source.at X G a__law_source (fun fd F => F.binds fun _ _ _ _ _ _ us hl => match us, hl with | [_], _ => rfl)
  have D__law_draw : DefAt K mg "_law_draw" s__law_draw ["_law_source_here", "_law_many"] := d__law_draw.at X G a__law_draw (fun fd F => F.binds fun _ _ _ _ _ _ us hl => match us, hl with | [_, _], _ => rfl)
  have D__law_pool : DefAt K mg "_law_pool" s__law_pool ["_law_parts_here"] := d__law_pool.at X G a__law_pool (fun fd F => F.binds fun _ _ _ _ _ _ us hl => match us, hl with | [_], _ => rfl)
  have D__law_rights : DefAt K mg "_law_rights" s__law_rights ["_law_source_here", "_law_pool_here"] := d__law_rights.at X G a__law_rights (fun fd F => F.binds fun _ _ _ _ _ _ us hl => match us, hl with | [_, _], _ => rfl)
  have D__law_plan : DefAt K mg "_law_plan" s__law_plan ["_law_source_here", "_law_many"] := d__law_plan.at X G a__law_plan (fun fd F => F.binds fun _ _ _ _ _ _ us hl => match us, hl with | [_, _], _ => rfl)
  have D__law_parts : DefAt K mg "_law_parts" s__law_parts ["_law_source_here"] := d__law_parts.at X G a__law_parts (fun fd F => F.binds fun _ _ _ _ _ _ us hl => match us, hl with | [_], _ => rfl)
  have D__law_copy : DefAt K mg "_law_copy" s__law_copy ["_law_thing"] := d__law_copy.at X G a__law_copy (fun fd F => F.binds fun _ _ _ _ _ _ us hl => match us, hl with | [_], _ => rfl)
  have D__law_made : DefAt K mg "_law_made" s__law_made ["_law_parts_here"] := d__law_made.at X G a__law_made (fun fd F => F.binds fun _ _ _ _ _ _ us hl => match us, hl with | [_], _ => rfl)
  have D__law_told : DefAt K mg "_law_told" s__law_told ["_law_build"] := d__law_told.at X G a__law_told (fun fd F => F.binds fun _ _ _ _ _ _ us hl => match us, hl with | [_], _ => rfl)
  have D__law_same : DefAt K mg "_law_same" s__law_same ["_law_one", "_law_two"] := d__law_same.at X G a__law_same (fun fd F => F.binds fun _ _ _ _ _ _ us hl => match us, hl with | [_, _], _ => rfl)
  have D__law_rows : DefAt K mg "_law_rows" s__law_rows ["_law_parts_here"] := d__law_rows.at X G a__law_rows (fun fd F => F.binds fun _ _ _ _ _ _ us hl => match us, hl with | [_], _ => rfl)
  have M_Build_tasks : MethAt K C "tasks" "Build.tasks" s_Build_tasks ["self"] := d_Build_tasks.meth cB a_Build_tasks i_Build_tasks (fun fd F => F.binds fun _ _ _ _ _ _ us hl => match us, hl with | [_], _ => rfl)
  have M_Build_pages : MethAt K C "pages" "Build.pages" s_Build_pages ["self"] := d_Build_pages.meth cB a_Build_pages i_Build_pages (fun fd F => F.binds fun _ _ _ _ _ _ us hl => match us, hl with | [_], _ => rfl)
  have M_Build_ports : MethAt K C "ports" "Build.ports" s_Build_ports ["self"] := d_Build_ports.meth cB a_Build_ports i_Build_ports (fun fd F => F.binds fun _ _ _ _ _ _ us hl => match us, hl with | [_], _ => rfl)
  have M_Build_lines : MethAt K C "lines" "Build.lines" s_Build_lines ["self"] := d_Build_lines.meth cB a_Build_lines i_Build_lines (fun fd F => F.binds fun _ _ _ _ _ _ us hl => match us, hl with | [_], _ => rfl)
  have M_Build_locks : MethAt K C "locks" "Build.locks" s_Build_locks ["self"] := d_Build_locks.meth cB a_Build_locks i_Build_locks (fun fd F => F.binds fun _ _ _ _ _ _ us hl => match us, hl with | [_], _ => rfl)
  have M_Build_frames : MethAt K C "frames" "Build.frames" s_Build_frames ["self"] := d_Build_frames.meth cB a_Build_frames i_Build_frames (fun fd F => F.binds fun _ _ _ _ _ _ us hl => match us, hl with | [_], _ => rfl)
  have M_Build_disk : MethAt K C "disk" "Build.disk" s_Build_disk ["self"] := d_Build_disk.meth cB a_Build_disk i_Build_disk (fun fd F => F.binds fun _ _ _ _ _ _ us hl => match us, hl with | [_], _ => rfl)
  have M_Build_costs : MethAt K C "costs" "Build.costs" s_Build_costs ["self"] := d_Build_costs.meth cB a_Build_costs i_Build_costs (fun fd F => F.binds fun _ _ _ _ _ _ us hl => match us, hl with | [_], _ => rfl)
  have M_Build_outside : MethAt K C "outside" "Build.outside" s_Build_outside ["self"] := d_Build_outside.meth cB a_Build_outside i_Build_outside (fun fd F => F.binds fun _ _ _ _ _ _ us hl => match us, hl with | [_], _ => rfl)
  have M_Build_wipe : MethAt K C "wipe" "Build.wipe" s_Build_wipe ["self"] := d_Build_wipe.meth cB a_Build_wipe i_Build_wipe (fun fd F => F.binds fun _ _ _ _ _ _ us hl => match us, hl with | [_], _ => rfl)
  have M_Build_pad : MethAt K C "pad" "Build.pad" s_Build_pad ["self"] := d_Build_pad.meth cB a_Build_pad i_Build_pad (fun fd F => F.binds fun _ _ _ _ _ _ us hl => match us, hl with | [_], _ => rfl)
  have M_Build_lend : MethAt K C "lend" "Build.lend" s_Build_lend ["self"] := d_Build_lend.meth cB a_Build_lend i_Build_lend (fun fd F => F.binds fun _ _ _ _ _ _ us hl => match us, hl with | [_], _ => rfl)
  have M_Build_share : MethAt K C "share" "Build.share" s_Build_share ["self"] := d_Build_share.meth cB a_Build_share i_Build_share (fun fd F => F.binds fun _ _ _ _ _ _ us hl => match us, hl with | [_], _ => rfl)
  have M_Build_plan : MethAt K C "plan" "Build.plan" s_Build_plan ["self"] := d_Build_plan.meth cB a_Build_plan i_Build_plan (fun fd F => F.binds fun _ _ _ _ _ _ us hl => match us, hl with | [_], _ => rfl)
  have M_Build_sides : MethAt K C "sides" "Build.sides" s_Build_sides ["self"] := d_Build_sides.meth cB a_Build_sides i_Build_sides (fun fd F => F.binds fun _ _ _ _ _ _ us hl => match us, hl with | [_], _ => rfl)
  have M_Build_rights : MethAt K C "rights" "Build.rights" s_Build_rights ["self"] := d_Build_rights.meth cB a_Build_rights i_Build_rights (fun fd F => F.binds fun _ _ _ _ _ _ us hl => match us, hl with | [_], _ => rfl)
  have M_Rules_set_costs : MethAt K CR "set_costs" "Rules.set_costs" s_Rules_set_costs ["self", "costs"] := d_Rules_set_costs.meth cR a_Rules_set_costs i_Rules_set_costs (fun fd F => F.binds fun _ _ _ _ _ _ us hl => match us, hl with | [_, _], _ => rfl)
  have M_Rules_set_frames : MethAt K CR "set_frames" "Rules.set_frames" s_Rules_set_frames ["self", "build"] := d_Rules_set_frames.meth cR a_Rules_set_frames i_Rules_set_frames (fun fd F => F.binds fun _ _ _ _ _ _ us hl => match us, hl with | [_, _], _ => rfl)
  have M_Rules_slot_ticks : MethAt K CR "slot_ticks" "Rules.slot_ticks" s_Rules_slot_ticks ["self", "rows"] := d_Rules_slot_ticks.meth cR a_Rules_slot_ticks i_Rules_slot_ticks (fun fd F => F.binds fun _ _ _ _ _ _ us hl => match us, hl with | [_, _], _ => rfl)
  have M_Rules_set_plan : MethAt K CR "set_plan" "Rules.set_plan" s_Rules_set_plan ["self", "plan"] := d_Rules_set_plan.meth cR a_Rules_set_plan i_Rules_set_plan (fun fd F => F.binds fun _ _ _ _ _ _ us hl => match us, hl with | [_, _], _ => rfl)
  have M_Rules_set_letters : MethAt K CR "set_letters" "Rules.set_letters" s_Rules_set_letters ["self", "outside"] := d_Rules_set_letters.meth cR a_Rules_set_letters i_Rules_set_letters (fun fd F => F.binds fun _ _ _ _ _ _ us hl => match us, hl with | [_, _], _ => rfl)
  refine ⟨PySem.W.fnOf "law" "law" (defArgs s_law) (defBody s_law) (defScope s_law) .none kV doc pm an cd ct, fun s v => .of_eq rfl, fun base _ _ => ?_⟩
  exact all_ok B ⟨PySem.W.mg_of X G a_lcm⟩ ⟨cB, nB__parts, nB_rules⟩ R ⟨PySem.W.mg_of X G a_RF, RFF⟩ D_is_integer D_is_between D_is_index D_is_tuple D_is_list D_is_ascending D_counted D_word_of D_is_formed D_is_of_kind D_is_right D_fit_as_numbers D_fit_as_row D_fit_as_rights D_fit_as_lines D_fit_as_costs D_fits_as_slot D_fits_as_outside D_fit_as_plan D_fit_as_tasks D_things_fault D_ways_fault D_flags_fault D_worded D_spelled D_page_line D_slot_line D_plan_lines D_right_lines D_build_text D__law_source D__law_draw D__law_pool D__law_rights D__law_plan D__law_parts D__law_copy D__law_made D__law_told D__law_same D__law_rows M_Build_tasks M_Build_pages M_Build_ports M_Build_lines M_Build_locks M_Build_frames M_Build_disk M_Build_costs M_Build_outside M_Build_wipe M_Build_pad M_Build_lend M_Build_share M_Build_plan M_Build_sides M_Build_rights M_Rules_set_costs M_Rules_set_frames M_Rules_slot_ticks M_Rules_set_plan M_Rules_set_letters (PySem.W.mg_of X G a_Rules) ⟨mk_Rules, a_Rules___init__, i_Rules___init__, kc_Rules⟩ FR bR (PySem.W.mg_of X G a_Build) ⟨mk_Build, a_Build___init__, i_Build___init__, kc_Build⟩ FB (PySem.W.mg_none_of X G z_enumerate) (PySem.W.mg_of X G a_FL) FF _ _ (fun_mk (st := s_law) ll lc lk)
theorem walk {l : PySem.W.OpenLaw} {q : Program} {loose : List Str} {XP : (Str → Option Value) → Heap → Prop} {YP : World → Heap → Prop} {d : DefRec} {K : Params → PySem.W.Frag} (hn : l.most = some 63) (hdf : d.params.defaults = [])
    (hY : ∀ (w : World) (h : Heap), YP w h → (K w.params).In h)
    (F : ∀ (w : World) (mg : Str → Option Value) (fa : Addr) (h : Heap), (K w.params).In h → h.Ns mainGlobals mg → mg d.name = some (.ref fa) →
      ∃ fd : FuncData, (∀ (s : Shared) (u : Value), BindsTo s fd ⟨[u], []⟩ [("_law_script", u)]) ∧ ∀ base : Heap, (K w.params).In base → base.Ns mainGlobals mg → FnOk l.prog w (K w.params) mg base CX0 14 fa fd ["_law_script"] (spLaw (K w.params))) :
    PySem.W.WalkO q loose XP YP l.row.toRowW d [] (fun f vs => PySem.call f vs) :=
  L2.walk_of (n := 63) (k := 14) (x := "_law_script") (CX := fun _ => CX0) (sp := fun w => spLaw (K w.params)) hn (by decide) hdf ⟨rfl, by decide, by decide⟩ hY F (fun _ _ a ns hl _ hS => ⟨a, ns, rfl, hS, hl, fun _ => rfl⟩) fun _ _ _ _ _ z => z
end T



open PySem PySem.W PyProof.Rows
set_option maxRecDepth 100000 in
set_option maxHeartbeats 0 in
theorem PySem.Challenge.cw_hushkernel_k06_text_of_a_build_holds : PySem.Challenge.rw_hushkernel_k06_text_of_a_build.Holds := by
  w_on; o_law; k_head; (case hw => w_witness2)
  k_fill
  refine T.walk (l := PySem.Challenge.rw_hushkernel_k06_text_of_a_build) rfl rfl (fun w h Y => PySem.W.kIn_of Y) ?F
  case F =>
    intro w mg fa h KX G hmg
    refine' T.all_mk KX G hmg ?z_int ?z_str ?z_bool ?z_list ?z_tuple ?z_dict ?z_set ?z_len ?z_isinstance ?z_all ?z_any ?z_min ?z_max ?z_sorted ?z_range ?z_zip ?a_lcm ?a_RF ?RFF ?z_enumerate ?a_FL ?FF ?a_Build ?a_Rules ?pg_Build ?hd_Build ?po_Build ?sa_Build ?mk_Build ?kc_Build ?pg_Rules ?hd_Rules ?po_Rules ?sa_Rules ?mk_Rules ?kc_Rules ?nB__parts ?nB_rules ?nR_task_count ?nR_levels ?nR_side_of ?nR_sizes ?nR_line_of ?nR_places ?nR_counts ?nR_wipes ?nR_pads ?nR_lends ?nR_plain ?nR_miss ?nR_switch ?nR_greatest ?nR_all_frames ?nR_side_frames ?nR_has_slots ?nR_span ?nR_slots ?nR_letter_port ?nR_every ?nR_period ?a_is_integer ?d_is_integer ?a_is_between ?d_is_between ?a_is_index ?d_is_index ?a_is_tuple ?d_is_tuple ?a_is_list ?d_is_list ?a_is_ascending ?d_is_ascending ?a_counted ?d_counted ?a_word_of ?d_word_of ?a_is_formed ?d_is_formed ?a_is_of_kind ?d_is_of_kind ?a_is_right ?d_is_right ?a_fit_as_numbers ?d_fit_as_numbers ?a_fit_as_row ?d_fit_as_row ?a_fit_as_rights ?d_fit_as_rights ?a_fit_as_lines ?d_fit_as_lines ?a_fit_as_costs ?d_fit_as_costs ?a_fits_as_slot ?d_fits_as_slot ?a_fits_as_outside ?d_fits_as_outside ?a_fit_as_plan ?d_fit_as_plan ?a_fit_as_tasks ?d_fit_as_tasks ?a_things_fault ?d_things_fault ?a_ways_fault ?d_ways_fault ?a_flags_fault ?d_flags_fault ?a_worded ?d_worded ?a_spelled ?d_spelled ?a_page_line ?d_page_line ?a_slot_line ?d_slot_line ?a_plan_lines ?d_plan_lines ?a_right_lines ?d_right_lines ?a_build_text ?d_build_text ?a__law_source ?d__law_source ?a__law_draw ?d__law_draw ?a__law_pool ?d__law_pool ?a__law_rights ?d__law_rights ?a__law_plan ?d__law_plan ?a__law_parts ?d__law_parts ?a__law_copy ?d__law_copy ?a__law_made ?d__law_made ?a__law_told ?d__law_told ?a__law_same ?d__law_same ?a__law_rows ?d__law_rows ?a_law ?d_law ?a_Build___init__ ?i_Build___init__ ?d_Build___init__ ?a_Build_tasks ?i_Build_tasks ?d_Build_tasks ?a_Build_pages ?i_Build_pages ?d_Build_pages ?a_Build_ports ?i_Build_ports ?d_Build_ports ?a_Build_lines ?i_Build_lines ?d_Build_lines ?a_Build_locks ?i_Build_locks ?d_Build_locks ?a_Build_frames ?i_Build_frames ?d_Build_frames ?a_Build_disk ?i_Build_disk ?d_Build_disk ?a_Build_costs ?i_Build_costs ?d_Build_costs ?a_Build_outside ?i_Build_outside ?d_Build_outside ?a_Build_wipe ?i_Build_wipe ?d_Build_wipe ?a_Build_pad ?i_Build_pad ?d_Build_pad ?a_Build_lend ?i_Build_lend ?d_Build_lend ?a_Build_share ?i_Build_share ?d_Build_share ?a_Build_plan ?i_Build_plan ?d_Build_plan ?a_Build_sides ?i_Build_sides ?d_Build_sides ?a_Build_rights ?i_Build_rights ?d_Build_rights ?a_Rules___init__ ?i_Rules___init__ ?d_Rules___init__ ?a_Rules_set_costs ?i_Rules_set_costs ?d_Rules_set_costs ?a_Rules_set_frames ?i_Rules_set_frames ?d_Rules_set_frames ?a_Rules_slot_ticks ?i_Rules_slot_ticks ?d_Rules_slot_ticks ?a_Rules_set_plan ?i_Rules_set_plan ?d_Rules_set_plan ?a_Rules_set_letters ?i_Rules_set_letters ?d_Rules_set_letters
    (case z_int => k_is)
    (case z_str => k_is)
    (case z_bool => k_is)
    (case z_list => k_is)
    (case z_tuple => k_is)
    (case z_dict => k_is)
    (case z_set => k_is)
    (case z_len => k_is)
    (case z_isinstance => k_is)
    (case z_all => k_is)
    (case z_any => k_is)
    (case z_min => k_is)
    (case z_max => k_is)
    (case z_sorted => k_is)
    (case z_range => k_is)
    (case z_zip => k_is)
    (case a_lcm => k_is)
    (case a_RF => k_is)
    (case RFF =>
      refine' T.forms_mk ?ffA ?ffB ?ffC ?ffD
      (case ffA => rfl)
      (case ffC => rfl)
      (case ffB => exact ⟨⟨_, _, rfl, rfl⟩, ⟨_, _, rfl, rfl⟩, ⟨_, _, rfl, rfl⟩, ⟨_, _, rfl, rfl⟩, ⟨_, _, rfl, rfl⟩, ⟨_, _, rfl, rfl⟩, ⟨_, _, rfl, rfl⟩, ⟨_, _, rfl, rfl⟩, trivial⟩)
      (case ffD => exact Paired.cons ⟨_, _, rfl, rfl, T.tupK (K := _) rfl rfl (show (1 : Nat) ≤ 100 by decide) (.cons ⟨_, rfl⟩ .nil)⟩ (Paired.cons ⟨_, _, rfl, rfl, T.tupK (K := _) rfl rfl (show (1 : Nat) ≤ 100 by decide) (.cons ⟨_, rfl⟩ .nil)⟩ (Paired.cons ⟨_, _, rfl, rfl, T.tupK (K := _) rfl rfl (show (1 : Nat) ≤ 100 by decide) (.cons ⟨_, rfl⟩ .nil)⟩ (Paired.cons ⟨_, _, rfl, rfl, T.tupK (K := _) rfl rfl (show (1 : Nat) ≤ 100 by decide) (.cons ⟨_, rfl⟩ .nil)⟩ (Paired.cons ⟨_, _, rfl, rfl, T.tupK (K := _) rfl rfl (show (1 : Nat) ≤ 100 by decide) (.cons ⟨_, rfl⟩ .nil)⟩ (Paired.cons ⟨_, _, rfl, rfl, T.tupK (K := _) rfl rfl (show (1 : Nat) ≤ 100 by decide) (.cons ⟨_, rfl⟩ .nil)⟩ (Paired.cons ⟨_, _, rfl, rfl, T.tupK (K := _) rfl rfl (show (1 : Nat) ≤ 100 by decide) (.cons ⟨_, rfl⟩ .nil)⟩ (Paired.cons ⟨_, _, rfl, rfl, T.tupK (K := _) rfl rfl (show (1 : Nat) ≤ 100 by decide) (.cons ⟨_, rfl⟩ .nil)⟩ (.nil))))))))))
    (case z_enumerate => k_is)
    (case a_FL => k_is)
    (case FF => exact T.tupK rfl rfl (show (4 : Nat) ≤ 100 by decide) (.cons ⟨_, rfl⟩ (.cons ⟨_, rfl⟩ (.cons ⟨_, rfl⟩ (.cons ⟨_, rfl⟩ .nil)))))
    (case a_Build => k_is)
    (case a_Rules => k_is)
    (case pg_Build => k_is)
    (case hd_Build => k_is)
    (case po_Build => k_is)
    (case sa_Build => k_is)
    (case mk_Build => k_is)
    (case kc_Build => k_is)
    (case pg_Rules => k_is)
    (case hd_Rules => k_is)
    (case po_Rules => k_is)
    (case sa_Rules => k_is)
    (case mk_Rules => k_is)
    (case kc_Rules => k_is)
    (case nB__parts => k_is)
    (case nB_rules => k_is)
    (case nR_task_count => k_is)
    (case nR_levels => k_is)
    (case nR_side_of => k_is)
    (case nR_sizes => k_is)
    (case nR_line_of => k_is)
    (case nR_places => k_is)
    (case nR_counts => k_is)
    (case nR_wipes => k_is)
    (case nR_pads => k_is)
    (case nR_lends => k_is)
    (case nR_plain => k_is)
    (case nR_miss => k_is)
    (case nR_switch => k_is)
    (case nR_greatest => k_is)
    (case nR_all_frames => k_is)
    (case nR_side_frames => k_is)
    (case nR_has_slots => k_is)
    (case nR_span => k_is)
    (case nR_slots => k_is)
    (case nR_letter_port => k_is)
    (case nR_every => k_is)
    (case nR_period => k_is)
    (case a_is_integer => k_is)
    (case d_is_integer => refine' T.DefF.mk' ?l ?c ?k; (case l => k_is); (case c => k_is); (case k => k_is))
    (case a_is_between => k_is)
    (case d_is_between => refine' T.DefF.mk' ?l ?c ?k; (case l => k_is); (case c => k_is); (case k => k_is))
    (case a_is_index => k_is)
    (case d_is_index => refine' T.DefF.mk' ?l ?c ?k; (case l => k_is); (case c => k_is); (case k => k_is))
    (case a_is_tuple => k_is)
    (case d_is_tuple => refine' T.DefF.mk' ?l ?c ?k; (case l => k_is); (case c => k_is); (case k => k_is))
    (case a_is_list => k_is)
    (case d_is_list => refine' T.DefF.mk' ?l ?c ?k; (case l => k_is); (case c => k_is); (case k => k_is))
    (case a_is_ascending => k_is)
    (case d_is_ascending => refine' T.DefF.mk' ?l ?c ?k; (case l => k_is); (case c => k_is); (case k => k_is))
    (case a_counted => k_is)
    (case d_counted => refine' T.DefF.mk' ?l ?c ?k; (case l => k_is); (case c => k_is); (case k => k_is))
    (case a_word_of => k_is)
    (case d_word_of => refine' T.DefF.mk' ?l ?c ?k; (case l => k_is); (case c => k_is); (case k => k_is))
    (case a_is_formed => k_is)
    (case d_is_formed => refine' T.DefF.mk' ?l ?c ?k; (case l => k_is); (case c => k_is); (case k => k_is))
    (case a_is_of_kind => k_is)
    (case d_is_of_kind => refine' T.DefF.mk' ?l ?c ?k; (case l => k_is); (case c => k_is); (case k => k_is))
    (case a_is_right => k_is)
    (case d_is_right => refine' T.DefF.mk' ?l ?c ?k; (case l => k_is); (case c => k_is); (case k => k_is))
    (case a_fit_as_numbers => k_is)
    (case d_fit_as_numbers => refine' T.DefF.mk' ?l ?c ?k; (case l => k_is); (case c => k_is); (case k => k_is))
    (case a_fit_as_row => k_is)
    (case d_fit_as_row => refine' T.DefF.mk' ?l ?c ?k; (case l => k_is); (case c => k_is); (case k => k_is))
    (case a_fit_as_rights => k_is)
    (case d_fit_as_rights => refine' T.DefF.mk' ?l ?c ?k; (case l => k_is); (case c => k_is); (case k => k_is))
    (case a_fit_as_lines => k_is)
    (case d_fit_as_lines => refine' T.DefF.mk' ?l ?c ?k; (case l => k_is); (case c => k_is); (case k => k_is))
    (case a_fit_as_costs => k_is)
    (case d_fit_as_costs => refine' T.DefF.mk' ?l ?c ?k; (case l => k_is); (case c => k_is); (case k => k_is))
    (case a_fits_as_slot => k_is)
    (case d_fits_as_slot => refine' T.DefF.mk' ?l ?c ?k; (case l => k_is); (case c => k_is); (case k => k_is))
    (case a_fits_as_outside => k_is)
    (case d_fits_as_outside => refine' T.DefF.mk' ?l ?c ?k; (case l => k_is); (case c => k_is); (case k => k_is))
    (case a_fit_as_plan => k_is)
    (case d_fit_as_plan => refine' T.DefF.mk' ?l ?c ?k; (case l => k_is); (case c => k_is); (case k => k_is))
    (case a_fit_as_tasks => k_is)
    (case d_fit_as_tasks => refine' T.DefF.mk' ?l ?c ?k; (case l => k_is); (case c => k_is); (case k => k_is))
    (case a_things_fault => k_is)
    (case d_things_fault => refine' T.DefF.mk' ?l ?c ?k; (case l => k_is); (case c => k_is); (case k => k_is))
    (case a_ways_fault => k_is)
    (case d_ways_fault => refine' T.DefF.mk' ?l ?c ?k; (case l => k_is); (case c => k_is); (case k => k_is))
    (case a_flags_fault => k_is)
    (case d_flags_fault => refine' T.DefF.mk' ?l ?c ?k; (case l => k_is); (case c => k_is); (case k => k_is))
    (case a_worded => k_is)
    (case d_worded => refine' T.DefF.mk' ?l ?c ?k; (case l => k_is); (case c => k_is); (case k => k_is))
    (case a_spelled => k_is)
    (case d_spelled => refine' T.DefF.mk' ?l ?c ?k; (case l => k_is); (case c => k_is); (case k => k_is))
    (case a_page_line => k_is)
    (case d_page_line => refine' T.DefF.mk' ?l ?c ?k; (case l => k_is); (case c => k_is); (case k => k_is))
    (case a_slot_line => k_is)
    (case d_slot_line => refine' T.DefF.mk' ?l ?c ?k; (case l => k_is); (case c => k_is); (case k => k_is))
    (case a_plan_lines => k_is)
    (case d_plan_lines => refine' T.DefF.mk' ?l ?c ?k; (case l => k_is); (case c => k_is); (case k => k_is))
    (case a_right_lines => k_is)
    (case d_right_lines => refine' T.DefF.mk' ?l ?c ?k; (case l => k_is); (case c => k_is); (case k => k_is))
    (case a_build_text => k_is)
    (case d_build_text => refine' T.DefF.mk' ?l ?c ?k; (case l => k_is); (case c => k_is); (case k => k_is))
    (case a__law_source => k_is)
    (case d__law_source => refine' T.DefF.mk' ?l ?c ?k; (case l => k_is); (case c => k_is); (case k => k_is))
    (case a__law_draw => k_is)
    (case d__law_draw => refine' T.DefF.mk' ?l ?c ?k; (case l => k_is); (case c => k_is); (case k => k_is))
    (case a__law_pool => k_is)
    (case d__law_pool => refine' T.DefF.mk' ?l ?c ?k; (case l => k_is); (case c => k_is); (case k => k_is))
    (case a__law_rights => k_is)
    (case d__law_rights => refine' T.DefF.mk' ?l ?c ?k; (case l => k_is); (case c => k_is); (case k => k_is))
    (case a__law_plan => k_is)
    (case d__law_plan => refine' T.DefF.mk' ?l ?c ?k; (case l => k_is); (case c => k_is); (case k => k_is))
    (case a__law_parts => k_is)
    (case d__law_parts => refine' T.DefF.mk' ?l ?c ?k; (case l => k_is); (case c => k_is); (case k => k_is))
    (case a__law_copy => k_is)
    (case d__law_copy => refine' T.DefF.mk' ?l ?c ?k; (case l => k_is); (case c => k_is); (case k => k_is))
    (case a__law_made => k_is)
    (case d__law_made => refine' T.DefF.mk' ?l ?c ?k; (case l => k_is); (case c => k_is); (case k => k_is))
    (case a__law_told => k_is)
    (case d__law_told => refine' T.DefF.mk' ?l ?c ?k; (case l => k_is); (case c => k_is); (case k => k_is))
    (case a__law_same => k_is)
    (case d__law_same => refine' T.DefF.mk' ?l ?c ?k; (case l => k_is); (case c => k_is); (case k => k_is))
    (case a__law_rows => k_is)
    (case d__law_rows => refine' T.DefF.mk' ?l ?c ?k; (case l => k_is); (case c => k_is); (case k => k_is))
    (case a_law => k_is)
    (case d_law => refine' T.DefF.mk' ?l ?c ?k; (case l => k_is); (case c => k_is); (case k => k_is))
    (case a_Build___init__ => k_is)
    (case i_Build___init__ => k_is)
    (case d_Build___init__ => refine' T.DefF.mk' ?l ?c ?k; (case l => k_is); (case c => k_is); (case k => k_is))
    (case a_Build_tasks => k_is)
    (case i_Build_tasks => k_is)
    (case d_Build_tasks => refine' T.DefF.mk' ?l ?c ?k; (case l => k_is); (case c => k_is); (case k => k_is))
    (case a_Build_pages => k_is)
    (case i_Build_pages => k_is)
    (case d_Build_pages => refine' T.DefF.mk' ?l ?c ?k; (case l => k_is); (case c => k_is); (case k => k_is))
    (case a_Build_ports => k_is)
    (case i_Build_ports => k_is)
    (case d_Build_ports => refine' T.DefF.mk' ?l ?c ?k; (case l => k_is); (case c => k_is); (case k => k_is))
    (case a_Build_lines => k_is)
    (case i_Build_lines => k_is)
    (case d_Build_lines => refine' T.DefF.mk' ?l ?c ?k; (case l => k_is); (case c => k_is); (case k => k_is))
    (case a_Build_locks => k_is)
    (case i_Build_locks => k_is)
    (case d_Build_locks => refine' T.DefF.mk' ?l ?c ?k; (case l => k_is); (case c => k_is); (case k => k_is))
    (case a_Build_frames => k_is)
    (case i_Build_frames => k_is)
    (case d_Build_frames => refine' T.DefF.mk' ?l ?c ?k; (case l => k_is); (case c => k_is); (case k => k_is))
    (case a_Build_disk => k_is)
    (case i_Build_disk => k_is)
    (case d_Build_disk => refine' T.DefF.mk' ?l ?c ?k; (case l => k_is); (case c => k_is); (case k => k_is))
    (case a_Build_costs => k_is)
    (case i_Build_costs => k_is)
    (case d_Build_costs => refine' T.DefF.mk' ?l ?c ?k; (case l => k_is); (case c => k_is); (case k => k_is))
    (case a_Build_outside => k_is)
    (case i_Build_outside => k_is)
    (case d_Build_outside => refine' T.DefF.mk' ?l ?c ?k; (case l => k_is); (case c => k_is); (case k => k_is))
    (case a_Build_wipe => k_is)
    (case i_Build_wipe => k_is)
    (case d_Build_wipe => refine' T.DefF.mk' ?l ?c ?k; (case l => k_is); (case c => k_is); (case k => k_is))
    (case a_Build_pad => k_is)
    (case i_Build_pad => k_is)
    (case d_Build_pad => refine' T.DefF.mk' ?l ?c ?k; (case l => k_is); (case c => k_is); (case k => k_is))
    (case a_Build_lend => k_is)
    (case i_Build_lend => k_is)
    (case d_Build_lend => refine' T.DefF.mk' ?l ?c ?k; (case l => k_is); (case c => k_is); (case k => k_is))
    (case a_Build_share => k_is)
    (case i_Build_share => k_is)
    (case d_Build_share => refine' T.DefF.mk' ?l ?c ?k; (case l => k_is); (case c => k_is); (case k => k_is))
    (case a_Build_plan => k_is)
    (case i_Build_plan => k_is)
    (case d_Build_plan => refine' T.DefF.mk' ?l ?c ?k; (case l => k_is); (case c => k_is); (case k => k_is))
    (case a_Build_sides => k_is)
    (case i_Build_sides => k_is)
    (case d_Build_sides => refine' T.DefF.mk' ?l ?c ?k; (case l => k_is); (case c => k_is); (case k => k_is))
    (case a_Build_rights => k_is)
    (case i_Build_rights => k_is)
    (case d_Build_rights => refine' T.DefF.mk' ?l ?c ?k; (case l => k_is); (case c => k_is); (case k => k_is))
    (case a_Rules___init__ => k_is)
    (case i_Rules___init__ => k_is)
    (case d_Rules___init__ => refine' T.DefF.mk' ?l ?c ?k; (case l => k_is); (case c => k_is); (case k => k_is))
    (case a_Rules_set_costs => k_is)
    (case i_Rules_set_costs => k_is)
    (case d_Rules_set_costs => refine' T.DefF.mk' ?l ?c ?k; (case l => k_is); (case c => k_is); (case k => k_is))
    (case a_Rules_set_frames => k_is)
    (case i_Rules_set_frames => k_is)
    (case d_Rules_set_frames => refine' T.DefF.mk' ?l ?c ?k; (case l => k_is); (case c => k_is); (case k => k_is))
    (case a_Rules_slot_ticks => k_is)
    (case i_Rules_slot_ticks => k_is)
    (case d_Rules_slot_ticks => refine' T.DefF.mk' ?l ?c ?k; (case l => k_is); (case c => k_is); (case k => k_is))
    (case a_Rules_set_plan => k_is)
    (case i_Rules_set_plan => k_is)
    (case d_Rules_set_plan => refine' T.DefF.mk' ?l ?c ?k; (case l => k_is); (case c => k_is); (case k => k_is))
    (case a_Rules_set_letters => k_is)
    (case i_Rules_set_letters => k_is)
    (case d_Rules_set_letters => refine' T.DefF.mk' ?l ?c ?k; (case l => k_is); (case c => k_is); (case k => k_is))

